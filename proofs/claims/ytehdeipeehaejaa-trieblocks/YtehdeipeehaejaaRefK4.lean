/- What the document's Blocks leans on: which pieces are plain; the memory that it builds. -/
import Derived.Test.YtehdeipeehaejaaRefB4
import Derived.Test.YtehdeipeehaejaaTrE4
namespace Go.Proofs.Ytehdeipeehaejaa
open Go.RowKit

section
variable {P : Program} {ops : Array Oper} {o : Oper} {a : Act} {w : World} {K : Act → World → Prop} {Q : Exit → Act → World → Prop} {E : Prop}
/-- A load behind a guard that lets it, in a region that draws its order. -/
theorem step_loadW (hw : Region.wanted o (yielded ops a.tmps) = true) (ty : TypeId) (x : Operand) (ho : o.op = .load ty x) (pv v : Value) (hx : a.eval x = pv) (hrun : (Instr.loadAt ty pv).run P w = .ok v w) (h : K (a.put o.dst v) w) :
    if Region.wanted o (yielded ops a.tmps) = true then Oper.wp P o a w K Q else E := by
  rw [if_pos hw]
  unfold Oper.wp execOp
  simp only [ho, hx, Sem.run_bind, hrun, Result.andThen_ok]
  exact h
end
namespace Tri
theorem idxOf_of {bs : List (List Int)} {zs : List Int} {k : Nat} (h1 : ∀ j, j < k → bs.getD j [] ≠ zs) (hk : k ≤ bs.length) (h2 : k = bs.length ∨ bs.getD k [] = zs) : bs.idxOf zs = k := by
  induction bs generalizing k with
  | nil => simp at hk; subst hk; rfl
  | cons b bs ih =>
    cases k with
    | zero =>
      rcases h2 with h2 | h2
      · simp at h2
      · simp only [List.getD_cons_zero] at h2; subst h2; simp
    | succ k =>
      have h0 := h1 0 (by omega)
      simp only [List.getD_cons_zero] at h0
      have := ih (k := k) (fun j hj => by have := h1 (j + 1) (by omega); simpa using this) (by simpa using hk) (by rcases h2 with h2 | h2; exact .inl (by simpa using h2); exact .inr (by simpa using h2))
      have hq : (b == zs) = false := beq_eq_false_iff_ne.2 h0
      rw [List.idxOf_cons, hq, this]; rfl
theorem val_take {b : Int} {rs : List Rg} (h : Val b rs) (k : Nat) : Val b (rs.take k) := by
  induction rs generalizing b k with
  | nil => simp only [List.take_nil]; trivial
  | cons r rs ih =>
    obtain ⟨h1, h2, h3, h4, h5, h6⟩ := h
    cases k with
    | zero => trivial
    | succ k => exact ⟨h1, h2, h3, h4, h5, ih h6 k⟩
theorem blk_const {f : Int → Int} {p : Nat} {v : Int} (h : ∀ i : Nat, i < 64 → f ((64 * p + i : Nat) : Int) = v) : blk f p = List.replicate 64 v := by
  apply List.ext_getElem (by rw [blk_len, List.length_replicate])
  intro i a b
  rw [List.getElem_replicate]
  have h1 := blk_at f p i (by rw [blk_len] at a; exact a)
  simp only [List.getD, List.getElem?_eq_getElem a, Option.getD_some] at h1
  rw [h1, h i (by rw [blk_len] at a; exact a)]
theorem blk_gap {d : Int} {rs : List Rg} {a p : Nat} (hv : Val 0 rs) (h1 : ∀ j, j < a → hi (rs.getD j (0, 0, 0)) < 64 * (p : Int)) (h2 : rs.length ≤ a ∨ (a < rs.length ∧ 64 * (p : Int) + 63 < lo (rs.getD a (0, 0, 0)))) : blk (get d rs) p = List.replicate 64 d := by
  refine blk_const fun i hi64 => ?_
  rcases h2 with h2 | ⟨ha, h2⟩
  · rw [← get_drop (d := d) (rs := rs) a (fun j hj _ => by have := h1 j hj; omega), List.drop_eq_nil_of_le h2]; rfl
  · rw [get_front hv a ha (by omega)]
    rw [← get_drop (d := d) (rs := rs.take a) a (fun j hj hl => by
      have e : (rs.take a).getD j (0, 0, 0) = rs.getD j (0, 0, 0) := by simp [List.getD, List.getElem?_take_of_lt hj]
      rw [e]; have := h1 j hj; omega), List.drop_eq_nil_of_le (by simp; omega)]; rfl
theorem blk_full {d : Int} {rs : List Rg} {a p : Nat} (ha : a < rs.length) (h1 : ∀ j, j < a → hi (rs.getD j (0, 0, 0)) < 64 * (p : Int)) (h2 : lo (rs.getD a (0, 0, 0)) ≤ 64 * (p : Int)) (h3 : 64 * (p : Int) + 63 ≤ hi (rs.getD a (0, 0, 0))) : blk (get d rs) p = List.replicate 64 (vl (rs.getD a (0, 0, 0))) := by
  refine blk_const fun i hi64 => ?_
  rw [← get_drop (d := d) (rs := rs) a (fun j hj _ => by have := h1 j hj; omega), get_step ha, if_pos (by omega)]
theorem blk_cut {d : Int} {rs : List Rg} {a h p : Nat} (hv : Val 0 rs) (h1 : ∀ j, j < a → hi (rs.getD j (0, 0, 0)) < 64 * (p : Int)) (hah : a ≤ h) (h2 : h = rs.length ∨ (h < rs.length ∧ 64 * (p : Int) + 63 < lo (rs.getD h (0, 0, 0)))) : blk (get d ((rs.drop a).take (h - a))) p = blk (get d rs) p := by
  unfold blk
  refine List.map_congr_left fun i hi64 => ?_
  have hi64 := List.mem_range.1 hi64
  rw [← get_drop (d := d) (rs := rs) a (fun j hj _ => by have := h1 j hj; omega)]
  rcases h2 with h2 | ⟨h2, h3⟩
  · rw [List.take_of_length_le (by simp; omega)]
  · refine (get_front (val_drop hv a) (h - a) (by simp; omega) ?_).symm
    rw [show (rs.drop a).getD (h - a) (0, 0, 0) = rs.getD h (0, 0, 0) by simp [List.getD, List.getElem?_drop, show a + (h - a) = h by omega]]
    omega
end Tri
theorem again_idx {f : Int → Int} {p : Nat} (hp : p + 1 < 17408) (h : Tri.blk f (p + 1) = Tri.blk f p) : (Tri.idx f).getD (p + 1) 0 = (Tri.idx f).getD p 0 ∧ bsAt f (p + 1 + 1) = bsAt f (p + 1) := by
  have e := bsAt_next f p (by omega)
  have hm : Tri.blk f (p + 1) ∈ bsAt f (p + 1) := by rw [h, e]; exact Tri.push_mem _ _
  refine ⟨?_, (step_in hp hm).1⟩
  rw [idx_bs f (p + 1) hp, idx_bs f p (by omega), h, e]
  unfold Tri.push
  split
  · rfl
  · rename_i hn
    have h1 : (bsAt f p).idxOf (Tri.blk f p) = (bsAt f p).length := by
      have h2 : ¬ (bsAt f p).idxOf (Tri.blk f p) < (bsAt f p).length := fun h2 => hn (List.idxOf_lt_length_iff.1 h2)
      have h3 : (bsAt f p).idxOf (Tri.blk f p) ≤ (bsAt f p).length := List.idxOf_le_length
      omega
    rw [h1, List.idxOf_append, if_neg hn]
    simp
theorem take_idx {f : Int → Int} {p : Nat} (hp : p < 17408) : (Tri.idx f).take (p + 1) = (Tri.idx f).take p ++ [(Tri.idx f).getD p 0] := by
  have hl := Tri.idx_len f
  rw [List.take_add_one, List.getElem?_eq_getElem (show p < (Tri.idx f).length by omega)]
  simp [List.getD, show p < (Tri.idx f).length by omega]

/-- The numbers so far, the blocks so far, and a place for the block at hand. -/
structure StB (w wr : World) (g9 : Nat) (xs : List Int) (bs : List (List Int)) (iv bv : Value) : Prop where
  ix : Ok .u16 47 wr (g9 + 1) iv xs
  bl : Ob 48 wr (g9 + 1) bv bs
  ap : ∀ k, iv.ownBlock = some k → bv.ownBlock ≠ some k
  th : wr.there g9 0 64
  be : Below w.heap.size w wr
  g9l : g9 < wr.heap.size
theorem there_keep {w w' : World} {g n : Nat} {row : Option Nat} (h : w.there g 0 n) (hl : g < w.heap.size) (hk : Keeps w w' row) (hne : some g ≠ row) : w'.there g 0 n := fun j hj => by
  obtain ⟨a, b⟩ := h j hj
  have e := hk.block g hl hne
  exact ⟨by rw [World.cell?_of_block (a := ⟨g, 0 + j, none⟩) e]; exact a, by rw [World.frozen?_of_block (a := ⟨g, 0 + j, none⟩) e]; exact b⟩
theorem row_keeps {w w' : World} {B sz n : Nat} {e : TypeId} {v : Value} {xs : List Value} {row : Option Nat} (h : w.ownsRow B e sz v n xs) (hk : Keeps w w' row) (hne : ∀ k, v.ownBlock = some k → some k ≠ row) : w'.ownsRow B e sz v n xs := by
  obtain ⟨h1, h2 | ⟨g, cap, cur, hv, hg, hh, r⟩⟩ := h
  · exact ⟨h1, .inl h2⟩
  · refine ⟨h1, .inr ⟨g, cap, cur, hv, hg, ?_, r⟩⟩
    rw [hk.block g (Array.getElem?_eq_some_iff.1 hh).1 (hne g (by rw [hv]; rfl))]; exact hh
theorem StB.below {w wr w1 : World} {g9 : Nat} {xs : List Int} {bs : List (List Int)} {iv bv : Value} (h : StB w wr g9 xs bs iv bv) (hb : Below wr.heap.size wr w1) : StB w w1 g9 xs bs iv bv := {
  ix := h.ix.below hb
  bl := ⟨h.bl.1, row_keeps h.bl.2 (Keeps.of_below hb none) (fun k _ => by simp)⟩
  ap := h.ap
  th := there_keep h.th h.g9l (Keeps.of_below hb none) (by simp)
  be := h.be.trans (hb.mono h.be.size)
  g9l := Nat.lt_of_lt_of_le h.g9l hb.size }
/-- The block at hand is written. -/
theorem keeps_setCells (g : Nat) : ∀ (vs : List Value) (o : Nat) (w : World), Keeps w (w.setCells g o vs) (some g)
  | [], _, _ => ⟨fun _ _ _ => rfl⟩
  | v :: vs, o, w => ⟨fun k hk hne => by
    have h1 := (keeps_setCells g vs (o + 1) (w.setCell ⟨g, o, none⟩ v)).block k (by simpa using hk) hne
    exact h1.trans ((Keeps.of_set w ⟨g, o, none⟩ v).block k hk hne)⟩
theorem size_setCells (g : Nat) : ∀ (vs : List Value) (o : Nat) (w : World), (w.setCells g o vs).heap.size = w.heap.size
  | [], _, _ => rfl
  | v :: vs, o, w => by
    have := size_setCells g vs (o + 1) (w.setCell ⟨g, o, none⟩ v)
    exact this.trans (by simp)
theorem StB.last {w wr : World} {g9 : Nat} {xs : List Int} {bs : List (List Int)} {iv bv : Value} (h : StB w wr g9 xs bs iv bv) (hg : w.heap.size ≤ g9) (zs : List Int) (h64 : zs.length = 64) : StB w (wr.setCells g9 0 (zs.map (Value.int .u16))) g9 xs bs iv bv ∧ (wr.setCells g9 0 (zs.map (Value.int .u16))).rangeAt g9 0 (zs.map (Value.int .u16)) := by
  have hk := keeps_setCells g9 (zs.map (Value.int .u16)) 0 wr
  have hth : wr.there g9 0 (zs.map (Value.int .u16)).length := by rw [List.length_map, h64]; exact h.th
  refine ⟨⟨⟨h.ix.1, h.ix.2.1, row_keeps h.ix.2.2 hk (fun k hk' e => ?_)⟩, ⟨h.bl.1, row_keeps h.bl.2 hk (fun k hk' e => ?_)⟩, h.ap, World.there_setCells h.th _ _ _, below_setCells4 hg _ _ _ h.be, by rw [size_setCells]; exact h.g9l⟩, World.rangeAt_setCells_same wr g9 0 _ hth⟩
  · have := (h.ix.2.2.lt k hk').1
    cases e; omega
  · have := (h.bl.2.lt k hk').1
    cases e; omega
/-- A number more. -/
theorem StB.number {w wr w1 : World} {g9 g cap : Nat} {xs : List Int} {bs : List (List Int)} {iv bv : Value} {n : Int} {o : Obj} {us : List Value} {m : Nat} (h : StB w wr g9 xs bs iv bv) (hw : w.heap.size ≤ g9) (hn : 0 ≤ n ∧ n ≤ 65535) (hl : xs.length < 17408) (hg : (wr.alloc o).grownBy w1 iv.ownBlock)
    (hrow : w1.ownsRow (g9 + 1) 47 1 (.slice (some ⟨g, 0, none⟩) m cap) m us) (hm : m = xs.length + 1) (hu : us = (xs ++ [n]).map (Value.int .u16)) (hat : iv.ownBlock = some g ∨ g = wr.heap.size + 1) : StB w w1 g9 (xs ++ [n]) bs (.slice (some ⟨g, 0, none⟩) (xs.length + 1) cap) bv := by
  have hk : Keeps wr w1 iv.ownBlock := ⟨fun k hk hne => by rw [hg.block k (by simp; omega) hne]; exact Below.heap_alloc wr o k hk⟩
  have hg9 : some g9 ≠ iv.ownBlock := fun e => by have := (h.ix.2.2.lt g9 e.symm).1; omega
  subst hm; subst hu
  refine ⟨⟨?_, by simp; omega, by simpa using hrow⟩, ⟨h.bl.1, row_keeps h.bl.2 hk (fun k hk' e => h.ap k e.symm hk')⟩, fun k hk' hb' => ?_, there_keep h.th h.g9l hk hg9, (h.be.alloc h.be.size o).grown hg (by have := h.be.size; simp; omega) (fun k hk' => by have := (h.ix.2.2.lt k hk').1; omega), ?_⟩
  · intro z hz
    rcases List.mem_append.1 hz with hz | hz
    · exact h.ix.1 z hz
    · simp at hz; subst hz; simp [IntKind.min, IntKind.max, IntKind.signed, IntKind.bits]; omega
  · have hkg : k = g := by simpa [Value.ownBlock] using hk'.symm
    subst hkg
    rcases hat with h1 | h1
    · exact h.ap _ h1 hb'
    · have := (h.bl.2.lt _ hb').2; omega
  · have h1 := hg.size
    have h2 := h.g9l
    simp at h1; omega
/-- A block more. -/
theorem StB.block {w wr w1 : World} {g9 g cap : Nat} {xs : List Int} {bs : List (List Int)} {iv bv : Value} {zs : List Int} {o : Obj} {us : List Value} {m : Nat} (h : StB w wr g9 xs bs iv bv) (hw : w.heap.size ≤ g9) (hz : Good zs) (hg : (wr.alloc o).grownBy w1 bv.ownBlock)
    (hrow : w1.ownsRow (g9 + 1) 48 64 (.slice (some ⟨g, 0, none⟩) m cap) m us) (hm : m = bs.length + 1) (hu : us = bcells bs ++ zs.map (Value.int .u16)) (hat : bv.ownBlock = some g ∨ g = wr.heap.size + 1) : StB w w1 g9 xs (bs ++ [zs]) iv (.slice (some ⟨g, 0, none⟩) (bs.length + 1) cap) := by
  have hk : Keeps wr w1 bv.ownBlock := ⟨fun k hk hne => by rw [hg.block k (by simp; omega) hne]; exact Below.heap_alloc wr o k hk⟩
  have hg9 : some g9 ≠ bv.ownBlock := fun e => by have := (h.bl.2.lt g9 e.symm).1; omega
  subst hm; subst hu
  refine ⟨⟨h.ix.1, h.ix.2.1, row_keeps h.ix.2.2 hk (fun k hk' e => h.ap k hk' e.symm)⟩, ⟨?_, by rw [bcells_app, bcells_single, List.length_append]; exact hrow⟩, fun k hk' hb' => ?_, there_keep h.th h.g9l hk hg9, (h.be.alloc h.be.size o).grown hg (by have := h.be.size; simp; omega) (fun k hk' => by have := (h.bl.2.lt k hk').1; omega), ?_⟩
  · intro b hb
    rcases List.mem_append.1 hb with hb | hb
    · exact h.bl.1 b hb
    · simp at hb; subst hb; exact hz
  · have hkg : k = g := by simpa [Value.ownBlock] using hb'.symm
    subst hkg
    rcases hat with h1 | h1
    · exact h.ap _ hk' h1
    · have := (h.ix.2.2.lt _ hk').2; omega
  · have h1 := hg.size
    have h2 := h.g9l
    simp at h1; omega
end Go.Proofs.Ytehdeipeehaejaa
