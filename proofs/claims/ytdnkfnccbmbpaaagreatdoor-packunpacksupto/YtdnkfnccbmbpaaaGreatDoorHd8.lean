import Derived.Test.YtdnkfnccbmbpaaaGreatDoorMRbh8
import Derived.Test.YtdnkfnccbmbpaaaGreatDoorGt8
import Derived.Deep.QuietTactic
/- The document's Unpack: its memory, and what it comes to (8.2). -/
namespace Go.Proofs.YtdnkfnccbmbpaaaGreatDoor
open Go.RowKit
open Wi

/-- What record tells, against the parts read. -/
def DrC (W0 : World) (p : Nat) (bv : Value) (q : Rec × Int × Int) (e : Ending) (W' : World) : Prop := ∃ x vt, e = .returned (.agg (rarr x vt)) ∧ RdAt W' p bv q.2.1 q.2.2 ∧ W0.grownBy W' (some p) ∧ Ok .i32 21 W' W0.heap.size vt x.to ∧ (q.2.2 = 0 → x = q.1)
theorem docRecord_any (p : Nat) (bv : Value) (zs : List Int) (n : Nat) (W0 : World) (h : RdAt W0 p bv n 0) (hs : Sl W0 bv zs) (hv : ∀ o g cap, bv = .slice (some o) g cap → o.block ≠ p) (hn : n ≤ zs.length) : Calls Tryz.prog 38 #[.pointer (some ⟨p, 0, none⟩)] W0 (DrC W0 p bv (Pk.rr zs n)) := by
  have hl := Pk.drec_like zs n
  have K : Calls Tryz.prog 38 #[.pointer (some ⟨p, 0, none⟩)] W0 (DrB W0 p bv (Pk.drec zs n)) := by
    unfold Pk.drec
    by_cases h1 : n = zs.length
    · rw [if_pos (by omega)]
      subst h1
      exact docRecord_end p bv zs W0 h hs
    · rw [if_neg (by omega), Int.toNat_natCast]
      by_cases h2 : Cn.fam (zs.getD n 0) = 0
      · rw [if_pos h2]
        exact docRecord_kind p bv zs n W0 h hs hv (by omega) h2
      · rw [if_neg h2]
        exact docRecord_main p bv zs n W0 h hs hv (by omega) h2
  refine K.mono ?_
  rintro e W' ⟨vt, rfl, h1, h2, h3⟩
  rw [hl.1] at h1
  exact ⟨_, vt, rfl, h1, h2, h3, hl.2⟩
/-- While the records are read. -/
structure Ust (w wr : World) (p : Nat) (bv : Value) (a : Int) (vl vb : Value) (ps : List (Rec × Value)) (bs : List Int) : Prop where
  bel : Below w.heap.size w wr
  pg : w.heap.size ≤ p
  rd : RdAt wr p bv a 0
  rows : Rown wr w.heap.size vl ps
  beg : Ok .i64 3 wr w.heap.size vb bs
section
variable {w wr w2 w3 : World} {p : Nat} {bv vl vb v3 vt : Value} {a a' e' : Int} {ps : List (Rec × Value)} {bs : List Int} {o o1 o2 : Obj} {r : Rec}
theorem Ust.plt (h : Ust w wr p bv a vl vb ps bs) : p < wr.heap.size := lt_of_cell? h.rd.cells.1
theorem rd_own {W : World} (h : W.heap[p]? = some (.cells #[bv, .int .i64 a, .int .i64 e'] 76 (0, 0))) {B t sz n : Nat} {v : Value} {us : List Value} (hr : W.ownsRow B t sz v n us) (ht : t ≠ 76) : v.ownBlock ≠ some p := fun e => by
  obtain ⟨cur, hc⟩ := own_tag hr e
  rw [h] at hc
  simp only [Option.some.injEq, Obj.cells.injEq] at hc
  exact ht hc.2.1.symm
/-- The place where a record begins, laid behind the others. -/
theorem Ust.place (h : Ust w wr p bv a vl vb ps bs) (hl : bs.length ≤ 4096) (ha : I64 a) (hrow3 : w3.ownsRow w.heap.size 3 1 v3 (bs.length + 1) (bs.map (Value.int .i64) ++ [.int .i64 a])) (hg3 : (wr.alloc o).grownBy w3 vb.ownBlock) : Ust w w3 p bv a vl v3 ps (bs ++ [a]) := by
  obtain ⟨h1, h2, h3⟩ := begins_more h.rows h.beg h.bel hl ha hrow3 hg3
  refine ⟨h3, h.pg, ?_, h1, h2⟩
  show w3.heap[p]? = _
  rw [hg3.block p (by rw [World.size_alloc]; have := h.plt; omega) (fun e => rd_own h.rd h.beg.2.2 (by decide) e.symm), ((Below.refl wr.heap.size wr).alloc (Nat.le_refl _) o).block p h.plt]
  exact h.rd
/-- A record read. -/
theorem Ust.read (h : Ust w wr p bv a vl vb ps bs) (hg : wr.grownBy w2 (some p)) (hr : RdAt w2 p bv a' 0) : Ust w w2 p bv a' vl vb ps bs := by
  have k : ∀ g, g < wr.heap.size → g ≠ p → w2.heap[g]? = wr.heap[g]? := fun g h1 h2 => hg.block g h1 (fun e => h2 (by simpa using e))
  refine ⟨h.bel.grown hg h.bel.size (fun g hg' => by simp only [Option.some.injEq] at hg'; have := h.pg; omega), h.pg, hr, ⟨own_keep h.rows.1 fun g hg' => k g (h.rows.1.lt g hg').2 (fun e => rd_own h.rd h.rows.1 (by decide) (by rw [hg', e])), fun q hq => ?_⟩, ?_⟩
  · have hop := h.rows.2 q hq
    exact hop.keep fun g hg' => k g (hop.2.2.lt g hg').2 (fun e => rd_own h.rd hop.2.2 (by decide) (by rw [hg', e]))
  · exact h.beg.keep fun g hg' => k g (h.beg.2.2.lt g hg').2 (fun e => rd_own h.rd h.beg.2.2 (by decide) (by rw [hg', e]))
theorem Ust.far (h : Ust w wr p bv a vl vb ps bs) (hg : wr.grownBy w2 (some p)) : Below w.heap.size w w2 := h.bel.grown hg h.bel.size (fun g hg' => by simp only [Option.some.injEq] at hg'; have := h.pg; omega)
/-- It, laid behind the others. -/
theorem Ust.more (h : Ust w wr p bv a vl vb ps bs) (ht : Ok .i32 21 wr w.heap.size vt r.to) (hrow2 : w2.ownsRow w.heap.size 46 8 v3 (ps.length + 1) (rcells ps ++ rcell (r, vt))) (hg2 : ((wr.alloc o1).alloc o2).grownBy w2 vl.ownBlock) : Ust w w2 p bv a v3 vb (ps ++ [(r, vt)]) bs := by
  have hs := h.bel.size
  have k1 : ∀ g, g < wr.heap.size → vl.ownBlock ≠ some g → w2.heap[g]? = wr.heap[g]? := fun g h1 h2 => by
    rw [hg2.block g (by simp; omega) (fun e => h2 e.symm)]
    exact (((Below.refl wr.heap.size wr).alloc (Nat.le_refl _) o1).alloc (by simp) o2).block g h1
  refine ⟨((h.bel.alloc hs o1).alloc (by simp; omega) o2).grown hg2 (by simp; omega) (fun k hk' => (h.rows.1.lt k hk').1), h.pg, ?_, ⟨?_, fun q hq => ?_⟩, ?_⟩
  · show w2.heap[p]? = _
    rw [k1 p h.plt (rd_own h.rd h.rows.1 (by decide))]
    exact h.rd
  · rw [rcells_snoc] at hrow2
    simpa using hrow2
  · rcases List.mem_append.1 hq with hq | hq
    · have hop := h.rows.2 q hq
      exact hop.keep fun g hg => k1 g (hop.2.2.lt g hg).2 (own_apart hop.2.2 h.rows.1 (by decide) hg)
    · simp only [List.mem_singleton] at hq
      subst hq
      exact ht.keep fun g hg => k1 g (ht.2.2.lt g hg).2 (own_apart ht.2.2 h.rows.1 (by decide) hg)
  · exact h.beg.keep fun g hg => k1 g (h.beg.2.2.lt g hg).2 (own_apart h.beg.2.2 h.rows.1 (by decide) hg)
end
/-- The reader as it is made. -/
theorem rd_box (w : World) (bv : Value) (a : Int) : ∃ W1, w.alloc (.cells #[bv, .int .i64 5, .int .i64 0] 76) = W1 ∧ RdAt W1 w.heap.size bv 5 0 ∧ Below w.heap.size w W1 ∧ ∀ W2, W1.setCell ⟨w.heap.size, 1, none⟩ (.int .i64 a) = W2 → Ust w W2 w.heap.size bv a (.slice none 0 0) (.slice none 0 0) [] [] := by
  have hb : Below w.heap.size w (w.alloc (.cells #[bv, .int .i64 5, .int .i64 0] 76)) := (Below.refl _ _).alloc (Nat.le_refl _) _
  have hr : RdAt (w.alloc (.cells #[bv, .int .i64 5, .int .i64 0] 76)) w.heap.size bv 5 0 := by
    show (w.heap.push _)[w.heap.size]? = _
    simp
  refine ⟨_, rfl, hr, hb, fun W2 h => ?_⟩
  subst h
  exact ⟨below_set hb (Nat.le_refl _) _, Nat.le_refl _, set_block hr _, Rown.nil _ _, Ok.nil _ _ _ _⟩
/-- What Unpack comes to, way by way. -/
theorem unpack_ways (zs : List Int) (h1 : zs.length ≤ 262144) (h2 : 10 ≤ zs.length) :
    (zs.drop (zs.length - 4) ≠ Pk.sum4 (zs.take (zs.length - 4)) → Pk.unpack zs = ([], (zs.length : Int) - 4, 13)) ∧
    (zs.drop (zs.length - 4) = Pk.sum4 (zs.take (zs.length - 4)) →
      (zs.take 4 ≠ [101, 110, 100, 111] → Pk.unpack zs = ([], 0, 12)) ∧
      (zs.take 4 = [101, 110, 100, 111] →
        (zs.getD 4 0 ≠ 1 → Pk.unpack zs = ([], 4, 12)) ∧
        (zs.getD 4 0 = 1 → Pk.unpack zs = if (Pk.read (zs.take (zs.length - 4))).2.2 ≠ 0 then ([], (Pk.read (zs.take (zs.length - 4))).2)
          else if (Cn.check6 (Pk.read (zs.take (zs.length - 4))).1.1).2 ≠ 0 then ([], (Pk.read (zs.take (zs.length - 4))).1.2.getD (Cn.check6 (Pk.read (zs.take (zs.length - 4))).1.1).1 0, (Cn.check6 (Pk.read (zs.take (zs.length - 4))).1.1).2)
          else ((Pk.read (zs.take (zs.length - 4))).1.1, 0, 0)))) := by
  have n1 : ¬ 262144 < zs.length := by omega
  have n2 : ¬ zs.length < 10 := by omega
  refine ⟨fun h => ?_, fun h => ⟨fun g => ?_, fun g => ⟨fun k => ?_, fun k => ?_⟩⟩⟩
  · have hf : Pk.framed zs = ((zs.length : Int) - 4, 13) := by unfold Pk.framed; rw [if_neg n1, if_neg n2, if_pos h]
    unfold Pk.unpack
    rw [hf]
    exact if_pos (by show (13 : Int) ≠ 0; omega)
  · have hf : Pk.framed zs = (0, 12) := by unfold Pk.framed; rw [if_neg n1, if_neg n2, if_neg (fun e => e h), if_pos g]
    unfold Pk.unpack
    rw [hf]
    exact if_pos (by show (12 : Int) ≠ 0; omega)
  · have hf : Pk.framed zs = (4, 12) := by unfold Pk.framed; rw [if_neg n1, if_neg n2, if_neg (fun e => e h), if_neg (fun e => e g), if_pos k]
    unfold Pk.unpack
    rw [hf]
    exact if_pos (by show (12 : Int) ≠ 0; omega)
  · have hf : Pk.framed zs = (0, 0) := by unfold Pk.framed; rw [if_neg n1, if_neg n2, if_neg (fun e => e h), if_neg (fun e => e g), if_neg (fun e => e k)]
    unfold Pk.unpack
    rw [hf]
    exact if_neg (by simp)
theorem read_ways (zs : List Int) (X : List Rec × Int × Int) (hX : X = if (Pk.read zs).2.2 ≠ 0 then ([], (Pk.read zs).2) else if (Cn.check6 (Pk.read zs).1.1).2 ≠ 0 then ([], (Pk.read zs).1.2.getD (Cn.check6 (Pk.read zs).1.1).1 0, (Cn.check6 (Pk.read zs).1.1).2) else ((Pk.read zs).1.1, 0, 0)) :
    ((Ref.rd zs 5).2.2 ≠ 0 → X = ([], 5, (Ref.rd zs 5).2.2)) ∧
    ((Ref.rd zs 5).2.2 = 0 → 4096 < (Ref.rd zs 5).1 → X = ([], 5, 3)) ∧
    ((Ref.rd zs 5).2.2 = 0 → ¬ 4096 < (Ref.rd zs 5).1 → ∀ RES, Pk.rrs zs (Ref.rd zs 5).1.toNat (Ref.rd zs 5).2.1 [] [] = RES →
      (RES.2.2 ≠ 0 → X = ([], RES.2)) ∧ (RES.2.2 = 0 → RES.2.1 < zs.length → X = ([], RES.2.1, 14)) ∧
      (RES.2.2 = 0 → ¬ RES.2.1 < zs.length → (Cn.check6 RES.1.1).2 ≠ 0 → X = ([], RES.1.2.getD (Cn.check6 RES.1.1).1 0, (Cn.check6 RES.1.1).2)) ∧
      (RES.2.2 = 0 → ¬ RES.2.1 < zs.length → (Cn.check6 RES.1.1).2 = 0 → X = (RES.1.1, 0, 0))) := by
  refine ⟨fun h => ?_, fun h h' => ?_, fun h h' RES hR => ?_⟩
  · have hr : Pk.read zs = (([], []), 5, (Ref.rd zs 5).2.2) := by unfold Pk.read; rw [if_pos h]
    rw [hr] at hX
    rw [hX]
    exact if_pos h
  · have hr : Pk.read zs = (([], []), 5, 3) := by unfold Pk.read; rw [if_neg (fun e => e h), if_pos h']
    rw [hr] at hX
    rw [hX]
    exact if_pos (by show (3 : Int) ≠ 0; omega)
  · have h0 : Pk.read zs = if RES.2.2 ≠ 0 then RES else if RES.2.1 < zs.length then (([], []), RES.2.1, 14) else RES := by unfold Pk.read; rw [if_neg (fun e => e h), if_neg h', hR]
    refine ⟨fun g => ?_, fun g g' => ?_, fun g g' g'' => ?_, fun g g' g'' => ?_⟩
    · rw [if_pos g] at h0
      rw [h0] at hX
      rw [hX]
      exact if_pos g
    · rw [if_neg (fun e => e g), if_pos g'] at h0
      rw [h0] at hX
      rw [hX]
      exact if_pos (by show (14 : Int) ≠ 0; omega)
    · rw [if_neg (fun e => e g), if_neg g'] at h0
      rw [h0, if_neg (fun e => e g), if_pos g''] at hX
      exact hX
    · rw [if_neg (fun e => e g), if_neg g'] at h0
      rw [h0, if_neg (fun e => e g), if_neg (fun e => e g'')] at hX
      exact hX
/-- The four bytes of the sum, one by one. -/
theorem sum_bytes (zs : List Int) (s : Nat) (n : Nat) (h : zs.length = n + 4) : (zs.drop n = Pk.le4 s ↔ zs.getD n 0 = (s : Int) % 256 ∧ zs.getD (n + 1) 0 = (s : Int) / 256 % 256 ∧ zs.getD (n + 2) 0 = (s : Int) / 65536 % 256 ∧ zs.getD (n + 3) 0 = (s : Int) / 16777216 % 256) := by
  have e : zs.drop n = [zs.getD n 0, zs.getD (n + 1) 0, zs.getD (n + 2) 0, zs.getD (n + 3) 0] := by
    rw [List.drop_eq_getElem_cons (by omega), List.drop_eq_getElem_cons (by omega), List.drop_eq_getElem_cons (by omega), List.drop_eq_getElem_cons (by omega), List.drop_of_length_le (by omega)]
    simp only [List.getD_eq_getElem?_getD]
    rw [List.getElem?_eq_getElem (by omega), List.getElem?_eq_getElem (by omega), List.getElem?_eq_getElem (by omega), List.getElem?_eq_getElem (by omega)]
    rfl
  rw [e]
  unfold Pk.le4
  have a1 : ((s % 256 : Nat) : Int) = (s : Int) % 256 := by omega
  have a2 : ((s / 256 % 256 : Nat) : Int) = (s : Int) / 256 % 256 := by omega
  have a3 : ((s / 65536 % 256 : Nat) : Int) = (s : Int) / 65536 % 256 := by omega
  have a4 : ((s / 16777216 % 256 : Nat) : Int) = (s : Int) / 16777216 % 256 := by omega
  rw [a1, a2, a3, a4]
  simp
end Go.Proofs.YtdnkfnccbmbpaaaGreatDoor
/- The document's Unpack (8.2). -/
namespace Go.Proofs.YtdnkfnccbmbpaaaGreatDoor
open Go.RowKit
open Wi

set_option maxHeartbeats 1000000 in
theorem docUnpack_early (v : Value) (zs : List Int) (w : World) (hs : Sl w v zs) (h : 262144 < zs.length ∨ zs.length < 10) : Calls Tryz.prog 22 #[v] w (UnpB w (Pk.unpack zs)) := by
  have hll := hs.len
  obtain ⟨ao, cap, rfl, hc1, hc2⟩ := hs.shape
  by_cases hlong : 262144 < zs.length
  · have hf : Pk.framed zs = (0, 2) := by unfold Pk.framed; rw [if_pos hlong]
    have hp : Pk.unpack zs = ([], 0, 2) := by unfold Pk.unpack; rw [hf]; exact if_pos (by show (2 : Int) ≠ 0; omega)
    rw [hp]
    have hd : decide ((262144 : Int) < (zs.length : Int)) = true := by rw [decide_eq_true_eq]; omega
    clear hs h hp hlong hc1 hc2 hf
    generalize zs.length = m at *
    go_enter Tryz.func22, Tryz.ntmps22
    go_wp2
    go_ret3
    exact UnpB.no _ _ _ _ (Below.refl _ _)
  · have hf : Pk.framed zs = ((zs.length : Int), 10) := by unfold Pk.framed; rw [if_neg hlong, if_pos (by omega)]
    have hp : Pk.unpack zs = ([], (zs.length : Int), 10) := by unfold Pk.unpack; rw [hf]; exact if_pos (by show (10 : Int) ≠ 0; omega)
    rw [hp]
    have hd : decide ((262144 : Int) < (zs.length : Int)) = false := by rw [decide_eq_false_iff_not]; omega
    have hd2 : decide ((zs.length : Int) < 10) = true := by rw [decide_eq_true_eq]; omega
    clear hs h hp hlong hc1 hc2 hf
    generalize zs.length = m at *
    go_enter Tryz.func22, Tryz.ntmps22
    go_wp2
    go_ret3
    exact UnpB.no _ _ _ _ (Below.refl _ _)
set_option maxRecDepth 8000 in
set_option maxHeartbeats 8000000 in
theorem docUnpack_main (v : Value) (zs : List Int) (w : World) (hs : Sl w v zs) (hhi : zs.length ≤ 262144) (hlo : 10 ≤ zs.length) : Calls Tryz.prog 22 #[v] w (UnpB w (Pk.unpack zs)) := by
  obtain ⟨i1, hj1, hy0, hy1, hy2⟩ := info_parts Tryz.info46
  obtain ⟨i2, hj2, hx0, hx1, hx2⟩ := info_parts Tryz.info3
  obtain ⟨U1, U2⟩ := unpack_ways zs hhi hlo
  obtain ⟨n, hn⟩ : ∃ n, zs.length = n + 4 := ⟨zs.length - 4, by omega⟩
  obtain ⟨b, off, cap, rfl, hc1, hc2, hc⟩ := hs.place (by omega)
  have hH : Sl w (.slice (some ⟨b, off, none⟩) n cap) (zs.take n) := hs.head (by omega) (by omega)
  have h4 : Sl w (.slice (some ⟨b, off, none⟩) 4 cap) (zs.take 4) := hs.head (by omega) (by omega)
  have hcv := h4.conv
  have HB4 := hide h4.1
  have hbl : b < w.heap.size := lt_of_cell? (hc 0 (by omega))
  have hSB := fun k => sum_bytes zs k n hn
  rw [hn] at U1 U2 hhi hlo hc1 hc ⊢
  rw [show n + 4 - 4 = n by omega] at U1 U2
  replace U1 : zs.drop n ≠ Pk.le4 (Crc.sum (zs.take n)) → Pk.unpack zs = ([], (n : Int), 13) := fun h => by rw [U1 h]; simp
  unfold Pk.sum4 at U2
  have RW := read_ways (zs.take n) (Pk.unpack zs)
  have hlt : (zs.take n).length = n := by rw [List.length_take]; omega
  rw [hlt] at RW
  have KS := hide (refSum_any _ _ w hH)
  have HCS := hide (Crc.sum_lt _ hH.1)
  have KU : Hid (∀ W, Below w.heap.size w W → Calls Tryz.prog 37 #[.slice (some ⟨b, off, none⟩) n cap, .int .i64 5] W (RdPost W (Ref.rd (zs.take n) 5))) := fun W h => refReadUint_any _ _ 5 W (hH.below h)
  unfold RdPost at KU
  have KR : Hid (∀ (a : Nat) W p, w.heap.size ≤ p → Below w.heap.size w W → RdAt W p (.slice (some ⟨b, off, none⟩) n cap) a 0 → a ≤ n → Calls Tryz.prog 38 #[.pointer (some ⟨p, 0, none⟩)] W (DrC W p (.slice (some ⟨b, off, none⟩) n cap) (Pk.rr (zs.take n) a))) := fun a W p hp hb hr ha => docRecord_any p _ _ a W hr (hH.below hb) (fun o g c he => by simp only [Value.slice.injEq, Option.some.injEq] at he; rw [← he.1]; show b ≠ p; omega) (by omega)
  have K6 : Hid (∀ W v ps, Rown W w.heap.size v ps → ps.length ≤ 4096 → (∀ p ∈ ps, RecFit p.1) → Calls Tryz.prog 16 #[v] W (CheckB W (Cn.check6 (ps.map (·.1))))) := fun W v ps h1 h2 h3 => refCheck6 v _ W (h1.rcs (by omega) h3)
  unfold CheckB at K6
  have HRB : Hid (∀ a : Nat, (Pk.rr (zs.take n) a).2.2 = 0 → a ≤ n → (∃ m : Nat, (Pk.rr (zs.take n) a).2.1 = (m : Int) ∧ a < m ∧ m ≤ n) ∧ RecFit (Pk.rr (zs.take n) a).1) := fun a h ha => ⟨by have := rr_bound (zs := zs.take n) h (by omega); rwa [hlt] at this, rr_fit hH.1 h (by omega)⟩
  have HRD : Hid ((Ref.rd (zs.take n) 5).2.2 = 0 → 0 ≤ (Ref.rd (zs.take n) 5).1 ∧ 5 ≤ (Ref.rd (zs.take n) 5).2.1 ∧ (Ref.rd (zs.take n) 5).2.1 ≤ n) := fun h => by have := rd_ok (zs.take n) 5 h; rw [hlt] at this; omega
  have HS1 : Hid (∀ (k : Nat) (a : Int) (l : List Rec) (bs : List Int), (Pk.rr (zs.take n) a).2.2 = 0 → Pk.rrs (zs.take n) (k + 1) a l bs = Pk.rrs (zs.take n) k (Pk.rr (zs.take n) a).2.1 (l ++ [(Pk.rr (zs.take n) a).1]) (bs ++ [a])) := fun k a l bs h => rrs_step _ k a l bs h
  have HS2 : Hid (∀ (k : Nat) (a : Int) (l : List Rec) (bs : List Int), (Pk.rr (zs.take n) a).2.2 ≠ 0 → Pk.rrs (zs.take n) (k + 1) a l bs = (([], []), (Pk.rr (zs.take n) a).2)) := fun k a l bs h => rrs_err _ k a l bs h
  have HS0 : Hid (∀ (a : Int) (l : List Rec) (bs : List Int), Pk.rrs (zs.take n) 0 a l bs = ((l, bs), a, 0)) := fun a l bs => rfl
  have HC6 : Hid (∀ l : List Rec, (Cn.check6 l).2 ≠ 0 → l.length ≤ 4096 → (Cn.check6 l).1 < l.length) := fun l h1 h2 => check6_lt h1 h2
  have HCE := hide hc
  have H4 : Hid (zs.getD 4 0 = zs.getD 4 0) := rfl
  have hg4 := hc 4 (by omega)
  have HEN : Hid (zs.take 4 ≠ [101, 110, 100, 111] → strOfNums (zs.take 4) ≠ (⟨#[101, 110, 100, 111]⟩ : ByteArray)) := fun h e => h (str_inj8 (unhide HB4) (byt_of rfl) (e.trans (by rfl)))
  have HEQ : Hid (zs.take 4 = [101, 110, 100, 111] → strOfNums (zs.take 4) = (⟨#[101, 110, 100, 111]⟩ : ByteArray)) := fun h => by rw [h]; rfl
  have HU1 := hide U1
  have HU2 := hide U2
  have HRW := hide RW
  have HSB := hide (hSB (Crc.sum (zs.take n)))
  clear U1 U2 RW hs h4 hH hc hSB HB4 H4 hlt
  generalize strOfNums (zs.take 4) = s4 at *
  generalize Pk.unpack zs = X at *
  generalize Crc.sum (zs.take n) = s at *
  generalize zs.take n = ys at *
  have hs0 : (0 : Int) ≤ (s : Int) := by omega
  have hs1 : (s : Int) < 4294967296 := by have := unhide HCS; omega
  have hn1 : (6 : Int) ≤ (n : Int) := by omega
  have hn2 : (n : Int) ≤ 262140 := by omega
  have hd : decide ((262144 : Int) < (n : Int) + 4) = false := by rw [decide_eq_false_iff_not]; omega
  have hd2 : decide ((n : Int) + 4 < 10) = false := by rw [decide_eq_false_iff_not]; omega
  have hnc : n + 4 ≤ cap := hc1
  have hq1 : (0 : Int) ≤ (n : Int) := by omega
  have hq2 : (n : Int) ≤ (cap : Int) := by omega
  have hq3 : (n : Int) + 4 ≤ (cap : Int) := by omega
  have hq5 : n ≤ cap := by omega
  have hq6 : (n : Int) ≤ (n : Int) + 4 := by omega
  clear HCS hc1 hhi hlo
  go_enter Tryz.func22, Tryz.ntmps22
  go_wp2_with fail
  refine (unhide KS).mono ?_
  rintro e1 w1 ⟨rfl, hw1⟩
  subst w1
  clear KS hd hd2
  go_wp2
  go_loopw [7] (fun jv wi => ∃ j : Nat, jv = .int .i64 j ∧ j ≤ 4 ∧ (0 < j → zs.getD n 0 = (s : Int) % 256) ∧ (1 < j → zs.getD (n + 1) 0 = (s : Int) / 256 % 256) ∧ (2 < j → zs.getD (n + 2) 0 = (s : Int) / 65536 % 256) ∧ (3 < j → zs.getD (n + 3) 0 = (s : Int) / 16777216 % 256) ∧ wi = w) (fun jv _ => 4 - (intOf jv).toNat)
  case atStart => exact ⟨0, rfl, by omega, fun h => by omega, fun h => by omega, fun h => by omega, fun h => by omega, rfl⟩
  case round =>
    obtain ⟨j, rfl, hj, b0, b1, b2, b3, hwr⟩ := hrel
    subst wr
    by_cases hlt : j < 4
    · have hj4 : j = 0 ∨ j = 1 ∨ j = 2 ∨ j = 3 := by omega
      clear KU KR K6 HRB HRD HS0 HS1 HS2 HC6 HEN HEQ hcv hg4 HRW HU2
      rcases hj4 with rfl | rfl | rfl | rfl
      · have hx := (unhide HCE) n (by omega)
        have hb : bits BinOp.and IntKind.u32 ((s : Int)) 255 = (s : Int) % 256 := land255 _ (by omega) (by omega)
        by_cases he : zs.getD n 0 = (s : Int) % 256
        · have hq : (zs.getD n 0 != (s : Int) % 256) = false := by rw [he]; exact bne_self_eq_false _
          have HB0 := hide b0
          have HB1 := hide b1
          have HB2 := hide b2
          have HB3 := hide b3
          have HE := hide he
          clear b0 b1 b2 b3 he HSB HU1
          generalize zs.getD n 0 = cc at *
          go_wp2
          go_roundw
          case rel => exact ⟨1, by go_num, by omega, fun _ => unhide HE, fun h => by omega, fun h => by omega, fun h => by omega, by first | rfl | trivial⟩
          case measure => simp [intOf]
        · have hq : (zs.getD n 0 != (s : Int) % 256) = true := bne_iff_ne.2 he
          have hX := (unhide HU1) (fun e => he ((unhide HSB).1 e).1)
          subst hX
          clear b0 b1 b2 b3 he HSB HU1
          generalize zs.getD n 0 = cc at *
          go_wp2
          go_ret3
          exact UnpB.no _ _ _ _ (Below.refl _ _)
      · have hx := (unhide HCE) (n + 1) (by omega)
        have hb : bits BinOp.and IntKind.u32 ((s : Int) / 256) 255 = (s : Int) / 256 % 256 := land255 _ (by omega) (by omega)
        by_cases he : zs.getD (n + 1) 0 = (s : Int) / 256 % 256
        · have hq : (zs.getD (n + 1) 0 != (s : Int) / 256 % 256) = false := by rw [he]; exact bne_self_eq_false _
          have HB0 := hide b0
          have HB1 := hide b1
          have HB2 := hide b2
          have HB3 := hide b3
          have HE := hide he
          clear b0 b1 b2 b3 he HSB HU1
          generalize zs.getD (n + 1) 0 = cc at *
          go_wp2
          go_roundw
          case rel => exact ⟨2, by go_num, by omega, fun _ => (unhide HB0) (by omega), fun _ => unhide HE, fun h => by omega, fun h => by omega, by first | rfl | trivial⟩
          case measure => simp [intOf]
        · have hq : (zs.getD (n + 1) 0 != (s : Int) / 256 % 256) = true := bne_iff_ne.2 he
          have hX := (unhide HU1) (fun e => he ((unhide HSB).1 e).2.1)
          subst hX
          clear b0 b1 b2 b3 he HSB HU1
          generalize zs.getD (n + 1) 0 = cc at *
          go_wp2
          go_ret3
          exact UnpB.no _ _ _ _ (Below.refl _ _)
      · have hx := (unhide HCE) (n + 2) (by omega)
        have hb : bits BinOp.and IntKind.u32 ((s : Int) / 65536) 255 = (s : Int) / 65536 % 256 := land255 _ (by omega) (by omega)
        by_cases he : zs.getD (n + 2) 0 = (s : Int) / 65536 % 256
        · have hq : (zs.getD (n + 2) 0 != (s : Int) / 65536 % 256) = false := by rw [he]; exact bne_self_eq_false _
          have HB0 := hide b0
          have HB1 := hide b1
          have HB2 := hide b2
          have HB3 := hide b3
          have HE := hide he
          clear b0 b1 b2 b3 he HSB HU1
          generalize zs.getD (n + 2) 0 = cc at *
          go_wp2
          go_roundw
          case rel => exact ⟨3, by go_num, by omega, fun _ => (unhide HB0) (by omega), fun _ => (unhide HB1) (by omega), fun _ => unhide HE, fun h => by omega, by first | rfl | trivial⟩
          case measure => simp [intOf]
        · have hq : (zs.getD (n + 2) 0 != (s : Int) / 65536 % 256) = true := bne_iff_ne.2 he
          have hX := (unhide HU1) (fun e => he ((unhide HSB).1 e).2.2.1)
          subst hX
          clear b0 b1 b2 b3 he HSB HU1
          generalize zs.getD (n + 2) 0 = cc at *
          go_wp2
          go_ret3
          exact UnpB.no _ _ _ _ (Below.refl _ _)
      · have hx := (unhide HCE) (n + 3) (by omega)
        have hb : bits BinOp.and IntKind.u32 ((s : Int) / 16777216) 255 = (s : Int) / 16777216 % 256 := land255 _ (by omega) (by omega)
        by_cases he : zs.getD (n + 3) 0 = (s : Int) / 16777216 % 256
        · have hq : (zs.getD (n + 3) 0 != (s : Int) / 16777216 % 256) = false := by rw [he]; exact bne_self_eq_false _
          have HB0 := hide b0
          have HB1 := hide b1
          have HB2 := hide b2
          have HB3 := hide b3
          have HE := hide he
          clear b0 b1 b2 b3 he HSB HU1
          generalize zs.getD (n + 3) 0 = cc at *
          go_wp2
          go_roundw
          case rel => exact ⟨4, by go_num, by omega, fun _ => (unhide HB0) (by omega), fun _ => (unhide HB1) (by omega), fun _ => (unhide HB2) (by omega), fun _ => unhide HE, by first | rfl | trivial⟩
          case measure => simp [intOf]
        · have hq : (zs.getD (n + 3) 0 != (s : Int) / 16777216 % 256) = true := bne_iff_ne.2 he
          have hX := (unhide HU1) (fun e => he ((unhide HSB).1 e).2.2.2)
          subst hX
          clear b0 b1 b2 b3 he HSB HU1
          generalize zs.getD (n + 3) 0 = cc at *
          go_wp2
          go_ret3
          exact UnpB.no _ _ _ _ (Below.refl _ _)
    · obtain rfl : j = 4 := by omega
      have U3 := (unhide HU2) ((unhide HSB).2 ⟨b0 (by omega), b1 (by omega), b2 (by omega), b3 (by omega)⟩)
      clear HU2 HSB HU1 b0 b1 b2 b3 HCE
      have hn0 : ¬ cap = n := by omega
      by_cases hen : zs.take 4 = [101, 110, 100, 111]
      · have he4 := (unhide HEQ) hen
        have U4 := U3.2 hen
        clear U3 HEN HEQ hen
        subst he4
        have hl4 : (⟨#[101, 110, 100, 111]⟩ : ByteArray).toList = [101, 110, 100, 111] := by rw [Lib.toList_data]
        by_cases hv1 : zs.getD 4 0 = 1
        · have U5 := (unhide HRW) (U4.2 hv1)
          rw [hv1] at hg4
          clear U4 HRW hv1
          obtain ⟨V1, V2, V3⟩ := U5
          generalize Ref.rd ys 5 = q0 at *
          obtain ⟨c0, a0, e0⟩ := q0
          simp only at V1 V2 V3 HRD KU
          obtain ⟨W1, hW1, hR1, hB1, hU0⟩ := rd_box w (.slice (some ⟨b, off, none⟩) n cap) a0
          have KU1 := hide ((unhide KU) W1 hB1)
          have x0 := hR1.cells.1
          have x1 := hR1.cells.2.1
          have fz1 := frozen_of (j := 1) hR1
          have HB1 := hide hB1
          clear KU hR1 hB1
          by_cases he : e0 = 0
          · subst he
            obtain ⟨p1, p2, p3⟩ := (unhide HRD) rfl
            by_cases hm : 4096 < c0
            · obtain rfl := V2 rfl hm
              have hd4 : decide ((4096 : Int) < c0) = true := decide_eq_true hm
              have HF := UnpB.no w W1 5 3 (unhide HB1)
              clear V1 V2 V3 HRD KR K6 HRB HS0 HS1 HS2 HC6 hU0 HB1
              go_wp2_with fail
              refine (unhide KU1).mono ?_
              rintro e5 w5 ⟨rfl, rfl⟩
              clear KU1
              go_wp2
              go_ret3
              exact HF
            · have V4 := V3 rfl (by omega)
              obtain ⟨cnt, rfl⟩ : ∃ k : Nat, c0 = (k : Int) := ⟨c0.toNat, by omega⟩
              obtain ⟨m0, rfl⟩ : ∃ k : Nat, a0 = (k : Int) := ⟨a0.toNat, by omega⟩
              rw [Int.toNat_natCast] at V4
              have hc4 : cnt ≤ 4096 := by omega
              have hm0 : m0 ≤ n := by omega
              have hc4d : decide ((4096 : Int) < (cnt : Int)) = false := by rw [decide_eq_false_iff_not]; omega
              obtain ⟨RES, hRES⟩ : ∃ RES, Pk.rrs ys cnt m0 [] [] = RES := ⟨_, rfl⟩
              have V5 := V4 RES hRES
              have HRES := hide hRES
              have HV := hide V5
              obtain ⟨W2, hW2⟩ : ∃ W2, W1.setCell ⟨w.heap.size, 1, none⟩ (.int .i64 (m0 : Int)) = W2 := ⟨_, rfl⟩
              have HU0 := hide (hU0 W2 hW2)
              clear V1 V2 V3 V4 V5 hRES hU0 HRD HB1 hm p1 p2 p3
              go_wp2_with fail
              refine (unhide KU1).mono ?_
              rintro e5 w5 ⟨rfl, rfl⟩
              clear KU1
              go_wp2
              clear hc4d x0 x1 fz1 hW1 hW2 hcv hg4 hl4
              go_loopw [12, 13, 14, 15] (fun lv pv iv _ wi => ∃ (k a : Nat) (ps : List (Rec × Value)) (bs : List Int), iv = .int .i64 k ∧ k ≤ cnt ∧ a ≤ n ∧ ps.length = k ∧ bs.length = k ∧ (∀ p ∈ ps, RecFit p.1) ∧ Pk.rrs ys (cnt - k) a (ps.map (·.1)) bs = RES ∧ Ust w wi w.heap.size (.slice (some ⟨b, off, none⟩) n cap) a lv pv ps bs) (fun _ _ iv _ _ => cnt - (intOf iv).toNat)
              case atStart => exact ⟨0, m0, [], [], rfl, by omega, hm0, rfl, rfl, fun _ h => (by cases h), unhide HRES, unhide HU0⟩
              case round =>
                obtain ⟨k, a, ps, bs, rfl, hk, ha, hpl, hbl, hfit, hrl, hU⟩ := hrel
                clear HU0 HRES
                have hpl2 : ps.length ≤ 4096 := by omega
                have hbl2 : bs.length ≤ 4096 := by omega
                have HPL := hide hpl
                have HBL := hide hbl
                have HFIT := hide hfit
                have hsz := hU.bel.size
                have x1 := hU.rd.cells.2.1
                clear hpl hbl hfit
                by_cases hlt : k < cnt
                · obtain ⟨d, hd⟩ : ∃ d, cnt - k = d + 1 := ⟨cnt - k - 1, by omega⟩
                  have hd2 : cnt - (k + 1) = d := by omega
                  rw [hd] at hrl
                  have hs1 := (unhide HS1) d a (ps.map (·.1)) bs
                  have hs2 := (unhide HS2) d a (ps.map (·.1)) bs
                  have hrb := (unhide HRB) a
                  have KR1 := fun W hb hr => (unhide KR) a W w.heap.size (Nat.le_refl _) hb hr ha
                  have KR2 := hide KR1
                  clear KR KR1 HRB HS1 HS2 HS0 HC6 K6
                  generalize Pk.rr ys a = q at *
                  obtain ⟨r, qa, qe⟩ := q
                  simp only at hs1 hs2 hrb KR2
                  have HM3 : Hid (∀ o, (wr.alloc o).ownsRow w.heap.size 3 1 u13 bs.length (bs.map (Value.int .i64))) := fun o => hU.beg.row.alloc o
                  have HMORE3 : Hid (∀ o v3 w3, w3.ownsRow w.heap.size 3 1 v3 (bs.length + 1) (bs.map (Value.int .i64) ++ [.int .i64 (a : Int)]) → (wr.alloc o).grownBy w3 u13.ownBlock → Ust w w3 w.heap.size (.slice (some ⟨b, off, none⟩) n cap) a u12 v3 ps (bs ++ [(a : Int)])) := fun o v3 w3 h1 h2 => hU.place hbl2 ⟨by omega, by omega⟩ h1 h2
                  clear hU
                  go_wp2_with (at_builtin; refine wpList_append_own _ rfl (.tmp 93) (.tmp 98) 70 rfl w.heap.size 3 i2 (.int .i64 0) 1 8 Tryz.underlying70 hj2 hx0 hx1 hx2 rfl (by decide) _ _ _ rfl ((unhide HM3) _) ⟨wr.heap.size, 0, none⟩ 1 1 [.int .i64 (a : Int)] rfl rfl (one_new _ _ _ _ rfl) (int_one _ _) (by unfold maxLen; omega) (by omega) (by simp; omega) ?_)
                  intro v3 w3 hrow3 hg3 _
                  have hU3 := (unhide HMORE3) _ v3 w3 hrow3 hg3
                  clear HM3 HMORE3 hrow3 hg3 x1
                  have hfl : ∀ u W a m, (store a (.float .f64 u) m).run Tryz.prog W = stored Tryz.prog W a (.float .f64 u) m := fun u W a m => run_store Tryz.prog W a _ m rfl
                  go_wp2_with fail
                  refine ((unhide KR2) w3 hU3.bel hU3.rd).mono ?_
                  rintro e4 w4 ⟨x, vt, rfl, hrd4, hg4, hok4, hx4⟩
                  simp only at hrd4 hx4
                  clear KR2
                  obtain ⟨tao, tcap, hvs, _, _⟩ := hok4.sk.shape
                  obtain ⟨kd, lo, hi, nn, tt, nm, ot, wt⟩ := x
                  simp only at hvs hok4
                  by_cases he : qe = 0
                  · subst he
                    obtain ⟨⟨m, hm1, hm2, hm3⟩, hft⟩ := hrb rfl ha
                    subst hm1
                    obtain rfl := hx4 rfl
                    have hU4 := hU3.read hg4 hrd4
                    have ht4 : Ok .i32 21 w4 w.heap.size vt tt := hok4.lower hU3.bel.size
                    have HNX : Hid (Pk.rrs ys (cnt - (k + 1)) m (ps.map (·.1) ++ [⟨kd, lo, hi, nn, tt, nm, ot, wt⟩]) (bs ++ [(a : Int)]) = RES) := by
                      show _ = RES
                      rw [hd2, ← hs1 rfl]; exact hrl
                    have xe : ∀ o, (w4.alloc o).cell? ⟨w.heap.size, 2, none⟩ = some (.int .i64 0) := fun o => cell_old o hU4.rd.cells.2.2
                    have hsz4 := hU4.bel.size
                    have HM : Hid (∀ o o2, ((w4.alloc o).alloc o2).ownsRow w.heap.size 46 8 u12 ps.length (rcells ps)) := fun o o2 => (hU4.rows.1.alloc o).alloc o2
                    have HMORE : Hid (∀ o1 o2 v2 w2, w2.ownsRow w.heap.size 46 8 v2 (ps.length + 1) (rcells ps ++ rcell (⟨kd, lo, hi, nn, tt, nm, ot, wt⟩, vt)) → ((w4.alloc o1).alloc o2).grownBy w2 u12.ownBlock → Ust w w2 w.heap.size (.slice (some ⟨b, off, none⟩) n cap) m v2 v3 (ps ++ [(⟨kd, lo, hi, nn, tt, nm, ot, wt⟩, vt)]) (bs ++ [(a : Int)])) := fun o1 o2 v2 w2 h1 h2 => hU4.more ht4 h1 h2
                    subst hvs
                    have HNEW : Hid (∀ o, ∀ j u, (rcell (⟨kd, lo, hi, nn, tt, nm, ot, wt⟩, .slice tao tt.length tcap))[j]? = some u → ((w4.alloc o).alloc (.cells #[.int .i64 kd, .int .i64 lo, .int .i64 hi, .int .i64 nn, .slice tao tt.length tcap, .string nm, .string ot, .float .f64 wt] 46)).cell? ((⟨w4.heap.size + 1, 0, none⟩ : Addr).add j) = some u) := fun o => rec_new2 (w4.alloc o) (w4.heap.size + 1) (by simp) ⟨kd, lo, hi, nn, tt, nm, ot, wt⟩ _
                    have HONE := hide (rec_one ⟨kd, lo, hi, nn, tt, nm, ot, wt⟩ (vt := .slice tao tt.length tcap) rfl)
                    have HFT := hide hft
                    clear hU3 hU4 ht4 hok4 hrd4 hg4 hs1 hs2 hrb hx4 hd hd2 hrl hft
                    simp only [rarr]
                    go_wp2_with (at_builtin; refine wpList_append_own _ rfl (.tmp 115) (.tmp 117) 22 rfl w.heap.size 46 i1 (.agg #[.int .i64 0, .int .i64 0, .int .i64 0, .int .i64 0, .slice none 0 0, .string ⟨#[]⟩, .string ⟨#[]⟩, .float .f64 0]) 8 96 Tryz.underlying22 hj1 hy0 hy1 hy2 rfl (by decide) _ _ _ rfl ((unhide HM) _ _) ⟨w4.heap.size + 1, 0, none⟩ 1 1 (rcell (⟨kd, lo, hi, nn, tt, nm, ot, wt⟩, .slice tao tt.length tcap)) rfl rfl ((unhide HNEW) _) (unhide HONE) (by unfold maxLen; omega) (by omega) (by simp; omega) ?_)
                    intro v2 w2 hrow2 hg2 _
                    have HR := hide ((unhide HMORE) _ _ v2 w2 hrow2 hg2)
                    clear HM HMORE HNEW HONE hrow2 hg2 xe
                    go_wp2
                    go_roundw
                    case rel => exact ⟨k + 1, m, ps ++ [(⟨kd, lo, hi, nn, tt, nm, ot, wt⟩, .slice tao tt.length tcap)], bs ++ [(a : Int)], by go_num, by omega, hm3, by have := unhide HPL; simp; omega, by have := unhide HBL; simp; omega, fun p hp => by rcases List.mem_append.1 hp with hp | hp; exact unhide HFIT p hp; simp only [List.mem_singleton] at hp; subst hp; exact unhide HFT, by rw [List.map_append]; exact unhide HNX, unhide HR⟩
                    case measure => simp [intOf]; omega
                  · have hres := hs2 he
                    rw [hrl] at hres
                    subst hres
                    obtain rfl := (unhide HV).1 he
                    have hq : (qe != 0) = true := bne_iff_ne.2 he
                    have hb4 := hU3.far hg4
                    have xa : ∀ o, (w4.alloc o).cell? ⟨w.heap.size, 1, none⟩ = some (.int .i64 qa) := fun o => cell_old o hrd4.cells.2.1
                    have xe : ∀ o, (w4.alloc o).cell? ⟨w.heap.size, 2, none⟩ = some (.int .i64 qe) := fun o => cell_old o hrd4.cells.2.2
                    have HF : Hid (∀ o nq, UnpB w ([], qa, qe) (.returned (.tuple #[.slice none 0 0, .int .i64 qa, .int .i64 qe])) ((w4.alloc o).drewN nq)) := fun o nq => UnpB.no w _ qa qe (bthen (hb4.alloc hb4.size o) (drewB ⟨nq, rfl⟩))
                    subst hvs
                    clear hU3 hok4 hrd4 hg4 hs1 hs2 hrb hx4 hd hd2 hrl he hb4 HV
                    simp only [rarr]
                    go_wp2
                    go_quiet (fail)
                    all_goals
                      go_wp2
                      go_ret3
                      exact (unhide HF) _ _
                · have hkk : cnt - k = 0 := by omega
                  rw [hkk, (unhide HS0)] at hrl
                  subst hrl
                  obtain ⟨V6, V7, V8, V9⟩ := unhide HV
                  simp only at V6 V7 V8 V9
                  by_cases ht : (a : Int) < (n : Int)
                  · obtain rfl := V7 trivial ht
                    have hdt : decide ((a : Int) < (n : Int)) = true := decide_eq_true ht
                    have HF : Hid (∀ nq, UnpB w ([], (a : Int), 14) (.returned (.tuple #[.slice none 0 0, .int .i64 (a : Int), .int .i64 14])) (wr.drewN nq)) := fun nq => UnpB.no w _ a 14 (bthen hU.bel (drewB ⟨nq, rfl⟩))
                    clear hU V6 V7 V8 V9 HV KR K6 HRB HS0 HS1 HS2 HC6
                    go_wp2
                    go_quiet (fail)
                    all_goals
                      go_wp2
                      go_ret3
                      exact (unhide HF) _
                  · have hdt : decide ((a : Int) < (n : Int)) = false := decide_eq_false ht
                    have K61 := hide ((unhide K6) wr u12 ps hU.rows hpl2 (unhide HFIT))
                    have hc6 := (unhide HC6) (ps.map (·.1))
                    rw [List.length_map] at hc6
                    have V8 := V8 trivial (by omega)
                    have V9 := V9 trivial (by omega)
                    have HU := hide hU
                    clear KR K6 HRB HS0 HS1 HS2 HC6 HV V6 V7
                    generalize hck : Cn.check6 (ps.map (·.1)) = q6 at *
                    clear hck
                    obtain ⟨q1, q2⟩ := q6
                    simp only at V8 V9 hc6 K61
                    by_cases h6 : q2 = 0
                    · obtain rfl := V9 h6
                      subst h6
                      clear V8 V9 hc6
                      clear hU
                      go_wp2_with fail
                      refine (unhide K61).mono ?_
                      rintro e6 w6 ⟨rfl, hb6⟩
                      have HF : UnpB w (ps.map (·.1), 0, 0) (.returned (.tuple #[u12, .int .i64 0, .int .i64 0])) w6 := ⟨u12, ps, rfl, (unhide HU).rows.below hb6, rfl, bthen (unhide HU).bel hb6⟩
                      clear K61 hb6 HU x1
                      go_wp2
                      go_ret3
                      exact HF
                    · obtain rfl := V8 h6
                      have hq6 : (q2 != 0) = true := bne_iff_ne.2 h6
                      have hlt6 := hc6 h6 hpl2
                      have hpb : q1 < bs.length := by have := unhide HPL; have := unhide HBL; omega
                      obtain ⟨pb, po, pc, hpe, hpc1, hpc2, hpcc⟩ := hU.beg.sk.place (by omega)
                      have hcell := hpcc q1 hpb
                      have hblk : pb < wr.heap.size := lt_of_cell? hcell
                      subst hpe
                      have hbl3 : (q1 : Int) < (bs.length : Int) := by omega
                      clear V8 V9 hc6 hU h6 hpcc
                      generalize bs.getD q1 0 = pp at *
                      go_wp2_with fail
                      refine (unhide K61).mono ?_
                      rintro e6 w6 ⟨rfl, hb6⟩
                      have hcell6 : w6.cell? ⟨pb, po + q1, none⟩ = some (.int .i64 pp) := by rw [cell_kept (hb6.block pb hblk)]; exact hcell
                      have HF : Hid (∀ nq, UnpB w ([], pp, q2) (.returned (.tuple #[.slice none 0 0, .int .i64 pp, .int .i64 q2])) (w6.drewN nq)) := fun nq => UnpB.no w _ pp q2 (bthen (bthen (unhide HU).bel hb6) (drewB ⟨nq, rfl⟩))
                      clear K61 hb6 HU hcell x1
                      go_wp2
                      go_quiet (fail)
                      all_goals
                        go_wp2
                        go_ret3
                        exact (unhide HF) _
          · obtain rfl := V1 he
            have hd4 : (e0 == 0) = false := beq_eq_false_iff_ne.2 he
            have hd5 : (e0 != 0) = true := bne_iff_ne.2 he
            have HF := UnpB.no w W1 5 e0 (unhide HB1)
            clear V1 V2 V3 HRD KR K6 HRB HS0 HS1 HS2 HC6 hU0 HB1 he
            go_wp2_with fail
            refine (unhide KU1).mono ?_
            rintro e5 w5 ⟨rfl, rfl⟩
            clear KU1
            go_wp2
            go_ret3
            exact HF
        · obtain rfl := U4.1 hv1
          have hd4 : (zs.getD 4 0 != 1) = true := bne_iff_ne.2 hv1
          clear U4 HRW hv1 KU KR K6 HRB HRD HS0 HS1 HS2 HC6
          generalize zs.getD 4 0 = cc at *
          go_wp2
          go_ret3
          exact UnpB.no _ _ _ _ (Below.refl _ _)
      · obtain rfl := U3.1 hen
        have hne := (unhide HEN) hen
        have hb4 := str_ne8 hne
        rw [show (⟨#[101, 110, 100, 111]⟩ : ByteArray).toList = [101, 110, 100, 111] by rw [Lib.toList_data]] at hb4
        clear U3 HEN HEQ hen hne KU KR K6 HRB HRD HS0 HS1 HS2 HC6 HRW
        go_wp2
        go_ret3
        exact UnpB.no _ _ _ _ (Below.refl _ _)
theorem docUnpack_any (v : Value) (zs : List Int) (w : World) (hs : Sl w v zs) : Calls Tryz.prog 22 #[v] w (UnpB w (Pk.unpack zs)) := by
  by_cases h : 262144 < zs.length ∨ zs.length < 10
  · exact docUnpack_early v zs w hs h
  · exact docUnpack_main v zs w hs (by omega) (by omega)
end Go.Proofs.YtdnkfnccbmbpaaaGreatDoor
