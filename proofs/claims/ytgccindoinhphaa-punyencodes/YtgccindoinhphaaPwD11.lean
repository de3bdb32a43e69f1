/- The contract of parted. -/
import Derived.Test.YtgccindoinhphaaPwC11
namespace Go.Proofs.Ytgccindoinhphaa
open Go.RowKit

namespace Pu
def idxk (xs : List Int) (q : Int → Bool) (k : Nat) : List Nat := (List.range k).filter fun j => q (xs.getD j 0)
theorem idxk_next_yes {xs : List Int} {q : Int → Bool} {k : Nat} (h : q (xs.getD k 0) = true) : idxk xs q (k + 1) = idxk xs q k ++ [k] := by
  unfold idxk; rw [List.range_succ, List.filter_append]
  rw [List.filter_cons_of_pos (p := fun j => q (xs.getD j 0)) h]; rfl
theorem idxk_next_no {xs : List Int} {q : Int → Bool} {k : Nat} (h : q (xs.getD k 0) = false) : idxk xs q (k + 1) = idxk xs q k := by
  unfold idxk; rw [List.range_succ, List.filter_append]
  rw [List.filter_cons_of_neg (by rw [h]; simp)]; simp
theorem idxk_len (xs : List Int) (q : Int → Bool) (k : Nat) : (idxk xs q k).length ≤ k := by
  unfold idxk; have := List.length_filter_le (fun j => q (xs.getD j 0)) (List.range k); simpa using this
theorem idx_lt (xs : List Int) (q : Int → Bool) : ∀ a ∈ idx xs q, a < xs.length := by
  intro a ha; unfold idx at ha; simpa using (List.mem_filter.1 ha).1
theorem idx_sorted (xs : List Int) (q : Int → Bool) : (idx xs q).Pairwise (· < ·) := (List.pairwise_lt_range).filter _
end Pu

theorem nints_snoc (l : List Nat) (k : Nat) : nints (l ++ [k]) = nints l ++ [(k : Int)] := by simp [nints]

def PartP (w : World) (xs : List Int) (e : Ending) (w' : World) : Prop := ∃ v1 v2, e = .returned (.tuple #[v1, v2]) ∧ Ok .i64 3 w' w.heap.size v1 (nints (Pu.idx xs Pu.lowq)) ∧ Ok .i64 3 w' w.heap.size v2 (nints (Pu.sortF xs (Pu.idx xs Pu.highq))) ∧ Below w.heap.size w w'

/-- Two rows of ints, apart. -/
structure Two (b B : Nat) (xv : Value) (w0 : World) (l1 l2 : List Nat) (v1 v2 : Value) (wr : World) : Prop where
  r1 : Ok .i64 3 wr B v1 (nints l1)
  r2 : Ok .i64 3 wr B v2 (nints l2)
  x : XAt wr b xv
  bel : Below w0.heap.size w0 wr
  hb : b < B
  hB : B ≤ wr.heap.size
  hw : w0.heap.size ≤ b
  ap : ∀ g, v1.ownBlock = some g → v2.ownBlock ≠ some g

theorem Two.left {b B : Nat} {xv : Value} {w0 : World} {l1 l2 : List Nat} {v1 v2 v' : Value} {wr w' : World} {o : Obj} {k : Nat} (h : Two b B xv w0 l1 l2 v1 v2 wr) (hv : Ok .i64 3 w' B v' (nints l1 ++ [(k : Int)])) (hg : (wr.alloc o).grownBy w' v1.ownBlock)
    (ho : ∀ g, v'.ownBlock = some g → v1.ownBlock = some g ∨ wr.heap.size ≤ g) : Two b B xv w0 (l1 ++ [k]) l2 v' v2 w' := by
  have hs := alloc_size wr o
  have h1 := fun g hh => h.r1.row.lt g hh
  have h2 := fun g hh => h.r2.row.lt g hh
  have hne : v2.ownBlock = none ∨ v2.ownBlock ≠ v1.ownBlock := by
    cases hq : v2.ownBlock with
    | none => exact .inl rfl
    | some g => exact .inr (fun hh => h.ap g hh.symm hq)
  refine ⟨by rw [nints_snoc]; exact hv, ok_grown (ok_alloc h.r2 o) hg hne, (h.x.alloc o).grown hg (fun hh => by have := (h1 _ hh).1; have := h.hb; omega), (h.bel.alloc (by have := h.hB; have := h.hb; have := h.hw; omega) o).grown hg (by have := h.hB; have := h.hb; have := h.hw; omega) (fun g hh => by have := (h1 g hh).1; have := h.hb; have := h.hw; omega), h.hb, by have := hg.size; have := h.hB; omega, h.hw, fun g hh hq => ?_⟩
  rcases ho g hh with h3 | h3
  · exact h.ap g h3 hq
  · have := (h2 g hq).2; omega

theorem Two.right {b B : Nat} {xv : Value} {w0 : World} {l1 l2 : List Nat} {v1 v2 v' : Value} {wr w' : World} {o : Obj} {k : Nat} (h : Two b B xv w0 l1 l2 v1 v2 wr) (hv : Ok .i64 3 w' B v' (nints l2 ++ [(k : Int)])) (hg : (wr.alloc o).grownBy w' v2.ownBlock)
    (ho : ∀ g, v'.ownBlock = some g → v2.ownBlock = some g ∨ wr.heap.size ≤ g) : Two b B xv w0 l1 (l2 ++ [k]) v1 v' w' := by
  have hs := alloc_size wr o
  have h1 := fun g hh => h.r1.row.lt g hh
  have h2 := fun g hh => h.r2.row.lt g hh
  have hne : v1.ownBlock = none ∨ v1.ownBlock ≠ v2.ownBlock := by
    cases hq : v1.ownBlock with
    | none => exact .inl rfl
    | some g => exact .inr (fun hh => h.ap g hq hh.symm)
  refine ⟨ok_grown (ok_alloc h.r1 o) hg hne, by rw [nints_snoc]; exact hv, (h.x.alloc o).grown hg (fun hh => by have := (h2 _ hh).1; have := h.hb; omega), (h.bel.alloc (by have := h.hB; have := h.hb; have := h.hw; omega) o).grown hg (by have := h.hB; have := h.hb; have := h.hw; omega) (fun g hh => by have := (h2 g hh).1; have := h.hb; have := h.hw; omega), h.hb, by have := hg.size; have := h.hB; omega, h.hw, fun g hh hq => ?_⟩
  rcases ho g hq with h3 | h3
  · exact h.ap g hh h3
  · have := (h1 g hh).2; omega

set_option maxRecDepth 20000 in
set_option maxHeartbeats 4000000 in
theorem parted_any (m : Nat) (HS : SortC m) (v : Value) (xs : List Int) (w : World) (hv : Sk .i32 w v xs) (hl : xs.length ≤ 100000) (hm : (Pu.idx xs Pu.highq).length ≤ m) :
    Calls Try.prog 32 #[v] w (PartP w xs) := by
  have HSS := hide HS
  have HV := hide hv
  have HFI := hide hv.1
  have HM := hide hm
  obtain ⟨ao, cap, hvv, hc1, hc2⟩ := hv.shape
  have HPL : Hid (0 < xs.length → ∃ b off, ao = some ⟨b, off, none⟩ ∧ ∀ W, Below w.heap.size w W → ∀ i, i < xs.length → W.cell? ⟨b, off + i, none⟩ = some (.int .i32 (xs.getD i 0))) := fun h0 => by
    obtain ⟨b, off, cap', he, _, _, hcl⟩ := hv.place h0
    rw [hvv] at he
    simp only [Value.slice.injEq] at he
    refine ⟨b, off, he.1, fun W hb i hi => ?_⟩
    rw [hb.cell (lt_of_cell? (hcl i hi))]
    exact hcl i hi
  subst hvv
  have hT0 : Two w.heap.size (w.heap.size + 1) (.slice ao xs.length cap) w [] [] (.slice none 0 0) (.slice none 0 0) (w.alloc (.cells #[.slice ao xs.length cap] 22)) :=
    ⟨Ok.nil _ _ _ _, Ok.nil _ _ _ _, heap_alloc_new w _, (Below.refl _ _).alloc (Nat.le_refl _) _, by omega, by rw [alloc_size]; omega, by omega, fun g hh => by simp [Value.ownBlock] at hh⟩
  obtain ⟨W0, hW0⟩ : ∃ W0, w.alloc (.cells #[.slice ao xs.length cap] 22) = W0 := ⟨_, rfl⟩
  rw [hW0] at hT0
  have hx0 := hT0.x.cell
  have HT0 := hide hT0
  clear hT0 hv hm HS
  obtain ⟨b, hb⟩ : ∃ b, w.heap.size = b := ⟨_, rfl⟩
  rw [hb] at hx0 HT0
  have HBB := hide hb
  go_enter Try.func32, Try.ntmps32
  go_wp2
  go_loopw [2, 3, 4, 5, 8] (fun v1 v2 _ _ i wr => ∃ k : Nat, i = .int .i64 k ∧ k ≤ xs.length ∧ Two b (b + 1) (.slice ao xs.length cap) w (Pu.idxk xs Pu.lowq k) (Pu.idxk xs Pu.highq k) v1 v2 wr) (fun _ _ _ _ i _ => xs.length - (intOf i).toNat)
  case atStart => exact ⟨0, rfl, by omega, unhide HT0⟩
  case round =>
    clear HT0 hx0 hW0
    obtain ⟨k, rfl, hk, hT⟩ := hrel
    by_cases hlt : k < xs.length
    · obtain ⟨bx, ox, hao, hcl⟩ := unhide HPL (by omega)
      subst hao
      have hcell := hcl wr (by rw [unhide HBB] ; exact (unhide HBB) ▸ hT.bel) k hlt
      have hrg := (unhide HFI).i32at k
      have hL1 := Pu.idxk_len xs Pu.lowq k
      have hL2 := Pu.idxk_len xs Pu.highq k
      have hB := hT.hB
      have HT := hide hT
      clear hcl
      by_cases hz : xs.getD k 0 < 128
      · have hq : Pu.lowq (xs.getD k 0) = true := decide_eq_true hz
        have hq2 : Pu.highq (xs.getD k 0) = false := by unfold Pu.highq; rw [hq]; rfl
        have HI1 := hide (Pu.idxk_next_yes (xs := xs) (q := Pu.lowq) hq)
        have HI2 := hide (Pu.idxk_next_no (xs := xs) (q := Pu.highq) hq2)
        clear hT hq hq2
        generalize xs.getD k 0 = z at *
        go_wp2_with (at_builtin; refine wpList_append_oneI rfl (.tmp 15) (.tmp 17) rfl (b + 1) _ (nints (Pu.idxk xs Pu.lowq k)) k _ rfl rfl (unhide HT).r1 rfl (fun z hz => by simp at hz; subst hz; simp [IntKind.min, IntKind.max, IntKind.signed, IntKind.bits]; omega) (by rw [nints_len]; omega) hB ?_)
        intro v' w' h1 h2 h3
        have HN := hide ((unhide HT).left h1 h2 h3)
        clear h1 h2 h3 HT
        go_wp2
        go_roundw
        case rel => exact ⟨k + 1, by go_num, by omega, by rw [unhide HI1, unhide HI2]; exact unhide HN⟩
        case measure => simp [intOf]; omega
      · have hq : Pu.lowq (xs.getD k 0) = false := decide_eq_false hz
        have hq2 : Pu.highq (xs.getD k 0) = true := by unfold Pu.highq; rw [hq]; rfl
        have HI1 := hide (Pu.idxk_next_no (xs := xs) (q := Pu.lowq) hq)
        have HI2 := hide (Pu.idxk_next_yes (xs := xs) (q := Pu.highq) hq2)
        clear hT hq hq2
        generalize xs.getD k 0 = z at *
        go_wp2_with (at_builtin; refine wpList_append_oneI rfl (.tmp 19) (.tmp 21) rfl (b + 1) _ (nints (Pu.idxk xs Pu.highq k)) k _ rfl rfl (unhide HT).r2 rfl (fun z hz => by simp at hz; subst hz; simp [IntKind.min, IntKind.max, IntKind.signed, IntKind.bits]; omega) (by rw [nints_len]; omega) hB ?_)
        intro v' w' h1 h2 h3
        have HN := hide ((unhide HT).right h1 h2 h3)
        clear h1 h2 h3 HT
        go_wp2
        go_roundw
        case rel => exact ⟨k + 1, by go_num, by omega, by rw [unhide HI1, unhide HI2]; exact unhide HN⟩
        case measure => simp [intOf]; omega
    · have hke : k = xs.length := by omega
      have hT' : Two b (b + 1) (.slice ao xs.length cap) w (Pu.idx xs Pu.lowq) (Pu.idx xs Pu.highq) u2 u3 wr := by
        have : ∀ q, Pu.idxk xs q k = Pu.idx xs q := fun q => by rw [hke]; rfl
        rw [this, this] at hT
        exact hT
      have HC := hide (unhide HSS xs b (b + 1) (.slice ao xs.length cap) u3 (Pu.idx xs Pu.highq) w wr hT'.x (unhide HV) hT'.bel (by rw [unhide HBB]; omega) hl (unhide HM) (Pu.idx_lt xs _) (Pu.idx_sorted xs _) hT'.r2 (fun hh => by have := (hT'.r2.row.lt _ hh).1; omega))
      have HT := hide hT'
      clear hT hT' hke HSS HPL
      go_wp2_with (go_at_call 47; refine (unhide HC).mono ?_; rintro e w2 ⟨rfl, h1, h2⟩)
      have HF : Hid (PartP w xs (.returned (.tuple #[u2, u3])) w2) := by
        have hT := unhide HT
        have hne : u2.ownBlock = none ∨ u2.ownBlock ≠ u3.ownBlock := by
          cases hq : u2.ownBlock with
          | none => exact .inl rfl
          | some g => exact .inr (fun hh => hT.ap g hq hh.symm)
        refine ⟨u2, u3, rfl, (ok_grown hT.r1 h2 hne).lower (by rw [unhide HBB]; omega), h1.lower (by rw [unhide HBB]; omega), hT.bel.grown h2 (by have := hT.hB; rw [unhide HBB]; omega) (fun g hh => by have := (hT.r2.row.lt g hh).1; rw [unhide HBB]; omega)⟩
      clear h1 h2 HC HT
      go_ret2
      exact unhide HF
end Go.Proofs.Ytgccindoinhphaa
