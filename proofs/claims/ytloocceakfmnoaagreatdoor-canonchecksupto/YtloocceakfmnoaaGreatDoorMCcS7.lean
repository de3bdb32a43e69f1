/- What is wrong with a record, as the program asks it. -/
import Derived.Test.YtloocceakfmnoaaGreatDoorMCcP7
namespace Go.Proofs.YtloocceakfmnoaaGreatDoor.Cn
def bad7 (l : List Rec) (i : Nat) (r : Rec) : Bool := decide ((firstP l (r.to.getD 0 0) (r.to.getD 1 0)).getD 0 < (i : Int)) || wpair l r.lo (r.to.getD 0 0) (r.to.getD 1 0)
theorem record_T (l : List Rec) (i : Nat) (r : Rec) : record l i r = if fam r.kind ≠ 2 ∧ fam r.kind ≠ 3 then 0
  else if covers r 0 127 then 70
  else if touches r = true then 71
  else if r.kind = 7 ∧ makes (r.to.getD 0 0) (r.to.getD 1 0) = true then 71
  else if fam r.kind = 2 then 0
  else if (full l r.lo).2 ≠ 0 then (full l r.lo).2
  else if fallsA l (full l r.lo).1 then 75
  else if r.kind = 7 ∧ pair l i r = false then 74
  else 0 := rfl
theorem record_none {l : List Rec} {i : Nat} {r : Rec} (h6 : r.kind ≠ 6) (h7 : r.kind ≠ 7) (h8 : r.kind ≠ 8) : record l i r = 0 := by
  rw [record_T]
  rw [if_pos ⟨fun h => h6 (fam_two h), fun h => by rcases fam_three' h with e | e <;> contradiction⟩]
theorem record_low {l : List Rec} {i : Nat} {r : Rec} (hr : right r = 0) (hk : r.kind = 6 ∨ r.kind = 7 ∨ r.kind = 8) (hl : r.lo < 128) : record l i r = 70 := by
  have hf : fam r.kind = 2 ∨ fam r.kind = 3 := by rcases hk with e | e | e <;> (rw [e]; decide)
  have h15 : r.kind ≠ 15 := by omega
  have hs := right_span hr h15
  rw [record_T]
  rw [if_neg (fun h => by omega), if_pos (show covers r 0 127 = true from decide_eq_true ⟨by omega, by omega⟩)]
theorem record_hangul {l : List Rec} {i : Nat} {r : Rec} (hk : r.kind = 6 ∨ r.kind = 7 ∨ r.kind = 8) (hl : ¬ r.lo < 128) (ht : (touches r || (decide (r.kind = 7) && makes (r.to.getD 0 0) (r.to.getD 1 0))) = true) : record l i r = 71 := by
  have hf : fam r.kind = 2 ∨ fam r.kind = 3 := by rcases hk with e | e | e <;> (rw [e]; decide)
  rw [record_T]
  rw [if_neg (fun h => by omega), if_neg (show ¬ covers r 0 127 = true from fun h => by have := of_decide_eq_true h; omega)]
  by_cases h1 : touches r = true
  · rw [if_pos h1]
  · rw [if_neg h1]
    have h2 : touches r = false := by simpa using h1
    rw [h2, Bool.false_or, Bool.and_eq_true] at ht
    rw [if_pos ⟨of_decide_eq_true ht.1, ht.2⟩]
theorem record_rest {l : List Rec} {i : Nat} {r : Rec} (hk : r.kind = 6 ∨ r.kind = 7 ∨ r.kind = 8) (hl : ¬ r.lo < 128) (ht : (touches r || (decide (r.kind = 7) && makes (r.to.getD 0 0) (r.to.getD 1 0))) = false) :
    record l i r = if r.kind = 6 then 0 else if wfull l r.lo ≠ 0 then wfull l r.lo else if r.kind = 7 ∧ pair l i r = false then 74 else 0 := by
  have hf : fam r.kind = 2 ∨ fam r.kind = 3 := by rcases hk with e | e | e <;> (rw [e]; decide)
  rw [Bool.or_eq_false_iff] at ht
  rw [record_T]
  rw [if_neg (fun h => by omega), if_neg (show ¬ covers r 0 127 = true from fun h => by have := of_decide_eq_true h; omega), if_neg (show ¬ touches r = true by rw [ht.1]; simp)]
  rw [if_neg (fun h => by
    have h2 := ht.2
    rw [Bool.and_eq_false_iff] at h2
    rcases h2 with h2 | h2
    · exact absurd h.1 (of_decide_eq_false h2)
    · have h3 : makes (r.to.getD 0 0) (r.to.getD 1 0) = true := h.2
      rw [h2] at h3; cases h3)]
  rcases hk with e | e | e
  · rw [e, if_pos (by decide : fam 6 = 2), if_pos rfl]
  · rw [if_neg (show ¬ fam r.kind = 2 by rw [e]; decide), if_neg (show ¬ r.kind = 6 by omega)]
    unfold wfull
    by_cases h1 : (full l r.lo).2 ≠ 0
    · rw [if_pos h1, if_pos h1, if_pos h1]
    · rw [if_neg h1, if_neg h1]
      by_cases h2 : fallsA l (full l r.lo).1 = true
      · rw [if_pos h2, if_pos h2, if_pos (by decide)]
      · rw [if_neg h2, if_neg h2, if_neg (show ¬ (0 : Int) ≠ 0 by decide)]
  · rw [if_neg (show ¬ fam r.kind = 2 by rw [e]; decide), if_neg (show ¬ r.kind = 6 by omega)]
    unfold wfull
    by_cases h1 : (full l r.lo).2 ≠ 0
    · rw [if_pos h1, if_pos h1, if_pos h1]
    · rw [if_neg h1, if_neg h1]
      by_cases h2 : fallsA l (full l r.lo).1 = true
      · rw [if_pos h2, if_pos h2, if_pos (by decide)]
      · rw [if_neg h2, if_neg h2, if_neg (show ¬ (0 : Int) ≠ 0 by decide)]
theorem pair_bad {l : List Rec} {i : Nat} (hi : i < l.length) (h7 : (l.getD i none).kind = 7) : pair l i (l.getD i none) = !bad7 l i (l.getD i none) := by
  rw [pair_w]
  unfold bad7
  have h := firstP_lt hi h7
  cases hA : (l.take i).any fun k => decide (k.kind = 7 ∧ k.to.getD 0 0 = (l.getD i none).to.getD 0 0 ∧ k.to.getD 1 0 = (l.getD i none).to.getD 1 0)
  · rw [decide_eq_false (fun hlt => by have := h.1 hlt; rw [hA] at this; cases this)]
    simp
  · rw [decide_eq_true (h.2 hA)]
    simp
end Go.Proofs.YtloocceakfmnoaaGreatDoor.Cn
