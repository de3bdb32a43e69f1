/- Words laid out with blanks between are these words. -/
import Derived.Test.YtkdkmnohnhhojaaDoorScl
namespace Go.Proofs.YtkdkmnohnhhojaaDoor.Scn

/-- A sign that may stand in a word. -/
def Sign (c : Int) : Prop := isBlank c = false ∧ c ≠ 35
theorem sign_of {c : Int} (h : 32 < c) (h2 : c ≠ 35) : Sign c := by
  refine ⟨?_, h2⟩
  unfold isBlank
  rw [beq_eq_false_iff_ne.2 (by omega : c ≠ 32), beq_eq_false_iff_ne.2 (by omega : c ≠ 9), beq_eq_false_iff_ne.2 (by omega : c ≠ 13)]
  rfl
theorem blank_no {c : Int} (h : isBlank c = true) : c ≠ 35 := fun e => by rw [e] at h; cases h
/-- A line whose words, if a blank follows, are these at these places. -/
structure Laid (L : List Int) (ws : List (List Int × Nat)) : Prop where
  no35 : ∀ c ∈ L, c ≠ 35
  inv : ∀ b r, isBlank b = true → wordsA 0 [] (L ++ b :: r) = ws ++ wordsA (L.length + 1) [] r
  at_ : ∀ p ∈ ws, p.2 + p.1.length ≤ L.length ∧ (L.drop p.2).take p.1.length = p.1
theorem Laid.nil : Laid [] [] := by
  refine ⟨fun _ h => (by cases h), fun b r hb => ?_, fun _ h => (by cases h)⟩
  rw [List.nil_append, wordsA, if_pos hb, if_pos rfl]; rfl
theorem blanks_run {B : List Int} (hB : ∀ c ∈ B, isBlank c = true) : ∀ (k : Nat) (r : List Int), wordsA k [] (B ++ r) = wordsA (k + B.length) [] r := by
  induction B with
  | nil => intro k r; rfl
  | cons b B ih =>
    intro k r
    rw [List.cons_append, wordsA, if_pos (hB b (by simp)), if_pos rfl, ih (fun c hc => hB c (by simp [hc])), List.length_cons, show k + 1 + B.length = k + (B.length + 1) by omega]
theorem signs_run {W : List Int} (hW : ∀ c ∈ W, Sign c) : ∀ (k : Nat) (cur : List Int) (r : List Int), wordsA k cur (W ++ r) = wordsA (k + W.length) (cur ++ W) r := by
  induction W with
  | nil => intro k cur r; simp
  | cons c W ih =>
    intro k cur r
    rw [List.cons_append, wordsA, if_neg (by rw [(hW c (by simp)).1]; exact Bool.false_ne_true), ih (fun x hx => hW x (by simp [hx])), List.length_cons, show k + 1 + W.length = k + (W.length + 1) by omega, List.append_assoc]
    rfl
theorem Laid.add {L : List Int} {ws : List (List Int × Nat)} (h : Laid L ws) {B W : List Int} (hB : ∀ c ∈ B, isBlank c = true) (hBn : B ≠ []) (hW : ∀ c ∈ W, Sign c) (hWn : W ≠ []) : Laid (L ++ B ++ W) (ws ++ [(W, L.length + B.length)]) := by
  have hWl : 0 < W.length := List.length_pos_iff.2 hWn
  refine ⟨fun c hc => ?_, fun b r hb => ?_, fun p hp => ?_⟩
  · rcases List.mem_append.1 hc with hc | hc
    · rcases List.mem_append.1 hc with hc | hc
      · exact h.no35 c hc
      · exact blank_no (hB c hc)
    · exact (hW c hc).2
  · obtain ⟨b0, B', rfl⟩ := List.exists_cons_of_ne_nil hBn
    rw [List.append_assoc, List.append_assoc, List.cons_append, h.inv b0 _ (hB b0 (by simp)), blanks_run (fun c hc => hB c (by simp [hc])), signs_run hW, List.nil_append]
    rw [wordsA, if_pos hb, if_neg hWn, List.append_assoc]
    congr 1
    have e1 : L.length + 1 + B'.length + W.length - W.length = L.length + (b0 :: B').length := by simp; omega
    have e2 : L.length + 1 + B'.length + W.length + 1 = (L ++ b0 :: B' ++ W).length + 1 := by simp; omega
    rw [e1, e2]; rfl
  · rcases List.mem_append.1 hp with hp | hp
    · obtain ⟨a, c⟩ := h.at_ p hp
      refine ⟨by simp; omega, ?_⟩
      rw [List.append_assoc, List.drop_append_of_le_length (by omega), List.take_append_of_le_length (by simp; omega)]
      exact c
    · simp only [List.mem_singleton] at hp
      subst hp
      refine ⟨by simp; omega, ?_⟩
      have e : (L ++ B ++ W).drop (L.length + B.length) = W := by
        rw [show L.length + B.length = (L ++ B).length by simp, List.drop_left]
      show ((L ++ B ++ W).drop (L.length + B.length)).take W.length = W
      rw [e, List.take_length]
theorem endA_at {A r : List Int} (h : ∀ c ∈ A, c ≠ 35) : endA (A ++ 35 :: r) = A.length := by
  induction A with
  | nil => rfl
  | cons a A ih => rw [List.cons_append, endA, if_neg (h a (by simp)), ih (fun c hc => h c (by simp [hc]))]; rfl
/-- The words of the line with a blank and a remark behind it. -/
theorem Laid.words {L : List Int} {ws : List (List Int × Nat)} (h : Laid L ws) (r : List Int) : words (L ++ [32, 35] ++ r) = ws ∧ endA (L ++ [32, 35] ++ r) = L.length + 1 := by
  have e : L ++ [32, 35] ++ r = (L ++ [32]) ++ 35 :: r := by simp
  have he : endA (L ++ [32, 35] ++ r) = L.length + 1 := by
    rw [e, endA_at (fun c hc => by
      rcases List.mem_append.1 hc with hc | hc
      · exact h.no35 c hc
      · simp at hc; omega)]
    simp
  refine ⟨?_, he⟩
  unfold Scn.words
  rw [he, e, List.take_left' (by simp)]
  have := h.inv 32 [] rfl
  rw [this, wordsA, if_pos rfl, List.append_nil]
end Go.Proofs.YtkdkmnohnhhojaaDoor.Scn
