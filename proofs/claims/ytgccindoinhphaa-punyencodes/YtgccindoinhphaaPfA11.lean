/- The tally, plainly: each entry counts a run of places; how many stand ahead of a place. -/
import Derived.Test.YtgccindoinhphaaPwE11
namespace Go.Proofs.Ytgccindoinhphaa
namespace Pu

/-- The lowest bit, by halves. -/
def lbN : Nat → Nat → Nat
  | 0, _ => 1
  | f + 1, j => if j % 2 = 1 then 1 else 2 * lbN f (j / 2)
theorem lbN_odd {f j : Nat} (h : j % 2 = 1) : lbN (f + 1) j = 1 := by rw [lbN, if_pos h]
theorem lbN_even (f a : Nat) : lbN (f + 1) (2 * a) = 2 * lbN f a := by
  rw [lbN, if_neg (by omega), Nat.mul_div_cancel_left _ (by decide)]
theorem lbN_pos (f j : Nat) : 1 ≤ lbN f j := by
  induction f generalizing j with
  | zero => exact Nat.le_refl 1
  | succ f ih => rw [lbN]; split
                 · exact Nat.le_refl 1
                 · have := ih (j / 2); omega
theorem lbN_le {f j : Nat} (h1 : 1 ≤ j) (h2 : j < 2 ^ f) : lbN f j ≤ j := by
  induction f generalizing j with
  | zero => simp at h2; omega
  | succ f ih =>
    rw [lbN]; split
    · exact h1
    · have hp : 2 ^ (f + 1) = 2 * 2 ^ f := by rw [Nat.pow_succ, Nat.mul_comm]
      have := ih (j := j / 2) (by omega) (by omega)
      omega
theorem lbN_cov (f : Nat) : ∀ j q, 1 ≤ q → q < j → j < 2 ^ f → (j - lbN f j < q ↔ (j - lbN f j < q + lbN f q ∧ q + lbN f q ≤ j)) := by
  induction f with
  | zero => intro j q h1 h2 h3; simp at h3; omega
  | succ f ih =>
    intro j q h1 h2 h3
    have hp : 2 ^ (f + 1) = 2 * 2 ^ f := by rw [Nat.pow_succ, Nat.mul_comm]
    have hqe : (q + lbN (f + 1) q) % 2 = 0 := by
      rcases Nat.mod_two_eq_zero_or_one q with h | h
      · obtain ⟨c, rfl⟩ : ∃ c, q = 2 * c := ⟨q / 2, by omega⟩
        rw [lbN_even]; omega
      · rw [lbN_odd h]; omega
    have hq1 := lbN_pos (f + 1) q
    rcases Nat.mod_two_eq_zero_or_one j with hj | hj
    · obtain ⟨a, rfl⟩ : ∃ a, j = 2 * a := ⟨j / 2, by omega⟩
      rw [lbN_even]
      have ha1 := lbN_pos f a
      have hal := lbN_le (f := f) (j := a) (by omega) (by omega)
      rcases Nat.mod_two_eq_zero_or_one q with h | h
      · obtain ⟨c, rfl⟩ : ∃ c, q = 2 * c := ⟨q / 2, by omega⟩
        rw [lbN_even]
        have := ih a c (by omega) (by omega) (by omega)
        omega
      · rw [lbN_odd h]; omega
    · rw [lbN_odd hj]; omega

def lbSame : Nat → Bool
  | 0 => true
  | n + 1 => decide ((lbi (n + 1)).toNat = lbN 12 (n + 1)) && lbSame n
theorem lbSame_all {n j : Nat} (h : lbSame n = true) (h1 : 1 ≤ j) (h2 : j ≤ n) : (lbi j).toNat = lbN 12 j := by
  induction n with
  | zero => omega
  | succ n ih =>
    simp only [lbSame, Bool.and_eq_true, decide_eq_true_eq] at h
    rcases Nat.lt_or_ge n j with hj | hj
    · have : j = n + 1 := by omega
      subst this
      simpa using h.1
    · exact ih h.2 hj
theorem lbSame_2100 : lbSame 2100 = true := by decide +kernel
theorem lbi_eq {j : Nat} (h1 : 1 ≤ j) (h2 : j ≤ 2100) : (lbi j).toNat = lbN 12 j := lbSame_all lbSame_2100 h1 h2

/-- How many places below b there are in p. -/
def cnt (p : Nat → Bool) (b : Nat) : Nat := ((List.range b).filter p).length
theorem cnt_zero (p : Nat → Bool) : cnt p 0 = 0 := rfl
theorem cnt_succ (p : Nat → Bool) (b : Nat) : cnt p (b + 1) = cnt p b + if p b then 1 else 0 := by
  unfold cnt; rw [List.range_succ, List.filter_append, List.length_append]
  cases h : p b <;> simp [h]
theorem cnt_le (p : Nat → Bool) (b : Nat) : cnt p b ≤ b := by
  unfold cnt; have := List.length_filter_le p (List.range b); simpa using this
theorem cnt_mono {p : Nat → Bool} {a b : Nat} (h : a ≤ b) : cnt p a ≤ cnt p b := by
  induction b with
  | zero => have : a = 0 := by omega
            subst this; exact Nat.le_refl _
  | succ b ih =>
    rcases Nat.eq_or_lt_of_le h with h | h
    · subst h; exact Nat.le_refl _
    · rw [cnt_succ]; have := ih (by omega); omega
def addp (p : Nat → Bool) (a : Nat) : Nat → Bool := fun k => k == a || p k
theorem cnt_addp {p : Nat → Bool} {a : Nat} (h : p a = false) (b : Nat) : cnt (addp p a) b = cnt p b + if a < b then 1 else 0 := by
  induction b with
  | zero => simp [cnt_zero]
  | succ b ih =>
    rw [cnt_succ, cnt_succ, ih]
    unfold addp
    by_cases hb : b = a
    · subst hb; simp [h]
    · have : (b == a) = false := by simpa using hb
      rw [this, Bool.false_or]
      have e1 : (if a < b then 1 else 0) = (if a < b + 1 then (1 : Nat) else 0) := by split <;> split <;> omega
      rw [e1]; omega

/-- Each entry counts a run of places. -/
def Fen (p : Nat → Bool) (T : List Int) : Prop := ∀ j, 1 ≤ j → j < T.length → T.getD j 0 = (cnt p j : Int) - (cnt p (j - lbN 12 j) : Int)

theorem aheadF_fen {p : Nat → Bool} {T : List Int} (h : Fen p T) (hl : T.length ≤ 2050) : ∀ (f j : Nat) (n : Int), j ≤ f → j < T.length → aheadF f T j n = n + cnt p j := by
  intro f
  induction f with
  | zero => intro j n hj _; have : j = 0 := by omega
            subst this; rw [aheadF, cnt_zero]; simp
  | succ f ih =>
    intro j n hj hjl
    rw [aheadF]
    split
    · rename_i h0
      rw [lbi_eq (by omega) (by omega)]
      have h1 := lbN_pos 12 j
      have h2 := lbN_le (f := 12) (j := j) (by omega) (by show j < 4096; omega)
      rw [ih (j - lbN 12 j) _ (by omega) (by omega), h j (by omega) hjl]
      omega
    · have : j = 0 := by omega
      subst this; rw [cnt_zero]; simp
theorem ahead_fen {p : Nat → Bool} {T : List Int} (h : Fen p T) (hl : T.length ≤ 2050) {a : Nat} (ha : a < T.length) : ahead T a = cnt p a := by
  unfold ahead; rw [aheadF_fen h hl a a 0 (Nat.le_refl _) ha]; simp

theorem addF_at : ∀ (f : Nat) (T : List Int) (q m : Nat), T.length ≤ 2050 → 1 ≤ q → T.length ≤ q + f → m < T.length → 1 ≤ m →
    (addF f T q).getD m 0 = T.getD m 0 + if q ≤ m ∧ m - lbN 12 m < q then 1 else 0 := by
  intro f
  induction f with
  | zero => intro T q m hl hq hf hm h1; rw [addF, if_neg (by omega)]; simp
  | succ f ih =>
    intro T q m hl hq hf hm h1
    rw [addF]
    split
    · rename_i hlt
      rw [lbi_eq hq (by omega)]
      have hp := lbN_pos 12 q
      rw [ih _ _ _ (by simpa using hl) (by omega) (by simp; omega) (by simpa using hm) h1, getD_set _ _ _ _ hlt]
      have hm1 := lbN_pos 12 m
      by_cases he : m = q
      · subst he
        rw [if_pos rfl, if_neg (by omega), if_pos (by omega)]; omega
      · rw [if_neg he]
        by_cases hlt2 : q < m
        · have hc := lbN_cov 12 m q hq hlt2 (by show m < 4096; omega)
          by_cases h3 : m - lbN 12 m < q
          · have := hc.1 h3
            rw [if_pos (by omega), if_pos (by omega)]
          · have : ¬ (m - lbN 12 m < q + lbN 12 q ∧ q + lbN 12 q ≤ m) := fun h => h3 (hc.2 h)
            rw [if_neg (by omega), if_neg (by omega)]
        · rw [if_neg (by omega), if_neg (by omega)]
    · rename_i hlt
      rw [if_neg (by omega)]; simp
theorem add_fen {p : Nat → Bool} {T : List Int} (h : Fen p T) (hl : T.length ≤ 2050) {a : Nat} (ha : p a = false) : Fen (addp p a) (add T a) := by
  intro j h1 h2
  rw [add_len] at h2
  unfold add
  rw [addF_at _ _ _ _ hl (by omega) (by omega) h2 h1, h j h1 h2, cnt_addp ha, cnt_addp ha]
  have h3 := lbN_pos 12 j
  by_cases c1 : a < j
  · by_cases c2 : a < j - lbN 12 j
    · rw [if_pos c1, if_pos c2, if_neg (by omega)]; omega
    · rw [if_pos c1, if_neg c2, if_pos (by omega)]; omega
  · rw [if_neg c1, if_neg (by omega), if_neg (by omega)]; omega
theorem fen_zero (n : Nat) : Fen (fun _ => false) (List.replicate n 0) := by
  intro j _ h2
  have hc : ∀ b, cnt (fun _ => false) b = 0 := fun b => by simp [cnt]
  rw [hc, hc]
  simp at h2
  simp [List.getD, h2]
end Pu
end Go.Proofs.Ytgccindoinhphaa
