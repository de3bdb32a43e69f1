/- The check sum tells turned bits: plain mathematics. -/
import Derived.Test.YtlmcmlbmnnjjpaaGreatDoorGm8
namespace Go.Proofs.YtlmcmlbmnnjjpaaGreatDoor.Wi.Crc

theorem xor_half (a b : Nat) : (a ^^^ b) / 2 = a / 2 ^^^ b / 2 := by
  have h : ∀ x : Nat, x / 2 = x >>> 1 := fun x => by rw [Nat.shiftRight_eq_div_pow]
  rw [h, h, h, Nat.shiftRight_xor_distrib]
theorem xor_odd (a b : Nat) : (a ^^^ b) % 2 = (a % 2 + b % 2) % 2 := by
  have h := Nat.xor_mod_two_pow (a := a) (b := b) (n := 1)
  rw [Nat.pow_one] at h
  rw [h]
  rcases Nat.mod_two_eq_zero_or_one a with ha | ha <;> rcases Nat.mod_two_eq_zero_or_one b with hb | hb <;> rw [ha, hb] <;> rfl

theorem st_even (r : Nat) (h : r % 2 = 0) : st r = r / 2 := by unfold st; rw [if_neg (by omega)]
theorem st_odd (r : Nat) (h : r % 2 = 1) : st r = (r / 2) ^^^ 2197175160 := by unfold st; rw [if_pos h]

theorem xor4 (a b p : Nat) : (a ^^^ p) ^^^ (b ^^^ p) = a ^^^ b := by
  rw [Nat.xor_assoc, ← Nat.xor_assoc p b p, Nat.xor_comm p b, Nat.xor_assoc b p p, Nat.xor_self, Nat.xor_zero]

theorem st_xor (a b : Nat) : st (a ^^^ b) = st a ^^^ st b := by
  have ho := xor_odd a b
  rcases Nat.mod_two_eq_zero_or_one a with ha | ha <;> rcases Nat.mod_two_eq_zero_or_one b with hb | hb
  · rw [st_even _ (by omega), st_even _ ha, st_even _ hb, xor_half]
  · rw [st_odd _ (by omega), st_even _ ha, st_odd _ hb, xor_half, Nat.xor_assoc]
  · rw [st_odd _ (by omega), st_odd _ ha, st_even _ hb, xor_half, Nat.xor_assoc, Nat.xor_comm (b / 2), ← Nat.xor_assoc]
  · rw [st_even _ (by omega), st_odd _ ha, st_odd _ hb, xor_half, xor4]

theorem sts_xor (k a b : Nat) : sts k (a ^^^ b) = sts k a ^^^ sts k b := by
  induction k with
  | zero => rfl
  | succ k ih => simp only [sts, ih, st_xor]
theorem sts_add (j k r : Nat) : sts (j + k) r = sts j (sts k r) := by
  induction j with
  | zero => rw [Nat.zero_add]; rfl
  | succ j ih => rw [Nat.succ_add]; simp only [sts, ih]

theorem st_zero (r : Nat) (hr : r < 4294967296) (h : st r = 0) : r = 0 := by
  rcases Nat.mod_two_eq_zero_or_one r with ho | ho
  · rw [st_even _ ho] at h; omega
  · rw [st_odd _ ho] at h
    have h2 : r / 2 = 2197175160 := by
      have := congrArg (· ^^^ 2197175160) h
      simp only [Nat.xor_assoc, Nat.xor_self, Nat.xor_zero, Nat.zero_xor] at this
      exact this
    omega
theorem sts_zero (k r : Nat) (hr : r < 4294967296) (h : sts k r = 0) : r = 0 := by
  induction k with
  | zero => exact h
  | succ k ih => exact ih (st_zero _ (sts_lt k r hr) h)

/-- A bit that is not the lowest moves down. -/
theorem sts_pow (m : Nat) : sts m (2 ^ m) = 1 := by
  induction m with
  | zero => rfl
  | succ m ih =>
    have h : sts (m + 1) (2 ^ (m + 1)) = sts m (sts 1 (2 ^ (m + 1))) := sts_add m 1 _
    have h1 : sts 1 (2 ^ (m + 1)) = 2 ^ m := by
      show st (2 ^ (m + 1)) = _
      have e : 2 ^ (m + 1) = 2 ^ m * 2 := Nat.pow_succ 2 m
      rw [st_even _ (by omega)]; omega
    rw [h, h1, ih]

theorem sts_bit (k m : Nat) (h : m ≤ k) : sts k (2 ^ m) = sts (k - m) 1 := by
  have e : k = (k - m) + m := by omega
  conv => lhs; rw [e, sts_add, sts_pow]

/-- The parity of the lowest k bits. -/
def pr : Nat → Nat → Bool
  | 0, _ => false
  | k + 1, r => (r % 2 == 1) ^^ pr k (r / 2)

theorem pr_xor (k a b : Nat) : pr k (a ^^^ b) = (pr k a ^^ pr k b) := by
  induction k generalizing a b with
  | zero => rfl
  | succ k ih =>
    simp only [pr, xor_half, ih]
    have ho := xor_odd a b
    have hx : ((a ^^^ b) % 2 == 1) = ((a % 2 == 1) ^^ (b % 2 == 1)) := by
      rcases Nat.mod_two_eq_zero_or_one a with ha | ha <;> rcases Nat.mod_two_eq_zero_or_one b with hb | hb <;> rw [ho, ha, hb] <;> rfl
    rw [hx]
    cases (a % 2 == 1) <;> cases (b % 2 == 1) <;> cases pr k (a / 2) <;> cases pr k (b / 2) <;> rfl
theorem pr_top (k r : Nat) (h : r < 2 ^ k) : pr (k + 1) r = pr k r := by
  induction k generalizing r with
  | zero =>
    have : r = 0 := by simpa using h
    subst this; rfl
  | succ k ih =>
    have := ih (r / 2) (by rw [Nat.pow_succ] at h; omega)
    have e1 : pr (k + 2) r = ((r % 2 == 1) ^^ pr (k + 1) (r / 2)) := rfl
    have e2 : pr (k + 1) r = ((r % 2 == 1) ^^ pr k (r / 2)) := rfl
    rw [e1, e2, this]
theorem pr_st (r : Nat) (h : r < 4294967296) : pr 32 (st r) = pr 32 r := by
  have e : pr 32 r = ((r % 2 == 1) ^^ pr 31 (r / 2)) := rfl
  have ht : pr 32 (r / 2) = pr 31 (r / 2) := pr_top 31 (r / 2) (by omega)
  rcases Nat.mod_two_eq_zero_or_one r with ho | ho
  · rw [st_even _ ho, ht, e, ho]
    cases pr 31 (r / 2) <;> rfl
  · rw [st_odd _ ho, pr_xor, ht, e, ho]
    have hp : pr 32 2197175160 = true := by decide
    rw [hp]
    cases pr 31 (r / 2) <;> rfl
theorem pr_sts (k r : Nat) (h : r < 4294967296) : pr 32 (sts k r) = pr 32 r := by
  induction k with
  | zero => rfl
  | succ k ih =>
    show pr 32 (st (sts k r)) = _
    rw [pr_st _ (sts_lt k r h), ih]
theorem pr_one : pr 32 1 = true := by decide

/-- Is none of the next k registers 1? -/
def away : Nat → Nat → Bool
  | 0, _ => true
  | k + 1, r => if r = 1 then false else away k (st r)

theorem away_all (k r : Nat) (h : away k r = true) : ∀ i, i < k → sts i r ≠ 1 := by
  induction k generalizing r with
  | zero => intro i hi; omega
  | succ k ih =>
    simp only [away] at h
    by_cases hr : r = 1
    · rw [if_pos hr] at h; cases h
    · rw [if_neg hr] at h
      intro i hi
      cases i with
      | zero => exact hr
      | succ i =>
        have := ih (st r) h i (by omega)
        have e : sts (i + 1) r = sts i (sts 1 r) := sts_add i 1 r
        rw [e]; exact this
end Go.Proofs.YtlmcmlbmnnjjpaaGreatDoor.Wi.Crc
