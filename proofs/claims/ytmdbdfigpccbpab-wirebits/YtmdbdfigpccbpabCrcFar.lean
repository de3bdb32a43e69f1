/- The register comes back to 1 behind more than 32768 steps alone. -/
import Derived.Test.YtmdbdfigpccbpabCrcM
namespace Go.Proofs.Ytmdbdfigpccbpab.Crc
theorem away_far : away 32768 (st 1) = true := by decide +kernel
end Go.Proofs.Ytmdbdfigpccbpab.Crc
namespace Go.Proofs.Ytmdbdfigpccbpab.Crc

theorem sts_ne_one (d : Nat) (h0 : 1 ≤ d) (h1 : d ≤ 32768) : sts d 1 ≠ 1 := by
  have h := away_all 32768 (st 1) away_far (d - 1) (by omega)
  have e : d = (d - 1) + 1 := by omega
  rw [e, sts_add]
  exact h

theorem xor_eq_zero {a b : Nat} (h : a ^^^ b = 0) : a = b := by
  have := congrArg (· ^^^ b) h
  simp only [Nat.xor_assoc, Nat.xor_self, Nat.xor_zero, Nat.zero_xor] at this
  exact this

theorem two_unlike (n p q : Nat) (hp : p < q) (hq : q < n) (hn : n ≤ 32768) : sts (n - p) 1 ≠ sts (n - q) 1 := by
  intro h
  have e : n - p = (n - q) + (q - p) := by omega
  rw [e, sts_add] at h
  have h2 : sts (n - q) (sts (q - p) 1 ^^^ 1) = 0 := by rw [sts_xor, h, Nat.xor_self]
  have h3 := sts_zero _ _ (Nat.xor_lt_two_pow (n := 32) (sts_lt _ _ (by decide)) (by decide)) h2
  exact sts_ne_one (q - p) (by omega) (by omega) (xor_eq_zero h3)

/-- Bit p of the bytes l turned over. -/
def flipL (l : List Int) (p : Nat) : List Int := l.set (p / 8) (((l.getD (p / 8) 0).toNat ^^^ 2 ^ (p % 8) : Nat) : Int)

theorem flipL_length (l : List Int) (p : Nat) : (flipL l p).length = l.length := by simp [flipL]

theorem bys_xor (l : List Int) (x y : Nat) : bys (x ^^^ y) l = bys x l ^^^ sts (8 * l.length) y := by
  induction l generalizing x y with
  | nil => rfl
  | cons c r ih =>
    have e : by1 (x ^^^ y) c.toNat = by1 x c.toNat ^^^ sts 8 y := by
      unfold by1
      rw [Nat.xor_assoc, Nat.xor_comm y, ← Nat.xor_assoc, sts_xor]
    show bys (by1 (x ^^^ y) c.toNat) r = bys (by1 x c.toNat) r ^^^ _
    rw [e, ih, ← sts_add, List.length_cons]
    congr 2

theorem bys_flip (l : List Int) (r p : Nat) (hp : p < 8 * l.length) : bys r (flipL l p) = bys r l ^^^ sts (8 * l.length - p) 1 := by
  have hk : p / 8 < l.length := by omega
  have hj : p % 8 < 8 := Nat.mod_lt _ (by decide)
  have e1 : l = l.take (p / 8) ++ l[p / 8] :: l.drop (p / 8 + 1) := by rw [List.getElem_cons_drop, List.take_append_drop]
  have e2 : flipL l p = l.take (p / 8) ++ ((l[p / 8].toNat ^^^ 2 ^ (p % 8) : Nat) : Int) :: l.drop (p / 8 + 1) := by
    unfold flipL
    rw [List.set_eq_take_append_cons_drop, if_pos hk]
    simp [List.getD, hk]
  have e3 : ∀ (a b : List Int) (c : Int), bys r (a ++ c :: b) = bys (by1 (bys r a) c.toNat) b := by
    intro a b c
    rw [bys_append]; rfl
  have hb : ∀ R c : Nat, by1 R (c ^^^ 2 ^ (p % 8)) = by1 R c ^^^ sts (8 - p % 8) 1 := by
    intro R c
    unfold by1
    rw [← Nat.xor_assoc, sts_xor, sts_bit 8 (p % 8) (by omega)]
  rw [e2, e3, Int.toNat_natCast, hb, bys_xor, ← sts_add]
  conv => rhs; rw [e1, e3]
  congr 2
  rw [← e1, List.length_drop]
  omega

theorem xor_ne {x y : Nat} (h : y ≠ 0) : x ^^^ y ≠ x := by
  intro e
  have := congrArg (x ^^^ ·) e
  simp only [← Nat.xor_assoc, Nat.xor_self, Nat.zero_xor] at this
  exact h this

theorem odd_ne (y : Nat) (h : pr 32 y = true) : y ≠ 0 := by
  intro e
  subst e
  revert h
  decide

theorem one_flip (l : List Int) (i : Nat) (hi : i < 8 * l.length) : sum (flipL l i) ≠ sum l := by
  unfold sum
  rw [bys_flip l _ i hi]
  intro h
  have h2 := congrArg (· ^^^ 4294967295) h
  simp only [Nat.xor_assoc, Nat.xor_self, Nat.xor_zero] at h2
  exact xor_ne (odd_ne _ (by rw [pr_sts _ _ (by decide)]; exact pr_one)) h2

theorem two_flips (l : List Int) (i j : Nat) (hn : 8 * l.length ≤ 32768) (hi : i < 8 * l.length) (hj : j < 8 * l.length) (hij : i ≠ j) : sum (flipL (flipL l i) j) ≠ sum l := by
  unfold sum
  rw [bys_flip _ _ j (by rw [flipL_length]; exact hj), bys_flip l _ i hi, flipL_length]
  intro h
  have h2 := congrArg (· ^^^ 4294967295) h
  simp only [Nat.xor_assoc, Nat.xor_self, Nat.xor_zero] at h2
  refine xor_ne (fun e => ?_) h2
  have e2 := xor_eq_zero e
  rcases Nat.lt_or_ge i j with h3 | h3
  · exact two_unlike _ i j h3 hj hn e2
  · exact two_unlike _ j i (by omega) hi hn e2.symm

theorem three_flips (l : List Int) (i j k : Nat) (hi : i < 8 * l.length) (hj : j < 8 * l.length) (hk : k < 8 * l.length) : sum (flipL (flipL (flipL l i) j) k) ≠ sum l := by
  unfold sum
  rw [bys_flip _ _ k (by rw [flipL_length, flipL_length]; exact hk), bys_flip _ _ j (by rw [flipL_length]; exact hj), bys_flip l _ i hi, flipL_length, flipL_length]
  intro h
  have h2 := congrArg (· ^^^ 4294967295) h
  simp only [Nat.xor_assoc, Nat.xor_self, Nat.xor_zero] at h2
  refine xor_ne (odd_ne _ ?_) h2
  rw [pr_xor, pr_xor, pr_sts _ _ (by decide), pr_sts _ _ (by decide), pr_sts _ _ (by decide), pr_one]
  rfl

/-- What is behind m rounds over a pattern. -/
def Pat (l d : List Int) (p m pat : Nat) : Prop :=
  d.length = l.length ∧ bys 4294967295 d = bys 4294967295 l ^^^ sts (8 * l.length - p) (pat % 2 ^ m) ∧ (pat % 2 ^ m = 0 → d = l)

theorem Pat.zero (l : List Int) (p pat : Nat) : Pat l l p 0 pat := by
  refine ⟨rfl, ?_, fun _ => rfl⟩
  have h0 : ∀ k, sts k 0 = 0 := by
    intro k
    induction k with
    | zero => rfl
    | succ k ih => simp only [sts, ih]; rfl
  rw [Nat.pow_zero, Nat.mod_one, h0, Nat.xor_zero]

theorem mod_succ (pat m : Nat) : pat % 2 ^ (m + 1) = pat % 2 ^ m + 2 ^ m * (pat / 2 ^ m % 2) := by
  rw [Nat.pow_succ, Nat.mod_mul]

theorem Pat.skip {l d : List Int} {p m pat : Nat} (h : Pat l d p m pat) (hb : pat / 2 ^ m % 2 = 0) : Pat l d p (m + 1) pat := by
  have e : pat % 2 ^ (m + 1) = pat % 2 ^ m := by rw [mod_succ, hb]; omega
  unfold Pat
  rw [e]; exact h

theorem Pat.turn {l d : List Int} {p m pat : Nat} (h : Pat l d p m pat) (hb : pat / 2 ^ m % 2 = 1) (hm : p + m < 8 * l.length) : Pat l (flipL d (p + m)) p (m + 1) pat := by
  obtain ⟨h1, h2, _⟩ := h
  have e : pat % 2 ^ (m + 1) = pat % 2 ^ m ^^^ 2 ^ m := by
    rw [mod_succ, hb, Nat.mul_one]
    have := Nat.two_pow_add_eq_or_of_lt (Nat.mod_lt pat (Nat.two_pow_pos m)) 1
    rw [Nat.mul_one] at this
    rw [Nat.add_comm, this]
    have hlt := Nat.mod_lt pat (Nat.two_pow_pos m)
    generalize pat % 2 ^ m = x at *
    apply Nat.eq_of_testBit_eq
    intro i
    rw [Nat.testBit_or, Nat.testBit_xor, Nat.testBit_two_pow]
    by_cases him : m = i
    · subst him
      rw [Nat.testBit_lt_two_pow hlt]
      simp
    · simp [him]
  refine ⟨by rw [flipL_length]; exact h1, ?_, ?_⟩
  · rw [bys_flip _ _ _ (by rw [h1]; exact hm), h2, e, sts_xor, sts_bit _ m (by omega), h1, Nat.xor_assoc, show 8 * l.length - (p + m) = 8 * l.length - p - m by omega]
  · intro h0
    rw [mod_succ, hb] at h0
    have := Nat.two_pow_pos m
    omega

theorem Pat.tells {l d : List Int} {p m pat : Nat} (h : Pat l d p m pat) (hpat : pat < 4294967296) : d = l ∨ sum d ≠ sum l := by
  obtain ⟨_, h2, h3⟩ := h
  by_cases h0 : pat % 2 ^ m = 0
  · exact .inl (h3 h0)
  · right
    unfold sum
    rw [h2]
    intro hs
    have h4 := congrArg (· ^^^ 4294967295) hs
    simp only [Nat.xor_assoc, Nat.xor_self, Nat.xor_zero] at h4
    have hle := Nat.mod_le pat (2 ^ m)
    exact xor_ne (fun e => h0 (sts_zero _ _ (by omega) e)) h4
end Go.Proofs.Ytmdbdfigpccbpab.Crc
