/- The check sum behind bytes: turned bits of bytes with their sum are told. Plain mathematics. -/
import Derived.Test.YtlmcmlbmnnjjpaaGreatDoorCrcM1
import Derived.Test.YtlmcmlbmnnjjpaaGreatDoorGn8
namespace Go.Proofs.YtlmcmlbmnnjjpaaGreatDoor.Wi.Crc
theorem away_far8 : away 40000 (st 1) = true := by decide +kernel
theorem sts_ne_one (d : Nat) (h0 : 1 ≤ d) (h1 : d ≤ 40000) : sts d 1 ≠ 1 := by
  have h := away_all 40000 (st 1) away_far8 (d - 1) (by omega)
  have e : d = (d - 1) + 1 := by omega
  rw [e, sts_add]
  exact h

theorem xor_eq_zero {a b : Nat} (h : a ^^^ b = 0) : a = b := by
  have := congrArg (· ^^^ b) h
  simp only [Nat.xor_assoc, Nat.xor_self, Nat.xor_zero, Nat.zero_xor] at this
  exact this

theorem two_unlike (n p q : Nat) (hp : p < q) (hq : q < n) (hn : n ≤ 40000) : sts (n - p) 1 ≠ sts (n - q) 1 := by
  intro h
  have e : n - p = (n - q) + (q - p) := by omega
  rw [e, sts_add] at h
  have h2 : sts (n - q) (sts (q - p) 1 ^^^ 1) = 0 := by rw [sts_xor, h, Nat.xor_self]
  have h3 := sts_zero _ _ (Nat.xor_lt_two_pow (n := 32) (sts_lt _ _ (by decide)) (by decide)) h2
  exact sts_ne_one (q - p) (by omega) (by omega) (xor_eq_zero h3)

/-- Bit p of the bytes l turned over. -/
def flipL (l : List Int) (p : Nat) : List Int := l.set (p / 8) (((l.getD (p / 8) 0).toNat ^^^ 2 ^ (p % 8) : Nat) : Int)

theorem flipL_length (l : List Int) (p : Nat) : (flipL l p).length = l.length := by simp [flipL]

theorem bys_xor (l : List Int) (x y : Nat) : bys (x ^^^ y) l = bys x l ^^^ sts (8 * l.length) y := by
  induction l generalizing x y with
  | nil => rfl
  | cons c r ih =>
    have e : by1 (x ^^^ y) c.toNat = by1 x c.toNat ^^^ sts 8 y := by
      unfold by1
      rw [Nat.xor_assoc, Nat.xor_comm y, ← Nat.xor_assoc, sts_xor]
    show bys (by1 (x ^^^ y) c.toNat) r = bys (by1 x c.toNat) r ^^^ _
    rw [e, ih, ← sts_add, List.length_cons]
    congr 2

theorem bys_flip (l : List Int) (r p : Nat) (hp : p < 8 * l.length) : bys r (flipL l p) = bys r l ^^^ sts (8 * l.length - p) 1 := by
  have hk : p / 8 < l.length := by omega
  have hj : p % 8 < 8 := Nat.mod_lt _ (by decide)
  have e1 : l = l.take (p / 8) ++ l[p / 8] :: l.drop (p / 8 + 1) := by rw [List.getElem_cons_drop, List.take_append_drop]
  have e2 : flipL l p = l.take (p / 8) ++ ((l[p / 8].toNat ^^^ 2 ^ (p % 8) : Nat) : Int) :: l.drop (p / 8 + 1) := by
    unfold flipL
    rw [List.set_eq_take_append_cons_drop, if_pos hk]
    simp [List.getD, hk]
  have e3 : ∀ (a b : List Int) (c : Int), bys r (a ++ c :: b) = bys (by1 (bys r a) c.toNat) b := by
    intro a b c
    rw [bys_append]; rfl
  have hb : ∀ R c : Nat, by1 R (c ^^^ 2 ^ (p % 8)) = by1 R c ^^^ sts (8 - p % 8) 1 := by
    intro R c
    unfold by1
    rw [← Nat.xor_assoc, sts_xor, sts_bit 8 (p % 8) (by omega)]
  rw [e2, e3, Int.toNat_natCast, hb, bys_xor, ← sts_add]
  conv => rhs; rw [e1, e3]
  congr 2
  rw [← e1, List.length_drop]
  omega

theorem xor_ne {x y : Nat} (h : y ≠ 0) : x ^^^ y ≠ x := by
  intro e
  have := congrArg (x ^^^ ·) e
  simp only [← Nat.xor_assoc, Nat.xor_self, Nat.zero_xor] at this
  exact h this

theorem odd_ne (y : Nat) (h : pr 32 y = true) : y ≠ 0 := by
  intro e
  subst e
  revert h
  decide

theorem one_flip (l : List Int) (i : Nat) (hi : i < 8 * l.length) : sum (flipL l i) ≠ sum l := by
  unfold sum
  rw [bys_flip l _ i hi]
  intro h
  have h2 := congrArg (· ^^^ 4294967295) h
  simp only [Nat.xor_assoc, Nat.xor_self, Nat.xor_zero] at h2
  exact xor_ne (odd_ne _ (by rw [pr_sts _ _ (by decide)]; exact pr_one)) h2

theorem two_flips (l : List Int) (i j : Nat) (hn : 8 * l.length ≤ 40000) (hi : i < 8 * l.length) (hj : j < 8 * l.length) (hij : i ≠ j) : sum (flipL (flipL l i) j) ≠ sum l := by
  unfold sum
  rw [bys_flip _ _ j (by rw [flipL_length]; exact hj), bys_flip l _ i hi, flipL_length]
  intro h
  have h2 := congrArg (· ^^^ 4294967295) h
  simp only [Nat.xor_assoc, Nat.xor_self, Nat.xor_zero] at h2
  refine xor_ne (fun e => ?_) h2
  have e2 := xor_eq_zero e
  rcases Nat.lt_or_ge i j with h3 | h3
  · exact two_unlike _ i j h3 hj hn e2
  · exact two_unlike _ j i (by omega) hi hn e2.symm

theorem three_flips (l : List Int) (i j k : Nat) (hi : i < 8 * l.length) (hj : j < 8 * l.length) (hk : k < 8 * l.length) : sum (flipL (flipL (flipL l i) j) k) ≠ sum l := by
  unfold sum
  rw [bys_flip _ _ k (by rw [flipL_length, flipL_length]; exact hk), bys_flip _ _ j (by rw [flipL_length]; exact hj), bys_flip l _ i hi, flipL_length, flipL_length]
  intro h
  have h2 := congrArg (· ^^^ 4294967295) h
  simp only [Nat.xor_assoc, Nat.xor_self, Nat.xor_zero] at h2
  refine xor_ne (odd_ne _ ?_) h2
  rw [pr_xor, pr_xor, pr_sts _ _ (by decide), pr_sts _ _ (by decide), pr_sts _ _ (by decide), pr_one]
  rfl

/-- What is behind m rounds over a pattern. -/
def Pat (l d : List Int) (p m pat : Nat) : Prop :=
  d.length = l.length ∧ bys 4294967295 d = bys 4294967295 l ^^^ sts (8 * l.length - p) (pat % 2 ^ m) ∧ (pat % 2 ^ m = 0 → d = l)

theorem Pat.zero (l : List Int) (p pat : Nat) : Pat l l p 0 pat := by
  refine ⟨rfl, ?_, fun _ => rfl⟩
  have h0 : ∀ k, sts k 0 = 0 := by
    intro k
    induction k with
    | zero => rfl
    | succ k ih => simp only [sts, ih]; rfl
  rw [Nat.pow_zero, Nat.mod_one, h0, Nat.xor_zero]

theorem mod_succ (pat m : Nat) : pat % 2 ^ (m + 1) = pat % 2 ^ m + 2 ^ m * (pat / 2 ^ m % 2) := by
  rw [Nat.pow_succ, Nat.mod_mul]

theorem Pat.skip {l d : List Int} {p m pat : Nat} (h : Pat l d p m pat) (hb : pat / 2 ^ m % 2 = 0) : Pat l d p (m + 1) pat := by
  have e : pat % 2 ^ (m + 1) = pat % 2 ^ m := by rw [mod_succ, hb]; omega
  unfold Pat
  rw [e]; exact h

theorem Pat.turn {l d : List Int} {p m pat : Nat} (h : Pat l d p m pat) (hb : pat / 2 ^ m % 2 = 1) (hm : p + m < 8 * l.length) : Pat l (flipL d (p + m)) p (m + 1) pat := by
  obtain ⟨h1, h2, _⟩ := h
  have e : pat % 2 ^ (m + 1) = pat % 2 ^ m ^^^ 2 ^ m := by
    rw [mod_succ, hb, Nat.mul_one]
    have := Nat.two_pow_add_eq_or_of_lt (Nat.mod_lt pat (Nat.two_pow_pos m)) 1
    rw [Nat.mul_one] at this
    rw [Nat.add_comm, this]
    have hlt := Nat.mod_lt pat (Nat.two_pow_pos m)
    generalize pat % 2 ^ m = x at *
    apply Nat.eq_of_testBit_eq
    intro i
    rw [Nat.testBit_or, Nat.testBit_xor, Nat.testBit_two_pow]
    by_cases him : m = i
    · subst him
      rw [Nat.testBit_lt_two_pow hlt]
      simp
    · simp [him]
  refine ⟨by rw [flipL_length]; exact h1, ?_, ?_⟩
  · rw [bys_flip _ _ _ (by rw [h1]; exact hm), h2, e, sts_xor, sts_bit _ m (by omega), h1, Nat.xor_assoc, show 8 * l.length - (p + m) = 8 * l.length - p - m by omega]
  · intro h0
    rw [mod_succ, hb] at h0
    have := Nat.two_pow_pos m
    omega

theorem Pat.tells {l d : List Int} {p m pat : Nat} (h : Pat l d p m pat) (hpat : pat < 4294967296) : d = l ∨ sum d ≠ sum l := by
  obtain ⟨_, h2, h3⟩ := h
  by_cases h0 : pat % 2 ^ m = 0
  · exact .inl (h3 h0)
  · right
    unfold sum
    rw [h2]
    intro hs
    have h4 := congrArg (· ^^^ 4294967295) hs
    simp only [Nat.xor_assoc, Nat.xor_self, Nat.xor_zero] at h4
    have hle := Nat.mod_le pat (2 ^ m)
    exact xor_ne (fun e => h0 (sts_zero _ _ (by omega) e)) h4

theorem low_off (s : Nat) : s ^^^ s % 256 = s / 256 * 256 := by
  have e : s / 256 * 256 = (s >>> 8) <<< 8 := by rw [Nat.shiftLeft_eq, Nat.shiftRight_eq_div_pow]
  rw [e]
  apply Nat.eq_of_testBit_eq
  intro i
  rw [Nat.testBit_xor, show (256 : Nat) = 2 ^ 8 from rfl, Nat.testBit_mod_two_pow, Nat.testBit_shiftLeft, Nat.testBit_shiftRight]
  by_cases h : i < 8
  · simp [h]
    intro h9; omega
  · have h2 : 8 ≤ i := by omega
    simp [h, h2]
theorem sts_shift (m x : Nat) : sts m (x * 2 ^ m) = x := by
  induction m with
  | zero => simp [sts]
  | succ m ih =>
    have h1 : sts 1 (x * 2 ^ (m + 1)) = x * 2 ^ m := by
      show st (x * 2 ^ (m + 1)) = _
      have e : x * 2 ^ (m + 1) = x * 2 ^ m * 2 := by rw [Nat.pow_succ, Nat.mul_assoc]
      rw [st_even _ (by omega)]; omega
    have h : sts (m + 1) (x * 2 ^ (m + 1)) = sts m (sts 1 (x * 2 ^ (m + 1))) := sts_add m 1 _
    rw [h, h1, ih]
/-- A byte of the sum more. -/
theorem by1_sum (X s : Nat) : by1 (X ^^^ s) (s % 256) = sts 8 X ^^^ s / 256 := by
  unfold by1
  rw [Nat.xor_assoc, low_off, sts_xor, sts_shift 8 (s / 256)]
/-- The sum's four bytes bring the register to one and the same number. -/
theorem bys_le4 (X s : Nat) (hs : s < 4294967296) : bys (X ^^^ s) (Pk.le4 s) = sts 32 X := by
  have e : bys (X ^^^ s) (Pk.le4 s) = by1 (by1 (by1 (by1 (X ^^^ s) (s % 256)) (s / 256 % 256)) (s / 65536 % 256)) (s / 16777216 % 256) := rfl
  rw [e, by1_sum, by1_sum, show s / 65536 = s / 256 / 256 by omega, by1_sum, show s / 16777216 = s / 256 / 256 / 256 by omega, by1_sum, show s / 256 / 256 / 256 / 256 = 0 by omega, Nat.xor_zero, ← sts_add, ← sts_add, ← sts_add]
theorem bys_sealed {zs : List Int} {n : Nat} (hb : ∀ z ∈ zs, 0 ≤ z ∧ z ≤ 255) (h : zs.drop n = Pk.sum4 (zs.take n)) : bys 4294967295 zs = sts 32 4294967295 := by
  have hs : sum (zs.take n) < 4294967296 := sum_lt _ (fun z hz => hb z (List.mem_of_mem_take hz))
  have e : zs = zs.take n ++ Pk.le4 (sum (zs.take n)) := by
    have : Pk.sum4 (zs.take n) = Pk.le4 (sum (zs.take n)) := rfl
    rw [← this, ← h, List.take_append_drop]
  have h2 : bys 4294967295 (zs.take n) = 4294967295 ^^^ sum (zs.take n) := by
    unfold sum
    rw [Nat.xor_comm (bys 4294967295 (zs.take n)), ← Nat.xor_assoc, Nat.xor_self, Nat.zero_xor]
  generalize zs.take n = m at *
  rw [e, bys_append, h2, bys_le4 _ _ hs]
/-- Two rows of bytes of one length, each with its sum behind it, have one sum. -/
theorem sum_sealed {zs ys : List Int} {n m : Nat} (hz : ∀ z ∈ zs, 0 ≤ z ∧ z ≤ 255) (hy : ∀ z ∈ ys, 0 ≤ z ∧ z ≤ 255) (h : zs.drop n = Pk.sum4 (zs.take n)) (k : ys.drop m = Pk.sum4 (ys.take m)) : sum zs = sum ys := by
  unfold sum
  rw [bys_sealed hz h, bys_sealed hy k]
end Go.Proofs.YtlmcmlbmnnjjpaaGreatDoor.Wi.Crc
