/- The plain mathematics of numbers as bytes: nothing of the program is imported here. -/
namespace Go.Proofs.Ytmdbdfigpccbpaa.Ref

/-- How many bytes the number at the head of a list takes, and the error, i bytes being behind. -/
def num : Nat → List Int → Nat × Int
  | _, [] => (0, 10)
  | i, c :: r => if 128 ≤ c then (if i + 1 = 9 then (0, 11) else num (i + 1) r) else if c = 0 ∧ 0 < i then (0, 12) else (i + 1, 0)

/-- The number of a list of groups. -/
def val : List Int → Int
  | [] => 0
  | c :: r => c % 128 + 128 * val r

/-- ReadUint. -/
def rd (zs : List Int) (at_ : Int) : Int × Int × Int :=
  if at_ < 0 ∨ (zs.length : Int) < at_ then (0, 0, 1)
  else if (num 0 (zs.drop at_.toNat)).2 = 0 then (val ((zs.drop at_.toNat).take (num 0 (zs.drop at_.toNat)).1), at_ + (num 0 (zs.drop at_.toNat)).1, 0)
  else (0, 0, (num 0 (zs.drop at_.toNat)).2)

/-- Uint, with fuel. -/
def ub : Nat → Int → List Int
  | 0, n => [n]
  | f + 1, n => if n < 128 then [n] else (n % 128 + 128) :: ub f (n / 128)

/-- Uint. -/
def uint (n : Int) : List Int := if n < 0 then [] else ub 8 n

theorem num_le (zs : List Int) (i : Nat) : (num i zs).1 ≤ i + zs.length := by
  induction zs generalizing i with
  | nil => simp [num]
  | cons c r ih =>
    have := ih (i + 1)
    simp only [num, List.length_cons]
    split
    · split
      · simp
      · omega
    · split
      · simp
      · simp only; omega

theorem num_bytes (zs : List Int) (i : Nat) (hi : i ≤ 8) : (num i zs).1 ≤ 9 ∧ ((num i zs).2 = 0 → i < (num i zs).1) ∧ ((num i zs).2 ≠ 0 → (num i zs).1 = 0) := by
  induction zs generalizing i with
  | nil => simp [num]
  | cons c r ih =>
    simp only [num]
    split
    · split
      · simp
      · have := ih (i + 1) (by omega)
        exact ⟨this.1, fun h => by have := this.2.1 h; omega, this.2.2⟩
    · split
      · simp
      · simp only
        omega
end Go.Proofs.Ytmdbdfigpccbpaa.Ref
