/- The check sum: plain mathematics of the register. -/
namespace Go.Proofs.Ytmdbdfigpccbpaa.Crc

/-- The register one bit on. -/
def st (r : Nat) : Nat := if r % 2 = 1 then (r / 2) ^^^ 2197175160 else r / 2

/-- k bits on. -/
def sts : Nat → Nat → Nat
  | 0, r => r
  | k + 1, r => st (sts k r)

/-- A byte more. -/
def by1 (r c : Nat) : Nat := sts 8 (r ^^^ c)

/-- Bytes more. -/
def bys (r : Nat) (l : List Int) : Nat := l.foldl (fun r c => by1 r c.toNat) r

/-- The sum. -/
def sum (l : List Int) : Nat := bys 4294967295 l ^^^ 4294967295

theorem st_lt (r : Nat) (h : r < 4294967296) : st r < 4294967296 := by
  unfold st
  split
  · exact Nat.xor_lt_two_pow (n := 32) (by omega) (by decide)
  · omega
theorem sts_lt (k r : Nat) (h : r < 4294967296) : sts k r < 4294967296 := by
  induction k with
  | zero => exact h
  | succ k ih => exact st_lt _ ih
theorem by1_lt (r c : Nat) (h : r < 4294967296) (hc : c < 256) : by1 r c < 4294967296 :=
  sts_lt 8 _ (Nat.xor_lt_two_pow (n := 32) h (by omega))
theorem bys_lt (l : List Int) (r : Nat) (h : r < 4294967296) (hl : ∀ z ∈ l, 0 ≤ z ∧ z ≤ 255) : bys r l < 4294967296 := by
  induction l generalizing r with
  | nil => exact h
  | cons c l ih =>
    have hc := hl c (by simp)
    exact ih _ (by1_lt r c.toNat h (by omega)) (fun z hz => hl z (by simp [hz]))
theorem sum_lt (l : List Int) (hl : ∀ z ∈ l, 0 ≤ z ∧ z ≤ 255) : sum l < 4294967296 :=
  Nat.xor_lt_two_pow (n := 32) (bys_lt l _ (by decide) hl) (by decide)
theorem bys_append (r : Nat) (l m : List Int) : bys r (l ++ m) = bys (bys r l) m := by
  simp [bys]
theorem bys_snoc (r : Nat) (l : List Int) (c : Int) : bys r (l ++ [c]) = by1 (bys r l) c.toNat := by
  simp [bys]
end Go.Proofs.Ytmdbdfigpccbpaa.Crc
