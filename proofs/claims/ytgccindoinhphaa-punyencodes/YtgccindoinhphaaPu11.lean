/- Punycode, plainly: thresholds, biases, digits, one number read and written, one step, a whole text read. Texts are lists of their bytes, sequences lists of their numbers. -/
import Derived.Test.YtgccindoinhphaaUtf
namespace Go.Proofs.Ytgccindoinhphaa
namespace Pu

/-- The threshold of the k-th digit. -/
def thr (k bias : Int) : Int := if 36 * k - bias < 1 then 1 else if 26 < 36 * k - bias then 26 else 36 * k - bias

theorem thr_bounds (k bias : Int) : 1 ≤ thr k bias ∧ thr k bias ≤ 26 := by unfold thr; split <;> (try split) <;> omega

def adE (d k : Int) : Int := k + 36 * d / (d + 38)
def adA : Nat → Int → Int → Int
  | 0, d, k => adE d k
  | f + 1, d, k => if 455 < d then adA f (d / 35) (k + 36) else adE d k

/-- What stands ahead of the loop. -/
def ad0 (delta points : Int) (first : Bool) : Int :=
  let d := (if delta < 0 then 0 else delta) / (if first then 700 else 2)
  d + d / (if points < 1 then 1 else points)

def adapt (delta points : Int) (first : Bool) : Int := adA 12 (ad0 delta points first) 0

theorem adA_big (f : Nat) (d k : Int) (h : 455 < d) : adA (f + 1) d k = adA f (d / 35) (k + 36) := by rw [adA, if_pos h]
theorem adA_end (f : Nat) (d k : Int) (h : ¬ 455 < d) : adA f d k = adE d k := by cases f with
  | zero => rfl
  | succ f => rw [adA, if_neg h]

theorem adE_bounds {d k : Int} (h0 : 0 ≤ d) (h1 : d ≤ 455) (hk : 0 ≤ k) : 0 ≤ adE d k ∧ adE d k ≤ k + 36 := by
  unfold adE
  have e1 : 0 ≤ 36 * d / (d + 38) := Int.ediv_nonneg (by omega) (by omega)
  have e2 : 36 * d / (d + 38) < 37 := Int.ediv_lt_of_lt_mul (by omega) (by omega)
  omega

def pow35 : Nat → Int
  | 0 => 455
  | f + 1 => 35 * pow35 f + 34

theorem adA_bounds (f : Nat) (d k : Int) (h0 : 0 ≤ d) (h1 : d ≤ pow35 f) (hk : 0 ≤ k) : 0 ≤ adA f d k ∧ adA f d k ≤ k + 36 * (f + 1) := by
  induction f generalizing d k with
  | zero => rw [adA]; have := adE_bounds h0 (by simpa [pow35] using h1) hk; omega
  | succ f ih =>
    rw [adA]
    split
    · have := ih (d / 35) (k + 36) (by omega) (by simp only [pow35] at h1; omega) (by omega)
      omega
    · have := adE_bounds h0 (by omega) hk; omega

theorem pow35_12 : (9223372036854775807 : Int) ≤ pow35 12 := by decide
theorem pow35_le (f : Nat) : pow35 f ≤ pow35 (f + 1) := by
  have h : 0 ≤ pow35 f := by induction f with
    | zero => decide
    | succ f ih => simp only [pow35]; omega
  simp only [pow35]; omega

theorem ad0_bounds {delta points : Int} {first : Bool} (h : delta ≤ 9223372036854775807) : 0 ≤ ad0 delta points first ∧ ad0 delta points first ≤ 9223372036854775806 := by
  unfold ad0
  have hd : 0 ≤ (if delta < 0 then 0 else delta) / (if first then 700 else 2) ∧ (if delta < 0 then 0 else delta) / (if first then 700 else 2) ≤ 4611686018427387903 := by
    cases first <;> simp <;> split <;> omega
  generalize (if delta < 0 then 0 else delta) / (if first then 700 else 2) = d at *
  have hp : 1 ≤ (if points < 1 then 1 else points) := by split <;> omega
  generalize (if points < 1 then 1 else points) = p at *
  have e1 : 0 ≤ d / p := Int.ediv_nonneg hd.1 (by omega)
  have e2 : d / p ≤ d := Int.ediv_le_self _ hd.1
  simp only
  omega

theorem adapt_bounds (delta points : Int) (first : Bool) (h : delta ≤ 9223372036854775807) : 0 ≤ adapt delta points first ∧ adapt delta points first ≤ 468 := by
  have h0 := ad0_bounds (points := points) (first := first) h
  have := adA_bounds 12 (ad0 delta points first) 0 h0.1 (by have := pow35_12; omega) (by omega)
  unfold adapt
  omega

/-- A digit's worth; -1: none. -/
def dig (b : Int) : Int := if 97 ≤ b ∧ b ≤ 122 then b - 97 else if 65 ≤ b ∧ b ≤ 90 then b - 65 else if 48 ≤ b ∧ b ≤ 57 then b - 48 + 26 else -1
theorem dig_le (b : Int) : -1 ≤ dig b ∧ dig b ≤ 35 := by unfold dig; split <;> (try split) <;> (try split) <;> omega

/-- A number read: its error, its value, what is left. -/
def rdN (bias : Int) : List Int → Int → Int → Int → Int × Int × List Int
  | [], _, _, _ => (112, 0, [])
  | z :: r, k, v, w => if dig z < 0 then (110, 0, []) else if dig z < thr k bias then (0, v + dig z * w, r) else
      rdN bias r (k + 1) (v + dig z * w) (if 2147483648 < w * (36 - thr k bias) then 2147483648 else w * (36 - thr k bias))

/-- A sequence that grows. -/
structure St where
  xs : List Int
  n : Int
  i : Int
  bias : Int
  first : Bool

def begin (xs : List Int) : St := ⟨xs, 128, 0, 72, true⟩
def ins (xs : List Int) (p : Nat) (c : Int) : List Int := xs.take p ++ c :: xs.drop p
def stepN (s : St) (d : Int) : Int := s.n + (s.i + d) / (s.xs.length + 1)
def stepP (s : St) (d : Int) : Int := (s.i + d) % (s.xs.length + 1)
def step (s : St) (d : Int) : St := ⟨ins s.xs (stepP s d).toNat (stepN s d), stepN s d, stepP s d + 1, adapt d (s.xs.length + 1) s.first, false⟩

/-- Numbers read, each a step. -/
def rdAll : Nat → List Int → St → List Int × Int
  | 0, _, s => (s.xs, 0)
  | f + 1, zs, s => if zs = [] then (s.xs, 0) else
      if (rdN s.bias zs 1 0 1).1 ≠ 0 then ([], (rdN s.bias zs 1 0 1).1) else
      if 2147483647 < (rdN s.bias zs 1 0 1).2.1 then ([], 113) else
      if ¬ Utf.okc (stepN s (rdN s.bias zs 1 0 1).2.1) then ([], 31) else
      rdAll f (rdN s.bias zs 1 0 1).2.2 (step s (rdN s.bias zs 1 0 1).2.1)

/-- The place of the last hyphen, or 0. -/
def lastH (zs : List Int) (k : Nat) (a : Nat) : Nat := match zs with
  | [] => a
  | z :: r => lastH r (k + 1) (if z = 45 then k else a)

def tail (zs : List Int) : List Int := if lastH zs 0 0 = 0 then zs else zs.drop (lastH zs 0 0 + 1)
def basicB (zs : List Int) : Bool := zs.all fun z => decide (z < 128)
def decode (zs : List Int) : List Int × Int :=
  if 65536 < zs.length then ([], 2) else if basicB zs = false then ([], 111) else rdAll zs.length (tail zs) (begin (zs.take (lastH zs 0 0)))
end Pu
end Go.Proofs.Ytgccindoinhphaa
