/- What scan writes, as plain functions. -/
import Derived.Test.YtkdkmnohnhhojaaDoorScn
namespace Go.Proofs.YtkdkmnohnhhojaaDoor.Scn

def hexc (d : Int) : Int := if d < 10 then 48 + d else 55 + d
def hexW : Nat → Int → List Int → List Int
  | 0, _, a => a
  | f + 1, n, a => if 0 < n ∨ a = [] then hexW f (n / 16) (hexc (n % 16) :: a) else a
/-- How a code point is written. -/
def pcode (c : Int) : List Int := if c < 0 ∨ 1114111 < c then [] else hexW 8 c []
def decW : Nat → Int → List Int → List Int
  | 0, _, a => a
  | f + 1, n, a => if 0 < n then decW f (n / 10) ((48 + n % 10) :: a) else a
/-- How a whole number is written. -/
def pwhole (n : Int) : List Int := if n = 0 then [48] else if n < 0 then 45 :: decW 20 (-n) [] else decW 20 n []
/-- How two code points are written. -/
def pspan (a b : Int) : List Int := if a = b then pcode a else if a < 0 ∨ b < a ∨ 1114111 < b then [] else pcode a ++ [46, 46] ++ pcode b
theorem hexW_length (f : Nat) (n : Int) (a : List Int) : (hexW f n a).length ≤ f + a.length := by
  induction f generalizing n a with
  | zero => simp [hexW]
  | succ f ih =>
    rw [hexW]
    split
    · have := ih (n / 16) (hexc (n % 16) :: a)
      rw [List.length_cons] at this
      omega
    · omega
theorem pcode_length (c : Int) : (pcode c).length ≤ 8 := by
  unfold pcode
  split
  · simp
  · exact hexW_length 8 c []
theorem decW_length (f : Nat) (n : Int) (a : List Int) : (decW f n a).length ≤ f + a.length := by
  induction f generalizing n a with
  | zero => simp [decW]
  | succ f ih =>
    rw [decW]
    split
    · have := ih (n / 10) ((48 + n % 10) :: a)
      rw [List.length_cons] at this
      omega
    · omega
theorem pwhole_length (n : Int) : (pwhole n).length ≤ 21 := by
  unfold pwhole
  split
  · simp
  · split
    · have := decW_length 20 (-n) []
      rw [List.length_cons]
      simp at this
      omega
    · have := decW_length 20 n []
      simp at this
      omega
theorem pspan_length (a b : Int) : (pspan a b).length ≤ 18 := by
  have := pcode_length a
  have := pcode_length b
  unfold pspan
  split
  · omega
  · split
    · simp
    · simp only [List.length_append, List.length_cons, List.length_nil]; omega
end Go.Proofs.YtkdkmnohnhhojaaDoor.Scn
