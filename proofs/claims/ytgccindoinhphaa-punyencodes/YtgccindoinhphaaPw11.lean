/- Punycode written, plainly, as the program goes: a number's digits, the tally, the points in their order. -/
import Derived.Test.YtgccindoinhphaaPuR11
namespace Go.Proofs.Ytgccindoinhphaa
open Go.RowKit
namespace Pu

def let1 (d : Int) : Int := if d < 26 then 97 + d else 48 + (d - 26)
/-- A number's digits. -/
def wrN (bias : Int) : Nat → Int → Int → List Int
  | 0, _, v => [let1 v]
  | f + 1, k, v => if v < thr k bias then [let1 v] else let1 (thr k bias + (v - thr k bias) % (36 - thr k bias)) :: wrN bias f (k + 1) ((v - thr k bias) / (36 - thr k bias))
def wrNum (v bias : Int) : List Int := wrN bias v.toNat 1 v

theorem let1_bounds {d : Int} (h0 : 0 ≤ d) (h1 : d ≤ 35) : 48 ≤ let1 d ∧ let1 d ≤ 122 := by unfold let1; split <;> omega

theorem wrN_last {bias : Int} {f : Nat} {k v : Int} (h : v < thr k bias) : wrN bias f k v = [let1 v] := by cases f with
  | zero => rfl
  | succ f => rw [wrN, if_pos h]
theorem wrN_more {bias : Int} {f : Nat} {k v : Int} (h : ¬ v < thr k bias) : wrN bias (f + 1) k v = let1 (thr k bias + (v - thr k bias) % (36 - thr k bias)) :: wrN bias f (k + 1) ((v - thr k bias) / (36 - thr k bias)) := by rw [wrN, if_neg h]

/-- The lowest bit of a number. -/
def lbi (j : Int) : Int := bits .and .i64 j (-j)
def lbOk : Nat → Bool
  | 0 => true
  | n + 1 => decide (1 ≤ lbi (n + 1) ∧ lbi (n + 1) ≤ n + 1) && lbOk n
theorem lbOk_all {n j : Nat} (h : lbOk n = true) (h1 : 1 ≤ j) (h2 : j ≤ n) : 1 ≤ lbi j ∧ lbi j ≤ j := by
  induction n with
  | zero => omega
  | succ n ih =>
    simp only [lbOk, Bool.and_eq_true, decide_eq_true_eq] at h
    rcases Nat.lt_or_ge n j with hj | hj
    · have : j = n + 1 := by omega
      subst this
      simpa using h.1
    · exact ih h.2 hj
theorem lbOk_2100 : lbOk 2100 = true := by decide +kernel
theorem lbi_bounds {j : Nat} (h1 : 1 ≤ j) (h2 : j ≤ 2100) : 1 ≤ lbi j ∧ lbi j ≤ j := lbOk_all lbOk_2100 h1 h2

def addF : Nat → List Int → Nat → List Int
  | 0, T, _ => T
  | f + 1, T, j => if j < T.length then addF f (T.set j (T.getD j 0 + 1)) (j + (lbi j).toNat) else T
def aheadF : Nat → List Int → Nat → Int → Int
  | 0, _, _, n => n
  | f + 1, T, j, n => if 0 < j then aheadF f T (j - (lbi j).toNat) (n + T.getD j 0) else n
def add (T : List Int) (p : Nat) : List Int := addF T.length T (p + 1)
def ahead (T : List Int) (p : Nat) : Int := aheadF p T p 0

theorem addF_len (f : Nat) (T : List Int) (j : Nat) : (addF f T j).length = T.length := by
  induction f generalizing T j with
  | zero => rfl
  | succ f ih =>
    rw [addF]; split
    · rw [ih]; simp
    · rfl
theorem add_len (T : List Int) (p : Nat) : (add T p).length = T.length := addF_len _ _ _

/-- Entries between 0 and k. -/
def Tb (k : Int) (T : List Int) : Prop := ∀ t ∈ T, 0 ≤ t ∧ t ≤ k
theorem Tb.at {k : Int} {T : List Int} (h : Tb k T) (hk : 0 ≤ k) (j : Nat) : 0 ≤ T.getD j 0 ∧ T.getD j 0 ≤ k := by
  rcases Nat.lt_or_ge j T.length with hj | hj
  · rw [List.getD, List.getElem?_eq_getElem hj]; exact h _ (List.getElem_mem hj)
  · rw [List.getD, List.getElem?_eq_none hj]; exact ⟨Int.le_refl 0, hk⟩

/-- The numbers of the points that are not below 80, in the order of their steps. -/
def wr2 (xs : List Int) : List Nat → List Int → Int → Int → Int → Int → Bool → List Int → List Int × Int
  | [], _, _, _, _, _, _, out => (out, 0)
  | c :: r, T, p, n, i, bias, first, out =>
    let d := (xs.getD c 0 - n) * (p + 1) + ahead T c - i
    if 2147483647 < d then ([], 113) else
      wr2 xs r (add T c) (p + 1) (n + (i + d) / (p + 1)) ((i + d) % (p + 1) + 1) (adapt d (p + 1) first) false (out ++ wrNum d bias)
def wr1 (xs : List Int) : List Nat → List Int → List Int → List Int × List Int
  | [], T, out => (T, out)
  | c :: r, T, out => wr1 xs r (add T c) (out ++ [xs.getD c 0])
def idx (xs : List Int) (q : Int → Bool) : List Nat := (List.range xs.length).filter fun k => q (xs.getD k 0)
def lowq (c : Int) : Bool := decide (c < 128)
/-- The text of a sound sequence, its other points in the order ord. -/
def write (xs : List Int) (ord : List Nat) : List Int × Int :=
  wr2 xs ord (wr1 xs (idx xs lowq) (List.replicate (xs.length + 1) 0) []).1 ((idx xs lowq).length : Int) 128 0 72 true
    ((wr1 xs (idx xs lowq) (List.replicate (xs.length + 1) 0) []).2 ++ if (idx xs lowq).length = 0 then [] else [45])
end Pu
end Go.Proofs.Ytgccindoinhphaa
