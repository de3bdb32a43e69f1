/- Lines and words, as plain functions. -/
import Derived.Test.YtkdkmnohnhhojaaDoorScp
namespace Go.Proofs.YtkdkmnohnhhojaaDoor.Scn

def linesA : List Int → List Int → List (List Int)
  | cur, [] => if cur = [] then [] else [cur]
  | cur, c :: r => if c = 10 then cur :: linesA [] r else linesA (cur ++ [c]) r
/-- The lines of a text. -/
def lines (l : List Int) : List (List Int) := linesA [] l
/-- A piece of a list. -/
def cut (l : List Int) (a b : Nat) : List Int := (l.drop a).take (b - a)
theorem cut_same (l : List Int) (a : Nat) : cut l a a = [] := by simp [cut]
theorem cut_snoc {l : List Int} {a k : Nat} (h1 : a ≤ k) (h2 : k < l.length) : cut l a (k + 1) = cut l a k ++ [l.getD k 0] := by
  unfold cut
  rw [show k + 1 - a = (k - a) + 1 by omega, List.take_add_one]
  congr 1
  rw [List.getElem?_drop, show a + (k - a) = k by omega]
  simp [List.getD, h2]
theorem cut_length {l : List Int} {a b : Nat} (h1 : a ≤ b) (h2 : b ≤ l.length) : (cut l a b).length = b - a := by
  simp [cut]; omega
theorem linesA_step {l : List Int} {cur : List Int} {k : Nat} (hk : k < l.length) : linesA cur (l.drop k) = if l.getD k 0 = 10 then cur :: linesA [] (l.drop (k + 1)) else linesA (cur ++ [l.getD k 0]) (l.drop (k + 1)) := by
  rw [List.drop_eq_getElem_cons hk, linesA]
  simp [List.getD, hk]

def isBlank (c : Int) : Bool := c == 32 || c == 9 || c == 13
/-- Where the remark of a line begins, or its end. -/
def endA : List Int → Nat
  | [] => 0
  | c :: r => if c = 35 then 0 else endA r + 1
/-- The words of what lies ahead of the remark: cur is a word that goes on, at its place. -/
def wordsA : Nat → List Int → List Int → List (List Int × Nat)
  | k, cur, [] => if cur = [] then [] else [(cur, k - cur.length)]
  | k, cur, c :: r => if isBlank c then (if cur = [] then wordsA (k + 1) [] r else (cur, k - cur.length) :: wordsA (k + 1) [] r) else wordsA (k + 1) (cur ++ [c]) r
/-- The words of a line, and where they end. -/
def words (l : List Int) : List (List Int × Nat) := wordsA 0 [] (l.take (endA l))
theorem wordsA_step {l : List Int} {cur : List Int} {k j : Nat} (hk : k < l.length) : wordsA j cur (l.drop k) = if isBlank (l.getD k 0) then (if cur = [] then wordsA (j + 1) [] (l.drop (k + 1)) else (cur, j - cur.length) :: wordsA (j + 1) [] (l.drop (k + 1))) else wordsA (j + 1) (cur ++ [l.getD k 0]) (l.drop (k + 1)) := by
  rw [List.drop_eq_getElem_cons hk, wordsA]
  simp [List.getD, hk]
theorem endA_step {l : List Int} {k : Nat} (hk : k < l.length) : endA (l.drop k) = if l.getD k 0 = 35 then 0 else endA (l.drop (k + 1)) + 1 := by
  rw [List.drop_eq_getElem_cons hk, endA]
  simp [List.getD, hk]
theorem endA_le (l : List Int) : endA l ≤ l.length := by
  induction l with
  | nil => simp [endA]
  | cons c r ih => rw [endA]; split <;> simp; omega
theorem take_at {l : List Int} {e k : Nat} (h : k < e) : (l.take e).getD k 0 = l.getD k 0 := by
  simp [List.getD, List.getElem?_take_of_lt h]
theorem cut_take {l : List Int} {a k e : Nat} (h : k ≤ e) : cut (l.take e) a k = cut l a k := by
  unfold cut
  rw [List.drop_take, List.take_take, Nat.min_eq_left (by omega)]
/-- A blank ahead of a word. -/
theorem wordsA_blank {l : List Int} {k : Nat} (hk : k < l.length) (h : isBlank (l.getD k 0) = true) : wordsA k [] (l.drop k) = wordsA (k + 1) [] (l.drop (k + 1)) := by
  rw [wordsA_step hk, if_pos h, if_pos rfl]
/-- A sign of a word. -/
theorem wordsA_go {l : List Int} {a k : Nat} (ha : a ≤ k) (hk : k < l.length) (h : isBlank (l.getD k 0) = false) : wordsA k (cut l a k) (l.drop k) = wordsA (k + 1) (cut l a (k + 1)) (l.drop (k + 1)) := by
  rw [wordsA_step hk, if_neg (by rw [h]; exact Bool.false_ne_true), cut_snoc ha hk]
/-- A word's end. -/
theorem wordsA_done {l : List Int} {a k : Nat} (ha : a < k) (hk : k ≤ l.length) (h : k < l.length → isBlank (l.getD k 0) = true) : wordsA k (cut l a k) (l.drop k) = (cut l a k, a) :: wordsA k [] (l.drop k) := by
  have hl := cut_length (l := l) (a := a) (b := k) (by omega) hk
  have hne : ¬ cut l a k = [] := fun e => by rw [e] at hl; simp at hl; omega
  rcases Nat.lt_or_ge k l.length with h1 | h1
  · rw [wordsA_blank h1 (h h1), wordsA_step h1, if_pos (h h1), if_neg hne, hl, show k - (k - a) = a by omega]
  · rw [List.drop_eq_nil_of_le h1, wordsA, wordsA, if_neg hne, if_pos rfl, hl, show k - (k - a) = a by omega]
end Go.Proofs.YtkdkmnohnhhojaaDoor.Scn
