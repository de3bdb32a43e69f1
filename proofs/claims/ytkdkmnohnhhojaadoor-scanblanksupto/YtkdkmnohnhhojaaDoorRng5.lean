/- Runes of a string by their bytes; runs of signs that are no blanks. -/
import Derived.Test.YtkdkmnohnhhojaaDoorScl
import Derived.Test.YtkdkmnohnhhojaaDoorStr5
import Derived.Lib.OthersKept
import Derived.Lib.DecodeN
namespace Go.Proofs.YtkdkmnohnhhojaaDoor
open Go.RowKit

theorem get_num (s : ByteArray) (k : Nat) : (((s.get! k).toNat : Nat) : Int) = (nums s).getD k 0 := by
  rcases Nat.lt_or_ge k s.size with h | h
  · rw [← nums_at s k h]
    have e : s.get! k = s[k]'h := by
      simp [ByteArray.get!, getElem!_pos, h]
      rfl
    rw [e]
  · have h2 : ¬ k < s.data.size := by have : s.size = s.data.size := rfl; omega
    have e : s.get! k = default := by
      simp only [ByteArray.get!]
      exact getElem!_neg s.data k h2
    rw [e, List.getD, List.getElem?_eq_none (by rw [nums_length]; exact h)]
    rfl
theorem dec_low (s : ByteArray) (pos : Nat) (h : pos < s.size) (ha : (nums s).getD pos 0 < 128) : ((Utf8.decode s pos).1 : Int) = (nums s).getD pos 0 ∧ (Utf8.decode s pos).2 = 1 := by
  have e := nums_at s pos h
  rw [decode_ascii s pos h (by omega)]
  exact ⟨by omega, rfl⟩
theorem dec_high (s : ByteArray) (pos : Nat) (h : pos < s.size) (ha : 128 ≤ (nums s).getD pos 0) :
    128 ≤ ((Utf8.decode s pos).1 : Int) ∧ 1 ≤ (Utf8.decode s pos).2 ∧ pos + (Utf8.decode s pos).2 ≤ s.size ∧ ∀ j, pos ≤ j → j < pos + (Utf8.decode s pos).2 → 128 ≤ (nums s).getD j 0 := by
  have e := nums_at s pos h
  obtain ⟨h1, h2⟩ := decode_high s pos h (by omega)
  refine ⟨by omega, h2, ?_⟩
  have g0 := get_num s pos
  have g1 := get_num s (pos + 1)
  have g2 := get_num s (pos + 2)
  have g3 := get_num s (pos + 3)
  rw [Lib.decode_at]
  generalize (s.get! pos).toNat = b0 at *
  generalize (s.get! (pos + 1)).toNat = b1 at *
  generalize (s.get! (pos + 2)).toNat = b2 at *
  generalize (s.get! (pos + 3)).toNat = b3 at *
  have key : ∀ n, (n = 1 ∨ (n = 2 ∧ 1 < s.size - pos ∧ b1 / 64 = 2) ∨ (n = 3 ∧ 2 < s.size - pos ∧ b1 / 64 = 2 ∧ b2 / 64 = 2) ∨ (n = 4 ∧ 3 < s.size - pos ∧ b1 / 64 = 2 ∧ b2 / 64 = 2 ∧ b3 / 64 = 2)) → pos + n ≤ s.size ∧ ∀ j, pos ≤ j → j < pos + n → 128 ≤ (nums s).getD j 0 := by
    intro n hn
    refine ⟨by omega, fun j j1 j2 => ?_⟩
    obtain rfl | rfl | rfl | rfl : j = pos ∨ j = pos + 1 ∨ j = pos + 2 ∨ j = pos + 3 := by omega
    · exact ha
    · omega
    · omega
    · omega
  apply key
  unfold Lib.decodeN
  repeat' split
  all_goals simp_all
theorem dec_top (s : ByteArray) (pos : Nat) : ((Utf8.decode s pos).1 : Int) ≤ 2147483647 := by
  have := decode_le s pos
  omega
namespace Scn
theorem endA_run {l : List Int} {k n : Nat} (h : ∀ j, k ≤ j → j < k + n → l.getD j 0 ≠ 35) (hl : k + n ≤ l.length) : endA (l.drop k) = n + endA (l.drop (k + n)) := by
  induction n generalizing k with
  | zero => simp
  | succ n ih =>
    rw [endA_step (by omega), if_neg (h k (by omega) (by omega)), ih (k := k + 1) (fun j a b => h j (by omega) (by omega)) (by omega), show k + 1 + n = k + (n + 1) by omega]
    omega
theorem wordsA_run {l : List Int} {a k n : Nat} (ha : a ≤ k) (h : ∀ j, k ≤ j → j < k + n → isBlank (l.getD j 0) = false) (hl : k + n ≤ l.length) :
    wordsA k (cut l a k) (l.drop k) = wordsA (k + n) (cut l a (k + n)) (l.drop (k + n)) := by
  induction n generalizing k with
  | zero => simp
  | succ n ih =>
    rw [wordsA_go ha (by omega) (h k (by omega) (by omega)), ih (k := k + 1) (by omega) (fun j a b => h j (by omega) (by omega)) (by omega), show k + 1 + n = k + (n + 1) by omega]
theorem isBlank_high {c : Int} (h : 128 ≤ c) : isBlank c = false := by
  unfold isBlank
  rw [beq_eq_false_iff_ne.2 (by omega : c ≠ 32), beq_eq_false_iff_ne.2 (by omega : c ≠ 9), beq_eq_false_iff_ne.2 (by omega : c ≠ 13)]
  rfl
end Scn
end Go.Proofs.YtkdkmnohnhhojaaDoor
