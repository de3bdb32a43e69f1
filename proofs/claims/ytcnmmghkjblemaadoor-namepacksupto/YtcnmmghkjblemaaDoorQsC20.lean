/- A row's part turned about. -/
import Derived.Test.YtcnmmghkjblemaaDoorQsB20
namespace Go.Proofs.YtcnmmghkjblemaaDoor
open Go.RowKit

theorem swR_at {l : List Nat} {a c k : Nat} (h1 : a + k ≤ c) (h2 : c + k ≤ l.length) (m : Nat) : (swR l a c k).getD m 0 = if a ≤ m ∧ m < a + k then l.getD (m - a + c) 0 else if c ≤ m ∧ m < c + k then l.getD (m - c + a) 0 else l.getD m 0 := by
  induction k generalizing m with
  | zero => rw [swR, if_neg (by omega), if_neg (by omega)]
  | succ k ih =>
    rw [swR, Pu.swapL_at (by rw [swR_len]; omega) (by rw [swR_len]; omega)]
    rw [ih (by omega) (by omega), ih (by omega) (by omega), ih (by omega) (by omega)]
    by_cases e1 : m = c + k
    · subst e1
      rw [if_pos rfl, if_neg (by omega), if_neg (by omega), if_neg (by omega), if_pos (by omega)]
      congr 1; omega
    · rw [if_neg e1]
      by_cases e2 : m = a + k
      · subst e2
        rw [if_pos rfl, if_neg (by omega), if_neg (by omega), if_pos (by omega)]
        congr 1; omega
      · rw [if_neg e2]
        by_cases e3 : a ≤ m ∧ m < a + k
        · rw [if_pos e3, if_pos (by omega)]
        · by_cases e4 : c ≤ m ∧ m < c + k
          · rw [if_neg e3, if_pos e4, if_neg (show ¬ (a ≤ m ∧ m < a + (k + 1)) by omega), if_pos (show c ≤ m ∧ m < c + (k + 1) by omega)]
          · rw [if_neg e3, if_neg e4, if_neg (show ¬ (a ≤ m ∧ m < a + (k + 1)) by omega), if_neg (show ¬ (c ≤ m ∧ m < c + (k + 1)) by omega)]
theorem swR_perm {l : List Nat} {a c k : Nat} (h1 : a + k ≤ c) (h2 : c + k ≤ l.length) : (swR l a c k).Perm l := by
  induction k with
  | zero => exact List.Perm.refl _
  | succ k ih =>
    rw [swR]
    exact (Pu.swapL_perm (by rw [swR_len]; omega) (by rw [swR_len]; omega)).trans (ih (by omega) (by omega))

/-- The part from a to c turned about at m. -/
def rotAt (l : List Nat) (a m c k : Nat) : Nat := if a ≤ k ∧ k < c then (if k < a + (c - m) then l.getD (k + (m - a)) 0 else l.getD (k - (c - m)) 0) else l.getD k 0

theorem rot_more {l : List Nat} {m i j : Nat} (hi : i ≤ m) (hj : m + j ≤ l.length) (hij : j < i) (k : Nat) : rotAt l (m - i) m (m + j) k = rotAt (swR l (m - i) m j) (m - (i - j)) m (m + j) k := by
  unfold rotAt
  rw [swR_at (by omega) hj, swR_at (by omega) hj, swR_at (by omega) hj]
  by_cases e1 : m - i ≤ k ∧ k < m + j
  · rw [if_pos e1]
    by_cases e2 : k < m - i + (m + j - m)
    · rw [if_pos e2, if_neg (by omega), if_pos (by omega)]; congr 1; omega
    · rw [if_neg e2, if_pos (by omega)]
      by_cases e3 : k < m - (i - j) + (m + j - m)
      · rw [if_pos e3]
        by_cases e4 : k + (m - (m - (i - j))) < m
        · rw [if_neg (by omega), if_neg (by omega)]; congr 1; omega
        · rw [if_neg (by omega), if_pos (by omega)]; congr 1; omega
      · rw [if_neg e3, if_neg (by omega), if_neg (by omega)]
  · rw [if_neg e1, if_neg (by omega), if_neg (by omega), if_neg (by omega)]
theorem rot_less {l : List Nat} {m i j : Nat} (hi : i ≤ m) (hj : m + j ≤ l.length) (hij : i < j) (k : Nat) : rotAt l (m - i) m (m + j) k = rotAt (swR l (m - i) (m + j - i) i) (m - i) m (m + (j - i)) k := by
  unfold rotAt
  rw [swR_at (by omega) (by omega), swR_at (by omega) (by omega), swR_at (by omega) (by omega)]
  by_cases e1 : m - i ≤ k ∧ k < m + j
  · rw [if_pos e1]
    by_cases e2 : k < m - i + (m + j - m)
    · rw [if_pos e2, if_pos (by omega)]
      by_cases e3 : k < m - i + (m + (j - i) - m)
      · rw [if_pos e3, if_neg (by omega), if_neg (by omega)]
      · rw [if_neg e3, if_pos (by omega)]; congr 1; omega
    · rw [if_neg e2, if_neg (by omega), if_neg (by omega), if_pos (by omega)]; congr 1; omega
  · rw [if_neg e1, if_neg (by omega), if_neg (by omega), if_neg (by omega)]
theorem rot_same {l : List Nat} {m i : Nat} (hi : i ≤ m) (hj : m + i ≤ l.length) (k : Nat) : rotAt l (m - i) m (m + i) k = (swR l (m - i) m i).getD k 0 := by
  unfold rotAt
  rw [swR_at (by omega) hj]
  by_cases e1 : m - i ≤ k ∧ k < m + i
  · rw [if_pos e1]
    by_cases e2 : k < m - i + (m + i - m)
    · rw [if_pos e2, if_pos (by omega)]; congr 1; omega
    · rw [if_neg e2, if_neg (by omega), if_pos (by omega)]; congr 1; omega
  · rw [if_neg e1, if_neg (by omega), if_neg (by omega)]

def RotP (b B g n cap : Nat) (xv : Nat → ByteArray) (xs : List Int) (w0 w1 : World) (l : List Nat) (a m c : Nat) (e : Ending) (w' : World) : Prop :=
  e = .returned (.tuple #[]) ∧ ∃ l', Sr b B g n cap xv xs w0 w1 l' w' ∧ l'.Perm l ∧ ∀ k, l'.getD k 0 = rotAt l a m c k

set_option maxHeartbeats 4000000 in
theorem rotate_any {b B g n cap : Nat} {xv : Nat → ByteArray} {xs : List Int} {w0 w1 w : World} {l : List Nat} (h : Sr b B g n cap xv xs w0 w1 l w) (a m c : Nat) (fv : Value) (h1 : a < m) (h2 : m < c) (h3 : c ≤ n) (hn : n ≤ 100000) :
    Calls Tryd.prog 76 #[.slice (some ⟨g, 0, none⟩) n cap, .int .i64 a, .int .i64 m, .int .i64 c, fv] w (RotP b B g n cap xv xs w0 w1 l a m c) := by
  have hcap := h.caps
  have H := hide h
  clear h
  go_enter Tryd.func76, Tryd.ntmps76
  go_wp2
  go_loopw [10, 11] (fun ii jj wr => ∃ (i j : Nat) (l' : List Nat), ii = .int .i64 i ∧ jj = .int .i64 j ∧ 1 ≤ i ∧ 1 ≤ j ∧ i ≤ m - a ∧ j ≤ c - m ∧ Sr b B g n cap xv xs w0 w1 l' wr ∧ l'.Perm l ∧ ∀ k, rotAt l a m c k = rotAt l' (m - i) m (m + j) k) (fun ii jj _ => (intOf ii).toNat + (intOf jj).toNat)
  case atStart => exact ⟨m - a, c - m, l, by rw [show ((m - a : Nat) : Int) = (m : Int) - a by omega], by rw [show ((c - m : Nat) : Int) = (c : Int) - m by omega], by omega, by omega, by omega, by omega, unhide H, List.Perm.refl _, fun k => by rw [show m - (m - a) = a by omega, show m + (c - m) = c by omega]⟩
  case round =>
    clear H
    obtain ⟨i, j, l', rfl, rfl, hi1, hj1, hi2, hj2, hS, hp, hR⟩ := hrel
    have hll := hS.len
    have hz : (m : Int) - (i : Int) = ((m - i : Nat) : Int) := by omega
    by_cases hlt : j < i
    · have HC := hide (swapRange_any hS (m - i) m j fv (by omega) (by omega))
      have HN : Hid (∀ k, rotAt l a m c k = rotAt (swR l' (m - i) m j) (m - (i - j)) m (m + j) k) := fun k => (hR k).trans (rot_more (by omega) (by omega) hlt k)
      have HP : Hid ((swR l' (m - i) m j).Perm l) := (swR_perm (by omega) (by omega)).trans hp
      have hne : ((i : Int) == (j : Int)) = false := by simp; omega
      rw [← hz] at HC
      clear hS hp hR hz
      generalize swR l' (m - i) m j = l2 at *
      go_wp2_with (go_at_call 77; refine (unhide HC).mono ?_; rintro e wq ⟨rfl, hq⟩)
      have HS := hide hq
      clear hq HC
      go_roundw
      case rel => exact ⟨i - j, j, l2, by rw [show ((i - j : Nat) : Int) = (i : Int) - j by omega], rfl, by omega, hj1, by omega, hj2, unhide HS, unhide HP, unhide HN⟩
      case measure => simp [intOf]; omega
    · by_cases hgt : i < j
      · have HC := hide (swapRange_any hS (m - i) (m + j - i) i fv (by omega) (by omega))
        have HN : Hid (∀ k, rotAt l a m c k = rotAt (swR l' (m - i) (m + j - i) i) (m - i) m (m + (j - i)) k) := fun k => (hR k).trans (rot_less (by omega) (by omega) hgt k)
        have HP : Hid ((swR l' (m - i) (m + j - i) i).Perm l) := (swR_perm (by omega) (by omega)).trans hp
        have hne : ((i : Int) == (j : Int)) = false := by simp; omega
        have hz2 : ((m + j - i : Nat) : Int) = (m : Int) + (j : Int) - (i : Int) := by omega
        rw [← hz, hz2] at HC
        clear hS hp hR hz hz2
        generalize swR l' (m - i) (m + j - i) i = l2 at *
        go_wp2_with (go_at_call 77; refine (unhide HC).mono ?_; rintro e wq ⟨rfl, hq⟩)
        have HS := hide hq
        clear hq HC
        go_roundw
        case rel => exact ⟨i, j - i, l2, rfl, by rw [show ((j - i : Nat) : Int) = (j : Int) - i by omega], hi1, by omega, hi2, by omega, unhide HS, unhide HP, unhide HN⟩
        case measure => simp [intOf]; omega
      · have he : i = j := by omega
        subst he
        have HC := hide (swapRange_any hS (m - i) m i fv (by omega) (by omega))
        have HN : Hid (∀ k, (swR l' (m - i) m i).getD k 0 = rotAt l a m c k) := fun k => ((hR k).trans (rot_same (by omega) (by omega) k)).symm
        have HP : Hid ((swR l' (m - i) m i).Perm l) := (swR_perm (by omega) (by omega)).trans hp
        rw [← hz] at HC
        clear hS hp hR hz
        generalize swR l' (m - i) m i = l2 at *
        go_wp2_with (go_at_call 77; refine (unhide HC).mono ?_; rintro e wq ⟨rfl, hq⟩)
        have HS := hide hq
        clear hq HC
        go_end0
        exact ⟨rfl, l2, unhide HS, unhide HP, unhide HN⟩
end Go.Proofs.YtcnmmghkjblemaaDoor
