/- Two parts of a row changed for one another. -/
import Derived.Test.YtcnmmghkjblemaaDoorQsA20
namespace Go.Proofs.YtcnmmghkjblemaaDoor
open Go.RowKit

def swR (l : List Nat) (a c : Nat) : Nat → List Nat
  | 0 => l
  | k + 1 => Pu.swapL (swR l a c k) (a + k) (c + k)
theorem swR_len (l : List Nat) (a c k : Nat) : (swR l a c k).length = l.length := by
  induction k with
  | zero => rfl
  | succ k ih => rw [swR, Pu.swapL_len, ih]

def SrP (b B g n cap : Nat) (xv : Nat → ByteArray) (xs : List Int) (w0 w1 : World) (l : List Nat) (e : Ending) (w' : World) : Prop := e = .returned (.tuple #[]) ∧ Sr b B g n cap xv xs w0 w1 l w'

set_option maxHeartbeats 4000000 in
theorem swapRange_any {b B g n cap : Nat} {xv : Nat → ByteArray} {xs : List Int} {w0 w1 w : World} {l : List Nat} (h : Sr b B g n cap xv xs w0 w1 l w) (a c k : Nat) (fv : Value) (h1 : a + k ≤ c) (h2 : c + k ≤ n) :
    Calls Tryd.prog 77 #[.slice (some ⟨g, 0, none⟩) n cap, .int .i64 a, .int .i64 c, .int .i64 k, fv] w (SrP b B g n cap xv xs w0 w1 (swR l a c k)) := by
  have hcap := h.caps
  have H := hide h
  clear h
  go_enter Tryd.func77, Tryd.ntmps77
  go_wp2
  go_loopw [10] (fun jj wr => ∃ j : Nat, jj = .int .i64 j ∧ j ≤ k ∧ Sr b B g n cap xv xs w0 w1 (swR l a c j) wr) (fun jj _ => k - (intOf jj).toNat)
  case atStart => exact ⟨0, rfl, by omega, unhide H⟩
  case round =>
    clear H
    obtain ⟨j, rfl, hj, hS⟩ := hrel
    by_cases hlt : j < k
    · have e1 := hS.cell (k := a + j) (by omega)
      have e2 := hS.cell (k := c + j) (by omega)
      have e3 := hS.frozen (a + j)
      have e4 := hS.frozen (c + j)
      have HN := hide (hS.swap (i := a + j) (j := c + j) (by omega) (by omega))
      have hne : ¬ (a + j = c + j) := by omega
      have hz1 : ((a : Int) + (j : Int)).toNat = a + j := by omega
      have hz2 : ((c : Int) + (j : Int)).toNat = c + j := by omega
      clear hS
      generalize (swR l a c j).getD (a + j) 0 = p at *
      generalize (swR l a c j).getD (c + j) 0 = q at *
      go_wp2
      go_region
      go_wp2
      go_roundw
      case rel => exact ⟨j + 1, by go_num, by omega, unhide HN⟩
      case measure => simp [intOf]; omega
    · have hke : j = k := by omega
      subst hke
      have HF := hide hS
      clear hS
      go_wp2
      go_end0
      exact ⟨rfl, unhide HF⟩
end Go.Proofs.YtcnmmghkjblemaaDoor
