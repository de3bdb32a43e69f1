/- The points parted: those below 80, and the others in the order of their steps. -/
import Derived.Test.YtgccindoinhphaaPwB11
namespace Go.Proofs.Ytgccindoinhphaa
open Go.RowKit

namespace Pu
/-- The places in the order of their numbers, those that are alike as they stood. -/
def sortF (xs : List Int) (l : List Nat) : List Nat := l.mergeSort fun a b => decide (xs.getD a 0 ≤ xs.getD b 0)
theorem sortF_one (xs : List Int) {l : List Nat} (h : l.length ≤ 1) : sortF xs l = l := by
  match l, h with
  | [], _ => simp [sortF]
  | [a], _ => simp [sortF]
def highq (c : Int) : Bool := !lowq c
end Pu

def nints (l : List Nat) : List Int := l.map fun (k : Nat) => (k : Int)
theorem nints_len (l : List Nat) : (nints l).length = l.length := by simp [nints]

/-- The list x in its box. -/
def XAt (w : World) (b : Nat) (v : Value) : Prop := w.heap[b]? = some (.cells #[v] 22 (0, 0))
theorem XAt.cell {w : World} {b : Nat} {v : Value} (h : XAt w b v) : w.cell? ⟨b, 0, none⟩ = some v := by unfold XAt at h; simp [World.cell?, h]
theorem XAt.grown {w w' : World} {b : Nat} {v : Value} {row : Option Nat} (h : XAt w b v) (hg : w.grownBy w' row) (hne : row ≠ some b) : XAt w' b v := by
  unfold XAt at h ⊢
  rw [hg.block b (Array.getElem?_eq_some_iff.1 h).1 (fun hh => hne hh.symm)]; exact h
theorem XAt.alloc {w : World} {b : Nat} {v : Value} (h : XAt w b v) (o : Obj) : XAt (w.alloc o) b v := by
  unfold XAt at h ⊢
  rw [heap_alloc_old _ _ (Array.getElem?_eq_some_iff.1 h).1]; exact h

/-- What the sort tells: of lists of at most m places. -/
def SortC (m : Nat) : Prop := ∀ (xs : List Int) (b B : Nat) (xv v : Value) (l : List Nat) (w0 w : World), XAt w b xv → Sk .i32 w0 xv xs → Below w0.heap.size w0 w → w0.heap.size ≤ B → xs.length ≤ 100000 → l.length ≤ m → (∀ a ∈ l, a < xs.length) → l.Pairwise (· < ·) → Ok .i64 3 w B v (nints l) → v.ownBlock ≠ some b →
  Calls Try.prog 47 #[v, .func (.func 48) #[] #[.pointer (some ⟨b, 0, none⟩)]] w fun e w' => e = .returned (.tuple #[]) ∧ Ok .i64 3 w' B v (nints (Pu.sortF xs l)) ∧ w.grownBy w' v.ownBlock

set_option maxHeartbeats 1000000 in
theorem insertion1_any (ao : Option Addr) (n cap : Nat) (fv : Value) (w : World) (hn : n ≤ 1) : Calls Try.prog 58 #[.slice ao n cap, .int .i64 0, .int .i64 n, fv] w fun e w' => e = .returned (.tuple #[]) ∧ w' = w := by
  go_enter Try.func58, Try.ntmps58
  go_wp2
  refine wp_loop_rounds 1 ?_
  rw [rounds_succ]
  go_wp2
  go_end0
  exact ⟨rfl, rfl⟩

set_option maxHeartbeats 1000000 in
theorem stable1_any (ao : Option Addr) (n cap : Nat) (fv : Value) (w : World) (hn : n ≤ 1) : Calls Try.prog 55 #[.slice ao n cap, .int .i64 n, fv] w fun e w' => e = .returned (.tuple #[]) ∧ w' = w := by
  have HI := fun W => hide (insertion1_any ao n cap fv W hn)
  go_enter Try.func55, Try.ntmps55
  go_wp2
  refine wp_loop_rounds 1 ?_
  rw [rounds_succ]
  go_wp2_with (go_at_call 58; refine (unhide (HI _)).mono ?_; rintro e wq ⟨rfl, rfl⟩; clear HI)
  refine wp_loop_rounds 1 ?_
  rw [rounds_succ]
  go_wp2
  go_end0
  exact ⟨rfl, rfl⟩

set_option maxHeartbeats 1000000 in
theorem sort1C : SortC 1 := by
  intro xs b B xv v l w0 w _ _ _ _ _ hl _ _ hv _
  obtain ⟨ao, cap, rfl, _, _⟩ := hv.sk.shape
  have HS := fun W => hide (stable1_any ao (nints l).length cap (.func (.func 48) #[] #[.pointer (some ⟨b, 0, none⟩)]) W (by rw [nints_len]; exact hl))
  have HF : Hid (Ok .i64 3 w B (.slice ao (nints l).length cap) (nints (Pu.sortF xs l))) := by rw [Pu.sortF_one xs hl]; exact hv
  clear hv
  generalize (nints l).length = n at *
  go_enter Try.func47, Try.ntmps47
  go_wp2_with (go_at_call 55; refine (unhide (HS _)).mono ?_; rintro e wq ⟨rfl, rfl⟩; clear HS)
  go_end0
  exact ⟨rfl, unhide HF, grown_refl _ _⟩
end Go.Proofs.Ytgccindoinhphaa
