/- The sort's comparison, and two places of a row changed for one another. -/
import Derived.Test.YtgccindoinhphaaPwD11
import Derived.Deep.QuietTactic
namespace Go.Proofs.Ytgccindoinhphaa
open Go.RowKit

namespace Pu
def cmpI (a b : Int) : Int := if a < b then -1 else if b < a then 1 else 0
def swapL (l : List Nat) (i j : Nat) : List Nat := (l.set i (l.getD j 0)).set j (l.getD i 0)
theorem swapL_len (l : List Nat) (i j : Nat) : (swapL l i j).length = l.length := by simp [swapL]
theorem getD_setN (l : List Nat) (j m z : Nat) (hj : j < l.length) : (l.set j z).getD m 0 = if m = j then z else l.getD m 0 := by
  by_cases h : m = j
  · subst h; simp [List.getD, hj]
  · rw [if_neg h]; simp [List.getD, List.getElem?_set_ne (Ne.symm h)]
theorem swapL_at {l : List Nat} {i j : Nat} (hi : i < l.length) (hj : j < l.length) (m : Nat) : (swapL l i j).getD m 0 = if m = j then l.getD i 0 else if m = i then l.getD j 0 else l.getD m 0 := by
  unfold swapL
  rw [getD_setN _ _ _ _ (by simpa using hj), getD_setN _ _ _ _ hi]
theorem swapL_perm {l : List Nat} {i j : Nat} (hi : i < l.length) (hj : j < l.length) : (swapL l i j).Perm l := by
  have h := Array.swap_perm (xs := l.toArray) (i := i) (j := j) (by simpa using hi) (by simpa using hj)
  have h2 := Array.perm_iff_toList_perm.1 h
  unfold swapL
  simpa [List.getD, hi, hj, Array.swap] using h2
end Pu

set_option maxHeartbeats 1000000 in
theorem isNaN32_any (c : Int) (w : World) : Calls Try.prog 56 #[.int .i32 c] w (BoolPost w false) := by
  go_enter Try.func56, Try.ntmps56
  go_wp2
  go_ret
  exact BoolPost.mk (by simp)

set_option maxHeartbeats 1000000 in
theorem compare_any (a b : Int) (w : World) : Calls Try.prog 49 #[.int .i32 a, .int .i32 b] w (IntPost w (Pu.cmpI a b)) := by
  have HA := fun W => hide (isNaN32_any a W)
  have HB := fun W => hide (isNaN32_any b W)
  by_cases h1 : a < b
  · have hr : Pu.cmpI a b = -1 := by unfold Pu.cmpI; rw [if_pos h1]
    rw [hr]; clear hr
    go_enter Try.func49, Try.ntmps49
    go_wp2_with fail
    refine (unhide (HA _)).mono ?_
    rintro e w ⟨rfl, rfl⟩
    go_wp2_with fail
    refine (unhide (HB _)).mono ?_
    rintro e w ⟨rfl, rfl⟩
    go_wp2
    go_ret
    exact IntPost.mk rfl
  · by_cases h2 : b < a
    · have hr : Pu.cmpI a b = 1 := by unfold Pu.cmpI; rw [if_neg h1, if_pos h2]
      rw [hr]; clear hr
      go_enter Try.func49, Try.ntmps49
      go_wp2_with fail
      refine (unhide (HA _)).mono ?_
      rintro e w ⟨rfl, rfl⟩
      go_wp2_with fail
      refine (unhide (HB _)).mono ?_
      rintro e w ⟨rfl, rfl⟩
      go_wp2
      go_ret
      exact IntPost.mk rfl
    · have hr : Pu.cmpI a b = 0 := by unfold Pu.cmpI; rw [if_neg h1, if_neg h2]
      rw [hr]; clear hr
      go_enter Try.func49, Try.ntmps49
      go_wp2_with fail
      refine (unhide (HA _)).mono ?_
      rintro e w ⟨rfl, rfl⟩
      go_wp2_with fail
      refine (unhide (HB _)).mono ?_
      rintro e w ⟨rfl, rfl⟩
      go_wp2
      go_ret
      exact IntPost.mk rfl

/-- Memory while a list of places is sorted: the list x in its box, the places in block g. -/
structure Sr (b B g n cap : Nat) (xv : Value) (xs : List Int) (w0 w1 : World) (l : List Nat) (wr : World) : Prop where
  x : XAt wr b xv
  sx : Sk .i32 w0 xv xs
  bel : Below w0.heap.size w0 wr
  row : Ok .i64 3 wr B (.slice (some ⟨g, 0, none⟩) n cap) (nints l)
  hB : w0.heap.size ≤ B
  ne : b ≠ g
  gr : w1.grownBy wr (some g)
  len : l.length = n
  lt : ∀ a ∈ l, a < xs.length
  xl : xs.length ≤ 100000

theorem nints_at' {l : List Nat} {k : Nat} (hk : k < l.length) : (nints l).getD k 0 = ((l.getD k 0 : Nat) : Int) := by simp [nints, List.getD, hk]

theorem Sr.hg {b B g n cap : Nat} {xv : Value} {xs : List Int} {w0 w1 wr : World} {l : List Nat} (h : Sr b B g n cap xv xs w0 w1 l wr) : w0.heap.size ≤ g := by
  have := (h.row.row.lt g rfl).1; have := h.hB; omega
theorem Sr.drewN {b B g n cap : Nat} {xv : Value} {xs : List Int} {w0 w1 wr : World} {l : List Nat} (h : Sr b B g n cap xv xs w0 w1 l wr) (m : Nat) : Sr b B g n cap xv xs w0 w1 l (wr.drewN m) :=
  ⟨h.x, h.sx, h.bel.trans ((drewB ⟨m, rfl⟩ : Below wr.heap.size wr _).mono h.bel.size), h.row.below (drewB ⟨m, rfl⟩), h.hB, h.ne, ⟨h.gr.os, h.gr.tape, h.gr.output, h.gr.size, h.gr.block⟩, h.len, h.lt, h.xl⟩
theorem Sr.cell {b B g n cap : Nat} {xv : Value} {xs : List Int} {w0 w1 wr : World} {l : List Nat} (h : Sr b B g n cap xv xs w0 w1 l wr) {k : Nat} (hk : k < n) : wr.cell? ⟨g, k, none⟩ = some (.int .i64 ((l.getD k 0 : Nat) : Int)) := by
  have hl := h.len
  obtain ⟨b2, o2, c2, he, _, _, hc⟩ := h.row.sk.place (by rw [nints_len]; omega)
  simp only [Value.slice.injEq, Option.some.injEq, Addr.mk.injEq] at he
  obtain ⟨⟨rfl, rfl, _⟩, _, _⟩ := he
  have := hc k (by rw [nints_len]; omega)
  rw [Nat.zero_add, nints_at' (by omega)] at this
  exact this
theorem Sr.memlt {b B g n cap : Nat} {xv : Value} {xs : List Int} {w0 w1 wr : World} {l : List Nat} (h : Sr b B g n cap xv xs w0 w1 l wr) {k : Nat} (hk : k < n) : l.getD k 0 < xs.length :=
  h.lt _ (by have := h.len; rw [List.getD, List.getElem?_eq_getElem (by omega)]; exact List.getElem_mem _)
end Go.Proofs.Ytgccindoinhphaa
