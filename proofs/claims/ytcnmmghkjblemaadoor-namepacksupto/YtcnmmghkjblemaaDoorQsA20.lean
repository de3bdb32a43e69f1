/- The sort of texts: memory while it runs; two places changed for one another. -/
import Derived.Test.YtcnmmghkjblemaaDoorNr20
import Derived.Deep.QuietTactic
namespace Go.Proofs.YtcnmmghkjblemaaDoor
open Go.RowKit

namespace Pu
def cmpI (a b : Int) : Int := if a < b then -1 else if b < a then 1 else 0
def swapL (l : List Nat) (i j : Nat) : List Nat := (l.set i (l.getD j 0)).set j (l.getD i 0)
theorem swapL_len (l : List Nat) (i j : Nat) : (swapL l i j).length = l.length := by simp [swapL]
theorem getD_setN (l : List Nat) (j m z : Nat) (hj : j < l.length) : (l.set j z).getD m 0 = if m = j then z else l.getD m 0 := by
  by_cases h : m = j
  · subst h; simp [List.getD, hj]
  · rw [if_neg h]; simp [List.getD, List.getElem?_set_ne (Ne.symm h)]
theorem swapL_at {l : List Nat} {i j : Nat} (hi : i < l.length) (hj : j < l.length) (m : Nat) : (swapL l i j).getD m 0 = if m = j then l.getD i 0 else if m = i then l.getD j 0 else l.getD m 0 := by
  unfold swapL
  rw [getD_setN _ _ _ _ (by simpa using hj), getD_setN _ _ _ _ hi]
theorem swapL_perm {l : List Nat} {i j : Nat} (hi : i < l.length) (hj : j < l.length) : (swapL l i j).Perm l := by
  have h := Array.swap_perm (xs := l.toArray) (i := i) (j := j) (by simpa using hi) (by simpa using hj)
  have h2 := Array.perm_iff_toList_perm.1 h
  unfold swapL
  simpa [List.getD, hi, hj, Array.swap] using h2
end Pu
theorem setc_block {w : World} {g j : Nat} {cur : Array Value} {e : TypeId} {m : Nat × Nat} (h : w.heap[g]? = some (.cells cur e m)) (v : Value) : (w.setCell ⟨g, j, none⟩ v).heap[g]? = some (.cells (cur.setIfInBounds j v) e m) := by
  rw [setCell_eq_setRow w g j cur e m v h]
  exact setRow_heap w g cur _ e _ h
theorem setc_other {w : World} {g j k : Nat} (hk : k ≠ g) (v : Value) : (w.setCell ⟨g, j, none⟩ v).heap[k]? = w.heap[k]? := by
  simp only [World.setCell, Array.getElem?_modify]
  split
  · omega
  · rfl
theorem setc_size (w : World) (a : Addr) (v : Value) : (w.setCell a v).heap.size = w.heap.size := by simp [World.setCell]
theorem grown_setc {w w' : World} {g j : Nat} (h : w.grownBy w' (some g)) (v : Value) : w.grownBy (w'.setCell ⟨g, j, none⟩ v) (some g) :=
  ⟨h.os, h.tape, h.output, by rw [setc_size]; exact h.size, fun k hk hne => by rw [setc_other (fun hh => hne (by rw [hh])), h.block k hk hne]⟩
theorem grown_refl (w : World) (row : Option Nat) : w.grownBy w row := ⟨rfl, rfl, rfl, Nat.le_refl _, fun _ _ _ => rfl⟩
def tx20 (xv : Nat → ByteArray) (l : List Nat) : List Value := l.map fun p => Value.string (xv p)
theorem tx_len20 (xv : Nat → ByteArray) (l : List Nat) : (tx20 xv l).length = l.length := by simp [tx20]
theorem tx_at20 (xv : Nat → ByteArray) {l : List Nat} {k : Nat} (hk : k < l.length) : (tx20 xv l).getD k undef = .string (xv (l.getD k 0)) := by simp [tx20, List.getD, hk]
theorem tx_set20 (xv : Nat → ByteArray) (l : List Nat) (i z : Nat) : tx20 xv (l.set i z) = (tx20 xv l).set i (.string (xv z)) := by simp [tx20, List.map_set]
/-- Memory while a list of texts is sorted: xv p is the text that stood at place p, xs its rank; block g holds the texts of the places l. -/
structure Sr (b B g n cap : Nat) (xv : Nat → ByteArray) (xs : List Int) (w0 w1 : World) (l : List Nat) (wr : World) : Prop where
  bel : Below w0.heap.size w0 wr
  row : Ow 9 wr B (.slice (some ⟨g, 0, none⟩) n cap) (tx20 xv l)
  hB : w0.heap.size ≤ B
  gr : w1.grownBy wr (some g)
  len : l.length = n
  lt : ∀ a ∈ l, a < xs.length
  xl : xs.length ≤ 100000
  rk : ∀ x y, x < xs.length → y < xs.length → Na.cmp (nums (xv x)) (nums (xv y)) = Pu.cmpI (xs.getD x 0) (xs.getD y 0)
  sz : ∀ x, (xv x).size ≤ 1000000000
  bz : b = 0
theorem Sr.ownrow {b B g n cap : Nat} {xv : Nat → ByteArray} {xs : List Int} {w0 w1 wr : World} {l : List Nat} (h : Sr b B g n cap xv xs w0 w1 l wr) : wr.ownsRow B 9 1 (.slice (some ⟨g, 0, none⟩) n cap) l.length (tx20 xv l) := by
  have := h.row.2
  rwa [tx_len20] at this
theorem Sr.hg {b B g n cap : Nat} {xv : Nat → ByteArray} {xs : List Int} {w0 w1 wr : World} {l : List Nat} (h : Sr b B g n cap xv xs w0 w1 l wr) : w0.heap.size ≤ g := by
  have := (h.ownrow.lt g rfl).1; have := h.hB; omega
theorem Sr.drewN {b B g n cap : Nat} {xv : Nat → ByteArray} {xs : List Int} {w0 w1 wr : World} {l : List Nat} (h : Sr b B g n cap xv xs w0 w1 l wr) (m : Nat) : Sr b B g n cap xv xs w0 w1 l (wr.drewN m) :=
  ⟨h.bel.trans ((drewB ⟨m, rfl⟩ : Below wr.heap.size wr _).mono h.bel.size), h.row.below (drewB ⟨m, rfl⟩), h.hB, ⟨h.gr.os, h.gr.tape, h.gr.output, h.gr.size, h.gr.block⟩, h.len, h.lt, h.xl, h.rk, h.sz, h.bz⟩
theorem Sr.cell {b B g n cap : Nat} {xv : Nat → ByteArray} {xs : List Int} {w0 w1 wr : World} {l : List Nat} (h : Sr b B g n cap xv xs w0 w1 l wr) {k : Nat} (hk : k < n) : wr.cell? ⟨g, k, none⟩ = some (.string (xv (l.getD k 0))) := by
  have hl := h.len
  obtain ⟨b2, o2, c2, he, _, _, hc⟩ := h.row.sv.place (by rw [tx_len20]; omega)
  simp only [Value.slice.injEq, Option.some.injEq, Addr.mk.injEq] at he
  obtain ⟨⟨rfl, rfl, _⟩, _, _⟩ := he
  have := hc k (by rw [tx_len20]; omega)
  rw [Nat.zero_add, tx_at20 xv (by omega)] at this
  exact this
theorem Sr.memlt {b B g n cap : Nat} {xv : Nat → ByteArray} {xs : List Int} {w0 w1 wr : World} {l : List Nat} (h : Sr b B g n cap xv xs w0 w1 l wr) {k : Nat} (hk : k < n) : l.getD k 0 < xs.length :=
  h.lt _ (by have := h.len; rw [List.getD, List.getElem?_eq_getElem (by omega)]; exact List.getElem_mem _)
theorem Sr.cmp {b B g n cap : Nat} {xv : Nat → ByteArray} {xs : List Int} {w0 w1 wr : World} {l : List Nat} (h : Sr b B g n cap xv xs w0 w1 l wr) {i j : Nat} (hi : i < n) (hj : j < n) (m : Nat) :
    Calls Tryd.prog 20 #[.string (xv (l.getD i 0)), .string (xv (l.getD j 0))] (wr.drewN m) fun e w' => e = .returned (.int .i64 (Pu.cmpI (xs.getD (l.getD i 0) 0) (xs.getD (l.getD j 0) 0))) ∧ ∃ k, w' = (wr.drewN m).drewN k := by
  have := compare20 lixC20 (xv (l.getD i 0)) (xv (l.getD j 0)) (wr.drewN m) (Nat.le_trans (h.sz _) (by decide)) (Nat.le_trans (h.sz _) (by decide))
  rw [h.rk _ _ (h.memlt hi) (h.memlt hj)] at this
  exact this
theorem Sr.put {b B g n cap : Nat} {xv : Nat → ByteArray} {xs : List Int} {w0 w1 wr : World} {l : List Nat} (h : Sr b B g n cap xv xs w0 w1 l wr) {i z : Nat} (hz : z < xs.length) : Sr b B g n cap xv xs w0 w1 (l.set i z) (wr.setCell ⟨g, i, none⟩ (.string (xv z))) := by
  have hl := h.len
  have hg := h.hg
  refine ⟨h.bel.setCell hg _, ?_, h.hB, grown_setc h.gr _, by simpa using hl, fun a ha => ?_, h.xl, h.rk, h.sz, h.bz⟩
  · rcases h.ownrow.2 with ⟨h0, _⟩ | ⟨g', cap', cur, hv, hb, hh, hn, hcap, hsz, htake⟩
    · cases h0
    · simp only [Value.slice.injEq, Option.some.injEq, Addr.mk.injEq] at hv
      obtain ⟨⟨rfl, _⟩, hnn, rfl⟩ := hv
      refine ⟨by have := h.row.1; rw [tx_len20] at this ⊢; simpa using this, ?_⟩
      rw [tx_len20, List.length_set]
      refine ⟨by rw [tx_len20]; simp, .inr ⟨g, cap, cur.setIfInBounds i (.string (xv z)), by rw [hnn], hb, setc_block hh _, hn, hcap, by simpa using hsz, ?_⟩⟩
      rw [Nat.mul_one] at htake ⊢
      rw [Array.toList_setIfInBounds, List.take_set, htake, tx_set20]
  · rcases List.mem_or_eq_of_mem_set ha with ha | ha
    · exact h.lt a ha
    · subst ha; exact hz
theorem Sr.swap {b B g n cap : Nat} {xv : Nat → ByteArray} {xs : List Int} {w0 w1 wr : World} {l : List Nat} (h : Sr b B g n cap xv xs w0 w1 l wr) {i j : Nat} (hi : i < n) (hj : j < n) :
    Sr b B g n cap xv xs w0 w1 (Pu.swapL l i j) (((wr.setCell ⟨g, i, none⟩ (.string (xv (l.getD j 0)))).setCell ⟨g, j, none⟩ (.string (xv (l.getD i 0)))).drew) :=
  ((h.put (h.memlt hj)).put (h.memlt hi)).drewN 1
theorem Sr.frozen {b B g n cap : Nat} {xv : Nat → ByteArray} {xs : List Int} {w0 w1 wr : World} {l : List Nat} (h : Sr b B g n cap xv xs w0 w1 l wr) (k : Nat) : wr.frozen? ⟨g, k, none⟩ = false := by
  rcases h.ownrow.2 with ⟨h0, _⟩ | ⟨g', cap', cur, hv, hb, hh, _⟩
  · cases h0
  · simp only [Value.slice.injEq, Option.some.injEq, Addr.mk.injEq] at hv
    obtain ⟨⟨rfl, _⟩, _, _⟩ := hv
    simp [World.frozen?, hh]
theorem Sr.caps {b B g n cap : Nat} {xv : Nat → ByteArray} {xs : List Int} {w0 w1 wr : World} {l : List Nat} (h : Sr b B g n cap xv xs w0 w1 l wr) : n ≤ cap ∧ cap ≤ 9223372036854775807 := by
  obtain ⟨ao, c, he, h1, h2⟩ := h.row.sv.shape
  simp only [Value.slice.injEq] at he
  obtain ⟨_, hn, rfl⟩ := he
  rw [tx_len20] at hn h1
  omega

end Go.Proofs.YtcnmmghkjblemaaDoor
