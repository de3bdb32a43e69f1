/- Cells of one block written one behind the other: what the block holds then; what else stays. -/
import Derived.Test.YtgccindoinhphaaSeq
import Derived.Laws.IdiomCopy
import Derived.Laws.NewBlocks
namespace Go.Proofs.Ytgccindoinhphaa
open Go.RowKit

theorem setc_block {w : World} {g j : Nat} {cur : Array Value} {e : TypeId} {m : Nat × Nat} (h : w.heap[g]? = some (.cells cur e m)) (v : Value) : (w.setCell ⟨g, j, none⟩ v).heap[g]? = some (.cells (cur.setIfInBounds j v) e m) := by
  rw [setCell_eq_setRow w g j cur e m v h]
  exact setRow_heap w g cur _ e _ h
theorem setc_other {w : World} {g j k : Nat} (hk : k ≠ g) (v : Value) : (w.setCell ⟨g, j, none⟩ v).heap[k]? = w.heap[k]? := by
  simp only [World.setCell, Array.getElem?_modify]
  split
  · omega
  · rfl
theorem setc_size {w : World} {a : Addr} (v : Value) : (w.setCell a v).heap.size = w.heap.size := by simp [World.setCell]

def laid (cur : List Value) (o : Nat) (vs : List Value) : List Value := cur.take o ++ vs ++ cur.drop (o + vs.length)
theorem laid_cons (cur : List Value) (o : Nat) (v : Value) (r : List Value) (h : o < cur.length) : laid (cur.set o v) (o + 1) r = laid cur o (v :: r) := by
  unfold laid
  have h1 : (cur.set o v).take (o + 1) = cur.take o ++ [v] := by
    rw [List.set_eq_take_append_cons_drop, if_pos h, List.take_append, List.length_take, Nat.min_eq_left (by omega), List.take_of_length_le (by simp; omega), show o + 1 - o = 1 by omega]
    simp
  have h2 : (cur.set o v).drop (o + 1 + r.length) = cur.drop (o + (v :: r).length) := by
    rw [List.drop_set_of_lt (by omega)]
    simp only [List.length_cons]
    congr 1
    omega
  rw [h1, h2]
  simp

theorem sets_block (g : Nat) : ∀ (vs : List Value) (o : Nat) (w : World) (cur : Array Value) (e : TypeId) (m : Nat × Nat), w.heap[g]? = some (.cells cur e m) → o + vs.length ≤ cur.size →
    ∃ cur' : Array Value, (w.setCells g o vs).heap[g]? = some (.cells cur' e m) ∧ cur'.toList = laid cur.toList o vs
  | [], o, w, cur, e, m, h, hl => ⟨cur, h, by simp [laid]⟩
  | v :: r, o, w, cur, e, m, h, hl => by
    simp only [List.length_cons] at hl
    obtain ⟨cur', h1, h2⟩ := sets_block g r (o + 1) (w.setCell ⟨g, o, none⟩ v) (cur.setIfInBounds o v) e m (setc_block h v) (by simp; omega)
    refine ⟨cur', h1, ?_⟩
    rw [h2, Array.toList_setIfInBounds, laid_cons _ _ _ _ (by simp; omega)]

theorem sets_other {g k : Nat} (hk : k ≠ g) : ∀ (vs : List Value) (o : Nat) (w : World), (w.setCells g o vs).heap[k]? = w.heap[k]?
  | [], _, _ => rfl
  | v :: r, o, w => by rw [World.setCells, sets_other hk r, setc_other hk]
theorem sets_size (g : Nat) : ∀ (vs : List Value) (o : Nat) (w : World), (w.setCells g o vs).heap.size = w.heap.size
  | [], _, _ => rfl
  | v :: r, o, w => by rw [World.setCells, sets_size g r, setc_size]
theorem sets_rest (g : Nat) : ∀ (vs : List Value) (o : Nat) (w : World), (w.setCells g o vs).os = w.os ∧ (w.setCells g o vs).tape = w.tape ∧ (w.setCells g o vs).output = w.output
  | [], _, _ => ⟨rfl, rfl, rfl⟩
  | v :: r, o, w => by rw [World.setCells]; exact sets_rest g r _ _

theorem grown_sets {w w' : World} {g : Nat} (h : w.grownBy w' (some g)) (vs : List Value) (o : Nat) : w.grownBy (w'.setCells g o vs) (some g) := by
  obtain ⟨r1, r2, r3⟩ := sets_rest g vs o w'
  refine ⟨r1.trans h.os, r2.trans h.tape, r3.trans h.output, by rw [sets_size]; exact h.size, fun k hk hne => ?_⟩
  rw [sets_other (fun hh => hne (by rw [hh])), h.block k hk hne]
theorem grown_sets_new {w w' : World} {row : Option Nat} {g : Nat} (h : w.grownBy w' row) (hg : w.heap.size ≤ g) (vs : List Value) (o : Nat) : w.grownBy (w'.setCells g o vs) row := by
  obtain ⟨r1, r2, r3⟩ := sets_rest g vs o w'
  refine ⟨r1.trans h.os, r2.trans h.tape, r3.trans h.output, by rw [sets_size]; exact h.size, fun k hk hne => ?_⟩
  rw [sets_other (by omega), h.block k hk hne]
theorem grown_refl (w : World) (row : Option Nat) : w.grownBy w row := ⟨rfl, rfl, rfl, Nat.le_refl _, fun _ _ _ => rfl⟩
theorem grown_drew {w w' : World} {row : Option Nat} (h : w.grownBy w' row) : w.grownBy w'.drew row := ⟨h.os, h.tape, h.output, h.size, h.block⟩
theorem grown_alloc {w w' : World} {row : Option Nat} (h : w.grownBy w' row) (o : Obj) : w.grownBy (w'.alloc o) row := by
  refine ⟨h.os, h.tape, h.output, ?_, fun k hk hne => ?_⟩
  · have := h.size
    show _ ≤ (w'.heap.push o).size
    rw [Array.size_push]; omega
  · rw [← h.block k hk hne]
    have := h.size
    show (w'.heap.push o)[k]? = _
    rw [Array.getElem?_push, if_neg (by omega)]
end Go.Proofs.Ytgccindoinhphaa
