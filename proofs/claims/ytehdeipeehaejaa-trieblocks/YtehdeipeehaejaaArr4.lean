/- Arrays of 64 numbers as values. -/
import Derived.Test.YtehdeipeehaejaaCon4
import Derived.ChangeKeysEq
import Derived.Deep.WholeRow
import Derived.Deep.MidRow
namespace Go.Proofs.Ytehdeipeehaejaa
open Go.RowKit

/-- An array of numbers of 16 bits. -/
def arrA (zs : List Int) : Array Value := (zs.map (Value.int .u16)).toArray
theorem arrA_size (zs : List Int) : (arrA zs).size = zs.length := by simp [arrA]
theorem arrA_one (zs : List Int) : (arrA zs).all (·.oneCell') = true := by
  simp [arrA, Value.oneCell']

theorem infoArr : (Try.prog.info? 48).map (·.size) = some 64 := by kernel_rfl
theorem infoU16 : (Try.prog.info? 47).map (·.size) = some 1 := by kernel_rfl

theorem plainU16 : Try.prog.plainKey 47 = true := by kernel_rfl
theorem arrA_at {zs : List Int} {i : Nat} (hi : i < zs.length) : (arrA zs)[i * 1]? = some (.int .u16 (zs.getD i 0)) := by
  simp [arrA, List.getD, hi]

theorem run_items (w : World) (d : Nat) (c : Nat) (hc : c = 1) (xs ys : List Int) (hl : xs.length = ys.length) : ∀ (is : List Nat), (∀ i ∈ is, i < xs.length) →
    (Op.eqItems (d + 1) 47 c (arrA xs) (arrA ys) is).run Try.prog w = .ok (is.all fun i => decide (xs.getD i 0 = ys.getD i 0)) w := by
  subst hc
  intro is
  induction is with
  | nil => intro _; rfl
  | cons i is ih =>
    intro hi
    have h1 : i < xs.length := hi i (by simp)
    have p1 : (part 47 (arrA xs) (i * 1)).run Try.prog w = .ok (.int .u16 (xs.getD i 0)) w := run_part_plain w plainU16 (arrA_at h1)
    have p2 : (part 47 (arrA ys) (i * 1)).run Try.prog w = .ok (.int .u16 (ys.getD i 0)) w := run_part_plain w plainU16 (arrA_at (by omega))
    have p3 : (Op.equalIn (d + 1) 47 (.int .u16 (xs.getD i 0)) (.int .u16 (ys.getD i 0))).run Try.prog w = .ok (xs.getD i 0 == ys.getD i 0) w := by
      simp [Op.equalIn, run_underlying Try.underlying47]
    simp only [Op.eqItems, Sem.run_bind, p1, p2, p3, Result.andThen_ok, List.all_cons]
    by_cases he : xs.getD i 0 = ys.getD i 0
    · have e1 : (xs.getD i 0 == ys.getD i 0) = true := beq_iff_eq.2 he
      rw [e1, decide_eq_true he]
      simpa using ih (fun j hj => hi j (List.mem_cons_of_mem _ hj))
    · have e1 : (xs.getD i 0 == ys.getD i 0) = false := beq_eq_false_iff_ne.2 he
      rw [e1, decide_eq_false he]
      rfl

theorem all_range_eq {xs ys : List Int} {n : Nat} (h1 : xs.length = n) (h2 : ys.length = n) : ((List.range n).all fun i => decide (xs.getD i 0 = ys.getD i 0)) = decide (xs = ys) := by
  by_cases h : xs = ys
  · subst h; simp
  · rw [decide_eq_false h]
    cases hq : (List.range n).all fun i => decide (xs.getD i 0 = ys.getD i 0) with
    | false => rfl
    | true =>
      exfalso; apply h
      rw [List.all_eq_true] at hq
      apply List.ext_getElem (by omega)
      intro i a b
      have := of_decide_eq_true (hq i (List.mem_range.2 (by omega)))
      simpa [List.getD, a, b] using this

theorem run_arr_eql (w : World) (xs ys : List Int) (hx : xs.length = 64) (hy : ys.length = 64) : (Op.equalIn 10000 48 (.agg (arrA xs)) (.agg (arrA ys))).run Try.prog w = .ok (decide (xs = ys)) w := by
  cases hi : Try.prog.info? 47 with
  | none => have := infoU16; rw [hi] at this; cases this
  | some i =>
    rw [show (10000 : Nat) = 9999 + 1 from rfl, run_equalIn_array w 9999 (arrA xs) (arrA ys) Try.underlying48 hi, show (9999 : Nat) = 9998 + 1 from rfl, run_items w 9998 _ (by kernel_rfl) xs ys (by omega) _ (fun i hi => by rw [List.mem_range] at hi; omega), all_range_eq hx hy]

/-- An array that was made is written whole. -/
theorem store_new (w : World) (zs : List Int) (h : zs.length = 64) : (storeCells ⟨w.heap.size, 0, none⟩ (zs.map (Value.int .u16)) 0).run Try.prog (w.alloc (.cells #[.int .u16 0, .int .u16 0, .int .u16 0, .int .u16 0, .int .u16 0, .int .u16 0, .int .u16 0, .int .u16 0, .int .u16 0, .int .u16 0, .int .u16 0, .int .u16 0, .int .u16 0, .int .u16 0, .int .u16 0, .int .u16 0, .int .u16 0, .int .u16 0, .int .u16 0, .int .u16 0, .int .u16 0, .int .u16 0, .int .u16 0, .int .u16 0, .int .u16 0, .int .u16 0, .int .u16 0, .int .u16 0, .int .u16 0, .int .u16 0, .int .u16 0, .int .u16 0, .int .u16 0, .int .u16 0, .int .u16 0, .int .u16 0, .int .u16 0, .int .u16 0, .int .u16 0, .int .u16 0, .int .u16 0, .int .u16 0, .int .u16 0, .int .u16 0, .int .u16 0, .int .u16 0, .int .u16 0, .int .u16 0, .int .u16 0, .int .u16 0, .int .u16 0, .int .u16 0, .int .u16 0, .int .u16 0, .int .u16 0, .int .u16 0, .int .u16 0, .int .u16 0, .int .u16 0, .int .u16 0, .int .u16 0, .int .u16 0, .int .u16 0, .int .u16 0] 48)) = .ok () (w.alloc (.cells (arrA zs) 48)) := by
  have h1 := run_storeCells_new (P := Try.prog) w 48 #[.int .u16 0, .int .u16 0, .int .u16 0, .int .u16 0, .int .u16 0, .int .u16 0, .int .u16 0, .int .u16 0, .int .u16 0, .int .u16 0, .int .u16 0, .int .u16 0, .int .u16 0, .int .u16 0, .int .u16 0, .int .u16 0, .int .u16 0, .int .u16 0, .int .u16 0, .int .u16 0, .int .u16 0, .int .u16 0, .int .u16 0, .int .u16 0, .int .u16 0, .int .u16 0, .int .u16 0, .int .u16 0, .int .u16 0, .int .u16 0, .int .u16 0, .int .u16 0, .int .u16 0, .int .u16 0, .int .u16 0, .int .u16 0, .int .u16 0, .int .u16 0, .int .u16 0, .int .u16 0, .int .u16 0, .int .u16 0, .int .u16 0, .int .u16 0, .int .u16 0, .int .u16 0, .int .u16 0, .int .u16 0, .int .u16 0, .int .u16 0, .int .u16 0, .int .u16 0, .int .u16 0, .int .u16 0, .int .u16 0, .int .u16 0, .int .u16 0, .int .u16 0, .int .u16 0, .int .u16 0, .int .u16 0, .int .u16 0, .int .u16 0, .int .u16 0] (arrA zs) (by rw [arrA_size, h]; exact infoArr) (by rw [arrA_size, h]; rfl) (arrA_one zs)
  simpa [arrA] using h1
/-- The array that lies in a block. -/
def Box (w : World) (g : Nat) (zs : List Int) : Prop := w.rangeAt g 0 (zs.map (Value.int .u16))
theorem Box.below {w w' : World} {g : Nat} {zs : List Int} (h : Box w g zs) (hb : Below w.heap.size w w') : Box w' g zs := fun j v hv => by
  have h1 := h j v hv
  rw [hb.cell (lt_of_cell? h1)]; exact h1
theorem Box.new (w : World) (zs : List Int) : Box (w.alloc (.cells (arrA zs) 48)) w.heap.size zs := fun j v hv => by
  rw [World.cell?_alloc_mark, Nat.zero_add]
  simpa [arrA] using hv
theorem Box.at {w : World} {g : Nat} {zs : List Int} (h : Box w g zs) (i : Nat) (hi : i < zs.length) : w.cell? ⟨g, i, none⟩ = some (.int .u16 (zs.getD i 0)) := by
  have := h i (.int .u16 (zs.getD i 0)) (by simp [List.getD, hi])
  rwa [Nat.zero_add] at this
theorem infoArrL {zs : List Int} (h : zs.length = 64) : (Try.prog.info? 48).map (·.size) = some (zs.map (Value.int .u16)).length := by rw [List.length_map, h]; exact infoArr
end Go.Proofs.Ytehdeipeehaejaa
