/- The contract of the document's own Block. -/
import Derived.Test.YtehdeipeehaejaaArr4
import Derived.Test.YtehdeipeehaejaaTriC
import Derived.Test.YtehdeipeehaejaaRefN4
import Derived.Deep.Cut
import Derived.Laws.Rows
namespace Go.Proofs.Ytehdeipeehaejaa
open Go.RowKit

/-- The block g is an array of these numbers. -/
def Blk (w : World) (g : Nat) (zs : List Int) : Prop := w.heap[g]? = some (.cells (arrA zs) 48 (0, 0))
theorem Blk.lt {w : World} {g : Nat} {zs : List Int} (h : Blk w g zs) : g < w.heap.size := by
  have := Array.getElem?_eq_some_iff.1 h
  exact this.1
theorem Blk.cell {w : World} {g : Nat} {zs : List Int} (h : Blk w g zs) {i : Nat} (hi : i < zs.length) : w.cell? ⟨g, i, none⟩ = some (.int .u16 (zs.getD i 0)) := by
  unfold Blk at h
  simp only [World.cell?, h]
  simp [arrA, List.getD, hi]
theorem Blk.frozen {w : World} {g : Nat} {zs : List Int} (h : Blk w g zs) (i : Nat) : w.frozen? ⟨g, i, none⟩ = false := by
  unfold Blk at h
  simp [World.frozen?, h]
theorem Blk.set {w : World} {g : Nat} {zs : List Int} (h : Blk w g zs) (i : Nat) (v : Int) : Blk (w.setCell ⟨g, i, none⟩ (.int .u16 v)) g (zs.set i v) := by
  unfold Blk at h ⊢
  rw [heap_setCell_same w g i _ _ _ h]
  simp [arrA, List.map_set]
theorem Blk.other {w : World} {g : Nat} {zs : List Int} (h : Blk w g zs) {a : Addr} (hne : g ≠ a.block) (v : Value) : Blk (w.setCell a v) g zs := by
  unfold Blk at h ⊢
  rw [heap_setCell_other w a g v hne]; exact h
theorem Blk.box {w : World} {g : Nat} {zs : List Int} (h : Blk w g zs) : Box w g zs := fun j v hv => by
  have hj : j < zs.length := by have := (List.getElem?_eq_some_iff.1 hv).1; simpa using this
  rw [Nat.zero_add, h.cell hj]
  rw [List.getElem?_map, List.getElem?_eq_getElem hj] at hv
  simp only [Option.map_some, Option.some.injEq] at hv
  rw [← hv]; simp [List.getD, hj]
theorem Blk.new (w : World) (zs : List Int) (C : Array Value) (hC : C = arrA zs) : Blk (w.alloc (.cells C 48)) w.heap.size zs := by
  subst hC
  exact heap_alloc_last w _
theorem Blk.alloc {w : World} {g : Nat} {zs : List Int} (h : Blk w g zs) (o : Obj) : Blk (w.alloc o) g zs := by
  have hl := h.lt
  unfold Blk at h ⊢
  rw [Below.heap_alloc w o g hl]; exact h
theorem Blk.there {w : World} {g : Nat} {zs : List Int} (h : Blk w g zs) : w.there g 0 zs.length := fun j hj => by
  rw [Nat.zero_add]
  exact ⟨by rw [h.cell hj]; rfl, h.frozen j⟩

theorem results_cell1 {fn : Func} {p : Tmp} {ty : TypeId} (h : fn.results = #[.cell p ty]) (tmps : Array Value) (P : Program) (w : World) :
    (results fn tmps).run P w = ((asAddr (tmps.getD p undef)).run P w).andThen fun a w₁ => (loadVar ty a).run P w₁ := by
  simp only [results, h]
  simp [Sem.run_bind, Result.andThen]
theorem results_cellM {fn : Func} {p : Tmp} {ty : TypeId} (h : fn.results = #[.cell p ty]) (tmps : Array Value) (P : Program) (w : World) (g : Nat) (v : Value) (hp : tmps.getD p undef = .pointer (some ⟨g, 0, none⟩)) (hld : (loadVar ty ⟨g, 0, none⟩).run P w = .ok v w) :
    (results fn tmps).run P w = .ok v w := by
  rw [results_cell1 h, hp]
  simp [asAddr, Result.andThen, hld]

namespace Tri
theorem val_ge {b : Int} {rs : List Rg} (h : Val b rs) (k : Nat) (hk : k < rs.length) : b ≤ lo (rs.getD k (0, 0, 0)) := by
  induction rs generalizing b k with
  | nil => simp at hk
  | cons r rs ih =>
    obtain ⟨h1, h2, h3, h4, h5, h6⟩ := h
    cases k with
    | zero => exact h1
    | succ k =>
      have := ih h6 k (by simpa using hk)
      simp only [List.getD_cons_succ]
      omega
theorem get_take {b d c : Int} {rs : List Rg} (hv : Val b rs) (k : Nat) (hk : k < rs.length) : get d (rs.take (k + 1)) c = if lo (rs.getD k (0, 0, 0)) ≤ c ∧ c ≤ hi (rs.getD k (0, 0, 0)) then vl (rs.getD k (0, 0, 0)) else get d (rs.take k) c := by
  induction rs generalizing b k with
  | nil => simp at hk
  | cons r rs ih =>
    obtain ⟨h1, h2, h3, h4, h5, h6⟩ := hv
    cases k with
    | zero =>
      simp only [List.take_succ_cons, List.take_zero, List.getD_cons_zero, get_cons]
    | succ k =>
      have hk' : k < rs.length := by simpa using hk
      have := ih h6 k hk'
      simp only [List.take_succ_cons, List.getD_cons_succ, get_cons]
      rw [this]
      by_cases hc : lo r ≤ c ∧ c ≤ hi r
      · rw [if_pos hc]
        have hlo : hi r + 1 ≤ lo (rs.getD k (0, 0, 0)) := val_ge h6 k hk'
        rw [if_neg (by omega), if_pos hc]
      · rw [if_neg hc]
        split <;> rfl
end Tri

theorem set_at (zs : List Int) (i j : Nat) (v : Int) (hi : i < zs.length) : (zs.set i v).getD j 0 = if j = i then v else zs.getD j 0 := by
  simp only [List.getD, List.getElem?_set]
  by_cases h : i = j
  · subst h; simp [hi]
  · rw [if_neg h, if_neg (fun e => h e.symm)]

theorem below_setCells4 {B g : Nat} {a : World} (hb : B ≤ g) : ∀ (vs : List Value) (o : Nat) (w : World), Below B a w → Below B a (w.setCells g o vs)
  | [], _, _, h => h
  | v :: vs, o, _, h => below_setCells4 hb vs (o + 1) _ (h.setCell (p := ⟨g, o, none⟩) hb v)

/-- An array that is told. -/
def ArrPost (w : World) (zs : List Int) (e : Ending) (w' : World) : Prop := e = .returned (.agg (arrA zs)) ∧ Below w.heap.size w w'

theorem blk_ext (f : Int → Int) (p : Nat) (zs : List Int) (hl : zs.length = 64) (h : ∀ j, j < 64 → zs.getD j 0 = f ((64 * p + j : Nat) : Int)) : zs = Tri.blk f p := by
  apply List.ext_getElem (by rw [hl, Tri.blk_len])
  intro i a b
  have h1 := h i (by omega)
  have h2 := Tri.blk_at f p i (by omega)
  rw [← h2] at h1
  simpa [List.getD, a, b] using h1

set_option maxRecDepth 50000 in
set_option maxHeartbeats 4000000 in
theorem refBlock_any (v : Value) (rs : List Tri.Rg) (d : Int) (p : Nat) (w : World) (hv : Sr w v rs) (hval : Tri.Val 0 rs) (hl : rs.length ≤ 1000) (hd : 0 ≤ d ∧ d ≤ 65535) (hp : p < 17408) :
    Calls Try.prog 25 #[v, .int .i64 d, .int .i64 (p : Int)] w (ArrPost w (Tri.blk (Tri.get d rs) p)) := by
  obtain ⟨hd1, hd2⟩ := hd
  have HX := hide (blk_ext (Tri.get d rs) p)
  have HV := hide hval
  have hsr := hide hv
  obtain ⟨ao, cap, rfl, hc1, hc2⟩ := hv.shape
  have HG0 : Hid (∀ c, Tri.get d (rs.take 0) c = d) := fun c => rfl
  have HGE : Hid (∀ c, Tri.get d (rs.take rs.length) c = Tri.get d rs c) := fun c => by rw [List.take_length]
  clear hv hval
  generalize Tri.blk (Tri.get d rs) p = res at *
  go_enter Try.func25, Try.ntmps25
  go_wp2
  have hA : Below w.heap.size w ((w.alloc (.cells #[.int .u16 0, .int .u16 0, .int .u16 0, .int .u16 0, .int .u16 0, .int .u16 0, .int .u16 0, .int .u16 0, .int .u16 0, .int .u16 0, .int .u16 0, .int .u16 0, .int .u16 0, .int .u16 0, .int .u16 0, .int .u16 0, .int .u16 0, .int .u16 0, .int .u16 0, .int .u16 0, .int .u16 0, .int .u16 0, .int .u16 0, .int .u16 0, .int .u16 0, .int .u16 0, .int .u16 0, .int .u16 0, .int .u16 0, .int .u16 0, .int .u16 0, .int .u16 0, .int .u16 0, .int .u16 0, .int .u16 0, .int .u16 0, .int .u16 0, .int .u16 0, .int .u16 0, .int .u16 0, .int .u16 0, .int .u16 0, .int .u16 0, .int .u16 0, .int .u16 0, .int .u16 0, .int .u16 0, .int .u16 0, .int .u16 0, .int .u16 0, .int .u16 0, .int .u16 0, .int .u16 0, .int .u16 0, .int .u16 0, .int .u16 0, .int .u16 0, .int .u16 0, .int .u16 0, .int .u16 0, .int .u16 0, .int .u16 0, .int .u16 0, .int .u16 0] 48)).alloc (.cells #[.int .u16 0, .int .u16 0, .int .u16 0, .int .u16 0, .int .u16 0, .int .u16 0, .int .u16 0, .int .u16 0, .int .u16 0, .int .u16 0, .int .u16 0, .int .u16 0, .int .u16 0, .int .u16 0, .int .u16 0, .int .u16 0, .int .u16 0, .int .u16 0, .int .u16 0, .int .u16 0, .int .u16 0, .int .u16 0, .int .u16 0, .int .u16 0, .int .u16 0, .int .u16 0, .int .u16 0, .int .u16 0, .int .u16 0, .int .u16 0, .int .u16 0, .int .u16 0, .int .u16 0, .int .u16 0, .int .u16 0, .int .u16 0, .int .u16 0, .int .u16 0, .int .u16 0, .int .u16 0, .int .u16 0, .int .u16 0, .int .u16 0, .int .u16 0, .int .u16 0, .int .u16 0, .int .u16 0, .int .u16 0, .int .u16 0, .int .u16 0, .int .u16 0, .int .u16 0, .int .u16 0, .int .u16 0, .int .u16 0, .int .u16 0, .int .u16 0, .int .u16 0, .int .u16 0, .int .u16 0, .int .u16 0, .int .u16 0, .int .u16 0, .int .u16 0] 48)) := ((Below.refl _ w).alloc (Nat.le_refl _) _).alloc (by simp) _
  have hB6 : Blk ((w.alloc (.cells #[.int .u16 0, .int .u16 0, .int .u16 0, .int .u16 0, .int .u16 0, .int .u16 0, .int .u16 0, .int .u16 0, .int .u16 0, .int .u16 0, .int .u16 0, .int .u16 0, .int .u16 0, .int .u16 0, .int .u16 0, .int .u16 0, .int .u16 0, .int .u16 0, .int .u16 0, .int .u16 0, .int .u16 0, .int .u16 0, .int .u16 0, .int .u16 0, .int .u16 0, .int .u16 0, .int .u16 0, .int .u16 0, .int .u16 0, .int .u16 0, .int .u16 0, .int .u16 0, .int .u16 0, .int .u16 0, .int .u16 0, .int .u16 0, .int .u16 0, .int .u16 0, .int .u16 0, .int .u16 0, .int .u16 0, .int .u16 0, .int .u16 0, .int .u16 0, .int .u16 0, .int .u16 0, .int .u16 0, .int .u16 0, .int .u16 0, .int .u16 0, .int .u16 0, .int .u16 0, .int .u16 0, .int .u16 0, .int .u16 0, .int .u16 0, .int .u16 0, .int .u16 0, .int .u16 0, .int .u16 0, .int .u16 0, .int .u16 0, .int .u16 0, .int .u16 0] 48)).alloc (.cells #[.int .u16 0, .int .u16 0, .int .u16 0, .int .u16 0, .int .u16 0, .int .u16 0, .int .u16 0, .int .u16 0, .int .u16 0, .int .u16 0, .int .u16 0, .int .u16 0, .int .u16 0, .int .u16 0, .int .u16 0, .int .u16 0, .int .u16 0, .int .u16 0, .int .u16 0, .int .u16 0, .int .u16 0, .int .u16 0, .int .u16 0, .int .u16 0, .int .u16 0, .int .u16 0, .int .u16 0, .int .u16 0, .int .u16 0, .int .u16 0, .int .u16 0, .int .u16 0, .int .u16 0, .int .u16 0, .int .u16 0, .int .u16 0, .int .u16 0, .int .u16 0, .int .u16 0, .int .u16 0, .int .u16 0, .int .u16 0, .int .u16 0, .int .u16 0, .int .u16 0, .int .u16 0, .int .u16 0, .int .u16 0, .int .u16 0, .int .u16 0, .int .u16 0, .int .u16 0, .int .u16 0, .int .u16 0, .int .u16 0, .int .u16 0, .int .u16 0, .int .u16 0, .int .u16 0, .int .u16 0, .int .u16 0, .int .u16 0, .int .u16 0, .int .u16 0] 48)) w.heap.size (List.replicate 64 0) := (Blk.new w (List.replicate 64 0) _ rfl).alloc _
  have hB7 : Blk ((w.alloc (.cells #[.int .u16 0, .int .u16 0, .int .u16 0, .int .u16 0, .int .u16 0, .int .u16 0, .int .u16 0, .int .u16 0, .int .u16 0, .int .u16 0, .int .u16 0, .int .u16 0, .int .u16 0, .int .u16 0, .int .u16 0, .int .u16 0, .int .u16 0, .int .u16 0, .int .u16 0, .int .u16 0, .int .u16 0, .int .u16 0, .int .u16 0, .int .u16 0, .int .u16 0, .int .u16 0, .int .u16 0, .int .u16 0, .int .u16 0, .int .u16 0, .int .u16 0, .int .u16 0, .int .u16 0, .int .u16 0, .int .u16 0, .int .u16 0, .int .u16 0, .int .u16 0, .int .u16 0, .int .u16 0, .int .u16 0, .int .u16 0, .int .u16 0, .int .u16 0, .int .u16 0, .int .u16 0, .int .u16 0, .int .u16 0, .int .u16 0, .int .u16 0, .int .u16 0, .int .u16 0, .int .u16 0, .int .u16 0, .int .u16 0, .int .u16 0, .int .u16 0, .int .u16 0, .int .u16 0, .int .u16 0, .int .u16 0, .int .u16 0, .int .u16 0, .int .u16 0] 48)).alloc (.cells #[.int .u16 0, .int .u16 0, .int .u16 0, .int .u16 0, .int .u16 0, .int .u16 0, .int .u16 0, .int .u16 0, .int .u16 0, .int .u16 0, .int .u16 0, .int .u16 0, .int .u16 0, .int .u16 0, .int .u16 0, .int .u16 0, .int .u16 0, .int .u16 0, .int .u16 0, .int .u16 0, .int .u16 0, .int .u16 0, .int .u16 0, .int .u16 0, .int .u16 0, .int .u16 0, .int .u16 0, .int .u16 0, .int .u16 0, .int .u16 0, .int .u16 0, .int .u16 0, .int .u16 0, .int .u16 0, .int .u16 0, .int .u16 0, .int .u16 0, .int .u16 0, .int .u16 0, .int .u16 0, .int .u16 0, .int .u16 0, .int .u16 0, .int .u16 0, .int .u16 0, .int .u16 0, .int .u16 0, .int .u16 0, .int .u16 0, .int .u16 0, .int .u16 0, .int .u16 0, .int .u16 0, .int .u16 0, .int .u16 0, .int .u16 0, .int .u16 0, .int .u16 0, .int .u16 0, .int .u16 0, .int .u16 0, .int .u16 0, .int .u16 0, .int .u16 0] 48)) (w.heap.size + 1) (List.replicate 64 0) := by
    have := Blk.new (w.alloc (.cells #[.int .u16 0, .int .u16 0, .int .u16 0, .int .u16 0, .int .u16 0, .int .u16 0, .int .u16 0, .int .u16 0, .int .u16 0, .int .u16 0, .int .u16 0, .int .u16 0, .int .u16 0, .int .u16 0, .int .u16 0, .int .u16 0, .int .u16 0, .int .u16 0, .int .u16 0, .int .u16 0, .int .u16 0, .int .u16 0, .int .u16 0, .int .u16 0, .int .u16 0, .int .u16 0, .int .u16 0, .int .u16 0, .int .u16 0, .int .u16 0, .int .u16 0, .int .u16 0, .int .u16 0, .int .u16 0, .int .u16 0, .int .u16 0, .int .u16 0, .int .u16 0, .int .u16 0, .int .u16 0, .int .u16 0, .int .u16 0, .int .u16 0, .int .u16 0, .int .u16 0, .int .u16 0, .int .u16 0, .int .u16 0, .int .u16 0, .int .u16 0, .int .u16 0, .int .u16 0, .int .u16 0, .int .u16 0, .int .u16 0, .int .u16 0, .int .u16 0, .int .u16 0, .int .u16 0, .int .u16 0, .int .u16 0, .int .u16 0, .int .u16 0, .int .u16 0] 48)) (List.replicate 64 0) _ rfl
    rwa [show (w.alloc (.cells #[.int .u16 0, .int .u16 0, .int .u16 0, .int .u16 0, .int .u16 0, .int .u16 0, .int .u16 0, .int .u16 0, .int .u16 0, .int .u16 0, .int .u16 0, .int .u16 0, .int .u16 0, .int .u16 0, .int .u16 0, .int .u16 0, .int .u16 0, .int .u16 0, .int .u16 0, .int .u16 0, .int .u16 0, .int .u16 0, .int .u16 0, .int .u16 0, .int .u16 0, .int .u16 0, .int .u16 0, .int .u16 0, .int .u16 0, .int .u16 0, .int .u16 0, .int .u16 0, .int .u16 0, .int .u16 0, .int .u16 0, .int .u16 0, .int .u16 0, .int .u16 0, .int .u16 0, .int .u16 0, .int .u16 0, .int .u16 0, .int .u16 0, .int .u16 0, .int .u16 0, .int .u16 0, .int .u16 0, .int .u16 0, .int .u16 0, .int .u16 0, .int .u16 0, .int .u16 0, .int .u16 0, .int .u16 0, .int .u16 0, .int .u16 0, .int .u16 0, .int .u16 0, .int .u16 0, .int .u16 0, .int .u16 0, .int .u16 0, .int .u16 0, .int .u16 0] 48)).heap.size = w.heap.size + 1 by simp] at this
  generalize (w.alloc (.cells #[.int .u16 0, .int .u16 0, .int .u16 0, .int .u16 0, .int .u16 0, .int .u16 0, .int .u16 0, .int .u16 0, .int .u16 0, .int .u16 0, .int .u16 0, .int .u16 0, .int .u16 0, .int .u16 0, .int .u16 0, .int .u16 0, .int .u16 0, .int .u16 0, .int .u16 0, .int .u16 0, .int .u16 0, .int .u16 0, .int .u16 0, .int .u16 0, .int .u16 0, .int .u16 0, .int .u16 0, .int .u16 0, .int .u16 0, .int .u16 0, .int .u16 0, .int .u16 0, .int .u16 0, .int .u16 0, .int .u16 0, .int .u16 0, .int .u16 0, .int .u16 0, .int .u16 0, .int .u16 0, .int .u16 0, .int .u16 0, .int .u16 0, .int .u16 0, .int .u16 0, .int .u16 0, .int .u16 0, .int .u16 0, .int .u16 0, .int .u16 0, .int .u16 0, .int .u16 0, .int .u16 0, .int .u16 0, .int .u16 0, .int .u16 0, .int .u16 0, .int .u16 0, .int .u16 0, .int .u16 0, .int .u16 0, .int .u16 0, .int .u16 0, .int .u16 0] 48)).alloc (.cells #[.int .u16 0, .int .u16 0, .int .u16 0, .int .u16 0, .int .u16 0, .int .u16 0, .int .u16 0, .int .u16 0, .int .u16 0, .int .u16 0, .int .u16 0, .int .u16 0, .int .u16 0, .int .u16 0, .int .u16 0, .int .u16 0, .int .u16 0, .int .u16 0, .int .u16 0, .int .u16 0, .int .u16 0, .int .u16 0, .int .u16 0, .int .u16 0, .int .u16 0, .int .u16 0, .int .u16 0, .int .u16 0, .int .u16 0, .int .u16 0, .int .u16 0, .int .u16 0, .int .u16 0, .int .u16 0, .int .u16 0, .int .u16 0, .int .u16 0, .int .u16 0, .int .u16 0, .int .u16 0, .int .u16 0, .int .u16 0, .int .u16 0, .int .u16 0, .int .u16 0, .int .u16 0, .int .u16 0, .int .u16 0, .int .u16 0, .int .u16 0, .int .u16 0, .int .u16 0, .int .u16 0, .int .u16 0, .int .u16 0, .int .u16 0, .int .u16 0, .int .u16 0, .int .u16 0, .int .u16 0, .int .u16 0, .int .u16 0, .int .u16 0, .int .u16 0] 48) = wz at *
  obtain ⟨g6, hg6⟩ : ∃ g6, g6 = w.heap.size := ⟨_, rfl⟩
  obtain ⟨g7, hg7⟩ : ∃ g7, g7 = w.heap.size + 1 := ⟨_, rfl⟩
  rw [← hg6] at hB6
  rw [← hg7] at hB7
  have h67 : g6 ≠ g7 := by omega
  have hge6 : w.heap.size ≤ g6 := by omega
  have hge7 : w.heap.size ≤ g7 := by omega
  rw [← hg7, ← hg6]
  clear hg6 hg7
  obtain ⟨Z, hZ⟩ : ∃ Z, Z = List.replicate 64 (0 : Int) := ⟨_, rfl⟩
  rw [← hZ] at hB6 hB7
  have hZl : Z.length = 64 := by rw [hZ]; simp
  clear hZ
  go_loopw [8] (fun i wr => ∃ (k : Nat) (zs : List Int), i = .int .i64 k ∧ k ≤ 64 ∧ zs.length = 64 ∧ Blk wr g7 zs ∧ Blk wr g6 Z ∧ Below w.heap.size w wr ∧ ∀ j, j < k → zs.getD j 0 = d) (fun i _ => 64 - (intOf i).toNat)
  case atStart => exact ⟨0, Z, rfl, by omega, hZl, hB7, hB6, hA, fun j hj => by omega⟩
  case round =>
    clear hA hB6 hB7
    obtain ⟨k, zs, rfl, hk, hzl, hz, hz6, hbel, hall⟩ := hrel
    by_cases hlt : k < 64
    · have hc := hz.cell (i := k) (by omega)
      have hf := hz.frozen k
      have hz2 := hz.set k d
      have hz62 := hz6.other (a := ⟨g7, k, none⟩) h67 (.int .u16 d)
      have hb2 := hbel.setCell (p := ⟨g7, k, none⟩) hge7 (.int .u16 d)
      have hal2 : Hid (∀ j, j < k + 1 → (zs.set k d).getD j 0 = d) := by
        intro j hj
        rw [set_at zs k j d (by omega)]
        split
        · rfl
        · exact hall j (by omega)
      have hin1 : (0 : Int) ≤ (k : Int) := by omega
      have hin2 : (k : Int) < 64 := by omega
      generalize zs.getD k 0 = old at *
      clear hall hz hz6 hbel
      go_wp2
      go_roundw
      case rel => exact ⟨k + 1, zs.set k d, by go_num, by omega, by simp [hzl], hz2, hz62, hb2, unhide hal2⟩
      case measure => simp [intOf]; omega
    · obtain rfl : k = 64 := by omega
      have hbase : Hid (∀ j, j < 64 → zs.getD j 0 = Tri.get d (rs.take 0) ((64 * p + j : Nat) : Int)) := fun j hj => by rw [hall j hj, (unhide HG0)]
      clear hall HG0
      go_wp2
      go_loopw [9, 10] (fun i _ wr => ∃ (k : Nat) (zs : List Int), i = .int .i64 k ∧ k ≤ rs.length ∧ zs.length = 64 ∧ Blk wr g7 zs ∧ Blk wr g6 Z ∧ Below w.heap.size w wr ∧ ∀ j, j < 64 → zs.getD j 0 = Tri.get d (rs.take k) ((64 * p + j : Nat) : Int)) (fun i _ _ => rs.length - (intOf i).toNat)
      case atStart => exact ⟨0, zs, rfl, by omega, hzl, hz, hz6, hbel, unhide hbase⟩
      case round =>
        clear hz hz6 hbel hbase hzl
        obtain ⟨k, zs, rfl, hk, hzl, hz, hz6, hbel, hall⟩ := hrel
        by_cases hlt : k < rs.length
        · have hgt := fun c => Tri.get_take (d := d) (c := c) (unhide HV) k hlt
          obtain ⟨b1, b2, b3, b4, b5⟩ := val_at (unhide HV) (Int.le_refl _) k hlt
          obtain ⟨bx, offx, cpx, hvx, _, _, hcl⟩ := (unhide hsr).place (by omega)
          simp only [Value.slice.injEq] at hvx
          obtain ⟨rfl, _, rfl⟩ := hvx
          have HCL : Hid (∀ wx, Below w.heap.size w wx → wx.cell? ⟨bx, offx + k * 3, none⟩ = some (.int .i64 (Tri.lo (rs.getD k (0, 0, 0)))) ∧ wx.cell? ⟨bx, offx + k * 3 + 1, none⟩ = some (.int .i64 (Tri.hi (rs.getD k (0, 0, 0)))) ∧ wx.cell? ⟨bx, offx + k * 3 + 2, none⟩ = some (.int .i64 (Tri.vl (rs.getD k (0, 0, 0))))) := by
            intro wx hb
            obtain ⟨c0, c1, c2⟩ := hcl k hlt
            exact ⟨by rw [hb.cell (lt_of_cell? c0)]; exact c0, by rw [hb.cell (lt_of_cell? c1)]; exact c1, by rw [hb.cell (lt_of_cell? c2)]; exact c2⟩
          have HGT := hide hgt
          have HAL := hide hall
          obtain ⟨c0, c1, c2⟩ := (unhide HCL) wr hbel
          clear hcl hgt hall
          generalize rs.getD k (0, 0, 0) = r at *
          generalize Tri.lo r = lo at *
          generalize Tri.hi r = hi at *
          generalize Tri.vl r = vv at *
          obtain ⟨wo, hwo⟩ : ∃ wo, wo = wr := ⟨_, rfl⟩
          subst hwo
          by_cases hmx : lo < 64 * (p : Int)
          · go_wp2
            go_loopw [10] (fun vc wr => ∃ (c : Int) (zs : List Int), vc = .int .i64 c ∧ lo ≤ c ∧ 64 * (p : Int) ≤ c ∧ c ≤ 1114112 ∧ zs.length = 64 ∧ Blk wr g7 zs ∧ Blk wr g6 Z ∧ Below w.heap.size w wr ∧ ∀ j, j < 64 → zs.getD j 0 = if lo ≤ ((64 * p + j : Nat) : Int) ∧ ((64 * p + j : Nat) : Int) < c ∧ ((64 * p + j : Nat) : Int) ≤ hi then vv else Tri.get d (rs.take k) ((64 * p + j : Nat) : Int)) (fun vc _ => (1114112 - intOf vc).toNat)
            case atStart => exact ⟨64 * (p : Int), zs, rfl, by omega, by omega, by omega, hzl, hz, hz6, hbel, fun j hj => by rw [if_neg (by omega)]; exact (unhide HAL) j hj⟩
            case round =>
              clear hz hz6 hbel hzl c0 c1 c2
              obtain ⟨c, zs, rfl, hc1, hc2, hc3, hzl, hz, hz6, hbel, hall⟩ := hrel
              obtain ⟨c0, c1, c2⟩ := (unhide HCL) wr hbel
              by_cases hin : c ≤ hi ∧ c ≤ 64 * (p : Int) + 63
              · obtain ⟨q1, q2⟩ := hin
                obtain ⟨i, hci⟩ : ∃ i : Nat, c - 64 * (p : Int) = (i : Int) := ⟨(c - 64 * (p : Int)).toNat, by omega⟩
                have hi64 : i < 64 := by omega
                have hcl := hz.cell (i := i) (by omega)
                have hfr := hz.frozen i
                have hz2 := hz.set i vv
                have hz62 := hz6.other (a := ⟨g7, i, none⟩) h67 (.int .u16 vv)
                have hb2 := hbel.setCell (p := ⟨g7, i, none⟩) hge7 (.int .u16 vv)
                have hal2 : Hid (∀ j, j < 64 → (zs.set i vv).getD j 0 = if lo ≤ ((64 * p + j : Nat) : Int) ∧ ((64 * p + j : Nat) : Int) < c + 1 ∧ ((64 * p + j : Nat) : Int) ≤ hi then vv else Tri.get d (rs.take k) ((64 * p + j : Nat) : Int)) := by
                  intro j hj
                  rw [set_at zs i j vv (by omega), hall j hj]
                  by_cases hji : j = i
                  · rw [if_pos hji, if_pos (by omega)]
                  · rw [if_neg hji]
                    by_cases hx : lo ≤ ((64 * p + j : Nat) : Int) ∧ ((64 * p + j : Nat) : Int) < c ∧ ((64 * p + j : Nat) : Int) ≤ hi
                    · rw [if_pos hx, if_pos (by omega)]
                    · rw [if_neg hx, if_neg (by omega)]
                have hin1 : (0 : Int) ≤ (i : Int) := by omega
                have hin2 : (i : Int) < 64 := by omega
                generalize zs.getD i 0 = old at *
                clear hall hz hz6
                by_cases hmn : 64 * (p : Int) + 63 < hi
                · go_wp2
                  go_roundw
                  case rel => exact ⟨c + 1, zs.set i vv, by go_num, by omega, by omega, by omega, by simp [hzl], hz2, hz62, hb2, unhide hal2⟩
                  case measure => simp [intOf]; omega
                · go_wp2
                  go_roundw
                  case rel => exact ⟨c + 1, zs.set i vv, by go_num, by omega, by omega, by omega, by simp [hzl], hz2, hz62, hb2, unhide hal2⟩
                  case measure => simp [intOf]; omega
              · have hal2 : Hid (∀ j, j < 64 → zs.getD j 0 = Tri.get d (rs.take (k + 1)) ((64 * p + j : Nat) : Int)) := by
                  intro j hj
                  rw [hall j hj, (unhide HGT)]
                  by_cases hx : lo ≤ ((64 * p + j : Nat) : Int) ∧ ((64 * p + j : Nat) : Int) ≤ hi
                  · rw [if_pos hx, if_pos (by omega)]
                  · rw [if_neg hx, if_neg (by omega)]
                clear hall
                by_cases hmn : 64 * (p : Int) + 63 < hi
                · have hgt' : ¬ (c ≤ 64 * (p : Int) + 63) := by omega
                  go_wp2
                  go_roundw
                  case rel => first | exact ⟨k + 1, zs, by go_num, by omega, hzl, hz, hz6, hbel, unhide hal2⟩ | exact ⟨k + 1, by go_num, by omega, zs, hzl, hz, by simpa using unhide hal2⟩ | exact ⟨k + 1, by go_num, by omega, zs, hzl, hz, hz6, by simpa using unhide hal2⟩
                  case measure => simp [intOf]; omega
                · have hgt' : ¬ (c ≤ hi) := by omega
                  go_wp2
                  go_roundw
                  case rel => first | exact ⟨k + 1, zs, by go_num, by omega, hzl, hz, hz6, hbel, unhide hal2⟩ | exact ⟨k + 1, by go_num, by omega, zs, hzl, hz, by simpa using unhide hal2⟩ | exact ⟨k + 1, by go_num, by omega, zs, hzl, hz, hz6, by simpa using unhide hal2⟩
                  case measure => simp [intOf]; omega
          · go_wp2
            go_loopw [10] (fun vc wr => ∃ (c : Int) (zs : List Int), vc = .int .i64 c ∧ lo ≤ c ∧ 64 * (p : Int) ≤ c ∧ c ≤ 1114112 ∧ zs.length = 64 ∧ Blk wr g7 zs ∧ Blk wr g6 Z ∧ Below w.heap.size w wr ∧ ∀ j, j < 64 → zs.getD j 0 = if lo ≤ ((64 * p + j : Nat) : Int) ∧ ((64 * p + j : Nat) : Int) < c ∧ ((64 * p + j : Nat) : Int) ≤ hi then vv else Tri.get d (rs.take k) ((64 * p + j : Nat) : Int)) (fun vc _ => (1114112 - intOf vc).toNat)
            case atStart => exact ⟨lo, zs, rfl, by omega, by omega, by omega, hzl, hz, hz6, hbel, fun j hj => by rw [if_neg (by omega)]; exact (unhide HAL) j hj⟩
            case round =>
              clear hz hz6 hbel hzl c0 c1 c2
              obtain ⟨c, zs, rfl, hc1, hc2, hc3, hzl, hz, hz6, hbel, hall⟩ := hrel
              obtain ⟨c0, c1, c2⟩ := (unhide HCL) wr hbel
              by_cases hin : c ≤ hi ∧ c ≤ 64 * (p : Int) + 63
              · obtain ⟨q1, q2⟩ := hin
                obtain ⟨i, hci⟩ : ∃ i : Nat, c - 64 * (p : Int) = (i : Int) := ⟨(c - 64 * (p : Int)).toNat, by omega⟩
                have hi64 : i < 64 := by omega
                have hcl := hz.cell (i := i) (by omega)
                have hfr := hz.frozen i
                have hz2 := hz.set i vv
                have hz62 := hz6.other (a := ⟨g7, i, none⟩) h67 (.int .u16 vv)
                have hb2 := hbel.setCell (p := ⟨g7, i, none⟩) hge7 (.int .u16 vv)
                have hal2 : Hid (∀ j, j < 64 → (zs.set i vv).getD j 0 = if lo ≤ ((64 * p + j : Nat) : Int) ∧ ((64 * p + j : Nat) : Int) < c + 1 ∧ ((64 * p + j : Nat) : Int) ≤ hi then vv else Tri.get d (rs.take k) ((64 * p + j : Nat) : Int)) := by
                  intro j hj
                  rw [set_at zs i j vv (by omega), hall j hj]
                  by_cases hji : j = i
                  · rw [if_pos hji, if_pos (by omega)]
                  · rw [if_neg hji]
                    by_cases hx : lo ≤ ((64 * p + j : Nat) : Int) ∧ ((64 * p + j : Nat) : Int) < c ∧ ((64 * p + j : Nat) : Int) ≤ hi
                    · rw [if_pos hx, if_pos (by omega)]
                    · rw [if_neg hx, if_neg (by omega)]
                have hin1 : (0 : Int) ≤ (i : Int) := by omega
                have hin2 : (i : Int) < 64 := by omega
                generalize zs.getD i 0 = old at *
                clear hall hz hz6
                by_cases hmn : 64 * (p : Int) + 63 < hi
                · go_wp2
                  go_roundw
                  case rel => exact ⟨c + 1, zs.set i vv, by go_num, by omega, by omega, by omega, by simp [hzl], hz2, hz62, hb2, unhide hal2⟩
                  case measure => simp [intOf]; omega
                · go_wp2
                  go_roundw
                  case rel => exact ⟨c + 1, zs.set i vv, by go_num, by omega, by omega, by omega, by simp [hzl], hz2, hz62, hb2, unhide hal2⟩
                  case measure => simp [intOf]; omega
              · have hal2 : Hid (∀ j, j < 64 → zs.getD j 0 = Tri.get d (rs.take (k + 1)) ((64 * p + j : Nat) : Int)) := by
                  intro j hj
                  rw [hall j hj, (unhide HGT)]
                  by_cases hx : lo ≤ ((64 * p + j : Nat) : Int) ∧ ((64 * p + j : Nat) : Int) ≤ hi
                  · rw [if_pos hx, if_pos (by omega)]
                  · rw [if_neg hx, if_neg (by omega)]
                clear hall
                by_cases hmn : 64 * (p : Int) + 63 < hi
                · have hgt' : ¬ (c ≤ 64 * (p : Int) + 63) := by omega
                  go_wp2
                  go_roundw
                  case rel => first | exact ⟨k + 1, zs, by go_num, by omega, hzl, hz, hz6, hbel, unhide hal2⟩ | exact ⟨k + 1, by go_num, by omega, zs, hzl, hz, by simpa using unhide hal2⟩ | exact ⟨k + 1, by go_num, by omega, zs, hzl, hz, hz6, by simpa using unhide hal2⟩
                  case measure => simp [intOf]; omega
                · have hgt' : ¬ (c ≤ hi) := by omega
                  go_wp2
                  go_roundw
                  case rel => first | exact ⟨k + 1, zs, by go_num, by omega, hzl, hz, hz6, hbel, unhide hal2⟩ | exact ⟨k + 1, by go_num, by omega, zs, hzl, hz, by simpa using unhide hal2⟩ | exact ⟨k + 1, by go_num, by omega, zs, hzl, hz, hz6, by simpa using unhide hal2⟩
                  case measure => simp [intOf]; omega
        · obtain rfl : k = rs.length := by omega
          have hres := (unhide HX) zs hzl (fun j hj => by rw [hall j hj, (unhide HGE)])
          subst hres
          clear hall
          go_upto_region 13 with fail
          refine wp_region_list ?_
          refine wpList_load_mid (by rfl) 48 (.tmp 7) (by rfl) g7 0 (by rfl) (zs.map (Value.int .u16)) _ hz.box Try.underlying48 (by rfl) (infoArrL hzl) ?_
          have h6l : Z.length = zs.length := by omega
          have hth : wr.there g6 0 (zs.map (Value.int .u16)).toArray.size := by
            have := hz6.there
            rw [h6l] at this
            simpa using this
          refine wpList_store_mid (by rfl) 48 (.tmp 6) (.tmp 57) (by rfl) g6 0 (zs.map (Value.int .u16)).toArray (by rfl) (by rfl) hth (by rw [show (zs.map (Value.int .u16)).toArray.size = 64 by simp [hzl]]; exact infoArr) (arrA_one zs) ?_
          have hth2 : wr.there g6 0 (zs.map (Value.int .u16)).length := by simpa using hth
          have hrg := World.rangeAt_setCells_same wr g6 0 (zs.map (Value.int .u16)) hth2
          have hbF : Below w.heap.size w (wr.setCells g6 0 (zs.map (Value.int .u16))) := below_setCells4 hge6 _ _ _ hbel
          have hld := run_loadVar_mid (P := Try.prog) _ g6 0 48 (zs.map (Value.int .u16)) _ hrg Try.underlying48 (by rfl) (infoArrL hzl)
          clear hz hz6 hth hth2 hrg hbel
          generalize wr.setCells g6 0 (zs.map (Value.int .u16)) = wf at *
          go_wp2
          exact bodyPost_ret (v := .agg (arrA zs)) (results_cellM rfl _ _ _ g6 _ (by rfl) hld) rfl ⟨rfl, hbF⟩
end Go.Proofs.Ytehdeipeehaejaa
