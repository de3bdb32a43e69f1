/- The contract of values: the block of a piece. -/
import Derived.Test.YtehdeipeehaejaaTrD4
import Derived.Test.YtehdeipeehaejaaTrB4
namespace Go.Proofs.Ytehdeipeehaejaa
open Go.RowKit

/-- The block g is an array of these numbers, of the program's own type. -/
def Bk (w : World) (g : Nat) (zs : List Int) : Prop := w.heap[g]? = some (.cells (arrA zs) 60 (0, 0))
theorem Bk.lt {w : World} {g : Nat} {zs : List Int} (h : Bk w g zs) : g < w.heap.size := (Array.getElem?_eq_some_iff.1 h).1
theorem Bk.cell {w : World} {g : Nat} {zs : List Int} (h : Bk w g zs) {i : Nat} (hi : i < zs.length) : w.cell? ⟨g, i, none⟩ = some (.int .u16 (zs.getD i 0)) := by
  unfold Bk at h
  simp only [World.cell?, h]
  simp [arrA, List.getD, hi]
theorem Bk.frozen {w : World} {g : Nat} {zs : List Int} (h : Bk w g zs) (i : Nat) : w.frozen? ⟨g, i, none⟩ = false := by
  unfold Bk at h
  simp [World.frozen?, h]
theorem Bk.set {w : World} {g : Nat} {zs : List Int} (h : Bk w g zs) (i : Nat) (v : Int) : Bk (w.setCell ⟨g, i, none⟩ (.int .u16 v)) g (zs.set i v) := by
  unfold Bk at h ⊢
  rw [heap_setCell_same w g i _ _ _ h]
  simp [arrA, List.map_set]
theorem Bk.other {w : World} {g : Nat} {zs : List Int} (h : Bk w g zs) {a : Addr} (hne : g ≠ a.block) (v : Value) : Bk (w.setCell a v) g zs := by
  unfold Bk at h ⊢
  rw [heap_setCell_other w a g v hne]; exact h
theorem Bk.box {w : World} {g : Nat} {zs : List Int} (h : Bk w g zs) : Box w g zs := fun j v hv => by
  have hj : j < zs.length := by have := (List.getElem?_eq_some_iff.1 hv).1; simpa using this
  rw [Nat.zero_add, h.cell hj]
  rw [List.getElem?_map, List.getElem?_eq_getElem hj] at hv
  simp only [Option.map_some, Option.some.injEq] at hv
  rw [← hv]; simp [List.getD, hj]
theorem Bk.new (w : World) (zs : List Int) (C : Array Value) (hC : C = arrA zs) : Bk (w.alloc (.cells C 60)) w.heap.size zs := by
  subst hC
  exact heap_alloc_last w _
theorem Bk.alloc {w : World} {g : Nat} {zs : List Int} (h : Bk w g zs) (o : Obj) : Bk (w.alloc o) g zs := by
  have hl := h.lt
  unfold Bk at h ⊢
  rw [Below.heap_alloc w o g hl]; exact h
theorem Bk.there {w : World} {g : Nat} {zs : List Int} (h : Bk w g zs) : w.there g 0 zs.length := fun j hj => by
  rw [Nat.zero_add]
  exact ⟨by rw [h.cell hj]; rfl, h.frozen j⟩
theorem Bk.below {w w' : World} {g : Nat} {zs : List Int} (h : Bk w g zs) (hb : Below w.heap.size w w') : Bk w' g zs := by
  have hl := h.lt
  unfold Bk at h ⊢
  rw [hb.block g hl]; exact h

theorem infoBk : (Try.prog.info? 60).map (·.size) = some 64 := by kernel_rfl

/-- A range in a block of its own. -/
def Rb (w : World) (g : Nat) (l h x : Int) : Prop := w.heap[g]? = some (.cells #[.int .i64 l, .int .i64 h, .int .i64 x] 35 (0, 0))
theorem Rb.cells {w : World} {g : Nat} {l h x : Int} (hr : Rb w g l h x) : w.cell? ⟨g, 0, none⟩ = some (.int .i64 l) ∧ w.cell? ⟨g, 1, none⟩ = some (.int .i64 h) ∧ w.cell? ⟨g, 2, none⟩ = some (.int .i64 x) :=
  ⟨by rw [cell_of_row _ _ _ _ _ _ hr]; rfl, by rw [cell_of_row _ _ _ _ _ _ hr]; rfl, by rw [cell_of_row _ _ _ _ _ _ hr]; rfl⟩
theorem Rb.other {w : World} {g : Nat} {l h x : Int} (hr : Rb w g l h x) {a : Addr} (hne : g ≠ a.block) (v : Value) : Rb (w.setCell a v) g l h x := by
  unfold Rb at hr ⊢
  rw [heap_setCell_other w a g v hne]; exact hr

namespace Tri
/-- What begins behind c says nothing of it. -/
theorem get_front {b d c : Int} {rs : List Rg} (hv : Val b rs) (k : Nat) (hk : k < rs.length) (hc : c < lo (rs.getD k (0, 0, 0))) : get d rs c = get d (rs.take k) c := by
  induction rs generalizing b k with
  | nil => simp at hk
  | cons r rs ih =>
    obtain ⟨h1, h2, h3, h4, h5, h6⟩ := hv
    cases k with
    | zero =>
      simp only [List.getD_cons_zero] at hc
      have h7 : Val (lo r) (r :: rs) := ⟨Int.le_refl _, h2, h3, h4, h5, h6⟩
      rw [get_below h7 hc]; rfl
    | succ k =>
      simp only [List.take_succ_cons, get_cons]
      rw [ih h6 k (by simpa using hk) (by simpa using hc)]
end Tri

theorem blk_ext2 (f : Int → Int) (p : Nat) (lo0 : Int) (h0 : lo0 = (p : Int) * 64) (zs : List Int) (hl : zs.length = 64) (h : ∀ j : Nat, j < 64 → zs.getD j 0 = f (lo0 + (j : Int))) : zs = Tri.blk f p :=
  blk_ext f p zs hl fun j hj => by rw [h j hj, show lo0 + (j : Int) = ((64 * p + j : Nat) : Int) by omega]

set_option maxRecDepth 50000 in
set_option maxHeartbeats 4000000 in
theorem values4 (v : Value) (rs : List Tri.Rg) (d : Int) (p : Nat) (w : World) (hv : Sr w v rs) (hval : Tri.Val 0 rs) (hd : 0 ≤ d ∧ d ≤ 65535) (hp : p < 17408) :
    Calls Try.prog 32 #[v, .int .i64 ((p : Int) * 64), .int .i64 d] w (ArrPost w (Tri.blk (Tri.get d rs) p)) := by
  obtain ⟨hd1, hd2⟩ := hd
  obtain ⟨lo0, hlo0⟩ : ∃ l : Int, l = (p : Int) * 64 := ⟨_, rfl⟩
  have HX := hide (blk_ext2 (Tri.get d rs) p lo0 hlo0)
  have z1 : 0 ≤ lo0 := by omega
  have z2 : lo0 ≤ 1114048 := by omega
  rw [← hlo0]
  clear hlo0
  have HV := hide hval
  have hsr := hide hv
  have hlen := hv.len
  obtain ⟨ao, cap, rfl, hc1, hc2⟩ := hv.shape
  have HG0 : Hid (∀ c, Tri.get d (rs.take 0) c = d) := fun c => rfl
  have HGE : Hid (∀ c, Tri.get d (rs.take rs.length) c = Tri.get d rs c) := fun c => by rw [List.take_length]
  have HGF : Hid (∀ (k : Nat), k < rs.length → ∀ c, c < Tri.lo (rs.getD k (0, 0, 0)) → Tri.get d rs c = Tri.get d (rs.take k) c) := fun k hk c hc => Tri.get_front hval k hk hc
  clear hv hval
  generalize Tri.blk (Tri.get d rs) p = res at *
  go_enter Try.func32, Try.ntmps32
  go_wp2
  have hA : Below w.heap.size w ((w.alloc (.cells #[.int .u16 0, .int .u16 0, .int .u16 0, .int .u16 0, .int .u16 0, .int .u16 0, .int .u16 0, .int .u16 0, .int .u16 0, .int .u16 0, .int .u16 0, .int .u16 0, .int .u16 0, .int .u16 0, .int .u16 0, .int .u16 0, .int .u16 0, .int .u16 0, .int .u16 0, .int .u16 0, .int .u16 0, .int .u16 0, .int .u16 0, .int .u16 0, .int .u16 0, .int .u16 0, .int .u16 0, .int .u16 0, .int .u16 0, .int .u16 0, .int .u16 0, .int .u16 0, .int .u16 0, .int .u16 0, .int .u16 0, .int .u16 0, .int .u16 0, .int .u16 0, .int .u16 0, .int .u16 0, .int .u16 0, .int .u16 0, .int .u16 0, .int .u16 0, .int .u16 0, .int .u16 0, .int .u16 0, .int .u16 0, .int .u16 0, .int .u16 0, .int .u16 0, .int .u16 0, .int .u16 0, .int .u16 0, .int .u16 0, .int .u16 0, .int .u16 0, .int .u16 0, .int .u16 0, .int .u16 0, .int .u16 0, .int .u16 0, .int .u16 0, .int .u16 0] 60)).alloc (.cells #[.int .u16 0, .int .u16 0, .int .u16 0, .int .u16 0, .int .u16 0, .int .u16 0, .int .u16 0, .int .u16 0, .int .u16 0, .int .u16 0, .int .u16 0, .int .u16 0, .int .u16 0, .int .u16 0, .int .u16 0, .int .u16 0, .int .u16 0, .int .u16 0, .int .u16 0, .int .u16 0, .int .u16 0, .int .u16 0, .int .u16 0, .int .u16 0, .int .u16 0, .int .u16 0, .int .u16 0, .int .u16 0, .int .u16 0, .int .u16 0, .int .u16 0, .int .u16 0, .int .u16 0, .int .u16 0, .int .u16 0, .int .u16 0, .int .u16 0, .int .u16 0, .int .u16 0, .int .u16 0, .int .u16 0, .int .u16 0, .int .u16 0, .int .u16 0, .int .u16 0, .int .u16 0, .int .u16 0, .int .u16 0, .int .u16 0, .int .u16 0, .int .u16 0, .int .u16 0, .int .u16 0, .int .u16 0, .int .u16 0, .int .u16 0, .int .u16 0, .int .u16 0, .int .u16 0, .int .u16 0, .int .u16 0, .int .u16 0, .int .u16 0, .int .u16 0] 60)) := ((Below.refl _ w).alloc (Nat.le_refl _) _).alloc (by simp) _
  have hB6 : Bk ((w.alloc (.cells #[.int .u16 0, .int .u16 0, .int .u16 0, .int .u16 0, .int .u16 0, .int .u16 0, .int .u16 0, .int .u16 0, .int .u16 0, .int .u16 0, .int .u16 0, .int .u16 0, .int .u16 0, .int .u16 0, .int .u16 0, .int .u16 0, .int .u16 0, .int .u16 0, .int .u16 0, .int .u16 0, .int .u16 0, .int .u16 0, .int .u16 0, .int .u16 0, .int .u16 0, .int .u16 0, .int .u16 0, .int .u16 0, .int .u16 0, .int .u16 0, .int .u16 0, .int .u16 0, .int .u16 0, .int .u16 0, .int .u16 0, .int .u16 0, .int .u16 0, .int .u16 0, .int .u16 0, .int .u16 0, .int .u16 0, .int .u16 0, .int .u16 0, .int .u16 0, .int .u16 0, .int .u16 0, .int .u16 0, .int .u16 0, .int .u16 0, .int .u16 0, .int .u16 0, .int .u16 0, .int .u16 0, .int .u16 0, .int .u16 0, .int .u16 0, .int .u16 0, .int .u16 0, .int .u16 0, .int .u16 0, .int .u16 0, .int .u16 0, .int .u16 0, .int .u16 0] 60)).alloc (.cells #[.int .u16 0, .int .u16 0, .int .u16 0, .int .u16 0, .int .u16 0, .int .u16 0, .int .u16 0, .int .u16 0, .int .u16 0, .int .u16 0, .int .u16 0, .int .u16 0, .int .u16 0, .int .u16 0, .int .u16 0, .int .u16 0, .int .u16 0, .int .u16 0, .int .u16 0, .int .u16 0, .int .u16 0, .int .u16 0, .int .u16 0, .int .u16 0, .int .u16 0, .int .u16 0, .int .u16 0, .int .u16 0, .int .u16 0, .int .u16 0, .int .u16 0, .int .u16 0, .int .u16 0, .int .u16 0, .int .u16 0, .int .u16 0, .int .u16 0, .int .u16 0, .int .u16 0, .int .u16 0, .int .u16 0, .int .u16 0, .int .u16 0, .int .u16 0, .int .u16 0, .int .u16 0, .int .u16 0, .int .u16 0, .int .u16 0, .int .u16 0, .int .u16 0, .int .u16 0, .int .u16 0, .int .u16 0, .int .u16 0, .int .u16 0, .int .u16 0, .int .u16 0, .int .u16 0, .int .u16 0, .int .u16 0, .int .u16 0, .int .u16 0, .int .u16 0] 60)) w.heap.size Zs := (Bk.new w Zs _ rfl).alloc _
  have hB7 : Bk ((w.alloc (.cells #[.int .u16 0, .int .u16 0, .int .u16 0, .int .u16 0, .int .u16 0, .int .u16 0, .int .u16 0, .int .u16 0, .int .u16 0, .int .u16 0, .int .u16 0, .int .u16 0, .int .u16 0, .int .u16 0, .int .u16 0, .int .u16 0, .int .u16 0, .int .u16 0, .int .u16 0, .int .u16 0, .int .u16 0, .int .u16 0, .int .u16 0, .int .u16 0, .int .u16 0, .int .u16 0, .int .u16 0, .int .u16 0, .int .u16 0, .int .u16 0, .int .u16 0, .int .u16 0, .int .u16 0, .int .u16 0, .int .u16 0, .int .u16 0, .int .u16 0, .int .u16 0, .int .u16 0, .int .u16 0, .int .u16 0, .int .u16 0, .int .u16 0, .int .u16 0, .int .u16 0, .int .u16 0, .int .u16 0, .int .u16 0, .int .u16 0, .int .u16 0, .int .u16 0, .int .u16 0, .int .u16 0, .int .u16 0, .int .u16 0, .int .u16 0, .int .u16 0, .int .u16 0, .int .u16 0, .int .u16 0, .int .u16 0, .int .u16 0, .int .u16 0, .int .u16 0] 60)).alloc (.cells #[.int .u16 0, .int .u16 0, .int .u16 0, .int .u16 0, .int .u16 0, .int .u16 0, .int .u16 0, .int .u16 0, .int .u16 0, .int .u16 0, .int .u16 0, .int .u16 0, .int .u16 0, .int .u16 0, .int .u16 0, .int .u16 0, .int .u16 0, .int .u16 0, .int .u16 0, .int .u16 0, .int .u16 0, .int .u16 0, .int .u16 0, .int .u16 0, .int .u16 0, .int .u16 0, .int .u16 0, .int .u16 0, .int .u16 0, .int .u16 0, .int .u16 0, .int .u16 0, .int .u16 0, .int .u16 0, .int .u16 0, .int .u16 0, .int .u16 0, .int .u16 0, .int .u16 0, .int .u16 0, .int .u16 0, .int .u16 0, .int .u16 0, .int .u16 0, .int .u16 0, .int .u16 0, .int .u16 0, .int .u16 0, .int .u16 0, .int .u16 0, .int .u16 0, .int .u16 0, .int .u16 0, .int .u16 0, .int .u16 0, .int .u16 0, .int .u16 0, .int .u16 0, .int .u16 0, .int .u16 0, .int .u16 0, .int .u16 0, .int .u16 0, .int .u16 0] 60)) (w.heap.size + 1) Zs := by
    have := Bk.new (w.alloc (.cells #[.int .u16 0, .int .u16 0, .int .u16 0, .int .u16 0, .int .u16 0, .int .u16 0, .int .u16 0, .int .u16 0, .int .u16 0, .int .u16 0, .int .u16 0, .int .u16 0, .int .u16 0, .int .u16 0, .int .u16 0, .int .u16 0, .int .u16 0, .int .u16 0, .int .u16 0, .int .u16 0, .int .u16 0, .int .u16 0, .int .u16 0, .int .u16 0, .int .u16 0, .int .u16 0, .int .u16 0, .int .u16 0, .int .u16 0, .int .u16 0, .int .u16 0, .int .u16 0, .int .u16 0, .int .u16 0, .int .u16 0, .int .u16 0, .int .u16 0, .int .u16 0, .int .u16 0, .int .u16 0, .int .u16 0, .int .u16 0, .int .u16 0, .int .u16 0, .int .u16 0, .int .u16 0, .int .u16 0, .int .u16 0, .int .u16 0, .int .u16 0, .int .u16 0, .int .u16 0, .int .u16 0, .int .u16 0, .int .u16 0, .int .u16 0, .int .u16 0, .int .u16 0, .int .u16 0, .int .u16 0, .int .u16 0, .int .u16 0, .int .u16 0, .int .u16 0] 60)) Zs _ rfl
    rwa [show (w.alloc (.cells #[.int .u16 0, .int .u16 0, .int .u16 0, .int .u16 0, .int .u16 0, .int .u16 0, .int .u16 0, .int .u16 0, .int .u16 0, .int .u16 0, .int .u16 0, .int .u16 0, .int .u16 0, .int .u16 0, .int .u16 0, .int .u16 0, .int .u16 0, .int .u16 0, .int .u16 0, .int .u16 0, .int .u16 0, .int .u16 0, .int .u16 0, .int .u16 0, .int .u16 0, .int .u16 0, .int .u16 0, .int .u16 0, .int .u16 0, .int .u16 0, .int .u16 0, .int .u16 0, .int .u16 0, .int .u16 0, .int .u16 0, .int .u16 0, .int .u16 0, .int .u16 0, .int .u16 0, .int .u16 0, .int .u16 0, .int .u16 0, .int .u16 0, .int .u16 0, .int .u16 0, .int .u16 0, .int .u16 0, .int .u16 0, .int .u16 0, .int .u16 0, .int .u16 0, .int .u16 0, .int .u16 0, .int .u16 0, .int .u16 0, .int .u16 0, .int .u16 0, .int .u16 0, .int .u16 0, .int .u16 0, .int .u16 0, .int .u16 0, .int .u16 0, .int .u16 0] 60)).heap.size = w.heap.size + 1 by simp] at this
  generalize (w.alloc (.cells #[.int .u16 0, .int .u16 0, .int .u16 0, .int .u16 0, .int .u16 0, .int .u16 0, .int .u16 0, .int .u16 0, .int .u16 0, .int .u16 0, .int .u16 0, .int .u16 0, .int .u16 0, .int .u16 0, .int .u16 0, .int .u16 0, .int .u16 0, .int .u16 0, .int .u16 0, .int .u16 0, .int .u16 0, .int .u16 0, .int .u16 0, .int .u16 0, .int .u16 0, .int .u16 0, .int .u16 0, .int .u16 0, .int .u16 0, .int .u16 0, .int .u16 0, .int .u16 0, .int .u16 0, .int .u16 0, .int .u16 0, .int .u16 0, .int .u16 0, .int .u16 0, .int .u16 0, .int .u16 0, .int .u16 0, .int .u16 0, .int .u16 0, .int .u16 0, .int .u16 0, .int .u16 0, .int .u16 0, .int .u16 0, .int .u16 0, .int .u16 0, .int .u16 0, .int .u16 0, .int .u16 0, .int .u16 0, .int .u16 0, .int .u16 0, .int .u16 0, .int .u16 0, .int .u16 0, .int .u16 0, .int .u16 0, .int .u16 0, .int .u16 0, .int .u16 0] 60)).alloc (.cells #[.int .u16 0, .int .u16 0, .int .u16 0, .int .u16 0, .int .u16 0, .int .u16 0, .int .u16 0, .int .u16 0, .int .u16 0, .int .u16 0, .int .u16 0, .int .u16 0, .int .u16 0, .int .u16 0, .int .u16 0, .int .u16 0, .int .u16 0, .int .u16 0, .int .u16 0, .int .u16 0, .int .u16 0, .int .u16 0, .int .u16 0, .int .u16 0, .int .u16 0, .int .u16 0, .int .u16 0, .int .u16 0, .int .u16 0, .int .u16 0, .int .u16 0, .int .u16 0, .int .u16 0, .int .u16 0, .int .u16 0, .int .u16 0, .int .u16 0, .int .u16 0, .int .u16 0, .int .u16 0, .int .u16 0, .int .u16 0, .int .u16 0, .int .u16 0, .int .u16 0, .int .u16 0, .int .u16 0, .int .u16 0, .int .u16 0, .int .u16 0, .int .u16 0, .int .u16 0, .int .u16 0, .int .u16 0, .int .u16 0, .int .u16 0, .int .u16 0, .int .u16 0, .int .u16 0, .int .u16 0, .int .u16 0, .int .u16 0, .int .u16 0, .int .u16 0] 60) = wz at *
  obtain ⟨g6, hg6⟩ : ∃ g6, g6 = w.heap.size := ⟨_, rfl⟩
  obtain ⟨g7, hg7⟩ : ∃ g7, g7 = w.heap.size + 1 := ⟨_, rfl⟩
  rw [← hg6] at hB6
  rw [← hg7] at hB7
  have h67 : g6 ≠ g7 := by omega
  have hge6 : w.heap.size ≤ g6 := by omega
  have hge7 : w.heap.size ≤ g7 := by omega
  rw [← hg7, ← hg6]
  clear hg6 hg7
  obtain ⟨Z, hZ⟩ : ∃ Z, Z = Zs := ⟨_, rfl⟩
  rw [← hZ] at hB6 hB7
  have hZl : Z.length = 64 := by rw [hZ]; exact Zs_len
  clear hZ
  go_loopw [13] (fun i wr => ∃ (k : Nat) (zs : List Int), i = .int .i64 k ∧ k ≤ 64 ∧ zs.length = 64 ∧ Bk wr g7 zs ∧ Bk wr g6 Z ∧ Below w.heap.size w wr ∧ ∀ j, j < k → zs.getD j 0 = d) (fun i _ => 64 - (intOf i).toNat)
  case atStart => exact ⟨0, Z, rfl, by omega, hZl, hB7, hB6, hA, fun j hj => by omega⟩
  case round =>
    clear hA hB6 hB7
    obtain ⟨k, zs, rfl, hk, hzl, hz, hz6, hbel, hall⟩ := hrel
    by_cases hlt : k < 64
    · have hc := hz.cell (i := k) (by omega)
      have hf := hz.frozen k
      have hz2 := hz.set k d
      have hz62 := hz6.other (a := ⟨g7, k, none⟩) h67 (.int .u16 d)
      have hb2 := hbel.setCell (p := ⟨g7, k, none⟩) hge7 (.int .u16 d)
      have hal2 : Hid (∀ j, j < k + 1 → (zs.set k d).getD j 0 = d) := by
        intro j hj
        rw [set_at zs k j d (by omega)]
        split
        · rfl
        · exact hall j (by omega)
      have hin1 : (0 : Int) ≤ (k : Int) := by omega
      have hin2 : (k : Int) < 64 := by omega
      generalize zs.getD k 0 = old at *
      clear hall hz hz6 hbel
      go_wp2
      go_roundw
      case rel => exact ⟨k + 1, zs.set k d, by go_num, by omega, by simp [hzl], hz2, hz62, hb2, unhide hal2⟩
      case measure => simp [intOf]; omega
    · obtain rfl : k = 64 := by omega
      have hbase : Hid (∀ j, j < 64 → zs.getD j 0 = Tri.get d (rs.take 0) (lo0 + (j : Nat))) := fun j hj => by rw [hall j hj, (unhide HG0)]
      clear hall HG0
      go_wp2
      go_loopw [11, 12, 25] (fun _ _ i wr => ∃ (k : Nat) (zs : List Int), i = .int .i64 k ∧ k ≤ rs.length ∧ zs.length = 64 ∧ Bk wr g7 zs ∧ Bk wr g6 Z ∧ Below w.heap.size w wr ∧ ∀ j, j < 64 → zs.getD j 0 = Tri.get d (rs.take k) (lo0 + (j : Nat))) (fun _ _ i _ => rs.length - (intOf i).toNat)
      case atStart => exact ⟨0, zs, rfl, by omega, hzl, hz, hz6, hbel, unhide hbase⟩
      case round =>
        clear hz hz6 hbel hbase hzl
        obtain ⟨k, zs, rfl, hk, hzl, hz, hz6, hbel, hall⟩ := hrel
        by_cases hlt : k < rs.length
        · have hgt := fun c => Tri.get_take (d := d) (c := c) (unhide HV) k hlt
          have HGF2 := hide ((unhide HGF) k hlt)
          obtain ⟨b1, b2, b3, b4, b5⟩ := val_at (unhide HV) (Int.le_refl _) k hlt
          obtain ⟨bx, offx, cpx, hvx, _, _, hcl⟩ := (unhide hsr).place (by omega)
          simp only [Value.slice.injEq] at hvx
          obtain ⟨rfl, _, rfl⟩ := hvx
          obtain ⟨c0, c1, c2⟩ := hcl k hlt
          rw [← hbel.cell (lt_of_cell? c0)] at c0
          rw [← hbel.cell (lt_of_cell? c1)] at c1
          rw [← hbel.cell (lt_of_cell? c2)] at c2
          have HGT := hide hgt
          have HAL := hide hall
          clear hcl hgt hall
          generalize Tri.lo (rs.getD k (0, 0, 0)) = lo at *
          generalize Tri.hi (rs.getD k (0, 0, 0)) = hi at *
          generalize Tri.vl (rs.getD k (0, 0, 0)) = vv at *
          have hszw := hbel.size
          have hrb : Rb (wr.alloc (.cells #[.int .i64 lo, .int .i64 hi, .int .i64 vv] 35)) wr.heap.size lo hi vv := heap_alloc_last wr _
          have hz := hz.alloc (.cells #[.int .i64 lo, .int .i64 hi, .int .i64 vv] 35)
          have hz6 := hz6.alloc (.cells #[.int .i64 lo, .int .i64 hi, .int .i64 vv] 35)
          have hba : Below w.heap.size w (wr.alloc (.cells #[.int .i64 lo, .int .i64 hi, .int .i64 vv] 35)) := hbel.alloc hszw _
          obtain ⟨gr, hgr⟩ : ∃ gr, gr = wr.heap.size := ⟨_, rfl⟩
          have hr7 : gr ≠ g7 := by have h1 := ‹Bk wr g7 zs›.lt; omega
          by_cases hbr : lo0 + 64 ≤ lo
          · have hfin : Hid (∀ j, j < 64 → zs.getD j 0 = Tri.get d rs (lo0 + (j : Nat))) := fun j hj => by rw [(unhide HAL) j hj, (unhide HGF2) _ (by omega)]
            clear HAL HGT HGF HGF2 hgr hr7
            have hres := (unhide HX) zs hzl (unhide hfin)
            subst hres
            clear hfin HX
            go_upto_region 17 with fail
            generalize wr.alloc (.cells #[.int .i64 lo, .int .i64 hi, .int .i64 vv] 35) = wa at *
            refine wp_region_list ?_
            refine wpList_load_mid (by rfl) 60 (.tmp 7) (by rfl) g7 0 (by rfl) (zs.map (Value.int .u16)) _ hz.box Try.underlying60 (by rfl) (infoBl hzl) ?_
            have h6l : Z.length = zs.length := by omega
            have hth : wa.there g6 0 (zs.map (Value.int .u16)).toArray.size := by
              have := hz6.there
              rw [h6l] at this
              simpa using this
            refine wpList_store_mid (by rfl) 60 (.tmp 6) (.tmp 54) (by rfl) g6 0 (zs.map (Value.int .u16)).toArray (by rfl) (by rfl) hth (by rw [show (zs.map (Value.int .u16)).toArray.size = 64 by simp [hzl]]; exact infoBk) (arrA_one zs) ?_
            have hth2 : wa.there g6 0 (zs.map (Value.int .u16)).length := by simpa using hth
            have hrg := World.rangeAt_setCells_same wa g6 0 (zs.map (Value.int .u16)) hth2
            have hbF : Below w.heap.size w (wa.setCells g6 0 (zs.map (Value.int .u16))) := below_setCells4 hge6 _ _ _ hba
            have hld := run_loadVar_mid (P := Try.prog) _ g6 0 60 (zs.map (Value.int .u16)) _ hrg Try.underlying60 (by rfl) (infoBl hzl)
            clear hz hz6 hth hth2 hrg
            generalize wa.setCells g6 0 (zs.map (Value.int .u16)) = wf at *
            go_wp2
            exact bodyPost_ret (v := .agg (arrA zs)) (results_cellM rfl _ _ _ g6 _ (by rfl) hld) rfl ⟨rfl, hbF⟩
          · clear HGF2 HGE HX
            by_cases hmx : lo < lo0
            · skip
              go_wp2
              generalize wr.alloc (.cells #[.int .i64 lo, .int .i64 hi, .int .i64 vv] 35) = wa at *
              rw [← hgr] at hrb ⊢
              clear hgr
              go_loopw [12] (fun vc wr => ∃ (c : Int) (zs : List Int), vc = .int .i64 c ∧ lo ≤ c ∧ lo0 ≤ c ∧ c ≤ 1114112 ∧ zs.length = 64 ∧ Bk wr g7 zs ∧ Bk wr g6 Z ∧ Rb wr gr lo hi vv ∧ Below w.heap.size w wr ∧ ∀ j, j < 64 → zs.getD j 0 = if lo ≤ lo0 + (j : Nat) ∧ lo0 + (j : Nat) < c ∧ lo0 + (j : Nat) ≤ hi then vv else Tri.get d (rs.take k) (lo0 + (j : Nat))) (fun vc _ => (1114112 - intOf vc).toNat)
              case atStart => exact ⟨lo0, zs, rfl, by omega, by omega, by omega, hzl, hz, hz6, hrb, hba, fun j hj => by rw [if_neg (by omega)]; exact (unhide HAL) j hj⟩
              case round =>
                clear hz hz6 hrb hba hzl c0 c1 c2
                obtain ⟨c, zs, rfl, hc1, hc2, hc3, hzl, hz, hz6, hrb, hbel, hall⟩ := hrel
                obtain ⟨c0, c1, c2⟩ := hrb.cells
                by_cases hin : c ≤ hi ∧ c < lo0 + 64
                · obtain ⟨q1, q2⟩ := hin
                  obtain ⟨i, hci⟩ : ∃ i : Nat, c - lo0 = (i : Int) := ⟨(c - lo0).toNat, by omega⟩
                  have hi64 : i < 64 := by omega
                  have hcl := hz.cell (i := i) (by omega)
                  have hfr := hz.frozen i
                  have hz2 := hz.set i vv
                  have hz62 := hz6.other (a := ⟨g7, i, none⟩) h67 (.int .u16 vv)
                  have hrb2 := hrb.other (a := ⟨g7, i, none⟩) hr7 (.int .u16 vv)
                  have hb2 := hbel.setCell (p := ⟨g7, i, none⟩) hge7 (.int .u16 vv)
                  have hal2 : Hid (∀ j, j < 64 → (zs.set i vv).getD j 0 = if lo ≤ lo0 + (j : Nat) ∧ lo0 + (j : Nat) < c + 1 ∧ lo0 + (j : Nat) ≤ hi then vv else Tri.get d (rs.take k) (lo0 + (j : Nat))) := by
                    intro j hj
                    rw [set_at zs i j vv (by omega), hall j hj]
                    by_cases hji : j = i
                    · rw [if_pos hji, if_pos (by omega)]
                    · rw [if_neg hji]
                      by_cases hx : lo ≤ lo0 + (j : Nat) ∧ lo0 + (j : Nat) < c ∧ lo0 + (j : Nat) ≤ hi
                      · rw [if_pos hx, if_pos (by omega)]
                      · rw [if_neg hx, if_neg (by omega)]
                  have hin1 : (0 : Int) ≤ (i : Int) := by omega
                  have hin2 : (i : Int) < 64 := by omega
                  generalize zs.getD i 0 = old at *
                  clear hall hz hz6 hrb
                  by_cases hmn : lo0 + 64 < hi + 1
                  · go_wp2
                    go_roundw
                    case rel => exact ⟨c + 1, zs.set i vv, by go_num, by omega, by omega, by omega, by simp [hzl], hz2, hz62, hrb2, hb2, unhide hal2⟩
                    case measure => simp [intOf]; omega
                  · have hmn2 : c < hi + 1 := by omega
                    go_wp2
                    go_roundw
                    case rel => exact ⟨c + 1, zs.set i vv, by go_num, by omega, by omega, by omega, by simp [hzl], hz2, hz62, hrb2, hb2, unhide hal2⟩
                    case measure => simp [intOf]; omega
                · have hal2 : Hid (∀ j, j < 64 → zs.getD j 0 = Tri.get d (rs.take (k + 1)) (lo0 + (j : Nat))) := by
                    intro j hj
                    rw [hall j hj, (unhide HGT)]
                    by_cases hx : lo ≤ lo0 + (j : Nat) ∧ lo0 + (j : Nat) ≤ hi
                    · rw [if_pos hx, if_pos (by omega)]
                    · rw [if_neg hx, if_neg (by omega)]
                  clear hall
                  by_cases hmn : lo0 + 64 < hi + 1
                  · have hgt' : ¬ (c < lo0 + 64) := by omega
                    go_wp2
                    go_roundw
                    case rel => first | exact ⟨_, _, .int .i64 ((k + 1 : Nat) : Int), ⟨k + 1, rfl, by omega, zs, hzl, hz, by simpa using unhide hal2⟩, rfl, rfl, by go_num⟩ | exact ⟨k + 1, zs, by go_num, by omega, hzl, hz, hz6, hbel, unhide hal2⟩ | exact ⟨k + 1, by go_num, by omega, zs, hzl, hz, by simpa using unhide hal2⟩ | exact ⟨k + 1, by go_num, by omega, zs, hzl, hz, hz6, by simpa using unhide hal2⟩
                    case measure => simp [intOf]; omega
                  · have hgt' : ¬ (c < hi + 1) := by omega
                    go_wp2
                    go_roundw
                    case rel => first | exact ⟨_, _, .int .i64 ((k + 1 : Nat) : Int), ⟨k + 1, rfl, by omega, zs, hzl, hz, by simpa using unhide hal2⟩, rfl, rfl, by go_num⟩ | exact ⟨k + 1, zs, by go_num, by omega, hzl, hz, hz6, hbel, unhide hal2⟩ | exact ⟨k + 1, by go_num, by omega, zs, hzl, hz, by simpa using unhide hal2⟩ | exact ⟨k + 1, by go_num, by omega, zs, hzl, hz, hz6, by simpa using unhide hal2⟩
                    case measure => simp [intOf]; omega
            · skip
              go_wp2
              generalize wr.alloc (.cells #[.int .i64 lo, .int .i64 hi, .int .i64 vv] 35) = wa at *
              rw [← hgr] at hrb ⊢
              clear hgr
              go_loopw [12] (fun vc wr => ∃ (c : Int) (zs : List Int), vc = .int .i64 c ∧ lo ≤ c ∧ lo0 ≤ c ∧ c ≤ 1114112 ∧ zs.length = 64 ∧ Bk wr g7 zs ∧ Bk wr g6 Z ∧ Rb wr gr lo hi vv ∧ Below w.heap.size w wr ∧ ∀ j, j < 64 → zs.getD j 0 = if lo ≤ lo0 + (j : Nat) ∧ lo0 + (j : Nat) < c ∧ lo0 + (j : Nat) ≤ hi then vv else Tri.get d (rs.take k) (lo0 + (j : Nat))) (fun vc _ => (1114112 - intOf vc).toNat)
              case atStart => exact ⟨lo, zs, rfl, by omega, by omega, by omega, hzl, hz, hz6, hrb, hba, fun j hj => by rw [if_neg (by omega)]; exact (unhide HAL) j hj⟩
              case round =>
                clear hz hz6 hrb hba hzl c0 c1 c2
                obtain ⟨c, zs, rfl, hc1, hc2, hc3, hzl, hz, hz6, hrb, hbel, hall⟩ := hrel
                obtain ⟨c0, c1, c2⟩ := hrb.cells
                by_cases hin : c ≤ hi ∧ c < lo0 + 64
                · obtain ⟨q1, q2⟩ := hin
                  obtain ⟨i, hci⟩ : ∃ i : Nat, c - lo0 = (i : Int) := ⟨(c - lo0).toNat, by omega⟩
                  have hi64 : i < 64 := by omega
                  have hcl := hz.cell (i := i) (by omega)
                  have hfr := hz.frozen i
                  have hz2 := hz.set i vv
                  have hz62 := hz6.other (a := ⟨g7, i, none⟩) h67 (.int .u16 vv)
                  have hrb2 := hrb.other (a := ⟨g7, i, none⟩) hr7 (.int .u16 vv)
                  have hb2 := hbel.setCell (p := ⟨g7, i, none⟩) hge7 (.int .u16 vv)
                  have hal2 : Hid (∀ j, j < 64 → (zs.set i vv).getD j 0 = if lo ≤ lo0 + (j : Nat) ∧ lo0 + (j : Nat) < c + 1 ∧ lo0 + (j : Nat) ≤ hi then vv else Tri.get d (rs.take k) (lo0 + (j : Nat))) := by
                    intro j hj
                    rw [set_at zs i j vv (by omega), hall j hj]
                    by_cases hji : j = i
                    · rw [if_pos hji, if_pos (by omega)]
                    · rw [if_neg hji]
                      by_cases hx : lo ≤ lo0 + (j : Nat) ∧ lo0 + (j : Nat) < c ∧ lo0 + (j : Nat) ≤ hi
                      · rw [if_pos hx, if_pos (by omega)]
                      · rw [if_neg hx, if_neg (by omega)]
                  have hin1 : (0 : Int) ≤ (i : Int) := by omega
                  have hin2 : (i : Int) < 64 := by omega
                  generalize zs.getD i 0 = old at *
                  clear hall hz hz6 hrb
                  by_cases hmn : lo0 + 64 < hi + 1
                  · go_wp2
                    go_roundw
                    case rel => exact ⟨c + 1, zs.set i vv, by go_num, by omega, by omega, by omega, by simp [hzl], hz2, hz62, hrb2, hb2, unhide hal2⟩
                    case measure => simp [intOf]; omega
                  · have hmn2 : c < hi + 1 := by omega
                    go_wp2
                    go_roundw
                    case rel => exact ⟨c + 1, zs.set i vv, by go_num, by omega, by omega, by omega, by simp [hzl], hz2, hz62, hrb2, hb2, unhide hal2⟩
                    case measure => simp [intOf]; omega
                · have hal2 : Hid (∀ j, j < 64 → zs.getD j 0 = Tri.get d (rs.take (k + 1)) (lo0 + (j : Nat))) := by
                    intro j hj
                    rw [hall j hj, (unhide HGT)]
                    by_cases hx : lo ≤ lo0 + (j : Nat) ∧ lo0 + (j : Nat) ≤ hi
                    · rw [if_pos hx, if_pos (by omega)]
                    · rw [if_neg hx, if_neg (by omega)]
                  clear hall
                  by_cases hmn : lo0 + 64 < hi + 1
                  · have hgt' : ¬ (c < lo0 + 64) := by omega
                    go_wp2
                    go_roundw
                    case rel => first | exact ⟨_, _, .int .i64 ((k + 1 : Nat) : Int), ⟨k + 1, rfl, by omega, zs, hzl, hz, by simpa using unhide hal2⟩, rfl, rfl, by go_num⟩ | exact ⟨k + 1, zs, by go_num, by omega, hzl, hz, hz6, hbel, unhide hal2⟩ | exact ⟨k + 1, by go_num, by omega, zs, hzl, hz, by simpa using unhide hal2⟩ | exact ⟨k + 1, by go_num, by omega, zs, hzl, hz, hz6, by simpa using unhide hal2⟩
                    case measure => simp [intOf]; omega
                  · have hgt' : ¬ (c < hi + 1) := by omega
                    go_wp2
                    go_roundw
                    case rel => first | exact ⟨_, _, .int .i64 ((k + 1 : Nat) : Int), ⟨k + 1, rfl, by omega, zs, hzl, hz, by simpa using unhide hal2⟩, rfl, rfl, by go_num⟩ | exact ⟨k + 1, zs, by go_num, by omega, hzl, hz, hz6, hbel, unhide hal2⟩ | exact ⟨k + 1, by go_num, by omega, zs, hzl, hz, by simpa using unhide hal2⟩ | exact ⟨k + 1, by go_num, by omega, zs, hzl, hz, hz6, by simpa using unhide hal2⟩
                    case measure => simp [intOf]; omega
        · obtain rfl : k = rs.length := by omega
          have hfin : Hid (∀ j, j < 64 → zs.getD j 0 = Tri.get d rs (lo0 + (j : Nat))) := fun j hj => by rw [hall j hj, (unhide HGE)]
          clear hall HGF HGE
          have hres := (unhide HX) zs hzl (unhide hfin)
          subst hres
          clear hfin HX
          go_upto_region 17 with fail
          refine wp_region_list ?_
          refine wpList_load_mid (by rfl) 60 (.tmp 7) (by rfl) g7 0 (by rfl) (zs.map (Value.int .u16)) _ hz.box Try.underlying60 (by rfl) (infoBl hzl) ?_
          have h6l : Z.length = zs.length := by omega
          have hth : wr.there g6 0 (zs.map (Value.int .u16)).toArray.size := by
            have := hz6.there
            rw [h6l] at this
            simpa using this
          refine wpList_store_mid (by rfl) 60 (.tmp 6) (.tmp 54) (by rfl) g6 0 (zs.map (Value.int .u16)).toArray (by rfl) (by rfl) hth (by rw [show (zs.map (Value.int .u16)).toArray.size = 64 by simp [hzl]]; exact infoBk) (arrA_one zs) ?_
          have hth2 : wr.there g6 0 (zs.map (Value.int .u16)).length := by simpa using hth
          have hrg := World.rangeAt_setCells_same wr g6 0 (zs.map (Value.int .u16)) hth2
          have hbF : Below w.heap.size w (wr.setCells g6 0 (zs.map (Value.int .u16))) := below_setCells4 hge6 _ _ _ hbel
          have hld := run_loadVar_mid (P := Try.prog) _ g6 0 60 (zs.map (Value.int .u16)) _ hrg Try.underlying60 (by rfl) (infoBl hzl)
          clear hz hz6 hth hth2 hrg
          generalize wr.setCells g6 0 (zs.map (Value.int .u16)) = wf at *
          go_wp2
          exact bodyPost_ret (v := .agg (arrA zs)) (results_cellM rfl _ _ _ g6 _ (by rfl) hld) rfl ⟨rfl, hbF⟩
end Go.Proofs.Ytehdeipeehaejaa
