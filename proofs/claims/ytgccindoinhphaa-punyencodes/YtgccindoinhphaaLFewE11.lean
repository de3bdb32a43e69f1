/- A copy of at most so many points, with room behind it. -/
import Derived.Test.YtgccindoinhphaaPfC11
import Derived.Test.YtgccindoinhphaaPuG11
namespace Go.Proofs.Ytgccindoinhphaa
open Go.RowKit

def FewP (w : World) (xs : List Int) (e : Ending) (w' : World) : Prop := ∃ g cap, e = .returned (.slice (some ⟨g, 0, none⟩) xs.length cap) ∧ Ok .i32 21 w' w.heap.size (.slice (some ⟨g, 0, none⟩) (xs.length + 2) cap) (xs ++ [-7, -8]) ∧ Below w.heap.size w w'

set_option maxRecDepth 20000 in
set_option maxHeartbeats 1000000 in
theorem few11_any (xv : Value) (xs : List Int) (m : Nat) (w : World) (hx : Sk .i32 w xv xs) (hm : m ≤ 2000) : Calls Try.prog 9 #[xv, .int .i64 m] w (FewP w (xs.take m)) := by
  have hxl := hx.len
  obtain ⟨ax, cx, hxv, hcx1, hcx2⟩ := hx.shape
  subst hxv
  obtain ⟨n, hn⟩ : ∃ n, n = min xs.length m := ⟨_, rfl⟩
  have hmin : min (xs.length : Int) (m : Int) = (n : Int) := by omega
  have hn1 : n ≤ xs.length := by omega
  have hn2 : n ≤ 2000 := by omega
  have hT := hx.head hn1 hcx1
  have htl : (xs.take n).length = n := by rw [List.length_take]; omega
  have htt : xs.take m = xs.take n := by rw [hn, List.take_eq_take_min, Nat.min_comm]
  rw [htt]
  clear htt hx hn
  generalize hys : xs.take n = ys at *
  clear hys
  have HT := hide hT
  clear hT
  have hOne : ∀ W : World, Sk .i32 (W.alloc (.cells #[.int .i32 (-7), .int .i32 (-8)] 21)) (.slice (some ⟨W.heap.size, 0, none⟩) 2 2) [-7, -8] := fun W => Sk.lit .i32 21 W W.heap.size rfl [-7, -8] 2 rfl _ rfl (0, 0) (fun z hz => by simp at hz; rcases hz with rfl | rfl <;> exact i32_fit (by omega)) (by decide)
  have HONE := fun W => hide (hOne W)
  clear hOne
  rcases ax with _ | ax
  · go_enter Try.func9, Try.ntmps9
    go_wp2_with (at_builtin; refine wpList_append_sk rfl (.tmp 11) (.tmp 14) rfl w.heap.size _ _ [] ys rfl rfl (Ok.nil _ _ _ _) (unhide HT) (by simp; omega) (Nat.le_refl _) ?_)
    intro v1 w1 h1 h2
    have hb1 := (Below.refl w.heap.size w).grown h2 (Nat.le_refl _) (fun g hh => by cases hh)
    have HB1 := hide hb1
    have hs1 := hb1.size
    have HO1 := hide (ok_alloc h1 (.cells #[.int .i32 (-7), .int .i32 (-8)] 21))
    have hsa := hide (alloc_size w1 (.cells #[.int .i32 (-7), .int .i32 (-8)] 21))
    have HBA := hide (hb1.alloc hs1 (.cells #[.int .i32 (-7), .int .i32 (-8)] 21))
    have hvb : ∀ g, v1.ownBlock = some g → w.heap.size ≤ g := fun g hh => (h1.row.lt g hh).1
    have HVB := hide hvb
    obtain ⟨a1, c1, hv1, hc11, hc12⟩ := h1.sk.shape
    rw [htl] at hv1 hc11
    subst hv1
    clear h1 h2 hb1 hvb HB1 HT
    go_wp2_with (at_builtin; refine wpList_append_sk rfl (.tmp 16) (.tmp 17) rfl w.heap.size _ _ ys [-7, -8] rfl rfl (unhide HO1) (unhide (HONE _)) (by simp; omega) (by have := unhide hsa; omega) ?_)
    intro v2 w2 h3 h4
    have hb2 := (unhide HBA).grown h4 (by have := unhide hsa; omega) (unhide HVB)
    have hll : (ys ++ [-7, -8]).length = ys.length + 2 := by simp
    obtain ⟨g, cap, hv2, hc21, hc22⟩ := own_shape h3.row (by rw [hll]; omega)
    rw [hll] at hv2 hc21
    subst hv2
    have HF : Hid (FewP w ys (.returned (.slice (some ⟨g, 0, none⟩) ys.length cap)) w2) := ⟨g, cap, rfl, h3, hb2⟩
    clear h3 h4 hb2 HO1 HBA HVB hll HONE
    subst htl
    go_wp2
    go_ret
    exact unhide HF
  · go_enter Try.func9, Try.ntmps9
    go_wp2_with (at_builtin; refine wpList_append_sk rfl (.tmp 11) (.tmp 14) rfl w.heap.size _ _ [] ys rfl rfl (Ok.nil _ _ _ _) (unhide HT) (by simp; omega) (Nat.le_refl _) ?_)
    intro v1 w1 h1 h2
    have hb1 := (Below.refl w.heap.size w).grown h2 (Nat.le_refl _) (fun g hh => by cases hh)
    have HB1 := hide hb1
    have hs1 := hb1.size
    have HO1 := hide (ok_alloc h1 (.cells #[.int .i32 (-7), .int .i32 (-8)] 21))
    have hsa := hide (alloc_size w1 (.cells #[.int .i32 (-7), .int .i32 (-8)] 21))
    have HBA := hide (hb1.alloc hs1 (.cells #[.int .i32 (-7), .int .i32 (-8)] 21))
    have hvb : ∀ g, v1.ownBlock = some g → w.heap.size ≤ g := fun g hh => (h1.row.lt g hh).1
    have HVB := hide hvb
    obtain ⟨a1, c1, hv1, hc11, hc12⟩ := h1.sk.shape
    rw [htl] at hv1 hc11
    subst hv1
    clear h1 h2 hb1 hvb HB1 HT
    go_wp2_with (at_builtin; refine wpList_append_sk rfl (.tmp 16) (.tmp 17) rfl w.heap.size _ _ ys [-7, -8] rfl rfl (unhide HO1) (unhide (HONE _)) (by simp; omega) (by have := unhide hsa; omega) ?_)
    intro v2 w2 h3 h4
    have hb2 := (unhide HBA).grown h4 (by have := unhide hsa; omega) (unhide HVB)
    have hll : (ys ++ [-7, -8]).length = ys.length + 2 := by simp
    obtain ⟨g, cap, hv2, hc21, hc22⟩ := own_shape h3.row (by rw [hll]; omega)
    rw [hll] at hv2 hc21
    subst hv2
    have HF : Hid (FewP w ys (.returned (.slice (some ⟨g, 0, none⟩) ys.length cap)) w2) := ⟨g, cap, rfl, h3, hb2⟩
    clear h3 h4 hb2 HO1 HBA HVB hll HONE
    subst htl
    go_wp2
    go_ret
    exact unhide HF
end Go.Proofs.Ytgccindoinhphaa
