/- The contracts of the statements' helpers: roomy, whole. -/
import Derived.Test.YtchjnplceelgoaaPost
namespace Go.Proofs.Ytchjnplceelgoaa
open Go.RowKit

/-- roomy's answer: the numbers, in memory of its own, with two marks behind. -/
def RoomPost (w : World) (zs : List Int) (e : Ending) (w' : World) : Prop :=
  ∃ g cap, e = .returned (.slice (some ⟨g, 0, none⟩) zs.length cap) ∧ Ok .i32 21 w' w.heap.size (.slice (some ⟨g, 0, none⟩) (zs.length + 2) cap) (zs ++ [-7, -8]) ∧ zs.length + 2 ≤ cap ∧ cap ≤ 9223372036854775807 ∧ Below w.heap.size w w'

theorem marks_new (w : World) : ∀ (j : Nat) (u : Value), [Value.int .i32 (-7), Value.int .i32 (-8)][j]? = some u → (w.alloc (.cells #[.int .i32 (-7), .int .i32 (-8)] 21)).cell? ((⟨w.heap.size, 0, none⟩ : Addr).add j) = some u := by
  intro j u hj
  match j, hj with
  | 0, hj => simp at hj; subst hj; simp [Addr.add]
  | 1, hj => simp at hj; subst hj; simp [Addr.add]
theorem marks_one : ∀ u ∈ [Value.int .i32 (-7), Value.int .i32 (-8)], u.oneCell' = true := by
  intro u hu
  simp at hu
  rcases hu with rfl | rfl <;> rfl
theorem marks_fit : Fit .i32 [-7, -8] := by
  intro z hz
  simp at hz
  rcases hz with rfl | rfl <;> exact i32_fit (by omega)
theorem room_own {w : World} {base : Nat} {v : Value} {zs : List Int} (hb : Fit .i32 zs) (hl : zs.length ≤ 35184372087808) (h : w.ownsRow base 21 1 v (zs.length + 2) (zs.map (Value.int .i32) ++ [.int .i32 (-7), .int .i32 (-8)])) : Ok .i32 21 w base v (zs ++ [-7, -8]) :=
  Ok.of (hb.app marks_fit) (by simp; omega) h (by simp) (by simp)
/-- What roomy handed back holds the numbers. -/
theorem room_sk {w : World} {g cap : Nat} {zs : List Int} (h : Sk .i32 w (.slice (some ⟨g, 0, none⟩) (zs.length + 2) cap) (zs ++ [-7, -8])) : Sk .i32 w (.slice (some ⟨g, 0, none⟩) zs.length cap) zs := by
  have hc : zs.length + 2 ≤ cap := by
    obtain ⟨b, off, cap', hv, h1, h2, h3⟩ := h.place (by simp)
    simp only [Value.slice.injEq] at hv
    obtain ⟨_, _, rfl⟩ := hv
    simpa using h1
  have := h.head (k := zs.length) (by omega) hc
  simpa using this
theorem room_mark {w : World} {g cap : Nat} {zs : List Int} (h : Sk .i32 w (.slice (some ⟨g, 0, none⟩) (zs.length + 2) cap) (zs ++ [-7, -8])) (k : Nat) (c : Int) (hk : [(-7 : Int), -8][k]? = some c) : w.cell? ⟨g, zs.length + k, none⟩ = some (.int .i32 c) := by
  obtain ⟨b, off, cap', hv, h1, h2, h3⟩ := h.place (by simp)
  simp only [Value.slice.injEq, Option.some.injEq, Addr.mk.injEq, and_true] at hv
  obtain ⟨⟨rfl, rfl⟩, _, rfl⟩ := hv
  have hk2 : k < 2 := (List.getElem?_eq_some_iff.1 hk).1
  have := h3 (zs.length + k) (by simp; omega)
  rw [Nat.zero_add] at this
  rw [this]
  simp [List.getD, List.getElem?_append_right, hk]

set_option maxHeartbeats 400000 in
theorem roomy_any (v : Value) (zs : List Int) (w : World) (hv : Sk .i32 w v zs) (hl : zs.length ≤ 35184372087808) :
    Calls Try.prog 13 #[v] w (RoomPost w zs) := by
  obtain ⟨i0, hi, hz0, hz1, hz2⟩ := info_parts Try.info21
  rcases hv.src with ⟨rfl, rfl⟩ | ⟨ad, cap, rfl, hc⟩
  · have hown1 : w.ownsRow w.heap.size 21 1 (.slice none 0 0) 0 [] := World.ownsRow_nil _ _ _ _
    have hb1 := Below.refl w.heap.size w
    go_enter Try.func13, Try.ntmps13
    go_wp2_with (first | (at_builtin; refine wpList_append_own_none rfl (.tmp 7) (.tmp 8) 22 rfl w.heap.size 21 i0 1 Try.underlying22 hi _ _ _ rfl hown1 rfl ?_) | (at_builtin; refine wpList_append_own _ rfl (.tmp 10) (.tmp 11) 22 rfl w.heap.size 21 i0 (.int .i32 0) 1 4 Try.underlying22 hi hz0 hz1 hz2 rfl (by decide) _ _ _ rfl (hown1.alloc _) ⟨w.heap.size, 0, none⟩ 2 2 [.int .i32 (-7), .int .i32 (-8)] rfl rfl (marks_new w) marks_one (by unfold maxLen; omega) (by omega) (by simp) ?_))
    intro v2 w2 hown2 hg2 _
    have hb2 : Below w.heap.size w w2 := (hb1.alloc (by omega) _).grown hg2 (by simp) (fun k hk => (hown1.lt k hk).1)
    obtain ⟨g, cap2, hv2, hc2, hc3⟩ := own_shape hown2 (by omega)
    rw [hv2] at hown2 ⊢
    have HF : RoomPost w [] (.returned (.slice (some ⟨g, 0, none⟩) 0 cap2)) w2 := ⟨g, cap2, rfl, room_own hv.1 hl hown2, hc2, hc3, hb2⟩
    clear hown1 hown2 hg2 hb2 hb1 hv2
    go_wp2
    go_ret
    exact HF
  · go_enter Try.func13, Try.ntmps13
    go_wp2_with (at_builtin; refine wpList_append_own _ rfl (.tmp 7) (.tmp 8) 22 rfl w.heap.size 21 i0 (.int .i32 0) 1 4 Try.underlying22 hi hz0 hz1 hz2 rfl (by decide) _ _ _ rfl (World.ownsRow_nil _ _ _ _) ad zs.length cap (zs.map (Value.int .i32)) rfl (by simp) hc (ints_one .i32 zs) (by unfold maxLen; omega) (by omega) (Nat.le_refl _) ?_)
    intro v1 w1 hown1 hg1 _
    have hb1 : Below w.heap.size w w1 := (Below.refl _ _).grown hg1 (Nat.le_refl _) (fun k hk => by simp [Value.ownBlock] at hk)
    have hs1 := hb1.size
    go_wp2_with (at_builtin; refine wpList_append_own _ rfl (.tmp 10) (.tmp 11) 22 rfl w.heap.size 21 i0 (.int .i32 0) 1 4 Try.underlying22 hi hz0 hz1 hz2 rfl (by decide) _ _ _ rfl (hown1.alloc _) ⟨w1.heap.size, 0, none⟩ 2 2 [.int .i32 (-7), .int .i32 (-8)] rfl rfl (marks_new w1) marks_one (by unfold maxLen; omega) (by omega) (by simp; omega) ?_)
    intro v2 w2 hown2 hg2 _
    have hb2 : Below w.heap.size w w2 := (hb1.alloc (by omega) _).grown hg2 (by simp; omega) (fun k hk => (hown1.lt k hk).1)
    obtain ⟨g, cap2, hv2, hc2, hc3⟩ := own_shape hown2 (by omega)
    rw [hv2] at hown2 ⊢
    have HF : RoomPost w zs (.returned (.slice (some ⟨g, 0, none⟩) zs.length cap2)) w2 := ⟨g, cap2, rfl, room_own hv.1 hl (by simpa using hown2), by omega, hc3, hb2⟩
    clear hown1 hown2 hg2 hb2 hb1 hv2
    go_wp2
    go_ret
    exact HF

set_option maxHeartbeats 400000 in
theorem whole_q (g cap : Nat) (v : Value) (zs : List Int) (w : World) (hv : Sk .i32 w v zs) (hl : zs.length ≤ 35184372087808) (hc1 : zs.length + 2 ≤ cap) (_hc2 : cap ≤ 9223372036854775807)
    (hs : Sk .i32 w (.slice (some ⟨g, 0, none⟩) (zs.length + 2) cap) (zs ++ [-7, -8])) :
    Calls Try.prog 24 #[.slice (some ⟨g, 0, none⟩) zs.length cap, v] w (Draws w true) := by
  have HS := hide (same_q _ v zs zs w (room_sk hs) hv)
  simp only [decide_true] at HS
  obtain ⟨ao', cap', rfl, _, _⟩ := hv.shape
  have hs' := hide hs
  clear hs hv
  go_enter Try.func24, Try.ntmps24
  go_wp2_with fail
  refine (unhide HS).mono ?_
  rintro e w1 ⟨rfl, hdr⟩
  have hb1 := drewB hdr
  have m1 : w1.cell? ⟨g, zs.length, none⟩ = some (.int .i32 (-7)) := room_mark ((unhide hs').below hb1) 0 (-7) rfl
  have m2 : w1.cell? ⟨g, zs.length + 1, none⟩ = some (.int .i32 (-8)) := room_mark ((unhide hs').below hb1) 1 (-8) rfl
  clear HS hs'
  generalize zs.length = n at *
  go_wp2
  go_ret
  exact ⟨rfl, hdr⟩

theorem whole_yes (g cap : Nat) (v : Value) (zs : List Int) (w : World) (hv : Sk .i32 w v zs) (hl : zs.length ≤ 35184372087808) (hc1 : zs.length + 2 ≤ cap) (hc2 : cap ≤ 9223372036854775807)
    (hs : Sk .i32 w (.slice (some ⟨g, 0, none⟩) (zs.length + 2) cap) (zs ++ [-7, -8])) :
    Calls Try.prog 24 #[.slice (some ⟨g, 0, none⟩) zs.length cap, v] w (Tells w true) := (whole_q g cap v zs w hv hl hc1 hc2 hs).mono fun _ _ ⟨h1, h2⟩ => ⟨h1, drewB h2⟩
end Go.Proofs.Ytchjnplceelgoaa
