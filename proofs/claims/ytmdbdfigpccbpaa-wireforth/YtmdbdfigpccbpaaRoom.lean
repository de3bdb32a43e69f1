/- The contracts of the statements' helpers: roomy, whole, Same. -/
import Derived.Test.YtmdbdfigpccbpaaConv
namespace Go.Proofs.Ytmdbdfigpccbpaa
open Go.RowKit

set_option maxHeartbeats 400000 in
theorem same_yes (v u : Value) (zs : List Int) (w : World) (hv : Sl w v zs) (hu : Sl w u zs) :
    Calls Try.prog 13 #[v, u] w fun e w' => e = .returned (.bool true) ∧ w' = w := by
  have h1 := hv.conv
  have h2 := hu.conv
  obtain ⟨ao, cap, rfl, _, _⟩ := hv.shape
  obtain ⟨ao', cap', rfl, _, _⟩ := hu.shape
  generalize strOfNums zs = s at *
  go_enter Try.func13, Try.ntmps13
  go_wp2
  go_ret
  exact ⟨rfl, rfl⟩

/-- roomy's answer: the bytes, in memory of its own, with two marks behind. -/
def RoomPost (w : World) (zs : List Int) (e : Ending) (w' : World) : Prop :=
  ∃ g cap, e = .returned (.slice (some ⟨g, 0, none⟩) zs.length cap) ∧ Own w' w.heap.size (.slice (some ⟨g, 0, none⟩) (zs.length + 2) cap) (zs ++ [77, 78]) ∧ zs.length + 2 ≤ cap ∧ cap ≤ 9223372036854775807 ∧ Below w.heap.size w w'

theorem own_shape {w : World} {base n : Nat} {v : Value} {xs : List Value} (h : w.ownsRow base 5 1 v n xs) (hn : 0 < n) : ∃ g cap, v = .slice (some ⟨g, 0, none⟩) n cap ∧ n ≤ cap ∧ cap ≤ 9223372036854775807 := by
  rcases h.2 with ⟨_, h0⟩ | ⟨g, cap, cur, hv, hg, hh, hn', hcap, hsz, htake⟩
  · omega
  · exact ⟨g, cap, hv, hn', by unfold maxLen at hcap; omega⟩

theorem marks_new (w : World) : ∀ (j : Nat) (u : Value), [Value.int .u8 77, Value.int .u8 78][j]? = some u → (w.alloc (.cells #[.int .u8 77, .int .u8 78] 5)).cell? ((⟨w.heap.size, 0, none⟩ : Addr).add j) = some u := by
  intro j u hj
  match j, hj with
  | 0, hj => simp at hj; subst hj; simp [Addr.add]
  | 1, hj => simp at hj; subst hj; simp [Addr.add]
theorem marks_one : ∀ u ∈ [Value.int .u8 77, Value.int .u8 78], u.oneCell' = true := by
  intro u hu
  simp at hu
  rcases hu with rfl | rfl <;> rfl
theorem room_own {w : World} {base : Nat} {v : Value} {zs : List Int} (hb : Byt zs) (hl : zs.length ≤ 140737488351232) (h : w.ownsRow base 5 1 v (zs.length + 2) (zs.map (Value.int .u8) ++ [.int .u8 77, .int .u8 78])) : Own w base v (zs ++ [77, 78]) := by
  refine ⟨?_, by simp; omega, by simpa using h⟩
  intro z hz
  rcases List.mem_append.1 hz with hz | hz
  · exact hb z hz
  · simp at hz
    rcases hz with rfl | rfl <;> omega
/-- What roomy handed back holds the bytes. -/
theorem room_sl {w : World} {g cap : Nat} {zs : List Int} (hb : Byt zs) (h : Sl w (.slice (some ⟨g, 0, none⟩) (zs.length + 2) cap) (zs ++ [77, 78])) : Sl w (.slice (some ⟨g, 0, none⟩) zs.length cap) zs := by
  obtain ⟨b, off, cap', hv, h1, h2, h3⟩ := h.place (by simp)
  simp only [Value.slice.injEq, Option.some.injEq, Addr.mk.injEq, and_true] at hv
  obtain ⟨⟨rfl, rfl⟩, _, rfl⟩ := hv
  have h4 := h.len
  simp at h1 h4
  refine ⟨hb, by omega, .inr ⟨g, 0, cap, rfl, by omega, h2, fun i hi => ?_⟩⟩
  rw [h3 i (by simp; omega)]
  simp [List.getD, List.getElem?_append_left hi]
theorem room_mark {w : World} {g cap : Nat} {zs : List Int} (h : Sl w (.slice (some ⟨g, 0, none⟩) (zs.length + 2) cap) (zs ++ [77, 78])) (k : Nat) (c : Int) (hk : [(77 : Int), 78][k]? = some c) : w.cell? ⟨g, zs.length + k, none⟩ = some (.int .u8 c) := by
  obtain ⟨b, off, cap', hv, h1, h2, h3⟩ := h.place (by simp)
  simp only [Value.slice.injEq, Option.some.injEq, Addr.mk.injEq, and_true] at hv
  obtain ⟨⟨rfl, rfl⟩, _, rfl⟩ := hv
  have hk2 : k < 2 := (List.getElem?_eq_some_iff.1 hk).1
  have := h3 (zs.length + k) (by simp; omega)
  rw [Nat.zero_add] at this
  rw [this]
  simp [List.getD, List.getElem?_append_right, hk]

set_option maxHeartbeats 400000 in
theorem roomy_any (v : Value) (zs : List Int) (w : World) (hv : Sl w v zs) (hl : zs.length ≤ 140737488351232) :
    Calls Try.prog 9 #[v] w (RoomPost w zs) := by
  obtain ⟨i0, hi, hz0, hz1, hz2⟩ := info_parts Try.info5
  rcases hv.src with ⟨rfl, rfl⟩ | ⟨ad, cap, rfl, hc⟩
  · have hown1 : w.ownsRow w.heap.size 5 1 (.slice none 0 0) 0 [] := World.ownsRow_nil _ _ _ _
    have hb1 := Below.refl w.heap.size w
    go_enter Try.func9, Try.ntmps9
    go_wp2_with (first | (at_builtin; refine wpList_append_own_none rfl (.tmp 7) (.tmp 8) 22 rfl w.heap.size 5 i0 1 Try.underlying22 hi _ _ _ rfl hown1 rfl ?_) | (at_builtin; refine wpList_append_own _ rfl (.tmp 10) (.tmp 11) 22 rfl w.heap.size 5 i0 (.int .u8 0) 1 1 Try.underlying22 hi hz0 hz1 hz2 rfl (by decide) _ _ _ rfl (hown1.alloc _) ⟨w.heap.size, 0, none⟩ 2 2 [.int .u8 77, .int .u8 78] rfl rfl (marks_new w) marks_one (by unfold maxLen; omega) (by omega) (by simp) ?_))
    intro v2 w2 hown2 hg2 _
    have hb2 : Below w.heap.size w w2 := (hb1.alloc (by omega) _).grown hg2 (by simp) (fun k hk => (hown1.lt k hk).1)
    obtain ⟨g, cap2, hv2, hc2, hc3⟩ := own_shape hown2 (by omega)
    rw [hv2] at hown2 ⊢
    have HF : RoomPost w [] (.returned (.slice (some ⟨g, 0, none⟩) 0 cap2)) w2 := ⟨g, cap2, rfl, room_own hv.1 hl hown2, hc2, hc3, hb2⟩
    clear hown1 hown2 hg2 hb2 hb1 hv2
    go_wp2
    go_ret
    exact HF
  · go_enter Try.func9, Try.ntmps9
    go_wp2_with (at_builtin; refine wpList_append_own _ rfl (.tmp 7) (.tmp 8) 22 rfl w.heap.size 5 i0 (.int .u8 0) 1 1 Try.underlying22 hi hz0 hz1 hz2 rfl (by decide) _ _ _ rfl (World.ownsRow_nil _ _ _ _) ad zs.length cap (zs.map (Value.int .u8)) rfl (by simp) hc (ints_one zs) (by unfold maxLen; omega) (by omega) (Nat.le_refl _) ?_)
    intro v1 w1 hown1 hg1 _
    have hb1 : Below w.heap.size w w1 := (Below.refl _ _).grown hg1 (Nat.le_refl _) (fun k hk => by simp [Value.ownBlock] at hk)
    have hs1 := hb1.size
    go_wp2_with (at_builtin; refine wpList_append_own _ rfl (.tmp 10) (.tmp 11) 22 rfl w.heap.size 5 i0 (.int .u8 0) 1 1 Try.underlying22 hi hz0 hz1 hz2 rfl (by decide) _ _ _ rfl (hown1.alloc _) ⟨w1.heap.size, 0, none⟩ 2 2 [.int .u8 77, .int .u8 78] rfl rfl (marks_new w1) marks_one (by unfold maxLen; omega) (by omega) (by simp; omega) ?_)
    intro v2 w2 hown2 hg2 _
    have hb2 : Below w.heap.size w w2 := (hb1.alloc (by omega) _).grown hg2 (by simp; omega) (fun k hk => (hown1.lt k hk).1)
    obtain ⟨g, cap2, hv2, hc2, hc3⟩ := own_shape hown2 (by omega)
    rw [hv2] at hown2 ⊢
    have HF : RoomPost w zs (.returned (.slice (some ⟨g, 0, none⟩) zs.length cap2)) w2 := ⟨g, cap2, rfl, room_own hv.1 hl hown2, hc2, hc3, hb2⟩
    clear hown1 hown2 hg2 hb2 hb1 hv2
    go_wp2
    go_ret
    exact HF

set_option maxHeartbeats 400000 in
theorem whole_yes (g cap : Nat) (v : Value) (zs : List Int) (w : World) (hv : Sl w v zs) (hl : zs.length ≤ 140737488351232) (hc1 : zs.length + 2 ≤ cap) (_hc2 : cap ≤ 9223372036854775807)
    (hs : Sl w (.slice (some ⟨g, 0, none⟩) (zs.length + 2) cap) (zs ++ [77, 78])) :
    Calls Try.prog 16 #[.slice (some ⟨g, 0, none⟩) zs.length cap, v] w fun e w' => e = .returned (.bool true) ∧ w' = w := by
  have h1 := (room_sl hv.1 hs).conv
  have h2 := hv.conv
  have m1 : w.cell? ⟨g, zs.length, none⟩ = some (.int .u8 77) := room_mark hs 0 77 rfl
  have m2 : w.cell? ⟨g, zs.length + 1, none⟩ = some (.int .u8 78) := room_mark hs 1 78 rfl
  obtain ⟨ao', cap', rfl, _, _⟩ := hv.shape
  generalize strOfNums zs = s at *
  generalize zs.length = n at *
  go_enter Try.func16, Try.ntmps16
  go_wp2
  go_ret
  exact ⟨rfl, rfl⟩
end Go.Proofs.Ytmdbdfigpccbpaa
