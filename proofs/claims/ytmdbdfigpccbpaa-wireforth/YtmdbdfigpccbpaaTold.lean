/- told: the few that the document tells. -/
import Derived.Test.YtmdbdfigpccbpaaText
import Derived.Test.YtmdbdfigpccbpaaSum
import Derived.Lib.SlBytesConst
import Derived.Laws.IdiomStrings
namespace Go.Proofs.Ytmdbdfigpccbpaa
open Go.RowKit

theorem Sl.lit (w : World) (g : Nat) (hg : g = w.heap.size) (zs : List Int) (n : Nat) (hn : zs.length = n) (C : Array Value) (hC : C = (zs.map (Value.int .u8)).toArray) (m : Nat × Nat) (hb : Byt zs) (hl : zs.length ≤ 1000) :
    Sl (w.alloc (.cells C 5 m)) (.slice (some ⟨g, 0, none⟩) n n) zs := by
  subst hC; subst hn; subst hg
  refine ⟨hb, by omega, .inr ⟨w.heap.size, 0, zs.length, rfl, by omega, by omega, fun i hi => ?_⟩⟩
  rw [World.cell?_alloc_mark]
  simp [hi]

theorem rd_told : Ref.rd [5, 200, 1] 1 = (200, 3, 0) := by decide
theorem rt_told : Ref.rt [2, 97, 98, 9] 0 2 = ([97, 98], 3, 0) := by decide
theorem uint_told : Ref.uint 300 = [172, 2] := by decide
theorem sum_told : Crc.sum [[49, 50, 51, 52], [53, 54, 55, 56, 57]].flatten = 3808858755 := by decide +kernel
theorem str_told : strOfNums [172, 2] = ⟨#[172, 2]⟩ := rfl
theorem str_told2 : strOfNums [97, 98] = ⟨#[97, 98]⟩ := rfl
theorem byt_of {zs : List Int} (h : zs.all (fun z => decide (0 ≤ z) && decide (z ≤ 255)) = true) : Byt zs := by
  intro z hz
  have := List.all_eq_true.1 h z hz
  simpa using this

theorem byt_two : ∀ l ∈ [[(49 : Int), 50, 51, 52], [53, 54, 55, 56, 57]], Byt l := by
  intro l hl
  simp at hl
  rcases hl with rfl | rfl <;> exact byt_of rfl

/-- The two parts of told's sum, as they lie. -/
theorem pa_two (w : World) : Pa (((w.alloc (.cells #[.int .u8 49, .int .u8 50, .int .u8 51, .int .u8 52] 5 (4, 5))).alloc (.cells #[.int .u8 53, .int .u8 54, .int .u8 55, .int .u8 56, .int .u8 57] 5 (5, 6))).alloc
    (.cells #[.slice (some ⟨w.heap.size, 0, none⟩) 4 4, .slice (some ⟨w.heap.size + 1, 0, none⟩) 5 5] 22)) (.slice (some ⟨w.heap.size + 2, 0, none⟩) 2 2) [[49, 50, 51, 52], [53, 54, 55, 56, 57]] := by
  refine ⟨by decide, .inr ⟨w.heap.size + 2, 0, 2, rfl, by decide, fun i hi => ?_⟩⟩
  have s1 := (Sl.lit w w.heap.size rfl [49, 50, 51, 52] 4 rfl #[.int .u8 49, .int .u8 50, .int .u8 51, .int .u8 52] rfl (4, 5) (byt_of rfl) (by decide))
  have s2 := (Sl.lit (w.alloc (.cells #[.int .u8 49, .int .u8 50, .int .u8 51, .int .u8 52] 5 (4, 5))) (w.heap.size + 1) (by simp) [53, 54, 55, 56, 57] 5 rfl #[.int .u8 53, .int .u8 54, .int .u8 55, .int .u8 56, .int .u8 57] rfl (5, 6) (byt_of rfl) (by decide))
  match i, hi with
  | 0, _ =>
    refine ⟨.slice (some ⟨w.heap.size, 0, none⟩) 4 4, ?_, ?_⟩
    · rw [World.cell?_alloc_at _ _ _ _ (by simp)]; rfl
    · exact (s1.below ((Below.refl _ _).alloc (Nat.le_refl _) _)).below ((Below.refl _ _).alloc (Nat.le_refl _) _)
  | 1, _ =>
    refine ⟨.slice (some ⟨w.heap.size + 1, 0, none⟩) 5 5, ?_, ?_⟩
    · rw [World.cell?_alloc_at _ _ _ _ (by simp)]; rfl
    · exact s2.below ((Below.refl _ _).alloc (Nat.le_refl _) _)

set_option maxHeartbeats 1000000 in
theorem told_any (w : World) : Calls Try.prog 12 #[] w fun e w' => e = .returned (.bool true) ∧ Below w.heap.size w w' := by
  have H1 := fun w => hide (readUint_any _ _ 1 _ (Sl.lit w w.heap.size rfl [5, 200, 1] 3 rfl #[.int .u8 5, .int .u8 200, .int .u8 1] rfl (0, 0) (byt_of rfl) (by decide)))
  have H2 := fun o => hide (readText_any _ _ 0 2 _ (Sl.lit (w.alloc o) (w.heap.size + 1) (by simp) [2, 97, 98, 9] 4 rfl #[.int .u8 2, .int .u8 97, .int .u8 98, .int .u8 9] rfl (0, 0) (byt_of rfl) (by decide)))
  have H3 := fun w => hide (uint_any 300 w (by decide))
  simp only [rd_told, rt_told, uint_told] at H1 H2 H3
  go_enter Try.func12, Try.ntmps12
  go_wp2_with fail
  refine (unhide (H1 _)).mono ?_
  rintro e w1 ⟨rfl, rfl⟩
  go_wp2_with fail
  refine (unhide (H2 _)).mono ?_
  rintro e w2 ⟨rfl, rfl⟩
  go_wp2_with fail
  refine (unhide (H3 _)).mono ?_
  rintro e w3 ⟨v, rfl, hown, hb3⟩
  have hsl := hown.sl
  have hcv := hsl.conv
  rw [str_told] at hcv
  obtain ⟨ao, cap, rfl, _, _⟩ := hsl.shape
  have hcv2 : (convert 22 9 (.slice ao 2 cap)).run Try.prog w3 = .ok (.string ⟨#[172, 2]⟩) w3 := hcv
  have hs2 := str_told2
  clear hown H1 H2 H3 hsl hcv
  have kc := fun (w : World) (C : Array Value) (n c : Nat) => Lib.run_convert_bytes_const (P := Try.prog) w 22 5 C n c Try.underlying22 Try.underlying5
  have kc2 : ∀ (o : Obj) (C : Array Value) (n c : Nat), (convert 22 22 (.slice (some ⟨w3.heap.size + 1, 0, none⟩) n c)).run Try.prog ((w3.alloc o).alloc (.cells C 5)) = .ok (.slice (some ⟨w3.heap.size + 1, 0, none⟩) n c) ((w3.alloc o).alloc (.cells C 5 (C.size, C.size + 1))) := fun o C n c => by
    have h := Lib.run_convert_bytes_const (P := Try.prog) (w3.alloc o) 22 5 C n c Try.underlying22 Try.underlying5
    rwa [World.size_alloc] at h
  go_wp2_with fail
  have hb4 := (((hb3.mono (B' := w.heap.size) (by simp; omega)).alloc (by have := hb3.size; simp at this; omega) (.cells #[.int .u8 49, .int .u8 50, .int .u8 51, .int .u8 52] 5 (4, 5))).alloc (by have := hb3.size; simp at this ⊢; omega) (.cells #[.int .u8 53, .int .u8 54, .int .u8 55, .int .u8 56, .int .u8 57] 5 (5, 6))).alloc (by have := hb3.size; simp at this ⊢; omega) (.cells #[.slice (some ⟨w3.heap.size, 0, none⟩) 4 4, .slice (some ⟨w3.heap.size + 1, 0, none⟩) 5 5] 22)
  have H4 := sum_any _ [[49, 50, 51, 52], [53, 54, 55, 56, 57]] _ (pa_two w3) byt_two
  rw [sum_told] at H4
  refine H4.mono ?_
  rintro e w4 ⟨rfl, rfl⟩
  clear H4 kc kc2 hcv2
  go_wp2
  go_ret
  exact ⟨rfl, ((((Below.refl w.heap.size w).alloc (Nat.le_refl _) _).alloc (by simp) _).trans hb4)⟩
end Go.Proofs.Ytmdbdfigpccbpaa
