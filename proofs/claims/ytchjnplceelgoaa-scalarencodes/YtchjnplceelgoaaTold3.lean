/- told: the few that the document tells. -/
import Derived.Test.YtchjnplceelgoaaPost
namespace Go.Proofs.Ytchjnplceelgoaa
open Go.RowKit

theorem dec_told : Utf.dec 0 (nums ⟨#[97, 195, 159]⟩) = ([97, 223], 0, 0) := by decide
theorem dec_told2 : Utf.dec 0 (nums ⟨#[224, 128]⟩) = ([], 1, 30) := by decide
theorem enc_told : Utf.encA 0 [223] = ([195, 159], 0, 0) := by decide
theorem str_told : strOfNums [195, 159] = ⟨#[195, 159]⟩ := rfl
theorem split_told : Spl.split [] = [[]] := rfl
theorem okb_told : okb 57344 = true := by decide

set_option maxHeartbeats 1000000 in
theorem told_any (HD : DecC) (HE : EncC) (HV : ValC) (HS : SplC) (w : World) : Calls Try.prog 11 #[] w (Tells w true) := by
  have H1 := fun w => hide (HD ⟨#[97, 195, 159]⟩ w (by decide))
  have H2 := fun (w : World) (m : Nat × Nat) => hide (HE _ [223] _ (Sk.lit .i32 21 w w.heap.size rfl [223] 1 rfl #[.int .i32 223] rfl m (by intro z hz; simp at hz; subst hz; exact i32_fit (by omega)) (by simp)) (by simp))
  have H3 := fun w => hide (HD ⟨#[224, 128]⟩ w (by decide))
  have H4 := fun w => hide (HS _ [] w (Sk.nil .i32 w) (by simp))
  have H5 := fun w => hide (HV 57344 w (by omega) (by omega))
  simp only [dec_told, dec_told2, enc_told, split_told, okb_told] at H1 H2 H3 H4 H5
  have hst := str_told
  clear HD HE HV HS
  go_enter Try.func11, Try.ntmps11
  go_wp2_with fail
  refine (unhide (H1 _)).mono ?_
  rintro e w1 ⟨v1, rfl, hown, hb1⟩
  have hsk := hown.sk
  clear hown
  obtain ⟨bk, off, cap, rfl, hc1, hc2, hc⟩ := hsk.place (by simp)
  clear hc1 hc2 hc
  go_wp2_with fail
  refine (unhide (H2 _ _)).mono ?_
  rintro e w2 ⟨rfl, hb2⟩
  have hb12 : Below w1.heap.size w1 w2 := ((Below.refl _ _).alloc (Nat.le_refl _) _).trans (hb2.mono (by simp))
  clear hb2
  go_wp2_with fail
  refine (unhide (H3 _)).mono ?_
  rintro e w3 ⟨v3, rfl, _, hb3⟩
  have hb13 := bthen hb12 hb3
  have hsk3 := hsk.below hb13
  have hcell : w3.cell? ⟨bk, off + 1, none⟩ = some (.int .i32 223) := by
    obtain ⟨b', off', cap', hv', _, _, hc'⟩ := hsk3.place (by simp)
    simp only [Value.slice.injEq, Option.some.injEq, Addr.mk.injEq, and_true] at hv'
    obtain ⟨⟨rfl, rfl⟩, _⟩ := hv'
    exact hc' 1 (by simp)
  have hb03 := bthen hb1 hb13
  clear hsk hsk3 hb12 hb3 hb13 hb1 H1 H2 H3
  go_wp2_with fail
  refine (unhide (H4 _)).mono ?_
  rintro e w4 ⟨v4, rfl, hr4, hb4⟩
  obtain ⟨ao4, cap4, rfl, _, _⟩ := hr4.shape
  clear hr4 hcell
  go_wp2_with fail
  refine (unhide (H5 _)).mono ?_
  rintro e w5 ⟨rfl, hb5⟩
  have hb := bthen (bthen hb03 hb4) hb5
  clear hb03 hb4 hb5 H4 H5
  go_wp2
  go_ret
  exact ⟨rfl, hb⟩
end Go.Proofs.Ytchjnplceelgoaa
