/- The law WireTexts, out of the contracts. -/
import Derived.Test.YtmdbdfigpccbpaaTold
import Derived.Test.YtmdbdfigpccbpaaRoom
import Derived.Test.YtmdbdfigpccbpaaRefT
namespace Go.Proofs.Ytmdbdfigpccbpaa
open Go.RowKit

set_option maxHeartbeats 1000000 in
theorem wireTexts_any (s : ByteArray) (at_ most : Int) (v : Value) (zs : List Int) (w : World) (hs : Sl w v zs) (hl : zs.length ≤ 140737488351232) (hn : s.size ≤ 140737488351232) :
    Calls Try.prog 4 #[.string s, v, .int .i64 at_, .int .i64 most] w fun e w' => e = .returned (.bool true) ∧ Below w.heap.size w w' := by
  have HR := hide (roomy_any v zs w hs hl)
  have hbt := hs.1
  have H5 := fun w => hide (text_any s w hn)
  have H6 := fun w => hide (refText_any s w hn)
  generalize Ref.uint s.size ++ nums s = us at *
  obtain ⟨ao, cap0, rfl, _, _⟩ := hs.shape
  go_enter Try.func4, Try.ntmps4
  go_wp2_with fail
  refine (unhide HR).mono ?_
  rintro e w1 ⟨g, cap, rfl, hown, hc1, hc2, hb1⟩
  have s1 := hs.below hb1
  have hin := hown.sl
  have hrs := room_sl hbt hin
  have H1 := hide (readText_any _ zs at_ most w1 hrs)
  have H2 := hide (refReadText_any _ zs at_ most w1 s1)
  clear HR
  generalize Ref.rt zs at_ most = q at *
  go_wp2_with fail
  refine (unhide H1).mono ?_
  rintro e w2 ⟨rfl, rfl⟩
  go_wp2_with fail
  refine (unhide H2).mono ?_
  rintro e w3 ⟨rfl, rfl⟩
  go_wp2_with fail
  refine (told_any _).mono ?_
  rintro e w4 ⟨rfl, hb4⟩
  go_wp2_with fail
  refine (unhide (H5 _)).mono ?_
  rintro e w5 ⟨v5, rfl, ho5, hb5⟩
  have s5 := ho5.sl
  obtain ⟨ao5, cap5, hv5, _, _⟩ := s5.shape
  rw [hv5] at s5 ⊢
  clear ho5
  go_wp2_with fail
  refine (unhide (H6 _)).mono ?_
  rintro e w6 ⟨v6, rfl, ho6, hb6⟩
  have s6 := ho6.sl
  obtain ⟨ao6, cap6, hv6, _, _⟩ := s6.shape
  rw [hv6] at s6 ⊢
  have s56 := s5.below hb6
  clear ho6
  go_wp2_with fail
  refine (same_yes _ _ _ _ s56 s6).mono ?_
  rintro e w7 ⟨rfl, rfl⟩
  have H3 := hide (whole_yes g cap _ zs w7 (((s1.below hb4).below hb5).below hb6) hl hc1 hc2 (((hin.below hb4).below hb5).below hb6))
  go_wp2_with fail
  refine (unhide H3).mono ?_
  rintro e w8 ⟨rfl, rfl⟩
  clear H1 H2 H3
  go_wp2
  go_ret
  exact ⟨rfl, bthen (bthen (bthen hb1 hb4) hb5) hb6⟩
end Go.Proofs.Ytmdbdfigpccbpaa
