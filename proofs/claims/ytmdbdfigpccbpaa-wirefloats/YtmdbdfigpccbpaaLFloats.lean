/- The law WireFloats, out of the contracts. -/
import Derived.Test.YtmdbdfigpccbpaaTold
import Derived.Test.YtmdbdfigpccbpaaRefF
namespace Go.Proofs.Ytmdbdfigpccbpaa
open Go.RowKit

set_option maxHeartbeats 1000000 in
theorem wireFloats_any (u : Nat) (hu : u < 18446744073709551616) (at_ : Int) (v : Value) (zs : List Int) (w : World) (hs : Sl w v zs) (hl : zs.length ≤ 140737488351232) :
    Calls Try.prog 5 #[.int .u64 (u : Int), v, .int .i64 at_] w fun e w' => e = .returned (.bool true) ∧ Below w.heap.size w w' := by
  have HR := hide (roomy_any v zs w hs hl)
  have hbt := hs.1
  have hnn : 0 ≤ (Ref.rf zs at_).1 := by
    unfold Ref.rf
    split
    · simp
    · split
      · simp
      · exact (Ref.fval_bound _ (fun z hz => hbt z (List.mem_of_mem_drop (List.mem_of_mem_take hz)))).1
  obtain ⟨ao, cap0, rfl, _, _⟩ := hs.shape
  go_enter Try.func5, Try.ntmps5
  go_wp2_with fail
  refine (unhide HR).mono ?_
  rintro e w1 ⟨g, cap, rfl, hown, hc1, hc2, hb1⟩
  have s1 := hs.below hb1
  have hrs := room_sl hbt hown.sl
  have H1 := hide (readFloat_any _ zs at_ w1 hrs)
  have H2 := hide (refReadFloat_any _ zs at_ w1 s1)
  clear HR hown
  generalize Ref.rf zs at_ = q at *
  obtain ⟨x, p, r⟩ := q
  obtain ⟨x, rfl⟩ := Int.eq_ofNat_of_zero_le hnn
  go_wp2_with fail
  refine (unhide H1).mono ?_
  rintro e w2 ⟨rfl, rfl⟩
  go_wp2_with fail
  refine (unhide H2).mono ?_
  rintro e w3 ⟨rfl, rfl⟩
  go_wp2_with fail
  refine (told_any _).mono ?_
  rintro e w4 ⟨rfl, hb4⟩
  go_wp2_with fail
  refine (apiFloat_any _ _).mono ?_
  rintro e w5 ⟨rfl, rfl⟩
  simp only [Int.toNat_natCast]
  go_wp2_with fail
  refine (float_any u _).mono ?_
  rintro e w6 ⟨v6, rfl, ho6, hb6⟩
  have s6 := ho6.sl
  obtain ⟨ao6, cap6, hv6, _, _⟩ := s6.shape
  rw [hv6] at s6 ⊢
  clear ho6
  go_wp2_with fail
  refine (refFloat_any u hu _).mono ?_
  rintro e w7 ⟨v7, rfl, ho7, hb7⟩
  have s7 := ho7.sl
  obtain ⟨ao7, cap7, hv7, _, _⟩ := s7.shape
  rw [hv7] at s7 ⊢
  have s67 := s6.below hb7
  clear ho7
  go_wp2_with fail
  refine (same_yes _ _ _ _ s67 s7).mono ?_
  rintro e w8 ⟨rfl, rfl⟩
  go_wp2_with fail
  refine (apiBits_any x _).mono ?_
  rintro e w9 ⟨rfl, rfl⟩
  clear H1 H2
  go_wp2
  go_ret
  exact ⟨rfl, bthen (bthen (bthen hb1 hb4) hb6) hb7⟩
end Go.Proofs.Ytmdbdfigpccbpaa
