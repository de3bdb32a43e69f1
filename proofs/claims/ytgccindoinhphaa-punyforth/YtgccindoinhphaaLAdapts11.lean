/- The walk of PunyAdapts and of PunyDecodes. -/
import Derived.Test.YtgccindoinhphaaPwG11
import Derived.Test.YtgccindoinhphaaPuK11
namespace Go.Proofs.Ytgccindoinhphaa
open Go.RowKit

set_option maxHeartbeats 1000000 in
theorem adapts_any (delta points : Int) (first : Bool) (w : World) (hd : -9223372036854775808 ≤ delta ∧ delta ≤ 9223372036854775807) (hp : -9223372036854775808 ≤ points ∧ points ≤ 9223372036854775807) :
    Calls Try.prog 5 #[.int .i64 delta, .int .i64 points, .bool first] w (Tells w true) := by
  have HT := hide (told_any w)
  have HA := fun W => hide (adapt_any delta points first W hd hp)
  have HB := fun W => hide (refAdapt_any delta points first W hd hp)
  generalize Pu.adapt delta points first = r at *
  go_enter Try.func5, Try.ntmps5
  go_wp2_with fail
  refine (unhide HT).mono ?_
  rintro e w1 ⟨rfl, hb⟩
  have HBL := hide hb
  clear HT hb
  go_wp2_with (first | (go_at_call 16; refine (unhide (HA _)).mono ?_; rintro e w1 ⟨rfl, rfl⟩; clear HA) | (go_at_call 17; refine (unhide (HB _)).mono ?_; rintro e w1 ⟨rfl, rfl⟩; clear HB))
  go_ret
  exact ⟨rfl, unhide HBL⟩
end Go.Proofs.Ytgccindoinhphaa
