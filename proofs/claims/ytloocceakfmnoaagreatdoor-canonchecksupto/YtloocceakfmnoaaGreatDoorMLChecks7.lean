/- The walk of CanonChecks, out of what canon's calls are asked. -/
import Derived.Test.YtloocceakfmnoaaGreatDoorGc9
namespace Go.Proofs.YtloocceakfmnoaaGreatDoor
open Go.RowKit

set_option maxHeartbeats 400000 in
theorem checks_any (HC : ClassC) (HO : OpenC) (HP : PrimC) (HF : FullC) (HK : CheckC) (RK : RCheckC) (v : Value) (rs : List Rec) (w : World) (hg : Glob w) (hv : Rcs w v rs) : Calls Tryz.prog 3 #[v] w (Tells w true) := by
  have KT := hide (told_any HC HO HP HF HK)
  have HG : Hid (∀ W, Below w.heap.size w W → Glob W) := fun W h => hg.on h
  clear hg
  have K1 := hide (few_any v rs 120 w hv (by omega))
  have K5 := hide HK
  have K6 := hide RK
  clear HC HO HP HF HK RK
  obtain ⟨ao, cap, rfl, h1, h2⟩ := hv.shape
  have hlen := hv.1
  go_enter Tryz.func3, Tryz.ntmps3
  go_wp2_with fail
  refine (unhide K1).mono ?_
  rintro e1 w1 ⟨v1, ps, rfl, a1, a2, hb1⟩
  obtain ⟨m, m1, m3, rv, rl, ao1, cap1, rfl, mc⟩ := few_both hv rfl a1 a2 hb1
  have J5 := hide ((unhide K5) _ _ w1 ((unhide HG) _ hb1) rv)
  clear K1 K5 a1 a2 hv
  generalize rs.take 120 = xs at *
  go_wp2_with fail
  refine (unhide J5).mono ?_
  rintro e2 w2 ⟨rfl, hb2⟩
  have J6 := hide ((unhide K6) _ _ w2 (rl.below hb2))
  clear J5 K6
  go_wp2_with fail
  refine (unhide J6).mono ?_
  rintro e3 w3 ⟨rfl, hb3⟩
  clear J6
  have rv3 := (rv.below hb2).below hb3
  have rl3 := (rl.below hb2).below hb3
  generalize Cn.check xs = r at *
  obtain ⟨at_, er⟩ := r
  have q1 : ((at_ : Int) == (at_ : Int)) = true := beq_self_eq_true _
  have q2 : (er == er) = true := beq_self_eq_true _
  clear rv rl
  go_wp2_with fail
  refine ((unhide KT) w3 ((unhide HG) _ (bthen (bthen hb1 hb2) hb3))).mono ?_
  rintro e4 w4 ⟨rfl, hb4⟩
  have JS := hide (sameRecs_eq _ _ _ w4 (rv3.below hb4) (rl3.below hb4))
  clear KT rv3 rl3
  go_wp2_with fail
  refine (unhide JS).mono ?_
  rintro e5 w5 ⟨rfl, hb5⟩
  have HF : Tells w true (.returned (.bool true)) w5 := ⟨rfl, bthen (bthen (bthen (bthen hb1 hb2) hb3) hb4) hb5⟩
  clear JS
  go_wp2
  go_ret
  exact HF
end Go.Proofs.YtloocceakfmnoaaGreatDoor
