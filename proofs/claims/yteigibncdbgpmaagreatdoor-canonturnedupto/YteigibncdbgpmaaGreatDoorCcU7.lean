/- (index).wrong where the record is of no matter, or too low. -/
import Derived.Test.YteigibncdbgpmaaGreatDoorCcS7
namespace Go.Proofs.YteigibncdbgpmaaGreatDoor
open Go.RowKit

set_option maxRecDepth 8000 in
set_option maxHeartbeats 4000000 in
theorem wrongNone (cao oao tao : Option Addr) (cl cc ol oc tl tc mr i : Nat) (kd lo hi nn : Int) (to : List Int) (nm ot : ByteArray) (wt : Nat) (w : World) (k6 : kd ≠ 6) (k7 : kd ≠ 7) (k8 : kd ≠ 8) :
    Calls Tryz.prog 40 #[xV (.slice cao cl cc) (.slice oao ol oc) (.map (some mr)), .int .i64 (i : Int), recV ⟨kd, lo, hi, nn, to, nm, ot, wt⟩ (.slice tao tl tc)] w (IntB w 0) := by
  have q6 : (kd == 6) = false := beq_eq_false_iff_ne.2 k6
  have q6' : (kd != 6) = true := by simp [k6]
  have q7 : (kd == 7) = false := beq_eq_false_iff_ne.2 k7
  have q8 : (kd == 8) = false := beq_eq_false_iff_ne.2 k8
  have HF : IntB w 0 (.returned (.int .i64 0)) ((w.alloc (.cells #[.slice cao cl cc, .slice oao ol oc, .map (some mr)] 64)).alloc (.cells #[.int .i64 kd, .int .i64 lo, .int .i64 hi, .int .i64 nn, .slice tao tl tc, .string nm, .string ot, .float .f64 wt] 47)) := ⟨rfl, ((Below.refl _ _).alloc (Nat.le_refl _) _).alloc (by simp) _⟩
  unfold xV recV
  clear k6 k7 k8
  go_enter Tryz.func40, Tryz.ntmps40
  go_wp2
  go_ret
  exact HF
set_option maxRecDepth 8000 in
set_option maxHeartbeats 4000000 in
theorem wrongLow (cao oao tao : Option Addr) (cl cc ol oc tl tc mr i : Nat) (kd lo hi nn : Int) (to : List Int) (nm ot : ByteArray) (wt : Nat) (w : World) (hk : kd = 6 ∨ kd = 7 ∨ kd = 8) (hl : lo < 128) :
    Calls Tryz.prog 40 #[xV (.slice cao cl cc) (.slice oao ol oc) (.map (some mr)), .int .i64 (i : Int), recV ⟨kd, lo, hi, nn, to, nm, ot, wt⟩ (.slice tao tl tc)] w (IntB w 70) := by
  unfold xV recV
  rcases hk with rfl | rfl | rfl
  all_goals
    have HF : ∀ W, Below w.heap.size w W → IntB w 70 (.returned (.int .i64 70)) W := fun W h => ⟨rfl, h⟩
    go_enter Tryz.func40, Tryz.ntmps40
    go_wp2
    go_ret
    exact HF _ (((Below.refl _ _).alloc (Nat.le_refl _) _).alloc (by simp) _)
end Go.Proofs.YteigibncdbgpmaaGreatDoor
