/- The row's closed facts, one by one. -/
import Derived.Test.YtkfcabdmkmljjaaGreatDoorCards
import Derived.Test.YtkfcabdmkmljjaaGreatDoorTie
import Derived.JoinedCond
namespace Go.Proofs.YtkfcabdmkmljjaaGreatDoor
theorem band9 {a b : Bool} (h : a = true) (k : b = true) : (a && b) = true := by rw [h, k]; rfl
set_option maxRecDepth 100000 in
set_option maxHeartbeats 4000000 in
theorem idnaFitClosed : joinedFacts Tryz.pinned.checked.prog 4 Tryz.f4 (Rows.OpenSpec.upto Rows.idnaFitSpec).bare Rows.idnaFitUptoRow = true := by
  delta joinedFacts
  refine (band9 (band9 (band9 (band9 (band9 (band9 (band9 (band9 (band9 (band9 (band9 (band9 (band9 (band9 (band9 (band9 (band9 (band9 (band9 (band9 (band9 (band9 (band9 (band9 (band9 (band9 (band9 (band9 (band9 (band9 (band9 ?_ ?_) ?_) ?_) ?_) ?_) ?_) ?_) ?_) ?_) ?_) ?_) ?_) ?_) ?_) ?_) ?_) ?_) ?_) ?_) ?_) ?_) ?_) ?_) ?_) ?_) ?_) ?_) ?_) ?_) ?_) ?_)
  all_goals (as_aux_lemma => kernel_rfl)
end Go.Proofs.YtkfcabdmkmljjaaGreatDoor
