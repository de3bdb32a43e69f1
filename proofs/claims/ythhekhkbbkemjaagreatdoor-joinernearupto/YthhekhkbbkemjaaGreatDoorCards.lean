/-
  DERIVED. GIVEN WITH THE SEED: THE CARDS: each row of YthhekhkbbkemjaaGreatDoorRows.lean that lists a variable, with what it lists TIED to the program's text (the seventh form; the later family's looks); each row that meets fmt, with fmt's text TOLD by the authors' own Lean function (tested against real Go, not proved from fmt's source: count such statements apart). THE CARD IS WHAT COUNTS. Prove the row's statement (the work); the ties are given (YthhekhkbbkemjaaGreatDoorTie.lean); close each card by the builder's one call (the guide's Derived/Test/ToyasCard.lean, 'card_holds'). Laid BY PROGRAM, IN A SANDBOX (cutbox-door.mjs). By AI agents, Wed Nov 11 2026. No macro, syntax, notation, axiom, sorry.
-/
import Derived.Test.YthhekhkbbkemjaaGreatDoorRows
import GoSem.ClaimSeven
namespace Go.Proofs.YthhekhkbbkemjaaGreatDoor
namespace Rows

/-- THE TIED CARD OF 'endonymlaw16.JoinerFits'. -/
def joinerFitsCard : Claim7 := { stood := { row := joinerFitsRow, standIns := [], harness := (true, "6afb67418e327aebd7ec66a719d174494b810b95fedce958eac441eca3875889"), looks := true }, kinds := [], alts := [], laidByText := true, laidKinds := [.data], laidTests := true, laidLooks := .later }
def JoinerFitsCardSaid : Prop := Claim7.holds Tryz.pinned (.plain (OpenSpec.ofChange joinerFitsSpec)) joinerFitsCard

/-- THE TIED CARD OF 'endonymlaw16.JoinerNear'. -/
def joinerNearCard : Claim7 := { stood := { row := joinerNearRow, standIns := [], harness := (true, "6afb67418e327aebd7ec66a719d174494b810b95fedce958eac441eca3875889"), looks := true }, kinds := [], alts := [], laidByText := true, laidKinds := [.data], laidTests := true, laidLooks := .later }
def JoinerNearCardSaid : Prop := Claim7.holds Tryz.pinned (.plain (OpenSpec.ofChange joinerNearSpec)) joinerNearCard

/-- THE TIED CARD OF 'endonymlaw16.JoinerFree'. -/
def joinerFreeCard : Claim7 := { stood := { row := joinerFreeRow, standIns := [], harness := (true, "6afb67418e327aebd7ec66a719d174494b810b95fedce958eac441eca3875889"), looks := true }, kinds := [], alts := [], laidByText := true, laidKinds := [.data], laidTests := true, laidLooks := .later }
def JoinerFreeCardSaid : Prop := Claim7.holds Tryz.pinned (.plain (OpenSpec.ofChange joinerFreeSpec)) joinerFreeCard

/-- THE SECOND FORM's CARD OF 'endonymlaw16.JoinerFits'. -/
def joinerFitsUptoCard : Claim7 := { stood := { row := joinerFitsUptoRow, standIns := [], harness := (true, "6afb67418e327aebd7ec66a719d174494b810b95fedce958eac441eca3875889"), looks := true }, kinds := [], alts := [], laidByText := true, laidKinds := [.data], laidTests := true, laidLooks := .later }
def JoinerFitsUptoCardSaid : Prop := Claim7.holds Tryz.pinned (.plain (OpenSpec.upto joinerFitsSpec)) joinerFitsUptoCard

/-- THE SECOND FORM's CARD OF 'endonymlaw16.JoinerNear'. -/
def joinerNearUptoCard : Claim7 := { stood := { row := joinerNearUptoRow, standIns := [], harness := (true, "6afb67418e327aebd7ec66a719d174494b810b95fedce958eac441eca3875889"), looks := true }, kinds := [], alts := [], laidByText := true, laidKinds := [.data], laidTests := true, laidLooks := .later }
def JoinerNearUptoCardSaid : Prop := Claim7.holds Tryz.pinned (.plain (OpenSpec.upto joinerNearSpec)) joinerNearUptoCard

/-- THE SECOND FORM's CARD OF 'endonymlaw16.JoinerFree'. -/
def joinerFreeUptoCard : Claim7 := { stood := { row := joinerFreeUptoRow, standIns := [], harness := (true, "6afb67418e327aebd7ec66a719d174494b810b95fedce958eac441eca3875889"), looks := true }, kinds := [], alts := [], laidByText := true, laidKinds := [.data], laidTests := true, laidLooks := .later }
def JoinerFreeUptoCardSaid : Prop := Claim7.holds Tryz.pinned (.plain (OpenSpec.upto joinerFreeSpec)) joinerFreeUptoCard
end Rows
end Go.Proofs.YthhekhkbbkemjaaGreatDoor
