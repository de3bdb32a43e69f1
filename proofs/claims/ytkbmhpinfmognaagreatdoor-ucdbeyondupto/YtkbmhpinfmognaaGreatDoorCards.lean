/-
  DERIVED. GIVEN WITH THE SEED: THE CARDS: each row of YtkbmhpinfmognaaGreatDoorRows.lean that lists a variable, with what it lists TIED to the program's text (the seventh form; the later family's looks); each row that meets fmt, with fmt's text TOLD by the authors' own Lean function (tested against real Go, not proved from fmt's source: count such statements apart). THE CARD IS WHAT COUNTS. Prove the row's statement (the work); the ties are given (YtkbmhpinfmognaaGreatDoorTie.lean); close each card by the builder's one call (the guide's Derived/Test/ToyasCard.lean, 'card_holds'). Laid BY PROGRAM, IN A SANDBOX (cutbox-door.mjs). By AI agents, Wed Nov 11 2026. No macro, syntax, notation, axiom, sorry.
-/
import Derived.Test.YtkbmhpinfmognaaGreatDoorRows
import GoSem.ClaimSeven
namespace Go.Proofs.YtkbmhpinfmognaaGreatDoor
namespace Rows

/-- THE TIED CARD OF 'endonymlaw9.UcdTells'. -/
def ucdTellsCard : Claim7 := { stood := { row := ucdTellsRow, standIns := [], harness := (true, "b3fa215accd3ab1b5db71100c9fa018fdaf312bc46c84798e7a9c948ba88f4a1"), looks := true }, kinds := [], alts := [], laidByText := true, laidKinds := [.data], laidTests := true, laidLooks := .later }
def UcdTellsCardSaid : Prop := Claim7.holds Tryz.pinned (.plain (OpenSpec.ofChange ucdTellsSpec)) ucdTellsCard

/-- THE TIED CARD OF 'endonymlaw9.UcdOpens'. -/
def ucdOpensCard : Claim7 := { stood := { row := ucdOpensRow, standIns := [], harness := (true, "b3fa215accd3ab1b5db71100c9fa018fdaf312bc46c84798e7a9c948ba88f4a1"), looks := true }, kinds := [], alts := [], laidByText := true, laidKinds := [.data], laidTests := true, laidLooks := .later }
def UcdOpensCardSaid : Prop := Claim7.holds Tryz.pinned (.plain (OpenSpec.ofChange ucdOpensSpec)) ucdOpensCard

/-- THE TIED CARD OF 'endonymlaw9.UcdTries'. -/
def ucdTriesCard : Claim7 := { stood := { row := ucdTriesRow, standIns := [], harness := (true, "b3fa215accd3ab1b5db71100c9fa018fdaf312bc46c84798e7a9c948ba88f4a1"), looks := true }, kinds := [], alts := [], laidByText := true, laidKinds := [.data], laidTests := true, laidLooks := .later }
def UcdTriesCardSaid : Prop := Claim7.holds Tryz.pinned (.plain (OpenSpec.ofChange ucdTriesSpec)) ucdTriesCard

/-- THE TIED CARD OF 'endonymlaw9.UcdPairs'. -/
def ucdPairsCard : Claim7 := { stood := { row := ucdPairsRow, standIns := [], harness := (true, "b3fa215accd3ab1b5db71100c9fa018fdaf312bc46c84798e7a9c948ba88f4a1"), looks := true }, kinds := [], alts := [], laidByText := true, laidKinds := [.data], laidTests := true, laidLooks := .later }
def UcdPairsCardSaid : Prop := Claim7.holds Tryz.pinned (.plain (OpenSpec.ofChange ucdPairsSpec)) ucdPairsCard

/-- THE TIED CARD OF 'endonymlaw9.UcdBeyond'. -/
def ucdBeyondCard : Claim7 := { stood := { row := ucdBeyondRow, standIns := [], harness := (true, "b3fa215accd3ab1b5db71100c9fa018fdaf312bc46c84798e7a9c948ba88f4a1"), looks := true }, kinds := [], alts := [], laidByText := true, laidKinds := [.data], laidTests := true, laidLooks := .later }
def UcdBeyondCardSaid : Prop := Claim7.holds Tryz.pinned (.plain (OpenSpec.ofChange ucdBeyondSpec)) ucdBeyondCard

/-- THE TIED CARD OF 'endonymlaw12.OrderOpens'. -/
def orderOpensCard : Claim7 := { stood := { row := orderOpensRow, standIns := [], harness := (true, "b3fa215accd3ab1b5db71100c9fa018fdaf312bc46c84798e7a9c948ba88f4a1"), looks := true }, kinds := [], alts := [], laidByText := true, laidKinds := [.data], laidTests := true, laidLooks := .later }
def OrderOpensCardSaid : Prop := Claim7.holds Tryz.pinned (.plain (OpenSpec.ofChange orderOpensSpec)) orderOpensCard

/-- THE SECOND FORM's CARD OF 'endonymlaw9.UcdTells'. -/
def ucdTellsUptoCard : Claim7 := { stood := { row := ucdTellsUptoRow, standIns := [], harness := (true, "b3fa215accd3ab1b5db71100c9fa018fdaf312bc46c84798e7a9c948ba88f4a1"), looks := true }, kinds := [], alts := [], laidByText := true, laidKinds := [.data], laidTests := true, laidLooks := .later }
def UcdTellsUptoCardSaid : Prop := Claim7.holds Tryz.pinned (.plain (OpenSpec.upto ucdTellsSpec)) ucdTellsUptoCard

/-- THE SECOND FORM's CARD OF 'endonymlaw9.UcdOpens'. -/
def ucdOpensUptoCard : Claim7 := { stood := { row := ucdOpensUptoRow, standIns := [], harness := (true, "b3fa215accd3ab1b5db71100c9fa018fdaf312bc46c84798e7a9c948ba88f4a1"), looks := true }, kinds := [], alts := [], laidByText := true, laidKinds := [.data], laidTests := true, laidLooks := .later }
def UcdOpensUptoCardSaid : Prop := Claim7.holds Tryz.pinned (.plain (OpenSpec.upto ucdOpensSpec)) ucdOpensUptoCard

/-- THE SECOND FORM's CARD OF 'endonymlaw9.UcdTries'. -/
def ucdTriesUptoCard : Claim7 := { stood := { row := ucdTriesUptoRow, standIns := [], harness := (true, "b3fa215accd3ab1b5db71100c9fa018fdaf312bc46c84798e7a9c948ba88f4a1"), looks := true }, kinds := [], alts := [], laidByText := true, laidKinds := [.data], laidTests := true, laidLooks := .later }
def UcdTriesUptoCardSaid : Prop := Claim7.holds Tryz.pinned (.plain (OpenSpec.upto ucdTriesSpec)) ucdTriesUptoCard

/-- THE SECOND FORM's CARD OF 'endonymlaw9.UcdPairs'. -/
def ucdPairsUptoCard : Claim7 := { stood := { row := ucdPairsUptoRow, standIns := [], harness := (true, "b3fa215accd3ab1b5db71100c9fa018fdaf312bc46c84798e7a9c948ba88f4a1"), looks := true }, kinds := [], alts := [], laidByText := true, laidKinds := [.data], laidTests := true, laidLooks := .later }
def UcdPairsUptoCardSaid : Prop := Claim7.holds Tryz.pinned (.plain (OpenSpec.upto ucdPairsSpec)) ucdPairsUptoCard

/-- THE SECOND FORM's CARD OF 'endonymlaw9.UcdBeyond'. -/
def ucdBeyondUptoCard : Claim7 := { stood := { row := ucdBeyondUptoRow, standIns := [], harness := (true, "b3fa215accd3ab1b5db71100c9fa018fdaf312bc46c84798e7a9c948ba88f4a1"), looks := true }, kinds := [], alts := [], laidByText := true, laidKinds := [.data], laidTests := true, laidLooks := .later }
def UcdBeyondUptoCardSaid : Prop := Claim7.holds Tryz.pinned (.plain (OpenSpec.upto ucdBeyondSpec)) ucdBeyondUptoCard

/-- THE SECOND FORM's CARD OF 'endonymlaw12.OrderOpens'. -/
def orderOpensUptoCard : Claim7 := { stood := { row := orderOpensUptoRow, standIns := [], harness := (true, "b3fa215accd3ab1b5db71100c9fa018fdaf312bc46c84798e7a9c948ba88f4a1"), looks := true }, kinds := [], alts := [], laidByText := true, laidKinds := [.data], laidTests := true, laidLooks := .later }
def OrderOpensUptoCardSaid : Prop := Claim7.holds Tryz.pinned (.plain (OpenSpec.upto orderOpensSpec)) orderOpensUptoCard
end Rows
end Go.Proofs.YtkbmhpinfmognaaGreatDoor
