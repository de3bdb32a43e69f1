/-
  DERIVED. GIVEN WITH THE SEED: THE CARDS: each row of YtloocceakfmnoaaGreatDoorRows.lean that lists a variable, with what it lists TIED to the program's text (the seventh form; the later family's looks); each row that meets fmt, with fmt's text TOLD by the authors' own Lean function (tested against real Go, not proved from fmt's source: count such statements apart). THE CARD IS WHAT COUNTS. Prove the row's statement (the work); the ties are given (YtloocceakfmnoaaGreatDoorTie.lean); close each card by the builder's one call (the guide's Derived/Test/ToyasCard.lean, 'card_holds'). Laid BY PROGRAM, IN A SANDBOX (cutbox-door.mjs). By AI agents, Wed Nov 11 2026. No macro, syntax, notation, axiom, sorry.
-/
import Derived.Test.YtloocceakfmnoaaGreatDoorRows
import GoSem.ClaimSeven
namespace Go.Proofs.YtloocceakfmnoaaGreatDoor
namespace Rows

/-- THE TIED CARD OF 'endonymlaw7.CanonChecks'. -/
def canonChecksCard : Claim7 := { stood := { row := canonChecksRow, standIns := [], harness := (true, "1893361c956ebde59dfecf7c1d8b419524e55b176058b21342c4efaf284b2a33"), looks := true }, kinds := [], alts := [], laidByText := true, laidKinds := [.data], laidTests := true, laidLooks := .later }
def CanonChecksCardSaid : Prop := Claim7.holds Tryz.pinned (.plain (OpenSpec.ofChange canonChecksSpec)) canonChecksCard

/-- THE TIED CARD OF 'endonymlaw9.UcdBeyond'. -/
def ucdBeyondCard : Claim7 := { stood := { row := ucdBeyondRow, standIns := [], harness := (true, "1893361c956ebde59dfecf7c1d8b419524e55b176058b21342c4efaf284b2a33"), looks := true }, kinds := [], alts := [], laidByText := true, laidKinds := [.data], laidTests := true, laidLooks := .later }
def UcdBeyondCardSaid : Prop := Claim7.holds Tryz.pinned (.plain (OpenSpec.ofChange ucdBeyondSpec)) ucdBeyondCard

/-- THE TIED CARD OF 'endonymlaw9.UcdTells'. -/
def ucdTellsCard : Claim7 := { stood := { row := ucdTellsRow, standIns := [], harness := (true, "1893361c956ebde59dfecf7c1d8b419524e55b176058b21342c4efaf284b2a33"), looks := true }, kinds := [], alts := [], laidByText := true, laidKinds := [.data], laidTests := true, laidLooks := .later }
def UcdTellsCardSaid : Prop := Claim7.holds Tryz.pinned (.plain (OpenSpec.ofChange ucdTellsSpec)) ucdTellsCard

/-- THE TIED CARD OF 'endonymlaw9.UcdTries'. -/
def ucdTriesCard : Claim7 := { stood := { row := ucdTriesRow, standIns := [], harness := (true, "1893361c956ebde59dfecf7c1d8b419524e55b176058b21342c4efaf284b2a33"), looks := true }, kinds := [], alts := [], laidByText := true, laidKinds := [.data], laidTests := true, laidLooks := .later }
def UcdTriesCardSaid : Prop := Claim7.holds Tryz.pinned (.plain (OpenSpec.ofChange ucdTriesSpec)) ucdTriesCard

/-- THE TIED CARD OF 'endonymlaw9.UcdPairs'. -/
def ucdPairsCard : Claim7 := { stood := { row := ucdPairsRow, standIns := [], harness := (true, "1893361c956ebde59dfecf7c1d8b419524e55b176058b21342c4efaf284b2a33"), looks := true }, kinds := [], alts := [], laidByText := true, laidKinds := [.data], laidTests := true, laidLooks := .later }
def UcdPairsCardSaid : Prop := Claim7.holds Tryz.pinned (.plain (OpenSpec.ofChange ucdPairsSpec)) ucdPairsCard

/-- THE TIED CARD OF 'endonymlaw9.UcdTurned'. -/
def ucdTurnedCard : Claim7 := { stood := { row := ucdTurnedRow, standIns := [], harness := (true, "1893361c956ebde59dfecf7c1d8b419524e55b176058b21342c4efaf284b2a33"), looks := true }, kinds := [], alts := [], laidByText := true, laidKinds := [.data], laidTests := true, laidLooks := .later }
def UcdTurnedCardSaid : Prop := Claim7.holds Tryz.pinned (.plain (OpenSpec.ofChange ucdTurnedSpec)) ucdTurnedCard

/-- THE SECOND FORM's CARD OF 'endonymlaw7.CanonChecks'. -/
def canonChecksUptoCard : Claim7 := { stood := { row := canonChecksUptoRow, standIns := [], harness := (true, "1893361c956ebde59dfecf7c1d8b419524e55b176058b21342c4efaf284b2a33"), looks := true }, kinds := [], alts := [], laidByText := true, laidKinds := [.data], laidTests := true, laidLooks := .later }
def CanonChecksUptoCardSaid : Prop := Claim7.holds Tryz.pinned (.plain (OpenSpec.upto canonChecksSpec)) canonChecksUptoCard

/-- THE SECOND FORM's CARD OF 'endonymlaw9.UcdBeyond'. -/
def ucdBeyondUptoCard : Claim7 := { stood := { row := ucdBeyondUptoRow, standIns := [], harness := (true, "1893361c956ebde59dfecf7c1d8b419524e55b176058b21342c4efaf284b2a33"), looks := true }, kinds := [], alts := [], laidByText := true, laidKinds := [.data], laidTests := true, laidLooks := .later }
def UcdBeyondUptoCardSaid : Prop := Claim7.holds Tryz.pinned (.plain (OpenSpec.upto ucdBeyondSpec)) ucdBeyondUptoCard

/-- THE SECOND FORM's CARD OF 'endonymlaw9.UcdTells'. -/
def ucdTellsUptoCard : Claim7 := { stood := { row := ucdTellsUptoRow, standIns := [], harness := (true, "1893361c956ebde59dfecf7c1d8b419524e55b176058b21342c4efaf284b2a33"), looks := true }, kinds := [], alts := [], laidByText := true, laidKinds := [.data], laidTests := true, laidLooks := .later }
def UcdTellsUptoCardSaid : Prop := Claim7.holds Tryz.pinned (.plain (OpenSpec.upto ucdTellsSpec)) ucdTellsUptoCard

/-- THE SECOND FORM's CARD OF 'endonymlaw9.UcdTries'. -/
def ucdTriesUptoCard : Claim7 := { stood := { row := ucdTriesUptoRow, standIns := [], harness := (true, "1893361c956ebde59dfecf7c1d8b419524e55b176058b21342c4efaf284b2a33"), looks := true }, kinds := [], alts := [], laidByText := true, laidKinds := [.data], laidTests := true, laidLooks := .later }
def UcdTriesUptoCardSaid : Prop := Claim7.holds Tryz.pinned (.plain (OpenSpec.upto ucdTriesSpec)) ucdTriesUptoCard

/-- THE SECOND FORM's CARD OF 'endonymlaw9.UcdPairs'. -/
def ucdPairsUptoCard : Claim7 := { stood := { row := ucdPairsUptoRow, standIns := [], harness := (true, "1893361c956ebde59dfecf7c1d8b419524e55b176058b21342c4efaf284b2a33"), looks := true }, kinds := [], alts := [], laidByText := true, laidKinds := [.data], laidTests := true, laidLooks := .later }
def UcdPairsUptoCardSaid : Prop := Claim7.holds Tryz.pinned (.plain (OpenSpec.upto ucdPairsSpec)) ucdPairsUptoCard

/-- THE SECOND FORM's CARD OF 'endonymlaw9.UcdTurned'. -/
def ucdTurnedUptoCard : Claim7 := { stood := { row := ucdTurnedUptoRow, standIns := [], harness := (true, "1893361c956ebde59dfecf7c1d8b419524e55b176058b21342c4efaf284b2a33"), looks := true }, kinds := [], alts := [], laidByText := true, laidKinds := [.data], laidTests := true, laidLooks := .later }
def UcdTurnedUptoCardSaid : Prop := Claim7.holds Tryz.pinned (.plain (OpenSpec.upto ucdTurnedSpec)) ucdTurnedUptoCard
end Rows
end Go.Proofs.YtloocceakfmnoaaGreatDoor
