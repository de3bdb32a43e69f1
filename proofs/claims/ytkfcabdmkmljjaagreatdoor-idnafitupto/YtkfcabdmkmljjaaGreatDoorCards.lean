/-
  DERIVED. GIVEN WITH THE SEED: THE CARDS: each row of YtkfcabdmkmljjaaGreatDoorRows.lean that lists a variable, with what it lists TIED to the program's text (the seventh form; the later family's looks); each row that meets fmt, with fmt's text TOLD by the authors' own Lean function (tested against real Go, not proved from fmt's source: count such statements apart). THE CARD IS WHAT COUNTS. Prove the row's statement (the work); the ties are given (YtkfcabdmkmljjaaGreatDoorTie.lean); close each card by the builder's one call (the guide's Derived/Test/ToyasCard.lean, 'card_holds'). Laid BY PROGRAM, IN A SANDBOX (cutbox-door.mjs). By AI agents, Wed Nov 11 2026. No macro, syntax, notation, axiom, sorry.
-/
import Derived.Test.YtkfcabdmkmljjaaGreatDoorRows
import GoSem.ClaimSeven
namespace Go.Proofs.YtkfcabdmkmljjaaGreatDoor
namespace Rows

/-- THE TIED CARD OF 'endonymlaw19.IdnaBack'. -/
def idnaBackCard : Claim7 := { stood := { row := idnaBackRow, standIns := [], harness := (true, "704c58d743c862d36e36b55b8b654e70e6b07bd69230591d42b50d0e6a39d853"), looks := true }, kinds := [], alts := [], laidByText := true, laidKinds := [.data], laidTests := true, laidLooks := .later }
def IdnaBackCardSaid : Prop := Claim7.holds Tryz.pinned (.plain (OpenSpec.ofChange idnaBackSpec)) idnaBackCard

/-- THE TIED CARD OF 'endonymlaw19.IdnaFit'. -/
def idnaFitCard : Claim7 := { stood := { row := idnaFitRow, standIns := [], harness := (true, "704c58d743c862d36e36b55b8b654e70e6b07bd69230591d42b50d0e6a39d853"), looks := true }, kinds := [], alts := [], laidByText := true, laidKinds := [.data], laidTests := true, laidLooks := .later }
def IdnaFitCardSaid : Prop := Claim7.holds Tryz.pinned (.plain (OpenSpec.ofChange idnaFitSpec)) idnaFitCard

/-- THE TIED CARD OF 'endonymlaw19.IdnaBytes'. -/
def idnaBytesCard : Claim7 := { stood := { row := idnaBytesRow, standIns := [], harness := (true, "704c58d743c862d36e36b55b8b654e70e6b07bd69230591d42b50d0e6a39d853"), looks := true }, kinds := [], alts := [], laidByText := true, laidKinds := [.data], laidTests := true, laidLooks := .later }
def IdnaBytesCardSaid : Prop := Claim7.holds Tryz.pinned (.plain (OpenSpec.ofChange idnaBytesSpec)) idnaBytesCard

/-- THE TIED CARD OF 'endonymlaw19.IdnaFewer'. -/
def idnaFewerCard : Claim7 := { stood := { row := idnaFewerRow, standIns := [], harness := (true, "704c58d743c862d36e36b55b8b654e70e6b07bd69230591d42b50d0e6a39d853"), looks := true }, kinds := [], alts := [], laidByText := true, laidKinds := [.data], laidTests := true, laidLooks := .later }
def IdnaFewerCardSaid : Prop := Claim7.holds Tryz.pinned (.plain (OpenSpec.ofChange idnaFewerSpec)) idnaFewerCard

/-- THE TIED CARD OF 'endonymlaw19.IdnaOld'. -/
def idnaOldCard : Claim7 := { stood := { row := idnaOldRow, standIns := [], harness := (true, "704c58d743c862d36e36b55b8b654e70e6b07bd69230591d42b50d0e6a39d853"), looks := true }, kinds := [], alts := [], laidByText := true, laidKinds := [.data], laidTests := true, laidLooks := .later }
def IdnaOldCardSaid : Prop := Claim7.holds Tryz.pinned (.plain (OpenSpec.ofChange idnaOldSpec)) idnaOldCard

/-- THE SECOND FORM's CARD OF 'endonymlaw19.IdnaBack'. -/
def idnaBackUptoCard : Claim7 := { stood := { row := idnaBackUptoRow, standIns := [], harness := (true, "704c58d743c862d36e36b55b8b654e70e6b07bd69230591d42b50d0e6a39d853"), looks := true }, kinds := [], alts := [], laidByText := true, laidKinds := [.data], laidTests := true, laidLooks := .later }
def IdnaBackUptoCardSaid : Prop := Claim7.holds Tryz.pinned (.plain (OpenSpec.upto idnaBackSpec)) idnaBackUptoCard

/-- THE SECOND FORM's CARD OF 'endonymlaw19.IdnaFit'. -/
def idnaFitUptoCard : Claim7 := { stood := { row := idnaFitUptoRow, standIns := [], harness := (true, "704c58d743c862d36e36b55b8b654e70e6b07bd69230591d42b50d0e6a39d853"), looks := true }, kinds := [], alts := [], laidByText := true, laidKinds := [.data], laidTests := true, laidLooks := .later }
def IdnaFitUptoCardSaid : Prop := Claim7.holds Tryz.pinned (.plain (OpenSpec.upto idnaFitSpec)) idnaFitUptoCard

/-- THE SECOND FORM's CARD OF 'endonymlaw19.IdnaBytes'. -/
def idnaBytesUptoCard : Claim7 := { stood := { row := idnaBytesUptoRow, standIns := [], harness := (true, "704c58d743c862d36e36b55b8b654e70e6b07bd69230591d42b50d0e6a39d853"), looks := true }, kinds := [], alts := [], laidByText := true, laidKinds := [.data], laidTests := true, laidLooks := .later }
def IdnaBytesUptoCardSaid : Prop := Claim7.holds Tryz.pinned (.plain (OpenSpec.upto idnaBytesSpec)) idnaBytesUptoCard

/-- THE SECOND FORM's CARD OF 'endonymlaw19.IdnaFewer'. -/
def idnaFewerUptoCard : Claim7 := { stood := { row := idnaFewerUptoRow, standIns := [], harness := (true, "704c58d743c862d36e36b55b8b654e70e6b07bd69230591d42b50d0e6a39d853"), looks := true }, kinds := [], alts := [], laidByText := true, laidKinds := [.data], laidTests := true, laidLooks := .later }
def IdnaFewerUptoCardSaid : Prop := Claim7.holds Tryz.pinned (.plain (OpenSpec.upto idnaFewerSpec)) idnaFewerUptoCard

/-- THE SECOND FORM's CARD OF 'endonymlaw19.IdnaOld'. -/
def idnaOldUptoCard : Claim7 := { stood := { row := idnaOldUptoRow, standIns := [], harness := (true, "704c58d743c862d36e36b55b8b654e70e6b07bd69230591d42b50d0e6a39d853"), looks := true }, kinds := [], alts := [], laidByText := true, laidKinds := [.data], laidTests := true, laidLooks := .later }
def IdnaOldUptoCardSaid : Prop := Claim7.holds Tryz.pinned (.plain (OpenSpec.upto idnaOldSpec)) idnaOldUptoCard
end Rows
end Go.Proofs.YtkfcabdmkmljjaaGreatDoor
