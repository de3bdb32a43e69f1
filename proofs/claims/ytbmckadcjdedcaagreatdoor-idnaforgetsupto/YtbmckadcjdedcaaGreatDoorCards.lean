/-
  DERIVED. GIVEN WITH THE SEED: THE CARDS: each row of YtbmckadcjdedcaaGreatDoorRows.lean that lists a variable, with what it lists TIED to the program's text (the seventh form; the later family's looks); each row that meets fmt, with fmt's text TOLD by the authors' own Lean function (tested against real Go, not proved from fmt's source: count such statements apart). THE CARD IS WHAT COUNTS. Prove the row's statement (the work); the ties are given (YtbmckadcjdedcaaGreatDoorTie.lean); close each card by the builder's one call (the guide's Derived/Test/ToyasCard.lean, 'card_holds'). Laid BY PROGRAM, IN A SANDBOX (cutbox-door.mjs). By AI agents, Wed Nov 11 2026. No macro, syntax, notation, axiom, sorry.
-/
import Derived.Test.YtbmckadcjdedcaaGreatDoorRows
import GoSem.ClaimSeven
namespace Go.Proofs.YtbmckadcjdedcaaGreatDoor
namespace Rows

/-- THE TIED CARD OF 'endonymlaw19.IdnaNew'. -/
def idnaNewCard : Claim7 := { stood := { row := idnaNewRow, standIns := [], harness := (true, "ddc3e5472e0f2000fcde9f93be95c757f5bf8cdb765608fb953951e80ec04825"), looks := true }, kinds := [], alts := [], laidByText := true, laidKinds := [.data], laidTests := true, laidLooks := .later }
def IdnaNewCardSaid : Prop := Claim7.holds Tryz.pinned (.plain (OpenSpec.ofChange idnaNewSpec)) idnaNewCard

/-- THE TIED CARD OF 'endonymlaw19.IdnaForgets'. -/
def idnaForgetsCard : Claim7 := { stood := { row := idnaForgetsRow, standIns := [], harness := (true, "ddc3e5472e0f2000fcde9f93be95c757f5bf8cdb765608fb953951e80ec04825"), looks := true }, kinds := [], alts := [], laidByText := true, laidKinds := [.data], laidTests := true, laidLooks := .later }
def IdnaForgetsCardSaid : Prop := Claim7.holds Tryz.pinned (.plain (OpenSpec.ofChange idnaForgetsSpec)) idnaForgetsCard

/-- THE TIED CARD OF 'endonymlaw19.IdnaApart'. -/
def idnaApartCard : Claim7 := { stood := { row := idnaApartRow, standIns := [], harness := (true, "ddc3e5472e0f2000fcde9f93be95c757f5bf8cdb765608fb953951e80ec04825"), looks := true }, kinds := [], alts := [], laidByText := true, laidKinds := [.data], laidTests := true, laidLooks := .later }
def IdnaApartCardSaid : Prop := Claim7.holds Tryz.pinned (.plain (OpenSpec.ofChange idnaApartSpec)) idnaApartCard

/-- THE TIED CARD OF 'endonymlaw19.IdnaEcho'. -/
def idnaEchoCard : Claim7 := { stood := { row := idnaEchoRow, standIns := [], harness := (true, "ddc3e5472e0f2000fcde9f93be95c757f5bf8cdb765608fb953951e80ec04825"), looks := true }, kinds := [], alts := [], laidByText := true, laidKinds := [.data], laidTests := true, laidLooks := .later }
def IdnaEchoCardSaid : Prop := Claim7.holds Tryz.pinned (.plain (OpenSpec.ofChange idnaEchoSpec)) idnaEchoCard

/-- THE SECOND FORM's CARD OF 'endonymlaw19.IdnaNew'. -/
def idnaNewUptoCard : Claim7 := { stood := { row := idnaNewUptoRow, standIns := [], harness := (true, "ddc3e5472e0f2000fcde9f93be95c757f5bf8cdb765608fb953951e80ec04825"), looks := true }, kinds := [], alts := [], laidByText := true, laidKinds := [.data], laidTests := true, laidLooks := .later }
def IdnaNewUptoCardSaid : Prop := Claim7.holds Tryz.pinned (.plain (OpenSpec.upto idnaNewSpec)) idnaNewUptoCard

/-- THE SECOND FORM's CARD OF 'endonymlaw19.IdnaForgets'. -/
def idnaForgetsUptoCard : Claim7 := { stood := { row := idnaForgetsUptoRow, standIns := [], harness := (true, "ddc3e5472e0f2000fcde9f93be95c757f5bf8cdb765608fb953951e80ec04825"), looks := true }, kinds := [], alts := [], laidByText := true, laidKinds := [.data], laidTests := true, laidLooks := .later }
def IdnaForgetsUptoCardSaid : Prop := Claim7.holds Tryz.pinned (.plain (OpenSpec.upto idnaForgetsSpec)) idnaForgetsUptoCard

/-- THE SECOND FORM's CARD OF 'endonymlaw19.IdnaApart'. -/
def idnaApartUptoCard : Claim7 := { stood := { row := idnaApartUptoRow, standIns := [], harness := (true, "ddc3e5472e0f2000fcde9f93be95c757f5bf8cdb765608fb953951e80ec04825"), looks := true }, kinds := [], alts := [], laidByText := true, laidKinds := [.data], laidTests := true, laidLooks := .later }
def IdnaApartUptoCardSaid : Prop := Claim7.holds Tryz.pinned (.plain (OpenSpec.upto idnaApartSpec)) idnaApartUptoCard

/-- THE SECOND FORM's CARD OF 'endonymlaw19.IdnaEcho'. -/
def idnaEchoUptoCard : Claim7 := { stood := { row := idnaEchoUptoRow, standIns := [], harness := (true, "ddc3e5472e0f2000fcde9f93be95c757f5bf8cdb765608fb953951e80ec04825"), looks := true }, kinds := [], alts := [], laidByText := true, laidKinds := [.data], laidTests := true, laidLooks := .later }
def IdnaEchoUptoCardSaid : Prop := Claim7.holds Tryz.pinned (.plain (OpenSpec.upto idnaEchoSpec)) idnaEchoUptoCard
end Rows
end Go.Proofs.YtbmckadcjdedcaaGreatDoor
