/-
  DERIVED. GIVEN WITH THE SEED: THE CARDS: each row of YtkglkajjofidoaaGreatDoorRows.lean that lists a variable, with what it lists TIED to the program's text (the seventh form; the later family's looks); each row that meets fmt, with fmt's text TOLD by the authors' own Lean function (tested against real Go, not proved from fmt's source: count such statements apart). THE CARD IS WHAT COUNTS. Prove the row's statement (the work); the ties are given (YtkglkajjofidoaaGreatDoorTie.lean); close each card by the builder's one call (the guide's Derived/Test/ToyasCard.lean, 'card_holds'). Laid BY PROGRAM, IN A SANDBOX (cutbox-door.mjs). By AI agents, Wed Nov 11 2026. No macro, syntax, notation, axiom, sorry.
-/
import Derived.Test.YtkglkajjofidoaaGreatDoorRows
import GoSem.ClaimSeven
namespace Go.Proofs.YtkglkajjofidoaaGreatDoor
namespace Rows

/-- THE TIED CARD OF 'endonymlaw18.LabelChecks'. -/
def labelChecksCard : Claim7 := { stood := { row := labelChecksRow, standIns := [], harness := (true, "ffd3da9de59db74dcfc6a7143a1735f97140bfbd87a108a1d9ce739933563cf8"), looks := true }, kinds := [], alts := [], laidByText := true, laidKinds := [.data], laidTests := true, laidLooks := .later }
def LabelChecksCardSaid : Prop := Claim7.holds Tryz.pinned (.plain (OpenSpec.ofChange labelChecksSpec)) labelChecksCard

/-- THE TIED CARD OF 'endonymlaw18.LabelMore'. -/
def labelMoreCard : Claim7 := { stood := { row := labelMoreRow, standIns := [], harness := (true, "ffd3da9de59db74dcfc6a7143a1735f97140bfbd87a108a1d9ce739933563cf8"), looks := true }, kinds := [], alts := [], laidByText := true, laidKinds := [.data], laidTests := true, laidLooks := .later }
def LabelMoreCardSaid : Prop := Claim7.holds Tryz.pinned (.plain (OpenSpec.ofChange labelMoreSpec)) labelMoreCard

/-- THE TIED CARD OF 'endonymlaw18.LabelClean'. -/
def labelCleanCard : Claim7 := { stood := { row := labelCleanRow, standIns := [], harness := (true, "ffd3da9de59db74dcfc6a7143a1735f97140bfbd87a108a1d9ce739933563cf8"), looks := true }, kinds := [], alts := [], laidByText := true, laidKinds := [.data], laidTests := true, laidLooks := .later }
def LabelCleanCardSaid : Prop := Claim7.holds Tryz.pinned (.plain (OpenSpec.ofChange labelCleanSpec)) labelCleanCard

/-- THE SECOND FORM's CARD OF 'endonymlaw18.LabelChecks'. -/
def labelChecksUptoCard : Claim7 := { stood := { row := labelChecksUptoRow, standIns := [], harness := (true, "ffd3da9de59db74dcfc6a7143a1735f97140bfbd87a108a1d9ce739933563cf8"), looks := true }, kinds := [], alts := [], laidByText := true, laidKinds := [.data], laidTests := true, laidLooks := .later }
def LabelChecksUptoCardSaid : Prop := Claim7.holds Tryz.pinned (.plain (OpenSpec.upto labelChecksSpec)) labelChecksUptoCard

/-- THE SECOND FORM's CARD OF 'endonymlaw18.LabelMore'. -/
def labelMoreUptoCard : Claim7 := { stood := { row := labelMoreUptoRow, standIns := [], harness := (true, "ffd3da9de59db74dcfc6a7143a1735f97140bfbd87a108a1d9ce739933563cf8"), looks := true }, kinds := [], alts := [], laidByText := true, laidKinds := [.data], laidTests := true, laidLooks := .later }
def LabelMoreUptoCardSaid : Prop := Claim7.holds Tryz.pinned (.plain (OpenSpec.upto labelMoreSpec)) labelMoreUptoCard

/-- THE SECOND FORM's CARD OF 'endonymlaw18.LabelClean'. -/
def labelCleanUptoCard : Claim7 := { stood := { row := labelCleanUptoRow, standIns := [], harness := (true, "ffd3da9de59db74dcfc6a7143a1735f97140bfbd87a108a1d9ce739933563cf8"), looks := true }, kinds := [], alts := [], laidByText := true, laidKinds := [.data], laidTests := true, laidLooks := .later }
def LabelCleanUptoCardSaid : Prop := Claim7.holds Tryz.pinned (.plain (OpenSpec.upto labelCleanSpec)) labelCleanUptoCard
end Rows
end Go.Proofs.YtkglkajjofidoaaGreatDoor
