/-
  DERIVED. GIVEN WITH THE SEED: THE CARDS: each row of YtfemhegfjfhnbaaGreatDoorRows.lean that lists a variable, with what it lists TIED to the program's text (the seventh form; the later family's looks); each row that meets fmt, with fmt's text TOLD by the authors' own Lean function (tested against real Go, not proved from fmt's source: count such statements apart). THE CARD IS WHAT COUNTS. Prove the row's statement (the work); the ties are given (YtfemhegfjfhnbaaGreatDoorTie.lean); close each card by the builder's one call (the guide's Derived/Test/ToyasCard.lean, 'card_holds'). Laid BY PROGRAM, IN A SANDBOX (cutbox-door.mjs). By AI agents, Wed Nov 11 2026. No macro, syntax, notation, axiom, sorry.
-/
import Derived.Test.YtfemhegfjfhnbaaGreatDoorRows
import GoSem.ClaimSeven
namespace Go.Proofs.YtfemhegfjfhnbaaGreatDoor
namespace Rows

/-- THE TIED CARD OF 'endonymlaw15.RemapMaps'. -/
def remapMapsCard : Claim7 := { stood := { row := remapMapsRow, standIns := [], harness := (true, "55eb5d61b7af957772c29f82a9778cc65ac280be22419e0a824e372d24a969e2"), looks := true }, kinds := [], alts := [], laidByText := true, laidKinds := [.data], laidTests := true, laidLooks := .later }
def RemapMapsCardSaid : Prop := Claim7.holds Tryz.pinned (.plain (OpenSpec.ofChange remapMapsSpec)) remapMapsCard

/-- THE TIED CARD OF 'endonymlaw15.RemapParts'. -/
def remapPartsCard : Claim7 := { stood := { row := remapPartsRow, standIns := [], harness := (true, "55eb5d61b7af957772c29f82a9778cc65ac280be22419e0a824e372d24a969e2"), looks := true }, kinds := [], alts := [], laidByText := true, laidKinds := [.data], laidTests := true, laidLooks := .later }
def RemapPartsCardSaid : Prop := Claim7.holds Tryz.pinned (.plain (OpenSpec.ofChange remapPartsSpec)) remapPartsCard

/-- THE TIED CARD OF 'endonymlaw15.RemapJoins'. -/
def remapJoinsCard : Claim7 := { stood := { row := remapJoinsRow, standIns := [], harness := (true, "55eb5d61b7af957772c29f82a9778cc65ac280be22419e0a824e372d24a969e2"), looks := true }, kinds := [], alts := [], laidByText := true, laidKinds := [.data], laidTests := true, laidLooks := .later }
def RemapJoinsCardSaid : Prop := Claim7.holds Tryz.pinned (.plain (OpenSpec.ofChange remapJoinsSpec)) remapJoinsCard

/-- THE TIED CARD OF 'endonymlaw15.RemapLong'. -/
def remapLongCard : Claim7 := { stood := { row := remapLongRow, standIns := [], harness := (true, "55eb5d61b7af957772c29f82a9778cc65ac280be22419e0a824e372d24a969e2"), looks := true }, kinds := [], alts := [], laidByText := true, laidKinds := [.data], laidTests := true, laidLooks := .later }
def RemapLongCardSaid : Prop := Claim7.holds Tryz.pinned (.plain (OpenSpec.ofChange remapLongSpec)) remapLongCard

/-- THE SECOND FORM's CARD OF 'endonymlaw15.RemapMaps'. -/
def remapMapsUptoCard : Claim7 := { stood := { row := remapMapsUptoRow, standIns := [], harness := (true, "55eb5d61b7af957772c29f82a9778cc65ac280be22419e0a824e372d24a969e2"), looks := true }, kinds := [], alts := [], laidByText := true, laidKinds := [.data], laidTests := true, laidLooks := .later }
def RemapMapsUptoCardSaid : Prop := Claim7.holds Tryz.pinned (.plain (OpenSpec.upto remapMapsSpec)) remapMapsUptoCard

/-- THE SECOND FORM's CARD OF 'endonymlaw15.RemapParts'. -/
def remapPartsUptoCard : Claim7 := { stood := { row := remapPartsUptoRow, standIns := [], harness := (true, "55eb5d61b7af957772c29f82a9778cc65ac280be22419e0a824e372d24a969e2"), looks := true }, kinds := [], alts := [], laidByText := true, laidKinds := [.data], laidTests := true, laidLooks := .later }
def RemapPartsUptoCardSaid : Prop := Claim7.holds Tryz.pinned (.plain (OpenSpec.upto remapPartsSpec)) remapPartsUptoCard

/-- THE SECOND FORM's CARD OF 'endonymlaw15.RemapJoins'. -/
def remapJoinsUptoCard : Claim7 := { stood := { row := remapJoinsUptoRow, standIns := [], harness := (true, "55eb5d61b7af957772c29f82a9778cc65ac280be22419e0a824e372d24a969e2"), looks := true }, kinds := [], alts := [], laidByText := true, laidKinds := [.data], laidTests := true, laidLooks := .later }
def RemapJoinsUptoCardSaid : Prop := Claim7.holds Tryz.pinned (.plain (OpenSpec.upto remapJoinsSpec)) remapJoinsUptoCard

/-- THE SECOND FORM's CARD OF 'endonymlaw15.RemapLong'. -/
def remapLongUptoCard : Claim7 := { stood := { row := remapLongUptoRow, standIns := [], harness := (true, "55eb5d61b7af957772c29f82a9778cc65ac280be22419e0a824e372d24a969e2"), looks := true }, kinds := [], alts := [], laidByText := true, laidKinds := [.data], laidTests := true, laidLooks := .later }
def RemapLongUptoCardSaid : Prop := Claim7.holds Tryz.pinned (.plain (OpenSpec.upto remapLongSpec)) remapLongUptoCard
end Rows
end Go.Proofs.YtfemhegfjfhnbaaGreatDoor
