/-
  DERIVED. GIVEN WITH THE SEED: THE CARDS: each row of YtlmcmlbmnnjjpaaGreatDoorRows.lean that lists a variable, with what it lists TIED to the program's text (the seventh form; the later family's looks); each row that meets fmt, with fmt's text TOLD by the authors' own Lean function (tested against real Go, not proved from fmt's source: count such statements apart). THE CARD IS WHAT COUNTS. Prove the row's statement (the work); the ties are given (YtlmcmlbmnnjjpaaGreatDoorTie.lean); close each card by the builder's one call (the guide's Derived/Test/ToyasCard.lean, 'card_holds'). Laid BY PROGRAM, IN A SANDBOX (cutbox-door.mjs). By AI agents, Wed Nov 11 2026. No macro, syntax, notation, axiom, sorry.
-/
import Derived.Test.YtlmcmlbmnnjjpaaGreatDoorRows
import GoSem.ClaimSeven
namespace Go.Proofs.YtlmcmlbmnnjjpaaGreatDoor
namespace Rows

/-- THE TIED CARD OF 'endonymlaw8.PackPacks'. -/
def packPacksCard : Claim7 := { stood := { row := packPacksRow, standIns := [], harness := (true, "fa4f8377cf98ba2b2d0b10c6402622ccf7456cee6206e54d329552768883163a"), looks := false }, kinds := [], alts := [], laidByText := true, laidKinds := [.data], laidTests := true, laidLooks := .later }
def PackPacksCardSaid : Prop := Claim7.holds Tryz.pinned (.plain (OpenSpec.ofChange packPacksSpec)) packPacksCard

/-- THE TIED CARD OF 'endonymlaw8.PackUnpacks'. -/
def packUnpacksCard : Claim7 := { stood := { row := packUnpacksRow, standIns := [], harness := (true, "fa4f8377cf98ba2b2d0b10c6402622ccf7456cee6206e54d329552768883163a"), looks := false }, kinds := [], alts := [], laidByText := true, laidKinds := [.data], laidTests := true, laidLooks := .later }
def PackUnpacksCardSaid : Prop := Claim7.holds Tryz.pinned (.plain (OpenSpec.ofChange packUnpacksSpec)) packUnpacksCard

/-- THE TIED CARD OF 'endonymlaw8.PackBack'. -/
def packBackCard : Claim7 := { stood := { row := packBackRow, standIns := [], harness := (true, "fa4f8377cf98ba2b2d0b10c6402622ccf7456cee6206e54d329552768883163a"), looks := false }, kinds := [], alts := [], laidByText := true, laidKinds := [.data], laidTests := true, laidLooks := .later }
def PackBackCardSaid : Prop := Claim7.holds Tryz.pinned (.plain (OpenSpec.ofChange packBackSpec)) packBackCard

/-- THE TIED CARD OF 'endonymlaw8.PackBits'. -/
def packBitsCard : Claim7 := { stood := { row := packBitsRow, standIns := [], harness := (true, "fa4f8377cf98ba2b2d0b10c6402622ccf7456cee6206e54d329552768883163a"), looks := false }, kinds := [], alts := [], laidByText := true, laidKinds := [.data], laidTests := true, laidLooks := .later }
def PackBitsCardSaid : Prop := Claim7.holds Tryz.pinned (.plain (OpenSpec.ofChange packBitsSpec)) packBitsCard

/-- THE TIED CARD OF 'endonymlaw8.PackShort'. -/
def packShortCard : Claim7 := { stood := { row := packShortRow, standIns := [], harness := (true, "fa4f8377cf98ba2b2d0b10c6402622ccf7456cee6206e54d329552768883163a"), looks := false }, kinds := [], alts := [], laidByText := true, laidKinds := [.data], laidTests := true, laidLooks := .later }
def PackShortCardSaid : Prop := Claim7.holds Tryz.pinned (.plain (OpenSpec.ofChange packShortSpec)) packShortCard

/-- THE SECOND FORM's CARD OF 'endonymlaw8.PackPacks'. -/
def packPacksUptoCard : Claim7 := { stood := { row := packPacksUptoRow, standIns := [], harness := (true, "fa4f8377cf98ba2b2d0b10c6402622ccf7456cee6206e54d329552768883163a"), looks := false }, kinds := [], alts := [], laidByText := true, laidKinds := [.data], laidTests := true, laidLooks := .later }
def PackPacksUptoCardSaid : Prop := Claim7.holds Tryz.pinned (.plain (OpenSpec.upto packPacksSpec)) packPacksUptoCard

/-- THE SECOND FORM's CARD OF 'endonymlaw8.PackUnpacks'. -/
def packUnpacksUptoCard : Claim7 := { stood := { row := packUnpacksUptoRow, standIns := [], harness := (true, "fa4f8377cf98ba2b2d0b10c6402622ccf7456cee6206e54d329552768883163a"), looks := false }, kinds := [], alts := [], laidByText := true, laidKinds := [.data], laidTests := true, laidLooks := .later }
def PackUnpacksUptoCardSaid : Prop := Claim7.holds Tryz.pinned (.plain (OpenSpec.upto packUnpacksSpec)) packUnpacksUptoCard

/-- THE SECOND FORM's CARD OF 'endonymlaw8.PackBack'. -/
def packBackUptoCard : Claim7 := { stood := { row := packBackUptoRow, standIns := [], harness := (true, "fa4f8377cf98ba2b2d0b10c6402622ccf7456cee6206e54d329552768883163a"), looks := false }, kinds := [], alts := [], laidByText := true, laidKinds := [.data], laidTests := true, laidLooks := .later }
def PackBackUptoCardSaid : Prop := Claim7.holds Tryz.pinned (.plain (OpenSpec.upto packBackSpec)) packBackUptoCard

/-- THE SECOND FORM's CARD OF 'endonymlaw8.PackBits'. -/
def packBitsUptoCard : Claim7 := { stood := { row := packBitsUptoRow, standIns := [], harness := (true, "fa4f8377cf98ba2b2d0b10c6402622ccf7456cee6206e54d329552768883163a"), looks := false }, kinds := [], alts := [], laidByText := true, laidKinds := [.data], laidTests := true, laidLooks := .later }
def PackBitsUptoCardSaid : Prop := Claim7.holds Tryz.pinned (.plain (OpenSpec.upto packBitsSpec)) packBitsUptoCard

/-- THE SECOND FORM's CARD OF 'endonymlaw8.PackShort'. -/
def packShortUptoCard : Claim7 := { stood := { row := packShortUptoRow, standIns := [], harness := (true, "fa4f8377cf98ba2b2d0b10c6402622ccf7456cee6206e54d329552768883163a"), looks := false }, kinds := [], alts := [], laidByText := true, laidKinds := [.data], laidTests := true, laidLooks := .later }
def PackShortUptoCardSaid : Prop := Claim7.holds Tryz.pinned (.plain (OpenSpec.upto packShortSpec)) packShortUptoCard
end Rows
end Go.Proofs.YtlmcmlbmnnjjpaaGreatDoor
