/-
  DERIVED. GIVEN WITH THE SEED: THE CARDS: each row of YtnpdonnijonpnaaGreatDoorRows.lean that lists a variable, with what it lists TIED to the program's text (the seventh form; the later family's looks); each row that meets fmt, with fmt's text TOLD by the authors' own Lean function (tested against real Go, not proved from fmt's source: count such statements apart). THE CARD IS WHAT COUNTS. Prove the row's statement (the work); the ties are given (YtnpdonnijonpnaaGreatDoorTie.lean); close each card by the builder's one call (the guide's Derived/Test/ToyasCard.lean, 'card_holds'). Laid BY PROGRAM, IN A SANDBOX (cutbox-door.mjs). By AI agents, Wed Nov 11 2026. No macro, syntax, notation, axiom, sorry.
-/
import Derived.Test.YtnpdonnijonpnaaGreatDoorRows
import GoSem.ClaimSeven
namespace Go.Proofs.YtnpdonnijonpnaaGreatDoor
namespace Rows

/-- THE TIED CARD OF 'endonymlaw9.UcdOpens'. -/
def ucdOpensCard : Claim7 := { stood := { row := ucdOpensRow, standIns := [], harness := (true, "a0a16c86734afb99685cbd694a9369cac7042fb5a2a5ec5eb2aacbcbb5d5d4c8"), looks := true }, kinds := [], alts := [], laidByText := true, laidKinds := [.data], laidTests := true, laidLooks := .later }
def UcdOpensCardSaid : Prop := Claim7.holds Tryz.pinned (.plain (OpenSpec.ofChange ucdOpensSpec)) ucdOpensCard

/-- THE SECOND FORM's CARD OF 'endonymlaw9.UcdOpens'. -/
def ucdOpensUptoCard : Claim7 := { stood := { row := ucdOpensUptoRow, standIns := [], harness := (true, "a0a16c86734afb99685cbd694a9369cac7042fb5a2a5ec5eb2aacbcbb5d5d4c8"), looks := true }, kinds := [], alts := [], laidByText := true, laidKinds := [.data], laidTests := true, laidLooks := .later }
def UcdOpensUptoCardSaid : Prop := Claim7.holds Tryz.pinned (.plain (OpenSpec.upto ucdOpensSpec)) ucdOpensUptoCard
end Rows
end Go.Proofs.YtnpdonnijonpnaaGreatDoor
