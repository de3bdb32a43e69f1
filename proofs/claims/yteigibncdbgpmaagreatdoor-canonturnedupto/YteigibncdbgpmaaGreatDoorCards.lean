/-
  DERIVED. GIVEN WITH THE SEED: THE CARDS: each row of YteigibncdbgpmaaGreatDoorRows.lean that lists a variable, with what it lists TIED to the program's text (the seventh form; the later family's looks); each row that meets fmt, with fmt's text TOLD by the authors' own Lean function (tested against real Go, not proved from fmt's source: count such statements apart). THE CARD IS WHAT COUNTS. Prove the row's statement (the work); the ties are given (YteigibncdbgpmaaGreatDoorTie.lean); close each card by the builder's one call (the guide's Derived/Test/ToyasCard.lean, 'card_holds'). Laid BY PROGRAM, IN A SANDBOX (cutbox-door.mjs). By AI agents, Wed Nov 11 2026. No macro, syntax, notation, axiom, sorry.
-/
import Derived.Test.YteigibncdbgpmaaGreatDoorRows
import GoSem.ClaimSeven
namespace Go.Proofs.YteigibncdbgpmaaGreatDoor
namespace Rows

/-- THE TIED CARD OF 'endonymlaw7.CanonOpens'. -/
def canonOpensCard : Claim7 := { stood := { row := canonOpensRow, standIns := [], harness := (true, "c11e02c8303c867b95e559af4c62eaff5149fc3ae0300c3e55cd1c6c027a6315"), looks := true }, kinds := [], alts := [], laidByText := true, laidKinds := [.data], laidTests := true, laidLooks := .later }
def CanonOpensCardSaid : Prop := Claim7.holds Tryz.pinned (.plain (OpenSpec.ofChange canonOpensSpec)) canonOpensCard

/-- THE TIED CARD OF 'endonymlaw7.CanonFulls'. -/
def canonFullsCard : Claim7 := { stood := { row := canonFullsRow, standIns := [], harness := (true, "c11e02c8303c867b95e559af4c62eaff5149fc3ae0300c3e55cd1c6c027a6315"), looks := true }, kinds := [], alts := [], laidByText := true, laidKinds := [.data], laidTests := true, laidLooks := .later }
def CanonFullsCardSaid : Prop := Claim7.holds Tryz.pinned (.plain (OpenSpec.ofChange canonFullsSpec)) canonFullsCard

/-- THE TIED CARD OF 'endonymlaw7.CanonChecks'. -/
def canonChecksCard : Claim7 := { stood := { row := canonChecksRow, standIns := [], harness := (true, "c11e02c8303c867b95e559af4c62eaff5149fc3ae0300c3e55cd1c6c027a6315"), looks := true }, kinds := [], alts := [], laidByText := true, laidKinds := [.data], laidTests := true, laidLooks := .later }
def CanonChecksCardSaid : Prop := Claim7.holds Tryz.pinned (.plain (OpenSpec.ofChange canonChecksSpec)) canonChecksCard

/-- THE TIED CARD OF 'endonymlaw7.CanonLeaves'. -/
def canonLeavesCard : Claim7 := { stood := { row := canonLeavesRow, standIns := [], harness := (true, "c11e02c8303c867b95e559af4c62eaff5149fc3ae0300c3e55cd1c6c027a6315"), looks := true }, kinds := [], alts := [], laidByText := true, laidKinds := [.data], laidTests := true, laidLooks := .later }
def CanonLeavesCardSaid : Prop := Claim7.holds Tryz.pinned (.plain (OpenSpec.ofChange canonLeavesSpec)) canonLeavesCard

/-- THE TIED CARD OF 'endonymlaw7.CanonTurned'. -/
def canonTurnedCard : Claim7 := { stood := { row := canonTurnedRow, standIns := [], harness := (true, "c11e02c8303c867b95e559af4c62eaff5149fc3ae0300c3e55cd1c6c027a6315"), looks := true }, kinds := [], alts := [], laidByText := true, laidKinds := [.data], laidTests := true, laidLooks := .later }
def CanonTurnedCardSaid : Prop := Claim7.holds Tryz.pinned (.plain (OpenSpec.ofChange canonTurnedSpec)) canonTurnedCard

/-- THE TIED CARD OF 'endonymlaw7.CanonOther'. -/
def canonOtherCard : Claim7 := { stood := { row := canonOtherRow, standIns := [], harness := (true, "c11e02c8303c867b95e559af4c62eaff5149fc3ae0300c3e55cd1c6c027a6315"), looks := true }, kinds := [], alts := [], laidByText := true, laidKinds := [.data], laidTests := true, laidLooks := .later }
def CanonOtherCardSaid : Prop := Claim7.holds Tryz.pinned (.plain (OpenSpec.ofChange canonOtherSpec)) canonOtherCard

/-- THE SECOND FORM's CARD OF 'endonymlaw7.CanonOpens'. -/
def canonOpensUptoCard : Claim7 := { stood := { row := canonOpensUptoRow, standIns := [], harness := (true, "c11e02c8303c867b95e559af4c62eaff5149fc3ae0300c3e55cd1c6c027a6315"), looks := true }, kinds := [], alts := [], laidByText := true, laidKinds := [.data], laidTests := true, laidLooks := .later }
def CanonOpensUptoCardSaid : Prop := Claim7.holds Tryz.pinned (.plain (OpenSpec.upto canonOpensSpec)) canonOpensUptoCard

/-- THE SECOND FORM's CARD OF 'endonymlaw7.CanonFulls'. -/
def canonFullsUptoCard : Claim7 := { stood := { row := canonFullsUptoRow, standIns := [], harness := (true, "c11e02c8303c867b95e559af4c62eaff5149fc3ae0300c3e55cd1c6c027a6315"), looks := true }, kinds := [], alts := [], laidByText := true, laidKinds := [.data], laidTests := true, laidLooks := .later }
def CanonFullsUptoCardSaid : Prop := Claim7.holds Tryz.pinned (.plain (OpenSpec.upto canonFullsSpec)) canonFullsUptoCard

/-- THE SECOND FORM's CARD OF 'endonymlaw7.CanonChecks'. -/
def canonChecksUptoCard : Claim7 := { stood := { row := canonChecksUptoRow, standIns := [], harness := (true, "c11e02c8303c867b95e559af4c62eaff5149fc3ae0300c3e55cd1c6c027a6315"), looks := true }, kinds := [], alts := [], laidByText := true, laidKinds := [.data], laidTests := true, laidLooks := .later }
def CanonChecksUptoCardSaid : Prop := Claim7.holds Tryz.pinned (.plain (OpenSpec.upto canonChecksSpec)) canonChecksUptoCard

/-- THE SECOND FORM's CARD OF 'endonymlaw7.CanonLeaves'. -/
def canonLeavesUptoCard : Claim7 := { stood := { row := canonLeavesUptoRow, standIns := [], harness := (true, "c11e02c8303c867b95e559af4c62eaff5149fc3ae0300c3e55cd1c6c027a6315"), looks := true }, kinds := [], alts := [], laidByText := true, laidKinds := [.data], laidTests := true, laidLooks := .later }
def CanonLeavesUptoCardSaid : Prop := Claim7.holds Tryz.pinned (.plain (OpenSpec.upto canonLeavesSpec)) canonLeavesUptoCard

/-- THE SECOND FORM's CARD OF 'endonymlaw7.CanonTurned'. -/
def canonTurnedUptoCard : Claim7 := { stood := { row := canonTurnedUptoRow, standIns := [], harness := (true, "c11e02c8303c867b95e559af4c62eaff5149fc3ae0300c3e55cd1c6c027a6315"), looks := true }, kinds := [], alts := [], laidByText := true, laidKinds := [.data], laidTests := true, laidLooks := .later }
def CanonTurnedUptoCardSaid : Prop := Claim7.holds Tryz.pinned (.plain (OpenSpec.upto canonTurnedSpec)) canonTurnedUptoCard

/-- THE SECOND FORM's CARD OF 'endonymlaw7.CanonOther'. -/
def canonOtherUptoCard : Claim7 := { stood := { row := canonOtherUptoRow, standIns := [], harness := (true, "c11e02c8303c867b95e559af4c62eaff5149fc3ae0300c3e55cd1c6c027a6315"), looks := true }, kinds := [], alts := [], laidByText := true, laidKinds := [.data], laidTests := true, laidLooks := .later }
def CanonOtherUptoCardSaid : Prop := Claim7.holds Tryz.pinned (.plain (OpenSpec.upto canonOtherSpec)) canonOtherUptoCard
end Rows
end Go.Proofs.YteigibncdbgpmaaGreatDoor
