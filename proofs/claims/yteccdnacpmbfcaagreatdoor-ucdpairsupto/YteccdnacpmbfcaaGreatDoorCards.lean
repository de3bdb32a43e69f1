/-
  DERIVED. GIVEN WITH THE SEED: THE CARDS: each row of YteccdnacpmbfcaaGreatDoorRows.lean that lists a variable, with what it lists TIED to the program's text (the seventh form; the later family's looks); each row that meets fmt, with fmt's text TOLD by the authors' own Lean function (tested against real Go, not proved from fmt's source: count such statements apart). THE CARD IS WHAT COUNTS. Prove the row's statement (the work); the ties are given (YteccdnacpmbfcaaGreatDoorTie.lean); close each card by the builder's one call (the guide's Derived/Test/ToyasCard.lean, 'card_holds'). Laid BY PROGRAM, IN A SANDBOX (cutbox-door.mjs). By AI agents, Wed Nov 11 2026. No macro, syntax, notation, axiom, sorry.
-/
import Derived.Test.YteccdnacpmbfcaaGreatDoorRows
import GoSem.ClaimSeven
namespace Go.Proofs.YteccdnacpmbfcaaGreatDoor
namespace Rows

/-- THE TIED CARD OF 'endonymlaw9.UcdPairs'. -/
def ucdPairsCard : Claim7 := { stood := { row := ucdPairsRow, standIns := [], harness := (true, "a67ba2d4f57814530e64e2b3efb753d36ce3095e1182f3281eeafa9693d67154"), looks := true }, kinds := [], alts := [], laidByText := true, laidKinds := [.data], laidTests := true, laidLooks := .later }
def UcdPairsCardSaid : Prop := Claim7.holds Tryz.pinned (.plain (OpenSpec.ofChange ucdPairsSpec)) ucdPairsCard

/-- THE TIED CARD OF 'endonymlaw12.OrderOpens'. -/
def orderOpensCard : Claim7 := { stood := { row := orderOpensRow, standIns := [], harness := (true, "a67ba2d4f57814530e64e2b3efb753d36ce3095e1182f3281eeafa9693d67154"), looks := true }, kinds := [], alts := [], laidByText := true, laidKinds := [.data], laidTests := true, laidLooks := .later }
def OrderOpensCardSaid : Prop := Claim7.holds Tryz.pinned (.plain (OpenSpec.ofChange orderOpensSpec)) orderOpensCard

/-- THE TIED CARD OF 'endonymlaw12.OrderSame'. -/
def orderSameCard : Claim7 := { stood := { row := orderSameRow, standIns := [], harness := (true, "a67ba2d4f57814530e64e2b3efb753d36ce3095e1182f3281eeafa9693d67154"), looks := true }, kinds := [], alts := [], laidByText := true, laidKinds := [.data], laidTests := true, laidLooks := .later }
def OrderSameCardSaid : Prop := Claim7.holds Tryz.pinned (.plain (OpenSpec.ofChange orderSameSpec)) orderSameCard

/-- THE TIED CARD OF 'endonymlaw12.OrderAgain'. -/
def orderAgainCard : Claim7 := { stood := { row := orderAgainRow, standIns := [], harness := (true, "a67ba2d4f57814530e64e2b3efb753d36ce3095e1182f3281eeafa9693d67154"), looks := true }, kinds := [], alts := [], laidByText := true, laidKinds := [.data], laidTests := true, laidLooks := .later }
def OrderAgainCardSaid : Prop := Claim7.holds Tryz.pinned (.plain (OpenSpec.ofChange orderAgainSpec)) orderAgainCard

/-- THE TIED CARD OF 'endonymlaw12.OrderJoins'. -/
def orderJoinsCard : Claim7 := { stood := { row := orderJoinsRow, standIns := [], harness := (true, "a67ba2d4f57814530e64e2b3efb753d36ce3095e1182f3281eeafa9693d67154"), looks := true }, kinds := [], alts := [], laidByText := true, laidKinds := [.data], laidTests := true, laidLooks := .later }
def OrderJoinsCardSaid : Prop := Claim7.holds Tryz.pinned (.plain (OpenSpec.ofChange orderJoinsSpec)) orderJoinsCard

/-- THE TIED CARD OF 'endonymlaw12.OrderLong'. -/
def orderLongCard : Claim7 := { stood := { row := orderLongRow, standIns := [], harness := (true, "a67ba2d4f57814530e64e2b3efb753d36ce3095e1182f3281eeafa9693d67154"), looks := true }, kinds := [], alts := [], laidByText := true, laidKinds := [.data], laidTests := true, laidLooks := .later }
def OrderLongCardSaid : Prop := Claim7.holds Tryz.pinned (.plain (OpenSpec.ofChange orderLongSpec)) orderLongCard

/-- THE SECOND FORM's CARD OF 'endonymlaw9.UcdPairs'. -/
def ucdPairsUptoCard : Claim7 := { stood := { row := ucdPairsUptoRow, standIns := [], harness := (true, "a67ba2d4f57814530e64e2b3efb753d36ce3095e1182f3281eeafa9693d67154"), looks := true }, kinds := [], alts := [], laidByText := true, laidKinds := [.data], laidTests := true, laidLooks := .later }
def UcdPairsUptoCardSaid : Prop := Claim7.holds Tryz.pinned (.plain (OpenSpec.upto ucdPairsSpec)) ucdPairsUptoCard

/-- THE SECOND FORM's CARD OF 'endonymlaw12.OrderOpens'. -/
def orderOpensUptoCard : Claim7 := { stood := { row := orderOpensUptoRow, standIns := [], harness := (true, "a67ba2d4f57814530e64e2b3efb753d36ce3095e1182f3281eeafa9693d67154"), looks := true }, kinds := [], alts := [], laidByText := true, laidKinds := [.data], laidTests := true, laidLooks := .later }
def OrderOpensUptoCardSaid : Prop := Claim7.holds Tryz.pinned (.plain (OpenSpec.upto orderOpensSpec)) orderOpensUptoCard

/-- THE SECOND FORM's CARD OF 'endonymlaw12.OrderSame'. -/
def orderSameUptoCard : Claim7 := { stood := { row := orderSameUptoRow, standIns := [], harness := (true, "a67ba2d4f57814530e64e2b3efb753d36ce3095e1182f3281eeafa9693d67154"), looks := true }, kinds := [], alts := [], laidByText := true, laidKinds := [.data], laidTests := true, laidLooks := .later }
def OrderSameUptoCardSaid : Prop := Claim7.holds Tryz.pinned (.plain (OpenSpec.upto orderSameSpec)) orderSameUptoCard

/-- THE SECOND FORM's CARD OF 'endonymlaw12.OrderAgain'. -/
def orderAgainUptoCard : Claim7 := { stood := { row := orderAgainUptoRow, standIns := [], harness := (true, "a67ba2d4f57814530e64e2b3efb753d36ce3095e1182f3281eeafa9693d67154"), looks := true }, kinds := [], alts := [], laidByText := true, laidKinds := [.data], laidTests := true, laidLooks := .later }
def OrderAgainUptoCardSaid : Prop := Claim7.holds Tryz.pinned (.plain (OpenSpec.upto orderAgainSpec)) orderAgainUptoCard

/-- THE SECOND FORM's CARD OF 'endonymlaw12.OrderJoins'. -/
def orderJoinsUptoCard : Claim7 := { stood := { row := orderJoinsUptoRow, standIns := [], harness := (true, "a67ba2d4f57814530e64e2b3efb753d36ce3095e1182f3281eeafa9693d67154"), looks := true }, kinds := [], alts := [], laidByText := true, laidKinds := [.data], laidTests := true, laidLooks := .later }
def OrderJoinsUptoCardSaid : Prop := Claim7.holds Tryz.pinned (.plain (OpenSpec.upto orderJoinsSpec)) orderJoinsUptoCard

/-- THE SECOND FORM's CARD OF 'endonymlaw12.OrderLong'. -/
def orderLongUptoCard : Claim7 := { stood := { row := orderLongUptoRow, standIns := [], harness := (true, "a67ba2d4f57814530e64e2b3efb753d36ce3095e1182f3281eeafa9693d67154"), looks := true }, kinds := [], alts := [], laidByText := true, laidKinds := [.data], laidTests := true, laidLooks := .later }
def OrderLongUptoCardSaid : Prop := Claim7.holds Tryz.pinned (.plain (OpenSpec.upto orderLongSpec)) orderLongUptoCard
end Rows
end Go.Proofs.YteccdnacpmbfcaaGreatDoor
