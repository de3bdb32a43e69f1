/-
  DERIVED. GIVEN WITH THE SEED: THE CARDS: each row of YtdjpjgjhiibpkaaGreatDoorRows.lean that lists a variable, with what it lists TIED to the program's text (the seventh form; the later family's looks); each row that meets fmt, with fmt's text TOLD by the authors' own Lean function (tested against real Go, not proved from fmt's source: count such statements apart). THE CARD IS WHAT COUNTS. Prove the row's statement (the work); the ties are given (YtdjpjgjhiibpkaaGreatDoorTie.lean); close each card by the builder's one call (the guide's Derived/Test/ToyasCard.lean, 'card_holds'). Laid BY PROGRAM, IN A SANDBOX (cutbox-door.mjs). By AI agents, Wed Nov 11 2026. No macro, syntax, notation, axiom, sorry.
-/
import Derived.Test.YtdjpjgjhiibpkaaGreatDoorRows
import GoSem.ClaimSeven
namespace Go.Proofs.YtdjpjgjhiibpkaaGreatDoor
namespace Rows

/-- THE TIED CARD OF 'endonymlaw17.BidiRules'. -/
def bidiRulesCard : Claim7 := { stood := { row := bidiRulesRow, standIns := [], harness := (true, "47812a84939d0a433c3f9388b50a0d683acba5740ce04daf86d7175f7f01e629"), looks := true }, kinds := [], alts := [], laidByText := true, laidKinds := [.data], laidTests := true, laidLooks := .later }
def BidiRulesCardSaid : Prop := Claim7.holds Tryz.pinned (.plain (OpenSpec.ofChange bidiRulesSpec)) bidiRulesCard

/-- THE TIED CARD OF 'endonymlaw17.BidiMarks'. -/
def bidiMarksCard : Claim7 := { stood := { row := bidiMarksRow, standIns := [], harness := (true, "47812a84939d0a433c3f9388b50a0d683acba5740ce04daf86d7175f7f01e629"), looks := true }, kinds := [], alts := [], laidByText := true, laidKinds := [.data], laidTests := true, laidLooks := .later }
def BidiMarksCardSaid : Prop := Claim7.holds Tryz.pinned (.plain (OpenSpec.ofChange bidiMarksSpec)) bidiMarksCard

/-- THE TIED CARD OF 'endonymlaw17.BidiPlain'. -/
def bidiPlainCard : Claim7 := { stood := { row := bidiPlainRow, standIns := [], harness := (true, "47812a84939d0a433c3f9388b50a0d683acba5740ce04daf86d7175f7f01e629"), looks := true }, kinds := [], alts := [], laidByText := true, laidKinds := [.data], laidTests := true, laidLooks := .later }
def BidiPlainCardSaid : Prop := Claim7.holds Tryz.pinned (.plain (OpenSpec.ofChange bidiPlainSpec)) bidiPlainCard

/-- THE SECOND FORM's CARD OF 'endonymlaw17.BidiRules'. -/
def bidiRulesUptoCard : Claim7 := { stood := { row := bidiRulesUptoRow, standIns := [], harness := (true, "47812a84939d0a433c3f9388b50a0d683acba5740ce04daf86d7175f7f01e629"), looks := true }, kinds := [], alts := [], laidByText := true, laidKinds := [.data], laidTests := true, laidLooks := .later }
def BidiRulesUptoCardSaid : Prop := Claim7.holds Tryz.pinned (.plain (OpenSpec.upto bidiRulesSpec)) bidiRulesUptoCard

/-- THE SECOND FORM's CARD OF 'endonymlaw17.BidiMarks'. -/
def bidiMarksUptoCard : Claim7 := { stood := { row := bidiMarksUptoRow, standIns := [], harness := (true, "47812a84939d0a433c3f9388b50a0d683acba5740ce04daf86d7175f7f01e629"), looks := true }, kinds := [], alts := [], laidByText := true, laidKinds := [.data], laidTests := true, laidLooks := .later }
def BidiMarksUptoCardSaid : Prop := Claim7.holds Tryz.pinned (.plain (OpenSpec.upto bidiMarksSpec)) bidiMarksUptoCard

/-- THE SECOND FORM's CARD OF 'endonymlaw17.BidiPlain'. -/
def bidiPlainUptoCard : Claim7 := { stood := { row := bidiPlainUptoRow, standIns := [], harness := (true, "47812a84939d0a433c3f9388b50a0d683acba5740ce04daf86d7175f7f01e629"), looks := true }, kinds := [], alts := [], laidByText := true, laidKinds := [.data], laidTests := true, laidLooks := .later }
def BidiPlainUptoCardSaid : Prop := Claim7.holds Tryz.pinned (.plain (OpenSpec.upto bidiPlainSpec)) bidiPlainUptoCard
end Rows
end Go.Proofs.YtdjpjgjhiibpkaaGreatDoor
