/-
  DERIVED. GIVEN WITH THE SEED: THE CARDS: each row of YtihhhjodonkkcaaGreatDoorRows.lean that lists a variable, with what it lists TIED to the program's text (the seventh form; the later family's looks); each row that meets fmt, with fmt's text TOLD by the authors' own Lean function (tested against real Go, not proved from fmt's source: count such statements apart). THE CARD IS WHAT COUNTS. Prove the row's statement (the work); the ties are given (YtihhhjodonkkcaaGreatDoorTie.lean); close each card by the builder's one call (the guide's Derived/Test/ToyasCard.lean, 'card_holds'). Laid BY PROGRAM, IN A SANDBOX (cutbox-door.mjs). By AI agents, Wed Nov 11 2026. No macro, syntax, notation, axiom, sorry.
-/
import Derived.Test.YtihhhjodonkkcaaGreatDoorRows
import GoSem.ClaimSeven
namespace Go.Proofs.YtihhhjodonkkcaaGreatDoor
namespace Rows

/-- THE TIED CARD OF 'endonymlaw22.LooksTells'. -/
def looksTellsCard : Claim7 := { stood := { row := looksTellsRow, standIns := [], harness := (true, "93010884d635df38fe3f37e2186f2ba793e56120a5929fb35a86a0468ddc28e2"), looks := true }, kinds := [], alts := [], laidByText := true, laidKinds := [.data], laidTests := true, laidLooks := .later }
def LooksTellsCardSaid : Prop := Claim7.holds Tryz.pinned (.plain (OpenSpec.ofChange looksTellsSpec)) looksTellsCard

/-- THE TIED CARD OF 'endonymlaw22.LooksAlike'. -/
def looksAlikeCard : Claim7 := { stood := { row := looksAlikeRow, standIns := [], harness := (true, "93010884d635df38fe3f37e2186f2ba793e56120a5929fb35a86a0468ddc28e2"), looks := true }, kinds := [], alts := [], laidByText := true, laidKinds := [.data], laidTests := true, laidLooks := .later }
def LooksAlikeCardSaid : Prop := Claim7.holds Tryz.pinned (.plain (OpenSpec.ofChange looksAlikeSpec)) looksAlikeCard

/-- THE TIED CARD OF 'endonymlaw22.LooksJoins'. -/
def looksJoinsCard : Claim7 := { stood := { row := looksJoinsRow, standIns := [], harness := (true, "93010884d635df38fe3f37e2186f2ba793e56120a5929fb35a86a0468ddc28e2"), looks := true }, kinds := [], alts := [], laidByText := true, laidKinds := [.data], laidTests := true, laidLooks := .later }
def LooksJoinsCardSaid : Prop := Claim7.holds Tryz.pinned (.plain (OpenSpec.ofChange looksJoinsSpec)) looksJoinsCard

/-- THE TIED CARD OF 'endonymlaw22.LooksScripts'. -/
def looksScriptsCard : Claim7 := { stood := { row := looksScriptsRow, standIns := [], harness := (true, "93010884d635df38fe3f37e2186f2ba793e56120a5929fb35a86a0468ddc28e2"), looks := true }, kinds := [], alts := [], laidByText := true, laidKinds := [.data], laidTests := true, laidLooks := .later }
def LooksScriptsCardSaid : Prop := Claim7.holds Tryz.pinned (.plain (OpenSpec.ofChange looksScriptsSpec)) looksScriptsCard

/-- THE SECOND FORM's CARD OF 'endonymlaw22.LooksTells'. -/
def looksTellsUptoCard : Claim7 := { stood := { row := looksTellsUptoRow, standIns := [], harness := (true, "93010884d635df38fe3f37e2186f2ba793e56120a5929fb35a86a0468ddc28e2"), looks := true }, kinds := [], alts := [], laidByText := true, laidKinds := [.data], laidTests := true, laidLooks := .later }
def LooksTellsUptoCardSaid : Prop := Claim7.holds Tryz.pinned (.plain (OpenSpec.upto looksTellsSpec)) looksTellsUptoCard

/-- THE SECOND FORM's CARD OF 'endonymlaw22.LooksAlike'. -/
def looksAlikeUptoCard : Claim7 := { stood := { row := looksAlikeUptoRow, standIns := [], harness := (true, "93010884d635df38fe3f37e2186f2ba793e56120a5929fb35a86a0468ddc28e2"), looks := true }, kinds := [], alts := [], laidByText := true, laidKinds := [.data], laidTests := true, laidLooks := .later }
def LooksAlikeUptoCardSaid : Prop := Claim7.holds Tryz.pinned (.plain (OpenSpec.upto looksAlikeSpec)) looksAlikeUptoCard

/-- THE SECOND FORM's CARD OF 'endonymlaw22.LooksJoins'. -/
def looksJoinsUptoCard : Claim7 := { stood := { row := looksJoinsUptoRow, standIns := [], harness := (true, "93010884d635df38fe3f37e2186f2ba793e56120a5929fb35a86a0468ddc28e2"), looks := true }, kinds := [], alts := [], laidByText := true, laidKinds := [.data], laidTests := true, laidLooks := .later }
def LooksJoinsUptoCardSaid : Prop := Claim7.holds Tryz.pinned (.plain (OpenSpec.upto looksJoinsSpec)) looksJoinsUptoCard

/-- THE SECOND FORM's CARD OF 'endonymlaw22.LooksScripts'. -/
def looksScriptsUptoCard : Claim7 := { stood := { row := looksScriptsUptoRow, standIns := [], harness := (true, "93010884d635df38fe3f37e2186f2ba793e56120a5929fb35a86a0468ddc28e2"), looks := true }, kinds := [], alts := [], laidByText := true, laidKinds := [.data], laidTests := true, laidLooks := .later }
def LooksScriptsUptoCardSaid : Prop := Claim7.holds Tryz.pinned (.plain (OpenSpec.upto looksScriptsSpec)) looksScriptsUptoCard
end Rows
end Go.Proofs.YtihhhjodonkkcaaGreatDoor
