/-
  No cell of these rows narrows 'for every input' (looked for: loops, veiled, ifaces, maps, wideKeys, modest, calm, conditions, laid).
  DERIVED. THE GIVEN ROWS OF THIS SEAT. 2 by the template 'for every input the law returns true; each argument reads behind the call as it read before'; 0 by the template 'total and deterministic' (their statements: YtchjnplceelgoabTotals.lean).
  GIVEN WITH THE SEED: the statements are not yours to turn. If you find one false, say at which input.
  Laid BY PROGRAM, IN A SANDBOX (cutbox-rows.mjs): the forced cells as the released guide's own fill.sh prints them over the translation ca366cd7db249bc8… (all of the seat's roots in one cut). By AI agents, Wed Nov 11 2026. No macro, syntax, notation, axiom, sorry.
-/
import Derived.Test.YtchjnplceelgoabChecked
import GoSem.Claim
import GoSem.ClaimJoined
import GoSem.ClaimMapViews
import Derived.JoinedTies
import Derived.KernelRfl
namespace Go.Proofs.Ytchjnplceelgoab
/- THE CELL 'sum', in the pinned program and in every row, IS THE sha256 OF THE DUMP (.gsa) THAT YtchjnplceelgoabProg.lean LOADS. Nothing in Lean hashes anything: it is a label: what it is worth is what the hold of that sum in a sandbox is worth. -/
noncomputable def Try.pinned : Pinned := { name := "ytchjnplceelgoab", sum := "ca366cd7db249bc8de2df0382bc4715b65198153774eedf0ff6439a4b0b718ab", checked := Try.checked }
namespace Rows
def none {H : Type} : Left H := { results := [], args := [] }

/-- 'endonymlaw3.ScalarCuts': WHATEVER THE INPUT: true; the input reads as it did. -/
def scalarCutsSpec : ChangeSpec := { name := "scalarCuts", fn := fun _ => fun
  | [d1, d2, d3, d4] => { results := [.lit (.bool true)], args := [d1, d2, d3, d4] }
  | _ => none }
def scalarCutsRow : OpenClaim := { program := "ytchjnplceelgoab", sum := "ca366cd7db249bc8de2df0382bc4715b65198153774eedf0ff6439a4b0b718ab", func := "endonym/endonymlaw3.ScalarCuts", spec := "scalarCuts", unfollowed := true, recurses := true, apart := false }
def ScalarCutsSaid : Prop := scalarCutsRow.holds Try.pinned (OpenSpec.ofChange scalarCutsSpec)

/-- ITS FALSE NEIGHBOUR: 'it returns false'. Refute it at one input. -/
def scalarCutsWrong : ChangeSpec := { name := "scalarCuts", fn := fun _ => fun
  | [d1, d2, d3, d4] => { results := [.lit (.bool false)], args := [d1, d2, d3, d4] }
  | _ => none }
def ScalarCutsWrongFalsely : Prop := scalarCutsRow.holds Try.pinned (OpenSpec.ofChange scalarCutsWrong)

/-- 'endonymlaw3.ScalarBad': WHATEVER THE INPUT: true; the input reads as it did. -/
def scalarBadSpec : ChangeSpec := { name := "scalarBad", fn := fun _ => fun
  | [d1, d2] => { results := [.lit (.bool true)], args := [d1, d2] }
  | _ => none }
def scalarBadRow : OpenClaim := { program := "ytchjnplceelgoab", sum := "ca366cd7db249bc8de2df0382bc4715b65198153774eedf0ff6439a4b0b718ab", func := "endonym/endonymlaw3.ScalarBad", spec := "scalarBad", unfollowed := true, recurses := true, apart := false }
def ScalarBadSaid : Prop := scalarBadRow.holds Try.pinned (OpenSpec.ofChange scalarBadSpec)

/-- ITS FALSE NEIGHBOUR: 'it returns false'. Refute it at one input. -/
def scalarBadWrong : ChangeSpec := { name := "scalarBad", fn := fun _ => fun
  | [d1, d2] => { results := [.lit (.bool false)], args := [d1, d2] }
  | _ => none }
def ScalarBadWrongFalsely : Prop := scalarBadRow.holds Try.pinned (OpenSpec.ofChange scalarBadWrong)

/- THE SECOND FORM. 'bulk': how many values and letters a reading holds, each counted each time it is reached (what is shared counts as often as it is met; a slice's spare places count too). A statement '..UptoSaid' is the law's where the arguments, and the package variables that the reading takes, are together of bulk at most 1048576: NARROWER than '..Said'. Prove '..Said' where nothing that the law and all that it calls make is longer than what came in: it says more and counts as full. Else prove '..UptoSaid'. A law counts once. -/
mutual
def uptoBulk {H : Type} : DataW H → Nat
  | .lit (.string bytes) => bytes.length + 1
  | .lit _ => 1
  | .nil => 1
  | .ptr d => uptoBulk d + 1
  | .slice elems spare => uptoBulkAll elems + uptoBulkAll spare + 1
  | .agg parts => uptoBulkAll parts + 1
  | .iface _ d => uptoBulk d + 1
  | .map entries => uptoBulkEntries entries + 1
  | .held _ => 1
def uptoBulkAll {H : Type} : List (DataW H) → Nat
  | [] => 0
  | d :: r => uptoBulk d + uptoBulkAll r
def uptoBulkEntries {H : Type} : List (Lit × DataW H) → Nat
  | [] => 0
  | x :: r => uptoBulkEntry x + uptoBulkEntries r
def uptoBulkEntry {H : Type} : Lit × DataW H → Nat
  | (.string bytes, d) => bytes.length + uptoBulk d + 1
  | (_, d) => uptoBulk d + 1
 end
def uptoSmall : (H : Type) → List (DataW H) → Bool := fun _ ds => decide (uptoBulkAll ds ≤ 1048576)
def OpenSpec.upto (s : _root_.Go.ChangeSpec) : _root_.Go.OpenSpec := { _root_.Go.OpenSpec.ofChange s with cond := some uptoSmall }

/-- 'endonymlaw3.ScalarCuts', WHERE WHAT IT READS IS OF BULK AT MOST 1048576: true; the input reads as it did. -/
def scalarCutsUptoRow : OpenClaim := { program := "ytchjnplceelgoab", sum := "ca366cd7db249bc8de2df0382bc4715b65198153774eedf0ff6439a4b0b718ab", func := "endonym/endonymlaw3.ScalarCuts", spec := "scalarCuts", unfollowed := true, recurses := true, apart := false, narrowed := true }
def ScalarCutsUptoSaid : Prop := scalarCutsUptoRow.holds Try.pinned (OpenSpec.upto scalarCutsSpec)

/-- 'endonymlaw3.ScalarBad', WHERE WHAT IT READS IS OF BULK AT MOST 1048576: true; the input reads as it did. -/
def scalarBadUptoRow : OpenClaim := { program := "ytchjnplceelgoab", sum := "ca366cd7db249bc8de2df0382bc4715b65198153774eedf0ff6439a4b0b718ab", func := "endonym/endonymlaw3.ScalarBad", spec := "scalarBad", unfollowed := true, recurses := true, apart := false, narrowed := true }
def ScalarBadUptoSaid : Prop := scalarBadUptoRow.holds Try.pinned (OpenSpec.upto scalarBadSpec)

end Rows
end Go.Proofs.Ytchjnplceelgoab
