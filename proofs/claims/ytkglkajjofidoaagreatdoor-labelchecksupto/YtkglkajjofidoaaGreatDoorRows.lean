/-
  NARROWER THAN 'FOR EVERY INPUT', by the rows' own cells (each row's printed sentence says how): LabelChecks: laid · LabelMore: laid · LabelClean: laid.
  DERIVED. THE GIVEN ROWS OF THIS SEAT. 3 by the template 'for every input the law returns true; each argument reads behind the call as it read before'; 0 by the template 'total and deterministic' (their statements: YtkglkajjofidoaaGreatDoorTotals.lean).
  GIVEN WITH THE SEED: the statements are not yours to turn. If you find one false, say at which input.
  Laid BY PROGRAM, IN A SANDBOX (cutbox-rows.mjs): the forced cells as the released guide's own fill.sh prints them over the translation b628dae59f29e05b… (all of the seat's roots in one cut). By AI agents, Wed Nov 11 2026. No macro, syntax, notation, axiom, sorry.
-/
import Derived.Test.YtkglkajjofidoaaGreatDoorChecked
import GoSem.Claim
import GoSem.ClaimJoined
import GoSem.ClaimMapViews
import Derived.JoinedTies
import Derived.KernelRfl
namespace Go.Proofs.YtkglkajjofidoaaGreatDoor
/- THE CELL 'sum', in the pinned program and in every row, IS THE sha256 OF THE DUMP (.gsa) THAT YtkglkajjofidoaaGreatDoorProg.lean LOADS. Nothing in Lean hashes anything: it is a label: what it is worth is what the hold of that sum in a sandbox is worth. -/
noncomputable def Tryz.pinned : Pinned := { name := "ytkglkajjofidoaagreatdoor", sum := "b628dae59f29e05b3157598cdf1aeaa2db72c29e03502c2809d7a1fc81f3710a", checked := Tryz.checked }
namespace Rows
def none {H : Type} : Left H := { results := [], args := [] }

/- WHAT THE LISTED PACKAGE-LEVEL VARIABLES READ AS WHEN THE CALL BEGINS. Each datum BY PROGRAM (the guide's laid-datum.mjs) off the statement by which the dump's own 'gosem.cut.vars' lays the variable. In a bare row this is a premise. The card (YtkglkajjofidoaaGreatDoorCards.lean) ties it to the program's text. -/
def laid_endonym_table_rows {H : Type} : DataW H := .agg [.agg [.lit (.string []), .lit (.int .i64 0), .lit (.int .i64 0), .lit (.int .i64 0), .lit (.int .i64 0), .lit (.int .i64 0), .lit (.string []), .lit (.int .i64 0), .lit (.bool false)], .agg [.lit (.string [118, 97, 108, 105, 100]), .lit (.int .i64 1), .lit (.int .i64 0), .lit (.int .i64 0), .lit (.int .i64 0), .lit (.int .i64 0), .lit (.string []), .lit (.int .i64 0), .lit (.bool false)], .agg [.lit (.string [105, 103, 110, 111, 114, 101, 100]), .lit (.int .i64 1), .lit (.int .i64 0), .lit (.int .i64 0), .lit (.int .i64 0), .lit (.int .i64 0), .lit (.string []), .lit (.int .i64 0), .lit (.bool false)], .agg [.lit (.string [109, 97, 112, 112, 101, 100]), .lit (.int .i64 1), .lit (.int .i64 1), .lit (.int .i64 24), .lit (.int .i64 0), .lit (.int .i64 0), .lit (.string []), .lit (.int .i64 0), .lit (.bool false)], .agg [.lit (.string [115, 104, 105, 102, 116]), .lit (.int .i64 1), .lit (.int .i64 1), .lit (.int .i64 1), .lit (.int .i64 1), .lit (.int .i64 64), .lit (.string []), .lit (.int .i64 0), .lit (.bool false)], .agg [.lit (.string [100, 101, 118, 105, 97, 116, 105, 111, 110]), .lit (.int .i64 1), .lit (.int .i64 0), .lit (.int .i64 24), .lit (.int .i64 0), .lit (.int .i64 0), .lit (.string []), .lit (.int .i64 0), .lit (.bool false)], .agg [.lit (.string [99, 108, 97, 115, 115]), .lit (.int .i64 2), .lit (.int .i64 0), .lit (.int .i64 0), .lit (.int .i64 1), .lit (.int .i64 254), .lit (.string []), .lit (.int .i64 0), .lit (.bool false)], .agg [.lit (.string [100, 101, 99, 111, 109, 112]), .lit (.int .i64 3), .lit (.int .i64 2), .lit (.int .i64 2), .lit (.int .i64 0), .lit (.int .i64 0), .lit (.string []), .lit (.int .i64 0), .lit (.bool false)], .agg [.lit (.string [111, 112, 101, 110, 115]), .lit (.int .i64 3), .lit (.int .i64 1), .lit (.int .i64 2), .lit (.int .i64 0), .lit (.int .i64 0), .lit (.string []), .lit (.int .i64 0), .lit (.bool false)], .agg [.lit (.string [98, 105, 100, 105]), .lit (.int .i64 4), .lit (.int .i64 0), .lit (.int .i64 0), .lit (.int .i64 0), .lit (.int .i64 10), .lit (.string [76, 32, 82, 32, 65, 76, 32, 65, 78, 32, 69, 78, 32, 69, 83, 32, 67, 83, 32, 69, 84, 32, 79, 78, 32, 66, 78, 32, 78, 83, 77]), .lit (.int .i64 0), .lit (.bool false)], .agg [.lit (.string [106, 111, 105, 110]), .lit (.int .i64 5), .lit (.int .i64 0), .lit (.int .i64 0), .lit (.int .i64 0), .lit (.int .i64 5), .lit (.string [85, 32, 82, 32, 76, 32, 68, 32, 67, 32, 84]), .lit (.int .i64 0), .lit (.bool false)], .agg [.lit (.string [109, 97, 114, 107]), .lit (.int .i64 6), .lit (.int .i64 0), .lit (.int .i64 0), .lit (.int .i64 0), .lit (.int .i64 0), .lit (.string []), .lit (.int .i64 0), .lit (.bool false)], .agg [.lit (.string [115, 99, 114, 105, 112, 116]), .lit (.int .i64 7), .lit (.int .i64 0), .lit (.int .i64 0), .lit (.int .i64 0), .lit (.int .i64 0), .lit (.string []), .lit (.int .i64 1), .lit (.bool false)], .agg [.lit (.string [108, 111, 111, 107, 115]), .lit (.int .i64 8), .lit (.int .i64 1), .lit (.int .i64 24), .lit (.int .i64 0), .lit (.int .i64 0), .lit (.string []), .lit (.int .i64 0), .lit (.bool false)], .agg [.lit (.string [119, 101, 105, 103, 104, 116]), .lit (.int .i64 9), .lit (.int .i64 0), .lit (.int .i64 0), .lit (.int .i64 0), .lit (.int .i64 0), .lit (.string []), .lit (.int .i64 0), .lit (.bool true)], .agg [.lit (.string [109, 105, 120]), .lit (.int .i64 10), .lit (.int .i64 0), .lit (.int .i64 0), .lit (.int .i64 0), .lit (.int .i64 0), .lit (.string []), .lit (.int .i64 2), .lit (.bool true)]]

/-- 'endonymlaw18.LabelChecks': WHATEVER THE INPUT: true; the input reads as it did. -/
def labelChecksSpec : ChangeSpec := { name := "labelChecks", fn := fun _ => fun
  | [d1, d2, d3, d4, d5] => { results := [.lit (.bool true)], args := [d1, d2, d3, d4, d5] }
  | _ => none }
def labelChecksRow : OpenClaim := { program := "ytkglkajjofidoaagreatdoor", sum := "b628dae59f29e05b3157598cdf1aeaa2db72c29e03502c2809d7a1fc81f3710a", func := "endonym/endonymlaw18.LabelChecks", spec := "labelChecks", inPlace := ["math.Float64bits", "math.Float64frombits"], unfollowed := true, recurses := true, named := ["endonym/table.rows"], plainKeys := false, apart := false, laid := [("endonym/table.rows", laid_endonym_table_rows)] }
def LabelChecksSaid : Prop := labelChecksRow.holds Tryz.pinned (OpenSpec.ofChange labelChecksSpec)

/-- ITS FALSE NEIGHBOUR: 'it returns false'. Refute it at one input. -/
def labelChecksWrong : ChangeSpec := { name := "labelChecks", fn := fun _ => fun
  | [d1, d2, d3, d4, d5] => { results := [.lit (.bool false)], args := [d1, d2, d3, d4, d5] }
  | _ => none }
def LabelChecksWrongFalsely : Prop := labelChecksRow.holds Tryz.pinned (OpenSpec.ofChange labelChecksWrong)

/-- 'endonymlaw18.LabelMore': WHATEVER THE INPUT: true; the input reads as it did. -/
def labelMoreSpec : ChangeSpec := { name := "labelMore", fn := fun _ => fun
  | [d1, d2, d3, d4, d5] => { results := [.lit (.bool true)], args := [d1, d2, d3, d4, d5] }
  | _ => none }
def labelMoreRow : OpenClaim := { program := "ytkglkajjofidoaagreatdoor", sum := "b628dae59f29e05b3157598cdf1aeaa2db72c29e03502c2809d7a1fc81f3710a", func := "endonym/endonymlaw18.LabelMore", spec := "labelMore", inPlace := ["math.Float64bits", "math.Float64frombits"], unfollowed := true, recurses := true, named := ["endonym/table.rows"], plainKeys := false, apart := false, laid := [("endonym/table.rows", laid_endonym_table_rows)] }
def LabelMoreSaid : Prop := labelMoreRow.holds Tryz.pinned (OpenSpec.ofChange labelMoreSpec)

/-- ITS FALSE NEIGHBOUR: 'it returns false'. Refute it at one input. -/
def labelMoreWrong : ChangeSpec := { name := "labelMore", fn := fun _ => fun
  | [d1, d2, d3, d4, d5] => { results := [.lit (.bool false)], args := [d1, d2, d3, d4, d5] }
  | _ => none }
def LabelMoreWrongFalsely : Prop := labelMoreRow.holds Tryz.pinned (OpenSpec.ofChange labelMoreWrong)

/-- 'endonymlaw18.LabelClean': WHATEVER THE INPUT: true; the input reads as it did. -/
def labelCleanSpec : ChangeSpec := { name := "labelClean", fn := fun _ => fun
  | [d1, d2, d3, d4, d5] => { results := [.lit (.bool true)], args := [d1, d2, d3, d4, d5] }
  | _ => none }
def labelCleanRow : OpenClaim := { program := "ytkglkajjofidoaagreatdoor", sum := "b628dae59f29e05b3157598cdf1aeaa2db72c29e03502c2809d7a1fc81f3710a", func := "endonym/endonymlaw18.LabelClean", spec := "labelClean", inPlace := ["math.Float64bits", "math.Float64frombits"], unfollowed := true, recurses := true, named := ["endonym/table.rows"], plainKeys := false, apart := false, laid := [("endonym/table.rows", laid_endonym_table_rows)] }
def LabelCleanSaid : Prop := labelCleanRow.holds Tryz.pinned (OpenSpec.ofChange labelCleanSpec)

/-- ITS FALSE NEIGHBOUR: 'it returns false'. Refute it at one input. -/
def labelCleanWrong : ChangeSpec := { name := "labelClean", fn := fun _ => fun
  | [d1, d2, d3, d4, d5] => { results := [.lit (.bool false)], args := [d1, d2, d3, d4, d5] }
  | _ => none }
def LabelCleanWrongFalsely : Prop := labelCleanRow.holds Tryz.pinned (OpenSpec.ofChange labelCleanWrong)

/- THE SECOND FORM. 'bulk': how many values and letters a reading holds, each counted each time it is reached (what is shared counts as often as it is met; a slice's spare places count too). A statement '..UptoSaid' is the law's where the arguments, and the package variables that the reading takes, are together of bulk at most 1048576: NARROWER than '..Said'. Prove '..Said' where nothing that the law and all that it calls make is longer than what came in: it says more and counts as full. Else prove '..UptoSaid'. A law counts once. -/
mutual
def uptoBulk {H : Type} : DataW H → Nat
  | .lit (.string bytes) => bytes.length + 1
  | .lit _ => 1
  | .nil => 1
  | .ptr d => uptoBulk d + 1
  | .slice elems spare => uptoBulkAll elems + uptoBulkAll spare + 1
  | .agg parts => uptoBulkAll parts + 1
  | .iface _ d => uptoBulk d + 1
  | .map entries => uptoBulkEntries entries + 1
  | .held _ => 1
def uptoBulkAll {H : Type} : List (DataW H) → Nat
  | [] => 0
  | d :: r => uptoBulk d + uptoBulkAll r
def uptoBulkEntries {H : Type} : List (Lit × DataW H) → Nat
  | [] => 0
  | x :: r => uptoBulkEntry x + uptoBulkEntries r
def uptoBulkEntry {H : Type} : Lit × DataW H → Nat
  | (.string bytes, d) => bytes.length + uptoBulk d + 1
  | (_, d) => uptoBulk d + 1
 end
def uptoSmall : (H : Type) → List (DataW H) → Bool := fun _ ds => decide (uptoBulkAll ds ≤ 1048576)
def OpenSpec.upto (s : _root_.Go.ChangeSpec) : _root_.Go.OpenSpec := { _root_.Go.OpenSpec.ofChange s with cond := some uptoSmall }

/-- 'endonymlaw18.LabelChecks', WHERE WHAT IT READS IS OF BULK AT MOST 1048576: true; the input reads as it did. -/
def labelChecksUptoRow : OpenClaim := { program := "ytkglkajjofidoaagreatdoor", sum := "b628dae59f29e05b3157598cdf1aeaa2db72c29e03502c2809d7a1fc81f3710a", func := "endonym/endonymlaw18.LabelChecks", spec := "labelChecks", inPlace := ["math.Float64bits", "math.Float64frombits"], unfollowed := true, recurses := true, named := ["endonym/table.rows"], plainKeys := false, apart := false, laid := [("endonym/table.rows", laid_endonym_table_rows)], narrowed := true }
def LabelChecksUptoSaid : Prop := labelChecksUptoRow.holds Tryz.pinned (OpenSpec.upto labelChecksSpec)

/-- 'endonymlaw18.LabelMore', WHERE WHAT IT READS IS OF BULK AT MOST 1048576: true; the input reads as it did. -/
def labelMoreUptoRow : OpenClaim := { program := "ytkglkajjofidoaagreatdoor", sum := "b628dae59f29e05b3157598cdf1aeaa2db72c29e03502c2809d7a1fc81f3710a", func := "endonym/endonymlaw18.LabelMore", spec := "labelMore", inPlace := ["math.Float64bits", "math.Float64frombits"], unfollowed := true, recurses := true, named := ["endonym/table.rows"], plainKeys := false, apart := false, laid := [("endonym/table.rows", laid_endonym_table_rows)], narrowed := true }
def LabelMoreUptoSaid : Prop := labelMoreUptoRow.holds Tryz.pinned (OpenSpec.upto labelMoreSpec)

/-- 'endonymlaw18.LabelClean', WHERE WHAT IT READS IS OF BULK AT MOST 1048576: true; the input reads as it did. -/
def labelCleanUptoRow : OpenClaim := { program := "ytkglkajjofidoaagreatdoor", sum := "b628dae59f29e05b3157598cdf1aeaa2db72c29e03502c2809d7a1fc81f3710a", func := "endonym/endonymlaw18.LabelClean", spec := "labelClean", inPlace := ["math.Float64bits", "math.Float64frombits"], unfollowed := true, recurses := true, named := ["endonym/table.rows"], plainKeys := false, apart := false, laid := [("endonym/table.rows", laid_endonym_table_rows)], narrowed := true }
def LabelCleanUptoSaid : Prop := labelCleanUptoRow.holds Tryz.pinned (OpenSpec.upto labelCleanSpec)

end Rows
end Go.Proofs.YtkglkajjofidoaaGreatDoor
