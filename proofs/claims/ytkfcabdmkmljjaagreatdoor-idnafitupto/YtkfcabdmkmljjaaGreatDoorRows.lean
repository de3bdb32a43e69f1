/-
  NARROWER THAN 'FOR EVERY INPUT', by the rows' own cells (each row's printed sentence says how): IdnaBack: laid · IdnaFit: laid · IdnaBytes: laid · IdnaFewer: laid · IdnaOld: laid.
  DERIVED. THE GIVEN ROWS OF THIS SEAT. 5 by the template 'for every input the law returns true; each argument reads behind the call as it read before'; 0 by the template 'total and deterministic' (their statements: YtkfcabdmkmljjaaGreatDoorTotals.lean).
  GIVEN WITH THE SEED: the statements are not yours to turn. If you find one false, say at which input.
  Laid BY PROGRAM, IN A SANDBOX (cutbox-rows.mjs): the forced cells as the released guide's own fill.sh prints them over the translation dd1e41124cbb67a9… (all of the seat's roots in one cut). By AI agents, Wed Nov 11 2026. No macro, syntax, notation, axiom, sorry.
-/
import Derived.Test.YtkfcabdmkmljjaaGreatDoorChecked
import GoSem.Claim
import GoSem.ClaimJoined
import GoSem.ClaimMapViews
import Derived.JoinedTies
import Derived.KernelRfl
namespace Go.Proofs.YtkfcabdmkmljjaaGreatDoor
/- THE CELL 'sum', in the pinned program and in every row, IS THE sha256 OF THE DUMP (.gsa) THAT YtkfcabdmkmljjaaGreatDoorProg.lean LOADS. Nothing in Lean hashes anything: it is a label: what it is worth is what the hold of that sum in a sandbox is worth. -/
noncomputable def Tryz.pinned : Pinned := { name := "ytkfcabdmkmljjaagreatdoor", sum := "dd1e41124cbb67a93afa7150907902456de91c8f0727092d57f67d716d8c731f", checked := Tryz.checked }
namespace Rows
def none {H : Type} : Left H := { results := [], args := [] }

/- WHAT THE LISTED PACKAGE-LEVEL VARIABLES READ AS WHEN THE CALL BEGINS. Each datum BY PROGRAM (the guide's laid-datum.mjs) off the statement by which the dump's own 'gosem.cut.vars' lays the variable. In a bare row this is a premise. The card (YtkfcabdmkmljjaaGreatDoorCards.lean) ties it to the program's text. -/
def laid_endonym_table_rows {H : Type} : DataW H := .agg [.agg [.lit (.string []), .lit (.int .i64 0), .lit (.int .i64 0), .lit (.int .i64 0), .lit (.int .i64 0), .lit (.int .i64 0), .lit (.string []), .lit (.int .i64 0), .lit (.bool false)], .agg [.lit (.string [118, 97, 108, 105, 100]), .lit (.int .i64 1), .lit (.int .i64 0), .lit (.int .i64 0), .lit (.int .i64 0), .lit (.int .i64 0), .lit (.string []), .lit (.int .i64 0), .lit (.bool false)], .agg [.lit (.string [105, 103, 110, 111, 114, 101, 100]), .lit (.int .i64 1), .lit (.int .i64 0), .lit (.int .i64 0), .lit (.int .i64 0), .lit (.int .i64 0), .lit (.string []), .lit (.int .i64 0), .lit (.bool false)], .agg [.lit (.string [109, 97, 112, 112, 101, 100]), .lit (.int .i64 1), .lit (.int .i64 1), .lit (.int .i64 24), .lit (.int .i64 0), .lit (.int .i64 0), .lit (.string []), .lit (.int .i64 0), .lit (.bool false)], .agg [.lit (.string [115, 104, 105, 102, 116]), .lit (.int .i64 1), .lit (.int .i64 1), .lit (.int .i64 1), .lit (.int .i64 1), .lit (.int .i64 64), .lit (.string []), .lit (.int .i64 0), .lit (.bool false)], .agg [.lit (.string [100, 101, 118, 105, 97, 116, 105, 111, 110]), .lit (.int .i64 1), .lit (.int .i64 0), .lit (.int .i64 24), .lit (.int .i64 0), .lit (.int .i64 0), .lit (.string []), .lit (.int .i64 0), .lit (.bool false)], .agg [.lit (.string [99, 108, 97, 115, 115]), .lit (.int .i64 2), .lit (.int .i64 0), .lit (.int .i64 0), .lit (.int .i64 1), .lit (.int .i64 254), .lit (.string []), .lit (.int .i64 0), .lit (.bool false)], .agg [.lit (.string [100, 101, 99, 111, 109, 112]), .lit (.int .i64 3), .lit (.int .i64 2), .lit (.int .i64 2), .lit (.int .i64 0), .lit (.int .i64 0), .lit (.string []), .lit (.int .i64 0), .lit (.bool false)], .agg [.lit (.string [111, 112, 101, 110, 115]), .lit (.int .i64 3), .lit (.int .i64 1), .lit (.int .i64 2), .lit (.int .i64 0), .lit (.int .i64 0), .lit (.string []), .lit (.int .i64 0), .lit (.bool false)], .agg [.lit (.string [98, 105, 100, 105]), .lit (.int .i64 4), .lit (.int .i64 0), .lit (.int .i64 0), .lit (.int .i64 0), .lit (.int .i64 10), .lit (.string [76, 32, 82, 32, 65, 76, 32, 65, 78, 32, 69, 78, 32, 69, 83, 32, 67, 83, 32, 69, 84, 32, 79, 78, 32, 66, 78, 32, 78, 83, 77]), .lit (.int .i64 0), .lit (.bool false)], .agg [.lit (.string [106, 111, 105, 110]), .lit (.int .i64 5), .lit (.int .i64 0), .lit (.int .i64 0), .lit (.int .i64 0), .lit (.int .i64 5), .lit (.string [85, 32, 82, 32, 76, 32, 68, 32, 67, 32, 84]), .lit (.int .i64 0), .lit (.bool false)], .agg [.lit (.string [109, 97, 114, 107]), .lit (.int .i64 6), .lit (.int .i64 0), .lit (.int .i64 0), .lit (.int .i64 0), .lit (.int .i64 0), .lit (.string []), .lit (.int .i64 0), .lit (.bool false)], .agg [.lit (.string [115, 99, 114, 105, 112, 116]), .lit (.int .i64 7), .lit (.int .i64 0), .lit (.int .i64 0), .lit (.int .i64 0), .lit (.int .i64 0), .lit (.string []), .lit (.int .i64 1), .lit (.bool false)], .agg [.lit (.string [108, 111, 111, 107, 115]), .lit (.int .i64 8), .lit (.int .i64 1), .lit (.int .i64 24), .lit (.int .i64 0), .lit (.int .i64 0), .lit (.string []), .lit (.int .i64 0), .lit (.bool false)], .agg [.lit (.string [119, 101, 105, 103, 104, 116]), .lit (.int .i64 9), .lit (.int .i64 0), .lit (.int .i64 0), .lit (.int .i64 0), .lit (.int .i64 0), .lit (.string []), .lit (.int .i64 0), .lit (.bool true)], .agg [.lit (.string [109, 105, 120]), .lit (.int .i64 10), .lit (.int .i64 0), .lit (.int .i64 0), .lit (.int .i64 0), .lit (.int .i64 0), .lit (.string []), .lit (.int .i64 2), .lit (.bool true)]]

/-- 'endonymlaw19.IdnaBack': WHATEVER THE INPUT: true; the input reads as it did. -/
def idnaBackSpec : ChangeSpec := { name := "idnaBack", fn := fun _ => fun
  | [d1, d2, d3] => { results := [.lit (.bool true)], args := [d1, d2, d3] }
  | _ => none }
def idnaBackRow : OpenClaim := { program := "ytkfcabdmkmljjaagreatdoor", sum := "dd1e41124cbb67a93afa7150907902456de91c8f0727092d57f67d716d8c731f", func := "endonym/endonymlaw19.IdnaBack", spec := "idnaBack", inPlace := ["math.Float64bits", "math.Float64frombits", "slices.overlaps[rune]", "internal/abi.NoEscape", "internal/bytealg.MakeNoZero"], unfollowed := true, recurses := true, named := ["endonym/table.rows"], plainKeys := false, apart := false, laid := [("endonym/table.rows", laid_endonym_table_rows)] }
def IdnaBackSaid : Prop := idnaBackRow.holds Tryz.pinned (OpenSpec.ofChange idnaBackSpec)

/-- ITS FALSE NEIGHBOUR: 'it returns false'. Refute it at one input. -/
def idnaBackWrong : ChangeSpec := { name := "idnaBack", fn := fun _ => fun
  | [d1, d2, d3] => { results := [.lit (.bool false)], args := [d1, d2, d3] }
  | _ => none }
def IdnaBackWrongFalsely : Prop := idnaBackRow.holds Tryz.pinned (OpenSpec.ofChange idnaBackWrong)

/-- 'endonymlaw19.IdnaFit': WHATEVER THE INPUT: true; the input reads as it did. -/
def idnaFitSpec : ChangeSpec := { name := "idnaFit", fn := fun _ => fun
  | [d1, d2] => { results := [.lit (.bool true)], args := [d1, d2] }
  | _ => none }
def idnaFitRow : OpenClaim := { program := "ytkfcabdmkmljjaagreatdoor", sum := "dd1e41124cbb67a93afa7150907902456de91c8f0727092d57f67d716d8c731f", func := "endonym/endonymlaw19.IdnaFit", spec := "idnaFit", inPlace := ["math.Float64bits", "math.Float64frombits", "slices.overlaps[rune]", "internal/abi.NoEscape", "internal/bytealg.MakeNoZero"], unfollowed := true, recurses := true, named := ["endonym/table.rows"], plainKeys := false, apart := false, laid := [("endonym/table.rows", laid_endonym_table_rows)] }
def IdnaFitSaid : Prop := idnaFitRow.holds Tryz.pinned (OpenSpec.ofChange idnaFitSpec)

/-- ITS FALSE NEIGHBOUR: 'it returns false'. Refute it at one input. -/
def idnaFitWrong : ChangeSpec := { name := "idnaFit", fn := fun _ => fun
  | [d1, d2] => { results := [.lit (.bool false)], args := [d1, d2] }
  | _ => none }
def IdnaFitWrongFalsely : Prop := idnaFitRow.holds Tryz.pinned (OpenSpec.ofChange idnaFitWrong)

/-- 'endonymlaw19.IdnaBytes': WHATEVER THE INPUT: true; the input reads as it did. -/
def idnaBytesSpec : ChangeSpec := { name := "idnaBytes", fn := fun _ => fun
  | [d1, d2, d3] => { results := [.lit (.bool true)], args := [d1, d2, d3] }
  | _ => none }
def idnaBytesRow : OpenClaim := { program := "ytkfcabdmkmljjaagreatdoor", sum := "dd1e41124cbb67a93afa7150907902456de91c8f0727092d57f67d716d8c731f", func := "endonym/endonymlaw19.IdnaBytes", spec := "idnaBytes", inPlace := ["math.Float64bits", "math.Float64frombits", "slices.overlaps[rune]", "internal/abi.NoEscape", "internal/bytealg.MakeNoZero"], unfollowed := true, recurses := true, named := ["endonym/table.rows"], plainKeys := false, apart := false, laid := [("endonym/table.rows", laid_endonym_table_rows)] }
def IdnaBytesSaid : Prop := idnaBytesRow.holds Tryz.pinned (OpenSpec.ofChange idnaBytesSpec)

/-- ITS FALSE NEIGHBOUR: 'it returns false'. Refute it at one input. -/
def idnaBytesWrong : ChangeSpec := { name := "idnaBytes", fn := fun _ => fun
  | [d1, d2, d3] => { results := [.lit (.bool false)], args := [d1, d2, d3] }
  | _ => none }
def IdnaBytesWrongFalsely : Prop := idnaBytesRow.holds Tryz.pinned (OpenSpec.ofChange idnaBytesWrong)

/-- 'endonymlaw19.IdnaFewer': WHATEVER THE INPUT: true; the input reads as it did. -/
def idnaFewerSpec : ChangeSpec := { name := "idnaFewer", fn := fun _ => fun
  | [d1, d2, d3, d4] => { results := [.lit (.bool true)], args := [d1, d2, d3, d4] }
  | _ => none }
def idnaFewerRow : OpenClaim := { program := "ytkfcabdmkmljjaagreatdoor", sum := "dd1e41124cbb67a93afa7150907902456de91c8f0727092d57f67d716d8c731f", func := "endonym/endonymlaw19.IdnaFewer", spec := "idnaFewer", inPlace := ["math.Float64bits", "math.Float64frombits", "slices.overlaps[rune]", "internal/abi.NoEscape", "internal/bytealg.MakeNoZero"], unfollowed := true, recurses := true, named := ["endonym/table.rows"], plainKeys := false, apart := false, laid := [("endonym/table.rows", laid_endonym_table_rows)] }
def IdnaFewerSaid : Prop := idnaFewerRow.holds Tryz.pinned (OpenSpec.ofChange idnaFewerSpec)

/-- ITS FALSE NEIGHBOUR: 'it returns false'. Refute it at one input. -/
def idnaFewerWrong : ChangeSpec := { name := "idnaFewer", fn := fun _ => fun
  | [d1, d2, d3, d4] => { results := [.lit (.bool false)], args := [d1, d2, d3, d4] }
  | _ => none }
def IdnaFewerWrongFalsely : Prop := idnaFewerRow.holds Tryz.pinned (OpenSpec.ofChange idnaFewerWrong)

/-- 'endonymlaw19.IdnaOld': WHATEVER THE INPUT: true; the input reads as it did. -/
def idnaOldSpec : ChangeSpec := { name := "idnaOld", fn := fun _ => fun
  | [d1, d2, d3] => { results := [.lit (.bool true)], args := [d1, d2, d3] }
  | _ => none }
def idnaOldRow : OpenClaim := { program := "ytkfcabdmkmljjaagreatdoor", sum := "dd1e41124cbb67a93afa7150907902456de91c8f0727092d57f67d716d8c731f", func := "endonym/endonymlaw19.IdnaOld", spec := "idnaOld", inPlace := ["math.Float64bits", "math.Float64frombits", "slices.overlaps[rune]", "internal/abi.NoEscape", "internal/bytealg.MakeNoZero"], unfollowed := true, recurses := true, named := ["endonym/table.rows"], plainKeys := false, apart := false, laid := [("endonym/table.rows", laid_endonym_table_rows)] }
def IdnaOldSaid : Prop := idnaOldRow.holds Tryz.pinned (OpenSpec.ofChange idnaOldSpec)

/-- ITS FALSE NEIGHBOUR: 'it returns false'. Refute it at one input. -/
def idnaOldWrong : ChangeSpec := { name := "idnaOld", fn := fun _ => fun
  | [d1, d2, d3] => { results := [.lit (.bool false)], args := [d1, d2, d3] }
  | _ => none }
def IdnaOldWrongFalsely : Prop := idnaOldRow.holds Tryz.pinned (OpenSpec.ofChange idnaOldWrong)

/- THE SECOND FORM. 'bulk': how many values and letters a reading holds, each counted each time it is reached (what is shared counts as often as it is met; a slice's spare places count too). A statement '..UptoSaid' is the law's where the arguments, and the package variables that the reading takes, are together of bulk at most 1048576: NARROWER than '..Said'. Prove '..Said' where nothing that the law and all that it calls make is longer than what came in: it says more and counts as full. Else prove '..UptoSaid'. A law counts once. -/
mutual
def uptoBulk {H : Type} : DataW H → Nat
  | .lit (.string bytes) => bytes.length + 1
  | .lit _ => 1
  | .nil => 1
  | .ptr d => uptoBulk d + 1
  | .slice elems spare => uptoBulkAll elems + uptoBulkAll spare + 1
  | .agg parts => uptoBulkAll parts + 1
  | .iface _ d => uptoBulk d + 1
  | .map entries => uptoBulkEntries entries + 1
  | .held _ => 1
def uptoBulkAll {H : Type} : List (DataW H) → Nat
  | [] => 0
  | d :: r => uptoBulk d + uptoBulkAll r
def uptoBulkEntries {H : Type} : List (Lit × DataW H) → Nat
  | [] => 0
  | x :: r => uptoBulkEntry x + uptoBulkEntries r
def uptoBulkEntry {H : Type} : Lit × DataW H → Nat
  | (.string bytes, d) => bytes.length + uptoBulk d + 1
  | (_, d) => uptoBulk d + 1
 end
def uptoSmall : (H : Type) → List (DataW H) → Bool := fun _ ds => decide (uptoBulkAll ds ≤ 1048576)
def OpenSpec.upto (s : _root_.Go.ChangeSpec) : _root_.Go.OpenSpec := { _root_.Go.OpenSpec.ofChange s with cond := some uptoSmall }

/-- 'endonymlaw19.IdnaBack', WHERE WHAT IT READS IS OF BULK AT MOST 1048576: true; the input reads as it did. -/
def idnaBackUptoRow : OpenClaim := { program := "ytkfcabdmkmljjaagreatdoor", sum := "dd1e41124cbb67a93afa7150907902456de91c8f0727092d57f67d716d8c731f", func := "endonym/endonymlaw19.IdnaBack", spec := "idnaBack", inPlace := ["math.Float64bits", "math.Float64frombits", "slices.overlaps[rune]", "internal/abi.NoEscape", "internal/bytealg.MakeNoZero"], unfollowed := true, recurses := true, named := ["endonym/table.rows"], plainKeys := false, apart := false, laid := [("endonym/table.rows", laid_endonym_table_rows)], narrowed := true }
def IdnaBackUptoSaid : Prop := idnaBackUptoRow.holds Tryz.pinned (OpenSpec.upto idnaBackSpec)

/-- 'endonymlaw19.IdnaFit', WHERE WHAT IT READS IS OF BULK AT MOST 1048576: true; the input reads as it did. -/
def idnaFitUptoRow : OpenClaim := { program := "ytkfcabdmkmljjaagreatdoor", sum := "dd1e41124cbb67a93afa7150907902456de91c8f0727092d57f67d716d8c731f", func := "endonym/endonymlaw19.IdnaFit", spec := "idnaFit", inPlace := ["math.Float64bits", "math.Float64frombits", "slices.overlaps[rune]", "internal/abi.NoEscape", "internal/bytealg.MakeNoZero"], unfollowed := true, recurses := true, named := ["endonym/table.rows"], plainKeys := false, apart := false, laid := [("endonym/table.rows", laid_endonym_table_rows)], narrowed := true }
def IdnaFitUptoSaid : Prop := idnaFitUptoRow.holds Tryz.pinned (OpenSpec.upto idnaFitSpec)

/-- 'endonymlaw19.IdnaBytes', WHERE WHAT IT READS IS OF BULK AT MOST 1048576: true; the input reads as it did. -/
def idnaBytesUptoRow : OpenClaim := { program := "ytkfcabdmkmljjaagreatdoor", sum := "dd1e41124cbb67a93afa7150907902456de91c8f0727092d57f67d716d8c731f", func := "endonym/endonymlaw19.IdnaBytes", spec := "idnaBytes", inPlace := ["math.Float64bits", "math.Float64frombits", "slices.overlaps[rune]", "internal/abi.NoEscape", "internal/bytealg.MakeNoZero"], unfollowed := true, recurses := true, named := ["endonym/table.rows"], plainKeys := false, apart := false, laid := [("endonym/table.rows", laid_endonym_table_rows)], narrowed := true }
def IdnaBytesUptoSaid : Prop := idnaBytesUptoRow.holds Tryz.pinned (OpenSpec.upto idnaBytesSpec)

/-- 'endonymlaw19.IdnaFewer', WHERE WHAT IT READS IS OF BULK AT MOST 1048576: true; the input reads as it did. -/
def idnaFewerUptoRow : OpenClaim := { program := "ytkfcabdmkmljjaagreatdoor", sum := "dd1e41124cbb67a93afa7150907902456de91c8f0727092d57f67d716d8c731f", func := "endonym/endonymlaw19.IdnaFewer", spec := "idnaFewer", inPlace := ["math.Float64bits", "math.Float64frombits", "slices.overlaps[rune]", "internal/abi.NoEscape", "internal/bytealg.MakeNoZero"], unfollowed := true, recurses := true, named := ["endonym/table.rows"], plainKeys := false, apart := false, laid := [("endonym/table.rows", laid_endonym_table_rows)], narrowed := true }
def IdnaFewerUptoSaid : Prop := idnaFewerUptoRow.holds Tryz.pinned (OpenSpec.upto idnaFewerSpec)

/-- 'endonymlaw19.IdnaOld', WHERE WHAT IT READS IS OF BULK AT MOST 1048576: true; the input reads as it did. -/
def idnaOldUptoRow : OpenClaim := { program := "ytkfcabdmkmljjaagreatdoor", sum := "dd1e41124cbb67a93afa7150907902456de91c8f0727092d57f67d716d8c731f", func := "endonym/endonymlaw19.IdnaOld", spec := "idnaOld", inPlace := ["math.Float64bits", "math.Float64frombits", "slices.overlaps[rune]", "internal/abi.NoEscape", "internal/bytealg.MakeNoZero"], unfollowed := true, recurses := true, named := ["endonym/table.rows"], plainKeys := false, apart := false, laid := [("endonym/table.rows", laid_endonym_table_rows)], narrowed := true }
def IdnaOldUptoSaid : Prop := idnaOldUptoRow.holds Tryz.pinned (OpenSpec.upto idnaOldSpec)

end Rows
end Go.Proofs.YtkfcabdmkmljjaaGreatDoor
