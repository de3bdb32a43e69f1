/-
  NARROWER THAN 'FOR EVERY INPUT', by the rows' own cells (each row's printed sentence says how): IdnaNew: laid · IdnaForgets: laid · IdnaApart: laid · IdnaEcho: laid.
  DERIVED. THE GIVEN ROWS OF THIS SEAT. 4 by the template 'for every input the law returns true; each argument reads behind the call as it read before'; 0 by the template 'total and deterministic' (their statements: YtbmckadcjdedcaaGreatDoorTotals.lean).
  GIVEN WITH THE SEED: the statements are not yours to turn. If you find one false, say at which input.
  Laid BY PROGRAM, IN A SANDBOX (cutbox-rows.mjs): the forced cells as the released guide's own fill.sh prints them over the translation 839c599e22bc7fea… (all of the seat's roots in one cut). By AI agents, Wed Nov 11 2026. No macro, syntax, notation, axiom, sorry.
-/
import Derived.Test.YtbmckadcjdedcaaGreatDoorChecked
import GoSem.Claim
import GoSem.ClaimJoined
import GoSem.ClaimMapViews
import Derived.JoinedTies
import Derived.KernelRfl
namespace Go.Proofs.YtbmckadcjdedcaaGreatDoor
/- THE CELL 'sum', in the pinned program and in every row, IS THE sha256 OF THE DUMP (.gsa) THAT YtbmckadcjdedcaaGreatDoorProg.lean LOADS. Nothing in Lean hashes anything: it is a label: what it is worth is what the hold of that sum in a sandbox is worth. -/
noncomputable def Tryz.pinned : Pinned := { name := "ytbmckadcjdedcaagreatdoor", sum := "839c599e22bc7feaf90407f8ae1ea5cbfbe0dfd3970cd5848351e9394777f297", checked := Tryz.checked }
namespace Rows
def none {H : Type} : Left H := { results := [], args := [] }

/- WHAT THE LISTED PACKAGE-LEVEL VARIABLES READ AS WHEN THE CALL BEGINS. Each datum BY PROGRAM (the guide's laid-datum.mjs) off the statement by which the dump's own 'gosem.cut.vars' lays the variable. In a bare row this is a premise. The card (YtbmckadcjdedcaaGreatDoorCards.lean) ties it to the program's text. -/
def laid_endonym_table_rows {H : Type} : DataW H := .agg [.agg [.lit (.string []), .lit (.int .i64 0), .lit (.int .i64 0), .lit (.int .i64 0), .lit (.int .i64 0), .lit (.int .i64 0), .lit (.string []), .lit (.int .i64 0), .lit (.bool false)], .agg [.lit (.string [118, 97, 108, 105, 100]), .lit (.int .i64 1), .lit (.int .i64 0), .lit (.int .i64 0), .lit (.int .i64 0), .lit (.int .i64 0), .lit (.string []), .lit (.int .i64 0), .lit (.bool false)], .agg [.lit (.string [105, 103, 110, 111, 114, 101, 100]), .lit (.int .i64 1), .lit (.int .i64 0), .lit (.int .i64 0), .lit (.int .i64 0), .lit (.int .i64 0), .lit (.string []), .lit (.int .i64 0), .lit (.bool false)], .agg [.lit (.string [109, 97, 112, 112, 101, 100]), .lit (.int .i64 1), .lit (.int .i64 1), .lit (.int .i64 24), .lit (.int .i64 0), .lit (.int .i64 0), .lit (.string []), .lit (.int .i64 0), .lit (.bool false)], .agg [.lit (.string [115, 104, 105, 102, 116]), .lit (.int .i64 1), .lit (.int .i64 1), .lit (.int .i64 1), .lit (.int .i64 1), .lit (.int .i64 64), .lit (.string []), .lit (.int .i64 0), .lit (.bool false)], .agg [.lit (.string [100, 101, 118, 105, 97, 116, 105, 111, 110]), .lit (.int .i64 1), .lit (.int .i64 0), .lit (.int .i64 24), .lit (.int .i64 0), .lit (.int .i64 0), .lit (.string []), .lit (.int .i64 0), .lit (.bool false)], .agg [.lit (.string [99, 108, 97, 115, 115]), .lit (.int .i64 2), .lit (.int .i64 0), .lit (.int .i64 0), .lit (.int .i64 1), .lit (.int .i64 254), .lit (.string []), .lit (.int .i64 0), .lit (.bool false)], .agg [.lit (.string [100, 101, 99, 111, 109, 112]), .lit (.int .i64 3), .lit (.int .i64 2), .lit (.int .i64 2), .lit (.int .i64 0), .lit (.int .i64 0), .lit (.string []), .lit (.int .i64 0), .lit (.bool false)], .agg [.lit (.string [111, 112, 101, 110, 115]), .lit (.int .i64 3), .lit (.int .i64 1), .lit (.int .i64 2), .lit (.int .i64 0), .lit (.int .i64 0), .lit (.string []), .lit (.int .i64 0), .lit (.bool false)], .agg [.lit (.string [98, 105, 100, 105]), .lit (.int .i64 4), .lit (.int .i64 0), .lit (.int .i64 0), .lit (.int .i64 0), .lit (.int .i64 10), .lit (.string [76, 32, 82, 32, 65, 76, 32, 65, 78, 32, 69, 78, 32, 69, 83, 32, 67, 83, 32, 69, 84, 32, 79, 78, 32, 66, 78, 32, 78, 83, 77]), .lit (.int .i64 0), .lit (.bool false)], .agg [.lit (.string [106, 111, 105, 110]), .lit (.int .i64 5), .lit (.int .i64 0), .lit (.int .i64 0), .lit (.int .i64 0), .lit (.int .i64 5), .lit (.string [85, 32, 82, 32, 76, 32, 68, 32, 67, 32, 84]), .lit (.int .i64 0), .lit (.bool false)], .agg [.lit (.string [109, 97, 114, 107]), .lit (.int .i64 6), .lit (.int .i64 0), .lit (.int .i64 0), .lit (.int .i64 0), .lit (.int .i64 0), .lit (.string []), .lit (.int .i64 0), .lit (.bool false)], .agg [.lit (.string [115, 99, 114, 105, 112, 116]), .lit (.int .i64 7), .lit (.int .i64 0), .lit (.int .i64 0), .lit (.int .i64 0), .lit (.int .i64 0), .lit (.string []), .lit (.int .i64 1), .lit (.bool false)], .agg [.lit (.string [108, 111, 111, 107, 115]), .lit (.int .i64 8), .lit (.int .i64 1), .lit (.int .i64 24), .lit (.int .i64 0), .lit (.int .i64 0), .lit (.string []), .lit (.int .i64 0), .lit (.bool false)], .agg [.lit (.string [119, 101, 105, 103, 104, 116]), .lit (.int .i64 9), .lit (.int .i64 0), .lit (.int .i64 0), .lit (.int .i64 0), .lit (.int .i64 0), .lit (.string []), .lit (.int .i64 0), .lit (.bool true)], .agg [.lit (.string [109, 105, 120]), .lit (.int .i64 10), .lit (.int .i64 0), .lit (.int .i64 0), .lit (.int .i64 0), .lit (.int .i64 0), .lit (.string []), .lit (.int .i64 2), .lit (.bool true)]]

/-- 'endonymlaw19.IdnaNew': WHATEVER THE INPUT: true; the input reads as it did. -/
def idnaNewSpec : ChangeSpec := { name := "idnaNew", fn := fun _ => fun
  | [d1, d2] => { results := [.lit (.bool true)], args := [d1, d2] }
  | _ => none }
def idnaNewRow : OpenClaim := { program := "ytbmckadcjdedcaagreatdoor", sum := "839c599e22bc7feaf90407f8ae1ea5cbfbe0dfd3970cd5848351e9394777f297", func := "endonym/endonymlaw19.IdnaNew", spec := "idnaNew", inPlace := ["math.Float64bits", "math.Float64frombits", "slices.overlaps[rune]", "internal/abi.NoEscape", "internal/bytealg.MakeNoZero"], unfollowed := true, recurses := true, named := ["endonym/table.rows"], plainKeys := false, apart := false, laid := [("endonym/table.rows", laid_endonym_table_rows)] }
def IdnaNewSaid : Prop := idnaNewRow.holds Tryz.pinned (OpenSpec.ofChange idnaNewSpec)

/-- ITS FALSE NEIGHBOUR: 'it returns false'. Refute it at one input. -/
def idnaNewWrong : ChangeSpec := { name := "idnaNew", fn := fun _ => fun
  | [d1, d2] => { results := [.lit (.bool false)], args := [d1, d2] }
  | _ => none }
def IdnaNewWrongFalsely : Prop := idnaNewRow.holds Tryz.pinned (OpenSpec.ofChange idnaNewWrong)

/-- 'endonymlaw19.IdnaForgets': WHATEVER THE INPUT: true; the input reads as it did. -/
def idnaForgetsSpec : ChangeSpec := { name := "idnaForgets", fn := fun _ => fun
  | [d1, d2, d3] => { results := [.lit (.bool true)], args := [d1, d2, d3] }
  | _ => none }
def idnaForgetsRow : OpenClaim := { program := "ytbmckadcjdedcaagreatdoor", sum := "839c599e22bc7feaf90407f8ae1ea5cbfbe0dfd3970cd5848351e9394777f297", func := "endonym/endonymlaw19.IdnaForgets", spec := "idnaForgets", inPlace := ["math.Float64bits", "math.Float64frombits", "slices.overlaps[rune]", "internal/abi.NoEscape", "internal/bytealg.MakeNoZero"], unfollowed := true, recurses := true, named := ["endonym/table.rows"], plainKeys := false, apart := false, laid := [("endonym/table.rows", laid_endonym_table_rows)] }
def IdnaForgetsSaid : Prop := idnaForgetsRow.holds Tryz.pinned (OpenSpec.ofChange idnaForgetsSpec)

/-- ITS FALSE NEIGHBOUR: 'it returns false'. Refute it at one input. -/
def idnaForgetsWrong : ChangeSpec := { name := "idnaForgets", fn := fun _ => fun
  | [d1, d2, d3] => { results := [.lit (.bool false)], args := [d1, d2, d3] }
  | _ => none }
def IdnaForgetsWrongFalsely : Prop := idnaForgetsRow.holds Tryz.pinned (OpenSpec.ofChange idnaForgetsWrong)

/-- 'endonymlaw19.IdnaApart': WHATEVER THE INPUT: true; the input reads as it did. -/
def idnaApartSpec : ChangeSpec := { name := "idnaApart", fn := fun _ => fun
  | [d1, d2, d3, d4] => { results := [.lit (.bool true)], args := [d1, d2, d3, d4] }
  | _ => none }
def idnaApartRow : OpenClaim := { program := "ytbmckadcjdedcaagreatdoor", sum := "839c599e22bc7feaf90407f8ae1ea5cbfbe0dfd3970cd5848351e9394777f297", func := "endonym/endonymlaw19.IdnaApart", spec := "idnaApart", inPlace := ["math.Float64bits", "math.Float64frombits", "slices.overlaps[rune]", "internal/abi.NoEscape", "internal/bytealg.MakeNoZero"], unfollowed := true, recurses := true, named := ["endonym/table.rows"], plainKeys := false, apart := false, laid := [("endonym/table.rows", laid_endonym_table_rows)] }
def IdnaApartSaid : Prop := idnaApartRow.holds Tryz.pinned (OpenSpec.ofChange idnaApartSpec)

/-- ITS FALSE NEIGHBOUR: 'it returns false'. Refute it at one input. -/
def idnaApartWrong : ChangeSpec := { name := "idnaApart", fn := fun _ => fun
  | [d1, d2, d3, d4] => { results := [.lit (.bool false)], args := [d1, d2, d3, d4] }
  | _ => none }
def IdnaApartWrongFalsely : Prop := idnaApartRow.holds Tryz.pinned (OpenSpec.ofChange idnaApartWrong)

/-- 'endonymlaw19.IdnaEcho': WHATEVER THE INPUT: true; the input reads as it did. -/
def idnaEchoSpec : ChangeSpec := { name := "idnaEcho", fn := fun _ => fun
  | [d1, d2, d3] => { results := [.lit (.bool true)], args := [d1, d2, d3] }
  | _ => none }
def idnaEchoRow : OpenClaim := { program := "ytbmckadcjdedcaagreatdoor", sum := "839c599e22bc7feaf90407f8ae1ea5cbfbe0dfd3970cd5848351e9394777f297", func := "endonym/endonymlaw19.IdnaEcho", spec := "idnaEcho", inPlace := ["math.Float64bits", "math.Float64frombits", "slices.overlaps[rune]", "internal/abi.NoEscape", "internal/bytealg.MakeNoZero"], unfollowed := true, recurses := true, named := ["endonym/table.rows"], plainKeys := false, apart := false, laid := [("endonym/table.rows", laid_endonym_table_rows)] }
def IdnaEchoSaid : Prop := idnaEchoRow.holds Tryz.pinned (OpenSpec.ofChange idnaEchoSpec)

/-- ITS FALSE NEIGHBOUR: 'it returns false'. Refute it at one input. -/
def idnaEchoWrong : ChangeSpec := { name := "idnaEcho", fn := fun _ => fun
  | [d1, d2, d3] => { results := [.lit (.bool false)], args := [d1, d2, d3] }
  | _ => none }
def IdnaEchoWrongFalsely : Prop := idnaEchoRow.holds Tryz.pinned (OpenSpec.ofChange idnaEchoWrong)

/- THE SECOND FORM. 'bulk': how many values and letters a reading holds, each counted each time it is reached (what is shared counts as often as it is met; a slice's spare places count too). A statement '..UptoSaid' is the law's where the arguments, and the package variables that the reading takes, are together of bulk at most 1048576: NARROWER than '..Said'. Prove '..Said' where nothing that the law and all that it calls make is longer than what came in: it says more and counts as full. Else prove '..UptoSaid'. A law counts once. -/
mutual
def uptoBulk {H : Type} : DataW H → Nat
  | .lit (.string bytes) => bytes.length + 1
  | .lit _ => 1
  | .nil => 1
  | .ptr d => uptoBulk d + 1
  | .slice elems spare => uptoBulkAll elems + uptoBulkAll spare + 1
  | .agg parts => uptoBulkAll parts + 1
  | .iface _ d => uptoBulk d + 1
  | .map entries => uptoBulkEntries entries + 1
  | .held _ => 1
def uptoBulkAll {H : Type} : List (DataW H) → Nat
  | [] => 0
  | d :: r => uptoBulk d + uptoBulkAll r
def uptoBulkEntries {H : Type} : List (Lit × DataW H) → Nat
  | [] => 0
  | x :: r => uptoBulkEntry x + uptoBulkEntries r
def uptoBulkEntry {H : Type} : Lit × DataW H → Nat
  | (.string bytes, d) => bytes.length + uptoBulk d + 1
  | (_, d) => uptoBulk d + 1
 end
def uptoSmall : (H : Type) → List (DataW H) → Bool := fun _ ds => decide (uptoBulkAll ds ≤ 1048576)
def OpenSpec.upto (s : _root_.Go.ChangeSpec) : _root_.Go.OpenSpec := { _root_.Go.OpenSpec.ofChange s with cond := some uptoSmall }

/-- 'endonymlaw19.IdnaNew', WHERE WHAT IT READS IS OF BULK AT MOST 1048576: true; the input reads as it did. -/
def idnaNewUptoRow : OpenClaim := { program := "ytbmckadcjdedcaagreatdoor", sum := "839c599e22bc7feaf90407f8ae1ea5cbfbe0dfd3970cd5848351e9394777f297", func := "endonym/endonymlaw19.IdnaNew", spec := "idnaNew", inPlace := ["math.Float64bits", "math.Float64frombits", "slices.overlaps[rune]", "internal/abi.NoEscape", "internal/bytealg.MakeNoZero"], unfollowed := true, recurses := true, named := ["endonym/table.rows"], plainKeys := false, apart := false, laid := [("endonym/table.rows", laid_endonym_table_rows)], narrowed := true }
def IdnaNewUptoSaid : Prop := idnaNewUptoRow.holds Tryz.pinned (OpenSpec.upto idnaNewSpec)

/-- 'endonymlaw19.IdnaForgets', WHERE WHAT IT READS IS OF BULK AT MOST 1048576: true; the input reads as it did. -/
def idnaForgetsUptoRow : OpenClaim := { program := "ytbmckadcjdedcaagreatdoor", sum := "839c599e22bc7feaf90407f8ae1ea5cbfbe0dfd3970cd5848351e9394777f297", func := "endonym/endonymlaw19.IdnaForgets", spec := "idnaForgets", inPlace := ["math.Float64bits", "math.Float64frombits", "slices.overlaps[rune]", "internal/abi.NoEscape", "internal/bytealg.MakeNoZero"], unfollowed := true, recurses := true, named := ["endonym/table.rows"], plainKeys := false, apart := false, laid := [("endonym/table.rows", laid_endonym_table_rows)], narrowed := true }
def IdnaForgetsUptoSaid : Prop := idnaForgetsUptoRow.holds Tryz.pinned (OpenSpec.upto idnaForgetsSpec)

/-- 'endonymlaw19.IdnaApart', WHERE WHAT IT READS IS OF BULK AT MOST 1048576: true; the input reads as it did. -/
def idnaApartUptoRow : OpenClaim := { program := "ytbmckadcjdedcaagreatdoor", sum := "839c599e22bc7feaf90407f8ae1ea5cbfbe0dfd3970cd5848351e9394777f297", func := "endonym/endonymlaw19.IdnaApart", spec := "idnaApart", inPlace := ["math.Float64bits", "math.Float64frombits", "slices.overlaps[rune]", "internal/abi.NoEscape", "internal/bytealg.MakeNoZero"], unfollowed := true, recurses := true, named := ["endonym/table.rows"], plainKeys := false, apart := false, laid := [("endonym/table.rows", laid_endonym_table_rows)], narrowed := true }
def IdnaApartUptoSaid : Prop := idnaApartUptoRow.holds Tryz.pinned (OpenSpec.upto idnaApartSpec)

/-- 'endonymlaw19.IdnaEcho', WHERE WHAT IT READS IS OF BULK AT MOST 1048576: true; the input reads as it did. -/
def idnaEchoUptoRow : OpenClaim := { program := "ytbmckadcjdedcaagreatdoor", sum := "839c599e22bc7feaf90407f8ae1ea5cbfbe0dfd3970cd5848351e9394777f297", func := "endonym/endonymlaw19.IdnaEcho", spec := "idnaEcho", inPlace := ["math.Float64bits", "math.Float64frombits", "slices.overlaps[rune]", "internal/abi.NoEscape", "internal/bytealg.MakeNoZero"], unfollowed := true, recurses := true, named := ["endonym/table.rows"], plainKeys := false, apart := false, laid := [("endonym/table.rows", laid_endonym_table_rows)], narrowed := true }
def IdnaEchoUptoSaid : Prop := idnaEchoUptoRow.holds Tryz.pinned (OpenSpec.upto idnaEchoSpec)

end Rows
end Go.Proofs.YtbmckadcjdedcaaGreatDoor
