/- What the row's list of package-level variables gives, and a start that fits it. -/
import Derived.Test.YtdnkfnccbmbpaaaGreatDoorRows
import Derived.Test.YtdnkfnccbmbpaaaGreatDoorGa8
import Derived.ProofKit
import Derived.OpenShut
import Derived.ShutString
import Derived.LaidMore
import Derived.Lay
import Derived.Stop.LaidErr
import Derived.Deep.DeepHandedRow
import Derived.Lib.LaidTab
import Derived.MakeChecks
import Derived.Shelf.Vars
namespace Go.Proofs.YtdnkfnccbmbpaaaGreatDoor
open Go.RowKit

def theLaid : List (String × DataW Unit) := Rows.packPacksRow.laid
def rowD (r : Row9) : DataW Unit := .agg [.lit (.string r.word.data.toList), .lit (.int .i64 r.fam), .lit (.int .i64 r.least), .lit (.int .i64 r.most), .lit (.int .i64 r.low), .lit (.int .i64 r.high), .lit (.string r.said.data.toList), .lit (.int .i64 r.scr), .lit (.bool r.wei)]
theorem laid_rows : (Rows.laid_endonym_table_rows : DataW Unit) = .agg ((List.range 16).map fun k => rowD (Cn.rowT k)) := by kernel_rfl
theorem gRows : Tryz.prog.globalNamed "endonym/table.rows" = some 1 := by kernel_rfl
theorem gRowsType : (Tryz.prog.globals[1]?).map (·.type) = some 152 := by kernel_rfl
theorem ba_of {a b : ByteArray} (h : a.data.toList = b.data.toList) : a = b := by
  cases a; cases b
  simp_all
def rowL (r : Row9) : List Value := [.string r.word, .int .i64 r.fam, .int .i64 r.least, .int .i64 r.most, .int .i64 r.low, .int .i64 r.high, .string r.said, .int .i64 r.scr, .bool r.wei]
section
variable {enc : TypeId × Value → Unit} {W : World} {base : Nat} {sp : Nat → Bool} {held : Bool}
set_option maxRecDepth 20000 in
set_option maxHeartbeats 2000000 in
theorem row_cells {fuel : Nat} {cs : List Value} {r : Row9} {p : List MemPlace} (h : DataW.trod enc Tryz.prog W base sp held fuel 150 cs = some (rowD r, p)) : cs = rowL r := by
  obtain ⟨xs, k, hk, hxy, hcl, hxl, hf⟩ := DataW.trod_struct Tryz.underlying150 h
  have c9 : Tryz.prog.cellsOf 150 = 9 := by kernel_rfl
  have c1 : Tryz.prog.cellsOf 3 = 1 := by kernel_rfl
  have c3 : Tryz.prog.cellsOf 9 = 1 := by kernel_rfl
  have c4 : Tryz.prog.cellsOf 4 = 1 := by kernel_rfl
  rw [c9] at hcl
  match xs, hxl, cs, hcl with
  | [y0, y1, y2, y3, y4, y5, y6, y7, y8], _, [v0, v1, v2, v3, v4, v5, v6, v7, v8], _ =>
    have hd : [y0.1, y1.1, y2.1, y3.1, y4.1, y5.1, y6.1, y7.1, y8.1] = [.lit (.string r.word.data.toList), .lit (.int .i64 r.fam), .lit (.int .i64 r.least), .lit (.int .i64 r.most), .lit (.int .i64 r.low), .lit (.int .i64 r.high), .lit (.string r.said.data.toList), .lit (.int .i64 r.scr), .lit (.bool r.wei)] := by
      have := congrArg Prod.fst hxy
      simpa [rowD] using this.symm
    simp only [List.cons.injEq, and_true] at hd
    obtain ⟨d0, d1, d2, d3, d4, d5, d6, d7, d8⟩ := hd
    have g0 := hf 0 _ rfl
    have g1 := hf 1 _ rfl
    have g2 := hf 2 _ rfl
    have g3 := hf 3 _ rfl
    have g4 := hf 4 _ rfl
    have g5 := hf 5 _ rfl
    have g6 := hf 6 _ rfl
    have g7 := hf 7 _ rfl
    have g8 := hf 8 _ rfl
    simp [c1, c3, c4] at g0 g1 g2 g3 g4 g5 g6 g7 g8
    obtain ⟨s0, e0, q0, _⟩ := DataW.trod_string Tryz.underlying9 g0
    obtain ⟨n1, e1, q1, _⟩ := DataW.trod_int Tryz.underlying3 g1
    obtain ⟨n2, e2, q2, _⟩ := DataW.trod_int Tryz.underlying3 g2
    obtain ⟨n3, e3, q3, _⟩ := DataW.trod_int Tryz.underlying3 g3
    obtain ⟨n4, e4, q4, _⟩ := DataW.trod_int Tryz.underlying3 g4
    obtain ⟨n5, e5, q5, _⟩ := DataW.trod_int Tryz.underlying3 g5
    obtain ⟨s6, e6, q6, _⟩ := DataW.trod_string Tryz.underlying9 g6
    obtain ⟨n7, e7, q7, _⟩ := DataW.trod_int Tryz.underlying3 g7
    obtain ⟨b8, e8, q8⟩ := DataW.trod_bool Tryz.underlying4 g8
    rw [q0] at d0; rw [q1] at d1; rw [q2] at d2; rw [q3] at d3; rw [q4] at d4; rw [q5] at d5; rw [q6] at d6; rw [q7] at d7; rw [q8] at d8
    simp only [DataW.lit.injEq, Lit.string.injEq, Lit.int.injEq, Lit.bool.injEq, true_and] at d0 d1 d2 d3 d4 d5 d6 d7 d8
    simp only [List.cons.injEq, and_true] at e0 e1 e2 e3 e4 e5 e6 e7 e8
    rw [e0, e1, e2, e3, e4, e5, e6, e7, e8, ba_of d0, d1, d2, d3, d4, d5, ba_of d6, d7, d8]
    rfl
end
theorem plainLaid : (theLaid.all fun x => x.2.handleName?.isNone) = true := by kernel_rfl
theorem cellsRow : Tryz.prog.cellsOf 150 = 9 := by kernel_rfl
/-- What the row's list gives. -/
theorem glob_of {W : World} (h : laidMetH Tryz.prog theLaid W) : Glob W := by
  rw [MakeChecks.laidMetH_plain _ _ _ plainLaid] at h
  obtain ⟨ps, ⟨g', t', cs, fuel, p, q, hg', ht', hvar, hd, _, _⟩, _⟩ := h
  obtain rfl := Option.some.inj (gRows.symm.trans hg')
  obtain rfl := Option.some.inj (gRowsType.symm.trans ht')
  obtain ⟨xs, m, _, hx, hcl, hxl, hel⟩ := DataW.trod_array Tryz.underlying152 hd
  have hxs : xs.map (·.1) = (List.range 16).map fun k => rowD (Cn.rowT k) := by
    have h1 := congrArg Prod.fst hx
    have h2 : (Rows.laid_endonym_table_rows : DataW Unit) = .agg (xs.map (·.1)) := h1
    rw [laid_rows] at h2
    simpa using h2.symm
  intro k hk
  have hxk : ∃ pk, xs[k]? = some (rowD (Cn.rowT k), pk) := by
    have h1 : (xs.map (·.1))[k]? = some (rowD (Cn.rowT k)) := by
      rw [hxs]
      simp [hk]
    rw [List.getElem?_map, Option.map_eq_some_iff] at h1
    obtain ⟨⟨a, b⟩, h2, h3⟩ := h1
    exact ⟨b, by rw [h2]; simp at h3; rw [h3]⟩
  obtain ⟨pk, hxk⟩ := hxk
  have h3 := hel k hk
  rw [hxk, cellsRow] at h3
  have h4 := row_cells h3
  have hcell : ∀ j v, (rowL (Cn.rowT k))[j]? = some v → W.cell? ⟨1, k * 9 + j, none⟩ = some v := fun j v hv => by
    have hc := World.var?_cell gRows hvar (k * 9 + j)
    rw [← h4] at hv
    have hj : j < 9 := by
      rcases Nat.lt_or_ge j 9 with hh | hh
      · exact hh
      · rw [List.getElem?_eq_none (by rw [List.length_take]; omega)] at hv; cases hv
    rw [List.getElem?_take_of_lt hj, List.getElem?_drop] at hv
    rw [hc]
    simpa using hv
  exact ⟨hcell 0 _ rfl, hcell 1 _ rfl, hcell 2 _ rfl, hcell 3 _ rfl, hcell 4 _ rfl, hcell 5 _ rfl, hcell 6 _ rfl, hcell 7 _ rfl, hcell 8 _ rfl⟩
theorem own : ownKnob Tryz.prog.godebug = none := by kernel_rfl
theorem laidOut : laidOutB Tryz.prog = true := by kernel_rfl
/-- The start, whatever the (plain) arguments. -/
theorem start_met (os : Os) (args : Array Value) : laidMetH Tryz.prog theLaid ((World.laidAll Tryz.prog os theLaid).forCall (fun _ _ => 0) ⟨#[], args, []⟩).memory := by
  rw [MakeChecks.laidMetH_plain _ _ _ plainLaid]
  exact laidMet_laidAll _ (by kernel_rfl) (by kernel_rfl)
theorem start_shape (os : Os) (args : Array Value) : ((World.laidAll Tryz.prog os theLaid).forCall (fun _ _ => 0) ⟨#[], args, []⟩).Shaped Tryz.prog := World.shaped_of_ZipB (by kernel_rfl) (by kernel_rfl)
theorem start_at {H : Type} {enc : TypeId × Value → H} {os : Os} {f : FuncId} {fn : Func} {s : OpenSpec} {conds : List PathCond} (args : Array Value)
    (hok : Input.okWideB Tryz.checked.prog ((World.laidAll Tryz.prog os theLaid).forCall (fun _ _ => 0) ⟨#[], args, []⟩) f ⟨#[], args, []⟩ = true)
    (hrow : s.preRow enc Tryz.checked.prog fn conds false theLaid ((World.laidAll Tryz.prog os theLaid).forCall (fun _ _ => 0) ⟨#[], args, []⟩).memory args) :
    ∃ (w : World) (tape : Tape) (i : Input), w.os = os ∧ (w.forCall tape i).Shaped Tryz.checked.prog ∧ i.vars = [] ∧ Input.okWide Tryz.checked.prog (w.forCall tape i) .any w.heap.size f i ∧
      s.preRow enc Tryz.checked.prog fn conds false theLaid (w.forCall tape i).memory i.args ∧ ({} : Assume).holds Tryz.checked.prog (lone (Frame.enter Tryz.checked.prog f i.args .normal) [] (w.forCall tape i)) :=
  ⟨World.laidAll Tryz.prog os theLaid, fun _ _ => 0, ⟨#[], args, []⟩, World.laidAll_os _ _ _, start_shape os args, (Input.okWide_of_okWideB (base := 0) hok).1, (Input.okWide_of_okWideB hok).2, hrow, by
    simp only [Assume.holds]
    exact ⟨by simp, by simp, fun _ => Modest.zero, by simp, by simp⟩⟩
end Go.Proofs.YtdnkfnccbmbpaaaGreatDoor
