/- A record loaded from, and stored into, a row. -/
import Derived.Test.YteigibncdbgpmaaGreatDoorTuB7
import Derived.Deep.RegionHeld3
namespace Go.Proofs.YteigibncdbgpmaaGreatDoor
open Go.RowKit

section
variable {P : Program} {ops : Array Oper} {o : Oper} {a : Act} {w w' : World} {K : Act → World → Prop} {Q : Exit → Act → World → Prop} {E : Prop}
theorem step_load7 (hgd : o.guard = none) (ty : TypeId) (x : Operand) (ho : o.op = .load ty x) (pv v : Value) (hx : a.eval x = pv) (hrun : (Instr.loadAt ty pv).run P w = .ok v w) (h : K (a.put o.dst v) w) :
    if Region.wanted o (yielded ops a.tmps) = true then Oper.wp P o a w K Q else E := by
  rw [if_pos (by simp [Region.wanted, hgd])]
  unfold Oper.wp execOp
  simp only [ho, hx, Sem.run_bind, hrun, Result.andThen_ok]
  exact h
theorem step_store7 (hgd : o.guard = none) (ty : TypeId) (x y : Operand) (ho : o.op = .store ty x y) (pv v : Value) (hx : a.eval x = pv) (hy : a.eval y = v) (hrun : (Instr.storeAt ty pv v).run P w = .ok () w') (h : K (a.put o.dst undef) w') :
    if Region.wanted o (yielded ops a.tmps) = true then Oper.wp P o a w K Q else E := by
  rw [if_pos (by simp [Region.wanted, hgd])]
  unfold Oper.wp execOp
  simp only [ho, hx, hy, Sem.run_bind, hrun, Result.andThen_ok]
  exact h
end

set_option maxRecDepth 8000 in
set_option maxHeartbeats 2000000 in
theorem loadR {W : World} {g off : Nat} {r : Rec} {ao : Option Addr} {len cp : Nat} (x0 : W.cell? ⟨g, off, none⟩ = some (.int .i64 r.kind)) (x1 : W.cell? ⟨g, off + 1, none⟩ = some (.int .i64 r.lo)) (x2 : W.cell? ⟨g, off + 2, none⟩ = some (.int .i64 r.hi)) (x3 : W.cell? ⟨g, off + 3, none⟩ = some (.int .i64 r.n)) (x4 : W.cell? ⟨g, off + 4, none⟩ = some (.slice ao len cp)) (x5 : W.cell? ⟨g, off + 5, none⟩ = some (.string r.name)) (x6 : W.cell? ⟨g, off + 6, none⟩ = some (.string r.other)) (x7 : W.cell? ⟨g, off + 7, none⟩ = some (.float .f64 r.wt)) :
    (Instr.loadAt 47 (.pointer (some ⟨g, off, none⟩))).run Tryz.prog W = .ok (recV r (.slice ao len cp)) W := by
  unfold recV
  simp [Instr.loadAt, go_sem, Tryz.isAgg47, Tryz.sizeOf47, x0, x1, x2, x3, x4, x5, x6, x7, Addr.add]
set_option maxRecDepth 8000 in
set_option maxHeartbeats 4000000 in
theorem storeR {W : World} {g off : Nat} {cur : Array Value} (h : W.heap[g]? = some (.cells cur 47 (0, 0))) (hs : off + 8 ≤ cur.size) (r : Rec) (ao : Option Addr) (len cp : Nat) :
    (Instr.storeAt 47 (.pointer (some ⟨g, off, none⟩)) (recV r (.slice ao len cp))).run Tryz.prog W = .ok () (putR W g off (r, .slice ao len cp)) := by
  have h1 := set_block (j := off) h (.int .i64 r.kind)
  have h2 := set_block (j := off + 1) h1 (.int .i64 r.lo)
  have h3 := set_block (j := off + 2) h2 (.int .i64 r.hi)
  have h4 := set_block (j := off + 3) h3 (.int .i64 r.n)
  have h5 := set_block (j := off + 4) h4 (.slice ao len cp)
  have h6 := set_block (j := off + 5) h5 (.string r.name)
  have h7 := set_block (j := off + 6) h6 (.string r.other)
  have c0 := cell_of (j := off) h (by omega)
  have c1 := cell_of (j := off + 1) h1 (by simp; omega)
  have c2 := cell_of (j := off + 2) h2 (by simp; omega)
  have c3 := cell_of (j := off + 3) h3 (by simp; omega)
  have c4 := cell_of (j := off + 4) h4 (by simp; omega)
  have c5 := cell_of (j := off + 5) h5 (by simp; omega)
  have c6 := cell_of (j := off + 6) h6 (by simp; omega)
  have c7 := cell_of (j := off + 7) h7 (by simp; omega)
  have f0 := frozen_of (j := off) h
  have f1 := frozen_of (j := off + 1) h1
  have f2 := frozen_of (j := off + 2) h2
  have f3 := frozen_of (j := off + 3) h3
  have f4 := frozen_of (j := off + 4) h4
  have f5 := frozen_of (j := off + 5) h5
  have f6 := frozen_of (j := off + 6) h6
  have f7 := frozen_of (j := off + 7) h7
  have hfl : ∀ W a m, (store a (.float .f64 r.wt) m).run Tryz.prog W = stored Tryz.prog W a (.float .f64 r.wt) m := fun W a m => run_store Tryz.prog W a _ m rfl
  unfold recV putR
  simp [Instr.storeAt, go_sem, Tryz.sizeOf47, Addr.add, hfl, stored, c0, c1, c2, c3, c4, c5, c6, c7, f0, f1, f2, f3, f4, f5, f6, f7]
end Go.Proofs.YteigibncdbgpmaaGreatDoor
