import Derived.Test.YtceflkeaenepcaaGreatDoorN30
import Derived.Test.YtceflkeaenepcaaGreatDoorN31
import Derived.Deep.RegionHeld3
namespace Go.Proofs.YtceflkeaenepcaaGreatDoor
open Go.RowKit
theorem Rown.far7 {w W : World} {B : Nat} {v : Value} {ps : List (Rec × Value)} (h : Rown w B v ps) (hk : ∀ k, B ≤ k → k < w.heap.size → W.heap[k]? = w.heap[k]?) : Rown W B v ps :=
  ⟨own_keep h.1 fun g hg => hk g (own_lt h.1 hg).2 (own_lt h.1 hg).1, fun p hp => (h.2 p hp).keep fun g hg => hk g (own_lt (h.2 p hp).2.2 hg).2 (own_lt (h.2 p hp).2.2 hg).1⟩
theorem Rown.on7 {w W : World} {B : Nat} {v : Value} {ps : List (Rec × Value)} (h : Rown w B v ps) (hb : Below w.heap.size w W) : Rown W B v ps := h.far7 fun k _ hk => hb.block k hk
def putR (W : World) (g off : Nat) (q : Rec × Value) : World := (((((((W.setCell ⟨g, off, none⟩ (.int .i64 q.1.kind)).setCell ⟨g, off + 1, none⟩ (.int .i64 q.1.lo)).setCell ⟨g, off + 2, none⟩ (.int .i64 q.1.hi)).setCell ⟨g, off + 3, none⟩ (.int .i64 q.1.n)).setCell ⟨g, off + 4, none⟩ q.2).setCell ⟨g, off + 5, none⟩ (.string q.1.name)).setCell ⟨g, off + 6, none⟩ (.string q.1.other)).setCell ⟨g, off + 7, none⟩ (.float .f64 q.1.wt)
def set8 (c : Array Value) (off : Nat) (q : Rec × Value) : Array Value := (((((((c.setIfInBounds off (.int .i64 q.1.kind)).setIfInBounds (off + 1) (.int .i64 q.1.lo)).setIfInBounds (off + 2) (.int .i64 q.1.hi)).setIfInBounds (off + 3) (.int .i64 q.1.n)).setIfInBounds (off + 4) q.2).setIfInBounds (off + 5) (.string q.1.name)).setIfInBounds (off + 6) (.string q.1.other)).setIfInBounds (off + 7) (.float .f64 q.1.wt)
theorem set8_size (c : Array Value) (off : Nat) (q : Rec × Value) : (set8 c off q).size = c.size := by simp [set8]
theorem set8_at (c : Array Value) (off : Nat) (q : Rec × Value) (h : off + 8 ≤ c.size) (k : Nat) : (set8 c off q)[k]? = if off ≤ k ∧ k < off + 8 then (rcell q)[k - off]? else c[k]? := by
  unfold set8
  by_cases hk : off ≤ k ∧ k < off + 8
  · rw [if_pos hk]
    obtain ⟨j, rfl⟩ : ∃ j, k = off + j := ⟨k - off, by omega⟩
    rw [Nat.add_sub_cancel_left]
    obtain rfl | rfl | rfl | rfl | rfl | rfl | rfl | rfl : j = 0 ∨ j = 1 ∨ j = 2 ∨ j = 3 ∨ j = 4 ∨ j = 5 ∨ j = 6 ∨ j = 7 := by omega
    all_goals simp [Array.getElem?_setIfInBounds, rcell]; try omega
  · rw [if_neg hk]
    simp only [Array.getElem?_setIfInBounds]
    rw [if_neg (by omega), if_neg (by omega), if_neg (by omega), if_neg (by omega), if_neg (by omega), if_neg (by omega), if_neg (by omega), if_neg (by omega)]
theorem putR_at {W : World} {g off : Nat} {cur : Array Value} {e : TypeId} (h : W.heap[g]? = some (.cells cur e (0, 0))) (q : Rec × Value) : (putR W g off q).heap[g]? = some (.cells (set8 cur off q) e (0, 0)) := by
  have h7 := set_block (j := off + 7) (set_block (j := off + 6) (set_block (j := off + 5) (set_block (j := off + 4) (set_block (j := off + 3) (set_block (j := off + 2) (set_block (j := off + 1) (set_block (j := off) h (.int .i64 q.1.kind)) (.int .i64 q.1.lo)) (.int .i64 q.1.hi)) (.int .i64 q.1.n)) q.2) (.string q.1.name)) (.string q.1.other)) (.float .f64 q.1.wt)
  unfold putR set8
  exact h7
theorem putR_far {W : World} {g off k : Nat} (q : Rec × Value) (h : k ≠ g) : (putR W g off q).heap[k]? = W.heap[k]? := by
  unfold putR
  rw [set_other _ h, set_other _ h, set_other _ h, set_other _ h, set_other _ h, set_other _ h, set_other _ h, set_other _ h]
theorem putR_below {w W : World} {B g off : Nat} (h : Below B w W) (hg : B ≤ g) (q : Rec × Value) : Below B w (putR W g off q) :=
  below_set (below_set (below_set (below_set (below_set (below_set (below_set (below_set h hg _) hg _) hg _) hg _) hg _) hg _) hg _) hg _
theorem rcells_set (ps : List (Rec × Value)) (i : Nat) (q : Rec × Value) (k : Nat) (hk : k < ps.length * 8) : (rcells (ps.set i q))[k]? = if i * 8 ≤ k ∧ k < i * 8 + 8 then (rcell q)[k - i * 8]? else (rcells ps)[k]? := by
  have hj : k % 8 < 8 := Nat.mod_lt _ (by omega)
  have e : k = k / 8 * 8 + k % 8 := by omega
  have hi : k / 8 < ps.length := by omega
  have h1 := rcells_at (ps.set i q) (k / 8) (k % 8) (by rw [List.length_set]; exact hi) hj
  have h2 := rcells_at ps (k / 8) (k % 8) hi hj
  rw [← e] at h1 h2
  rw [h1, h2]
  by_cases hik : k / 8 = i
  · rw [if_pos (by omega)]
    have : (ps.set i q).getD (k / 8) (Cn.none, undef) = q := by rw [hik]; simp [List.getD, show i < ps.length by omega]
    rw [this]
    congr 1
    omega
  · rw [if_neg (by omega)]
    have : (ps.set i q).getD (k / 8) (Cn.none, undef) = ps.getD (k / 8) (Cn.none, undef) := by simp [List.getD, List.getElem?_set_ne (fun e => hik e.symm)]
    rw [this]
theorem row_put {w : World} {B g cap i : Nat} {ps : List (Rec × Value)} (h : w.ownsRow B 29 8 (.slice (some ⟨g, 0, none⟩) ps.length cap) ps.length (rcells ps)) (hi : i < ps.length) (q : Rec × Value) : (putR w g (i * 8) q).ownsRow B 29 8 (.slice (some ⟨g, 0, none⟩) ps.length cap) ps.length (rcells (ps.set i q)) := by
  obtain ⟨h1, h2⟩ := h
  rcases h2 with ⟨e, _⟩ | ⟨g', cap', cur, e, hb, hg, hn, hc, hs, ht⟩
  · cases e
  · simp only [Value.slice.injEq, Option.some.injEq, Addr.mk.injEq, and_true, true_and] at e
    obtain ⟨rfl, rfl⟩ := e
    refine ⟨by rw [rcells_length, List.length_set], .inr ⟨g, cap, set8 cur (i * 8) q, rfl, hb, putR_at hg q, hn, hc, by rw [set8_size]; exact hs, ?_⟩⟩
    apply List.ext_getElem?
    intro k
    by_cases hk : k < ps.length * 8
    · rw [List.getElem?_take_of_lt hk, Array.getElem?_toList, set8_at _ _ _ (by rw [hs]; omega), rcells_set ps i q k hk]
      split
      · rfl
      · rw [← ht, List.getElem?_take_of_lt hk, Array.getElem?_toList]
    · rw [List.getElem?_eq_none (by rw [List.length_take]; omega), List.getElem?_eq_none (by rw [rcells_length, List.length_set]; omega)]
theorem swap_perm {α : Type} {l : List α} {a b : Nat} (ha : a < l.length) (hb : b < l.length) : ((l.set a l[b]).set b l[a]).Perm l := by
  have h := Array.swap_perm (xs := l.toArray) (i := a) (j := b) (by simpa using ha) (by simpa using hb)
  have h2 := Array.perm_iff_toList_perm.1 h
  simpa [Array.swap] using h2
end Go.Proofs.YtceflkeaenepcaaGreatDoor
namespace Go.Proofs.YtceflkeaenepcaaGreatDoor
open Go.RowKit
def mk30 (n : Int) : Int := IntKind.i64.wrap ((BitVec.ofInt 64 n &&& BitVec.ofInt 64 1073741823).toNat : Int)
theorem mk30_run (n : Int) (w : World) : (binOp BinOp.and 3 (.int .i64 n) (.int .i64 1073741823)).run Tryz.prog w = .ok (.int .i64 (mk30 n)) w := by kernel_rfl
theorem mk30_bound (n : Int) : 0 ≤ mk30 n ∧ mk30 n ≤ 1073741823 := by
  have h : (BitVec.ofInt 64 n &&& BitVec.ofInt 64 1073741823).toNat ≤ 1073741823 := by
    rw [BitVec.toNat_and]
    exact Nat.and_le_right
  unfold mk30
  generalize (BitVec.ofInt 64 n &&& BitVec.ofInt 64 1073741823).toNat = m at *
  simp [IntKind.wrap, IntKind.bits, IntKind.signed]; omega
theorem sh30_run (n : Int) (w : World) : (binOp BinOp.shr 3 (.int .i64 n) (.int .u64 30)).run Tryz.prog w = .ok (.int .i64 (n.fdiv 1073741824)) w := by kernel_rfl
theorem Rown.swap {w : World} {B g cap a b : Nat} {ps : List (Rec × Value)} (h : Rown w B (.slice (some ⟨g, 0, none⟩) ps.length cap) ps) (ha : a < ps.length) (hb : b < ps.length) :
    Rown (putR (putR w g (a * 8) ps[b]) g (b * 8) ps[a]) B (.slice (some ⟨g, 0, none⟩) ps.length cap) ((ps.set a ps[b]).set b ps[a]) := by
  have h1 := row_put h.1 ha ps[b]
  have h1' : (putR w g (a * 8) ps[b]).ownsRow B 29 8 (.slice (some ⟨g, 0, none⟩) (ps.set a ps[b]).length cap) (ps.set a ps[b]).length (rcells (ps.set a ps[b])) := by
    simpa using h1
  have h2 := row_put h1' (i := b) (by simpa using hb) ps[a]
  refine ⟨by simpa using h2, fun p hp => ?_⟩
  have hm : p ∈ ps := (swap_perm ha hb).mem_iff.1 hp
  have ho := h.2 p hm
  refine ho.keep fun k hk => ?_
  obtain ⟨cur, hc⟩ := (show ∃ cur, w.heap[k]? = some (.cells cur 21 (0, 0)) by
    rcases ho.2.2.2 with ⟨e, _⟩ | ⟨k', cap', cur, e, _, hh, _⟩
    · rw [e] at hk; cases hk
    · rw [e] at hk
      simp [Value.ownBlock] at hk
      subst hk
      exact ⟨cur, hh⟩)
  have hne : k ≠ g := fun e => by
    rcases h.1.2 with ⟨e2, _⟩ | ⟨g', cap', cur', e2, _, hh, _⟩
    · cases e2
    · simp only [Value.slice.injEq, Option.some.injEq, Addr.mk.injEq, and_true, true_and] at e2
      rw [e, e2.1, hh] at hc
      simp at hc
  rw [putR_far _ hne, putR_far _ hne]
theorem Rown.cells8 {w : World} {B g cap i : Nat} {ps : List (Rec × Value)} (h : Rown w B (.slice (some ⟨g, 0, none⟩) ps.length cap) ps) (hi : i < ps.length) :
    ∃ (r : Rec) (ao : Option Addr) (len cp : Nat), ps[i] = (r, .slice ao len cp) ∧ w.cell? ⟨g, i * 8, none⟩ = some (.int .i64 r.kind) ∧ w.cell? ⟨g, i * 8 + 1, none⟩ = some (.int .i64 r.lo) ∧ w.cell? ⟨g, i * 8 + 2, none⟩ = some (.int .i64 r.hi) ∧ w.cell? ⟨g, i * 8 + 3, none⟩ = some (.int .i64 r.n) ∧ w.cell? ⟨g, i * 8 + 4, none⟩ = some (.slice ao len cp) ∧ w.cell? ⟨g, i * 8 + 5, none⟩ = some (.string r.name) ∧ w.cell? ⟨g, i * 8 + 6, none⟩ = some (.string r.other) ∧ w.cell? ⟨g, i * 8 + 7, none⟩ = some (.float .f64 r.wt) ∧ ∀ j, w.frozen? ⟨g, j, none⟩ = false := by
  obtain ⟨ao, cp, hv, _, _⟩ := (h.2 ps[i] (List.getElem_mem hi)).sk.shape
  have hc : ∀ j u, j < 8 → (rcell ps[i])[j]? = some u → w.cell? ⟨g, i * 8 + j, none⟩ = some u := by
    intro j u hj hu
    have e := h.1.cells (g := g) rfl (i * 8 + j) u (by rw [rcells_at ps i j hi hj]; simpa [List.getD, hi] using hu)
    rw [addr_add, Nat.zero_add] at e
    exact e
  refine ⟨ps[i].1, ao, _, cp, Prod.ext rfl hv, hc 0 _ (by omega) rfl, hc 1 _ (by omega) rfl, hc 2 _ (by omega) rfl, hc 3 _ (by omega) rfl, hv ▸ hc 4 _ (by omega) rfl, hc 5 _ (by omega) rfl, hc 6 _ (by omega) rfl, hc 7 _ (by omega) rfl, fun j => ?_⟩
  rcases h.1.2 with ⟨e, _⟩ | ⟨g', cap', cur, e, _, hh, _⟩
  · cases e
  · simp only [Value.slice.injEq, Option.some.injEq, Addr.mk.injEq, and_true, true_and] at e
    rw [e.1]
    exact frozen_of hh
end Go.Proofs.YtceflkeaenepcaaGreatDoor
namespace Go.Proofs.YtceflkeaenepcaaGreatDoor
open Go.RowKit
section
variable {P : Program} {ops : Array Oper} {o : Oper} {a : Act} {w w' : World} {K : Act → World → Prop} {Q : Exit → Act → World → Prop} {E : Prop}
theorem step_load7 (hgd : o.guard = none) (ty : TypeId) (x : Operand) (ho : o.op = .load ty x) (pv v : Value) (hx : a.eval x = pv) (hrun : (Instr.loadAt ty pv).run P w = .ok v w) (h : K (a.put o.dst v) w) :
    if Region.wanted o (yielded ops a.tmps) = true then Oper.wp P o a w K Q else E := by
  rw [if_pos (by simp [Region.wanted, hgd])]
  unfold Oper.wp execOp
  simp only [ho, hx, Sem.run_bind, hrun, Result.andThen_ok]
  exact h
theorem step_store7 (hgd : o.guard = none) (ty : TypeId) (x y : Operand) (ho : o.op = .store ty x y) (pv v : Value) (hx : a.eval x = pv) (hy : a.eval y = v) (hrun : (Instr.storeAt ty pv v).run P w = .ok () w') (h : K (a.put o.dst undef) w') :
    if Region.wanted o (yielded ops a.tmps) = true then Oper.wp P o a w K Q else E := by
  rw [if_pos (by simp [Region.wanted, hgd])]
  unfold Oper.wp execOp
  simp only [ho, hx, hy, Sem.run_bind, hrun, Result.andThen_ok]
  exact h
end
set_option maxRecDepth 8000 in
set_option maxHeartbeats 2000000 in
theorem loadR {W : World} {g off : Nat} {r : Rec} {ao : Option Addr} {len cp : Nat} (x0 : W.cell? ⟨g, off, none⟩ = some (.int .i64 r.kind)) (x1 : W.cell? ⟨g, off + 1, none⟩ = some (.int .i64 r.lo)) (x2 : W.cell? ⟨g, off + 2, none⟩ = some (.int .i64 r.hi)) (x3 : W.cell? ⟨g, off + 3, none⟩ = some (.int .i64 r.n)) (x4 : W.cell? ⟨g, off + 4, none⟩ = some (.slice ao len cp)) (x5 : W.cell? ⟨g, off + 5, none⟩ = some (.string r.name)) (x6 : W.cell? ⟨g, off + 6, none⟩ = some (.string r.other)) (x7 : W.cell? ⟨g, off + 7, none⟩ = some (.float .f64 r.wt)) :
    (Instr.loadAt 29 (.pointer (some ⟨g, off, none⟩))).run Tryz.prog W = .ok (recV r (.slice ao len cp)) W := by
  unfold recV
  simp [Instr.loadAt, go_sem, Tryz.isAgg29, Tryz.sizeOf29, x0, x1, x2, x3, x4, x5, x6, x7, Addr.add]
set_option maxRecDepth 8000 in
set_option maxHeartbeats 4000000 in
theorem storeR {W : World} {g off : Nat} {cur : Array Value} (h : W.heap[g]? = some (.cells cur 29 (0, 0))) (hs : off + 8 ≤ cur.size) (r : Rec) (ao : Option Addr) (len cp : Nat) :
    (Instr.storeAt 29 (.pointer (some ⟨g, off, none⟩)) (recV r (.slice ao len cp))).run Tryz.prog W = .ok () (putR W g off (r, .slice ao len cp)) := by
  have h1 := set_block (j := off) h (.int .i64 r.kind)
  have h2 := set_block (j := off + 1) h1 (.int .i64 r.lo)
  have h3 := set_block (j := off + 2) h2 (.int .i64 r.hi)
  have h4 := set_block (j := off + 3) h3 (.int .i64 r.n)
  have h5 := set_block (j := off + 4) h4 (.slice ao len cp)
  have h6 := set_block (j := off + 5) h5 (.string r.name)
  have h7 := set_block (j := off + 6) h6 (.string r.other)
  have c0 := cell_of (j := off) h (by omega)
  have c1 := cell_of (j := off + 1) h1 (by simp; omega)
  have c2 := cell_of (j := off + 2) h2 (by simp; omega)
  have c3 := cell_of (j := off + 3) h3 (by simp; omega)
  have c4 := cell_of (j := off + 4) h4 (by simp; omega)
  have c5 := cell_of (j := off + 5) h5 (by simp; omega)
  have c6 := cell_of (j := off + 6) h6 (by simp; omega)
  have c7 := cell_of (j := off + 7) h7 (by simp; omega)
  have f0 := frozen_of (j := off) h
  have f1 := frozen_of (j := off + 1) h1
  have f2 := frozen_of (j := off + 2) h2
  have f3 := frozen_of (j := off + 3) h3
  have f4 := frozen_of (j := off + 4) h4
  have f5 := frozen_of (j := off + 5) h5
  have f6 := frozen_of (j := off + 6) h6
  have f7 := frozen_of (j := off + 7) h7
  have hfl : ∀ W a m, (store a (.float .f64 r.wt) m).run Tryz.prog W = stored Tryz.prog W a (.float .f64 r.wt) m := fun W a m => run_store Tryz.prog W a _ m rfl
  unfold recV putR
  simp [Instr.storeAt, go_sem, Tryz.sizeOf29, Addr.add, hfl, stored, c0, c1, c2, c3, c4, c5, c6, c7, f0, f1, f2, f3, f4, f5, f6, f7]
end Go.Proofs.YtceflkeaenepcaaGreatDoor
