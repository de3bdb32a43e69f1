/- What the turning of a list's records asks. -/
import Derived.Test.YteigibncdbgpmaaGreatDoorTuA7
namespace Go.Proofs.YteigibncdbgpmaaGreatDoor
open Go.RowKit

def mk30 (n : Int) : Int := IntKind.i64.wrap ((BitVec.ofInt 64 n &&& BitVec.ofInt 64 1073741823).toNat : Int)
theorem mk30_run (n : Int) (w : World) : (binOp BinOp.and 3 (.int .i64 n) (.int .i64 1073741823)).run Tryz.prog w = .ok (.int .i64 (mk30 n)) w := by kernel_rfl
theorem mk30_bound (n : Int) : 0 ≤ mk30 n ∧ mk30 n ≤ 1073741823 := by
  have h : (BitVec.ofInt 64 n &&& BitVec.ofInt 64 1073741823).toNat ≤ 1073741823 := by
    rw [BitVec.toNat_and]
    exact Nat.and_le_right
  unfold mk30
  generalize (BitVec.ofInt 64 n &&& BitVec.ofInt 64 1073741823).toNat = m at *
  simp [IntKind.wrap, IntKind.bits, IntKind.signed]; omega
theorem sh30_run (n : Int) (w : World) : (binOp BinOp.shr 3 (.int .i64 n) (.int .u64 30)).run Tryz.prog w = .ok (.int .i64 (n.fdiv 1073741824)) w := by kernel_rfl
/-- Two records of a row of the call's own change places. -/
theorem Rown.swap {w : World} {B g cap a b : Nat} {ps : List (Rec × Value)} (h : Rown w B (.slice (some ⟨g, 0, none⟩) ps.length cap) ps) (ha : a < ps.length) (hb : b < ps.length) :
    Rown (putR (putR w g (a * 8) ps[b]) g (b * 8) ps[a]) B (.slice (some ⟨g, 0, none⟩) ps.length cap) ((ps.set a ps[b]).set b ps[a]) := by
  have h1 := row_put h.1 ha ps[b]
  have h1' : (putR w g (a * 8) ps[b]).ownsRow B 47 8 (.slice (some ⟨g, 0, none⟩) (ps.set a ps[b]).length cap) (ps.set a ps[b]).length (rcells (ps.set a ps[b])) := by
    simpa using h1
  have h2 := row_put h1' (i := b) (by simpa using hb) ps[a]
  refine ⟨by simpa using h2, fun p hp => ?_⟩
  have hm : p ∈ ps := (swap_perm ha hb).mem_iff.1 hp
  have ho := h.2 p hm
  refine ho.keep fun k hk => ?_
  obtain ⟨cur, hc⟩ := (show ∃ cur, w.heap[k]? = some (.cells cur 21 (0, 0)) by
    rcases ho.2.2.2 with ⟨e, _⟩ | ⟨k', cap', cur, e, _, hh, _⟩
    · rw [e] at hk; cases hk
    · rw [e] at hk
      simp [Value.ownBlock] at hk
      subst hk
      exact ⟨cur, hh⟩)
  have hne : k ≠ g := fun e => by
    rcases h.1.2 with ⟨e2, _⟩ | ⟨g', cap', cur', e2, _, hh, _⟩
    · cases e2
    · simp only [Value.slice.injEq, Option.some.injEq, Addr.mk.injEq, and_true, true_and] at e2
      rw [e, e2.1, hh] at hc
      simp at hc
  rw [putR_far _ hne, putR_far _ hne]
/-- The cells of one of its records. -/
theorem Rown.cells8 {w : World} {B g cap i : Nat} {ps : List (Rec × Value)} (h : Rown w B (.slice (some ⟨g, 0, none⟩) ps.length cap) ps) (hi : i < ps.length) :
    ∃ (r : Rec) (ao : Option Addr) (len cp : Nat), ps[i] = (r, .slice ao len cp) ∧ w.cell? ⟨g, i * 8, none⟩ = some (.int .i64 r.kind) ∧ w.cell? ⟨g, i * 8 + 1, none⟩ = some (.int .i64 r.lo) ∧ w.cell? ⟨g, i * 8 + 2, none⟩ = some (.int .i64 r.hi) ∧ w.cell? ⟨g, i * 8 + 3, none⟩ = some (.int .i64 r.n) ∧ w.cell? ⟨g, i * 8 + 4, none⟩ = some (.slice ao len cp) ∧ w.cell? ⟨g, i * 8 + 5, none⟩ = some (.string r.name) ∧ w.cell? ⟨g, i * 8 + 6, none⟩ = some (.string r.other) ∧ w.cell? ⟨g, i * 8 + 7, none⟩ = some (.float .f64 r.wt) ∧ ∀ j, w.frozen? ⟨g, j, none⟩ = false := by
  obtain ⟨ao, cp, hv, _, _⟩ := (h.2 ps[i] (List.getElem_mem hi)).sk.shape
  have hc : ∀ j u, j < 8 → (rcell ps[i])[j]? = some u → w.cell? ⟨g, i * 8 + j, none⟩ = some u := by
    intro j u hj hu
    have e := h.1.cells (g := g) rfl (i * 8 + j) u (by rw [rcells_at ps i j hi hj]; simpa [List.getD, hi] using hu)
    rw [addr_add, Nat.zero_add] at e
    exact e
  refine ⟨ps[i].1, ao, _, cp, Prod.ext rfl hv, hc 0 _ (by omega) rfl, hc 1 _ (by omega) rfl, hc 2 _ (by omega) rfl, hc 3 _ (by omega) rfl, hv ▸ hc 4 _ (by omega) rfl, hc 5 _ (by omega) rfl, hc 6 _ (by omega) rfl, hc 7 _ (by omega) rfl, fun j => ?_⟩
  rcases h.1.2 with ⟨e, _⟩ | ⟨g', cap', cur, e, _, hh, _⟩
  · cases e
  · simp only [Value.slice.injEq, Option.some.injEq, Addr.mk.injEq, and_true, true_and] at e
    rw [e.1]
    exact frozen_of hh
end Go.Proofs.YteigibncdbgpmaaGreatDoor
