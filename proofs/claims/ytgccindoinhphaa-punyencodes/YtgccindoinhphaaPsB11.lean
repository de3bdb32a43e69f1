/- The comparison of two places; two places changed for one another in memory. -/
import Derived.Test.YtgccindoinhphaaPsA11
namespace Go.Proofs.Ytgccindoinhphaa
open Go.RowKit

/-- A number of a row written over. -/
theorem Ok.setAtI {K : IntKind} {e : TypeId} {w : World} {B g n cap : Nat} {zs : List Int} (h : Ok K e w B (.slice (some ⟨g, 0, none⟩) n cap) zs) (k : Nat) (z : Int) (hk : k < zs.length) (hz : Fit K [z]) :
    Ok K e (w.setCell ⟨g, k, none⟩ (.int K z)) B (.slice (some ⟨g, 0, none⟩) n cap) (zs.set k z) ∧ w.cell? ⟨g, k, none⟩ ≠ none ∧ w.frozen? ⟨g, k, none⟩ = false := by
  have hrow := h.row
  rcases hrow.2 with ⟨h0, _⟩ | ⟨g', cap', cur, hv, hb, hh, hn, hcap, hsz, htake⟩
  · cases h0
  · simp only [Value.slice.injEq, Option.some.injEq, Addr.mk.injEq] at hv
    obtain ⟨⟨rfl, _⟩, hnn, rfl⟩ := hv
    refine ⟨Ok.of (n := zs.length) (us := (zs.set k z).map (Value.int K)) ?_ (by simpa using h.sk.len) ⟨by simp, .inr ⟨g, cap, cur.setIfInBounds k (.int K z), by rw [hnn], hb, setc_block hh _, hn, hcap, by simpa using hsz, ?_⟩⟩ (by simp) rfl, ?_, ?_⟩
    · intro y hy
      rcases List.mem_or_eq_of_mem_set hy with hy | hy
      · exact h.1 y hy
      · subst hy; exact hz _ (by simp)
    · rw [Nat.mul_one] at htake ⊢
      rw [Array.toList_setIfInBounds, List.take_set, htake, ← List.map_set]
    · simp [World.cell?, hh]; omega
    · simp [World.frozen?, hh]

set_option maxHeartbeats 2000000 in
theorem cmp_q (b : Nat) (xv : Value) (xs : List Int) (w0 w : World) (a c : Nat) (hx : XAt w b xv) (hs : Sk .i32 w0 xv xs) (hbel : Below w0.heap.size w0 w) (ha : a < xs.length) (hc : c < xs.length) (hl : xs.length ≤ 100000) :
    Calls Try.prog 48 #[.int .i64 a, .int .i64 c, .pointer (some ⟨b, 0, none⟩)] w fun e w' => e = .returned (.int .i64 (Pu.cmpI (xs.getD a 0) (xs.getD c 0))) ∧ ∃ m, w' = w.drewN m := by
  obtain ⟨bx, ox, cx, hv, hc1, hc2, hcl⟩ := hs.place (by omega)
  have hca : w.cell? ⟨bx, ox + a, none⟩ = some (.int .i32 (xs.getD a 0)) := by
    have h3 := hcl a ha
    rw [hbel.cell (lt_of_cell? h3)]; exact h3
  have hcc : w.cell? ⟨bx, ox + c, none⟩ = some (.int .i32 (xs.getD c 0)) := by
    have h3 := hcl c hc
    rw [hbel.cell (lt_of_cell? h3)]; exact h3
  have hbox := hx.cell
  subst hv
  have HC := fun W => hide (compare_any (xs.getD a 0) (xs.getD c 0) W)
  clear hcl hs hbel hx
  generalize Pu.cmpI (xs.getD a 0) (xs.getD c 0) = r at *
  generalize xs.getD a 0 = za at *
  generalize xs.getD c 0 = zc at *
  generalize xs.length = n at *
  go_enter Try.func48, Try.ntmps48
  go_wp2
  go_quiet (first | (go_at_call 49; exact Calls.quiet_of_same (unhide (HC _))))
  go_wp2
  go_ret
  exact ⟨rfl, nq, rfl⟩

theorem Sr.cmp {b B g n cap : Nat} {xv : Value} {xs : List Int} {w0 w1 wr : World} {l : List Nat} (h : Sr b B g n cap xv xs w0 w1 l wr) {i j : Nat} (hi : i < n) (hj : j < n) (m : Nat) :
    Calls Try.prog 48 #[.int .i64 ((l.getD i 0 : Nat) : Int), .int .i64 ((l.getD j 0 : Nat) : Int), .pointer (some ⟨b, 0, none⟩)] (wr.drewN m) fun e w' => e = .returned (.int .i64 (Pu.cmpI (xs.getD (l.getD i 0) 0) (xs.getD (l.getD j 0) 0))) ∧ ∃ k, w' = (wr.drewN m).drewN k :=
  cmp_q b xv xs w0 (wr.drewN m) _ _ (h.drewN m).x h.sx (h.drewN m).bel (h.memlt hi) (h.memlt hj) h.xl

theorem nints_set (l : List Nat) (i z : Nat) : nints (l.set i z) = (nints l).set i (z : Int) := by simp [nints, List.map_set]

theorem Sr.put {b B g n cap : Nat} {xv : Value} {xs : List Int} {w0 w1 wr : World} {l : List Nat} (h : Sr b B g n cap xv xs w0 w1 l wr) {i z : Nat} (hi : i < n) (hz : z < xs.length) : Sr b B g n cap xv xs w0 w1 (l.set i z) (wr.setCell ⟨g, i, none⟩ (.int .i64 (z : Int))) := by
  have hl := h.len
  have hxl := h.xl
  obtain ⟨hset, _, _⟩ := h.row.setAtI i (z : Int) (by rw [nints_len]; omega) (fun y hy => by simp at hy; subst hy; simp [IntKind.min, IntKind.max, IntKind.signed, IntKind.bits]; omega)
  have hg := h.hg
  refine ⟨?_, h.sx, h.bel.setCell hg _, by rw [nints_set]; exact hset, h.hB, h.ne, grown_setc h.gr _, by simpa using hl, fun a ha => ?_, hxl⟩
  · unfold XAt; rw [setc_other h.ne]; exact h.x
  · rcases List.mem_or_eq_of_mem_set ha with ha | ha
    · exact h.lt a ha
    · subst ha; exact hz
theorem Sr.swap {b B g n cap : Nat} {xv : Value} {xs : List Int} {w0 w1 wr : World} {l : List Nat} (h : Sr b B g n cap xv xs w0 w1 l wr) {i j : Nat} (hi : i < n) (hj : j < n) :
    Sr b B g n cap xv xs w0 w1 (Pu.swapL l i j) (((wr.setCell ⟨g, i, none⟩ (.int .i64 ((l.getD j 0 : Nat) : Int))).setCell ⟨g, j, none⟩ (.int .i64 ((l.getD i 0 : Nat) : Int))).drew) :=
  ((h.put hi (h.memlt hj)).put hj (h.memlt hi)).drewN 1
theorem Sr.frozen {b B g n cap : Nat} {xv : Value} {xs : List Int} {w0 w1 wr : World} {l : List Nat} (h : Sr b B g n cap xv xs w0 w1 l wr) (k : Nat) : wr.frozen? ⟨g, k, none⟩ = false := by
  rcases h.row.row.2 with ⟨h0, _⟩ | ⟨g', cap', cur, hv, hb, hh, _⟩
  · cases h0
  · simp only [Value.slice.injEq, Option.some.injEq, Addr.mk.injEq] at hv
    obtain ⟨⟨rfl, _⟩, _, _⟩ := hv
    simp [World.frozen?, hh]
theorem Sr.caps {b B g n cap : Nat} {xv : Value} {xs : List Int} {w0 w1 wr : World} {l : List Nat} (h : Sr b B g n cap xv xs w0 w1 l wr) : n ≤ cap ∧ cap ≤ 9223372036854775807 := by
  obtain ⟨ao, c, he, h1, h2⟩ := h.row.sk.shape
  simp only [Value.slice.injEq] at he
  obtain ⟨_, hn, rfl⟩ := he
  rw [nints_len] at hn h1
  omega

def swR (l : List Nat) (a c : Nat) : Nat → List Nat
  | 0 => l
  | k + 1 => Pu.swapL (swR l a c k) (a + k) (c + k)
theorem swR_len (l : List Nat) (a c k : Nat) : (swR l a c k).length = l.length := by
  induction k with
  | zero => rfl
  | succ k ih => rw [swR, Pu.swapL_len, ih]

def SrP (b B g n cap : Nat) (xv : Value) (xs : List Int) (w0 w1 : World) (l : List Nat) (e : Ending) (w' : World) : Prop := e = .returned (.tuple #[]) ∧ Sr b B g n cap xv xs w0 w1 l w'

set_option maxHeartbeats 4000000 in
theorem swapRange_any {b B g n cap : Nat} {xv : Value} {xs : List Int} {w0 w1 w : World} {l : List Nat} (h : Sr b B g n cap xv xs w0 w1 l w) (a c k : Nat) (fv : Value) (h1 : a + k ≤ c) (h2 : c + k ≤ n) :
    Calls Try.prog 62 #[.slice (some ⟨g, 0, none⟩) n cap, .int .i64 a, .int .i64 c, .int .i64 k, fv] w (SrP b B g n cap xv xs w0 w1 (swR l a c k)) := by
  have hcap := h.caps
  have H := hide h
  clear h
  go_enter Try.func62, Try.ntmps62
  go_wp2
  go_loopw [10] (fun jj wr => ∃ j : Nat, jj = .int .i64 j ∧ j ≤ k ∧ Sr b B g n cap xv xs w0 w1 (swR l a c j) wr) (fun jj _ => k - (intOf jj).toNat)
  case atStart => exact ⟨0, rfl, by omega, unhide H⟩
  case round =>
    clear H
    obtain ⟨j, rfl, hj, hS⟩ := hrel
    by_cases hlt : j < k
    · have e1 := hS.cell (k := a + j) (by omega)
      have e2 := hS.cell (k := c + j) (by omega)
      have e3 := hS.frozen (a + j)
      have e4 := hS.frozen (c + j)
      have HN := hide (hS.swap (i := a + j) (j := c + j) (by omega) (by omega))
      have hne : ¬ (a + j = c + j) := by omega
      have hz1 : ((a : Int) + (j : Int)).toNat = a + j := by omega
      have hz2 : ((c : Int) + (j : Int)).toNat = c + j := by omega
      clear hS
      generalize (swR l a c j).getD (a + j) 0 = p at *
      generalize (swR l a c j).getD (c + j) 0 = q at *
      go_wp2
      go_region
      go_wp2
      go_roundw
      case rel => exact ⟨j + 1, by go_num, by omega, unhide HN⟩
      case measure => simp [intOf]; omega
    · have hke : j = k := by omega
      subst hke
      have HF := hide hS
      clear hS
      go_wp2
      go_end0
      exact ⟨rfl, unhide HF⟩
end Go.Proofs.Ytgccindoinhphaa
