/- Places in order, plainly: what an insertion keeps; the sort of a short part. -/
import Derived.Test.YtcnmmghkjblemaaDoorQsC20
namespace Go.Proofs.YtcnmmghkjblemaaDoor
open Go.RowKit

namespace Pu
def lx (xs : List Int) (x y : Nat) : Prop := xs.getD x 0 < xs.getD y 0 ∨ (xs.getD x 0 = xs.getD y 0 ∧ x < y)
theorem lx_trans {xs : List Int} {x y z : Nat} (h1 : lx xs x y) (h2 : lx xs y z) : lx xs x z := by unfold lx at *; omega
theorem lx_not {xs : List Int} {x y : Nat} (h1 : x < y) (h2 : ¬ xs.getD y 0 < xs.getD x 0) : lx xs x y := by unfold lx; omega
theorem cmpI_lt {a b : Int} : cmpI a b < 0 ↔ a < b := by unfold cmpI; split <;> (try split) <;> omega
def SR (xs : List Int) (l : List Nat) (a c : Nat) : Prop := ∀ i j, a ≤ i → i < j → j < c → lx xs (l.getD i 0) (l.getD j 0)
def Org (l l' : List Nat) (a c : Nat) : Prop := ∀ i, a ≤ i → i < c → ∃ i', a ≤ i' ∧ i' < c ∧ l'.getD i 0 = l.getD i' 0
def Out (l l' : List Nat) (a c : Nat) : Prop := ∀ k, k < a ∨ c ≤ k → l'.getD k 0 = l.getD k 0
theorem Org.refl (l : List Nat) (a c : Nat) : Org l l a c := fun i h1 h2 => ⟨i, h1, h2, rfl⟩
theorem Out.refl (l : List Nat) (a c : Nat) : Out l l a c := fun _ _ => rfl
theorem Org.trans {l1 l2 l3 : List Nat} {a c : Nat} (h : Org l1 l2 a c) (k : Org l2 l3 a c) : Org l1 l3 a c := fun i h1 h2 => by
  obtain ⟨j, h3, h4, h5⟩ := k i h1 h2
  obtain ⟨m, h6, h7, h8⟩ := h j h3 h4
  exact ⟨m, h6, h7, h5.trans h8⟩
theorem Out.trans {l1 l2 l3 : List Nat} {a c : Nat} (h : Out l1 l2 a c) (k : Out l2 l3 a c) : Out l1 l3 a c := fun i h1 => (k i h1).trans (h i h1)
theorem Org.wide {l l' : List Nat} {a c a' c' : Nat} (h : Org l l' a c) (k : Out l l' a c) (h1 : a' ≤ a) (h2 : c ≤ c') : Org l l' a' c' := fun i h3 h4 => by
  by_cases hi : a ≤ i ∧ i < c
  · obtain ⟨j, h5, h6, h7⟩ := h i hi.1 hi.2
    exact ⟨j, by omega, by omega, h7⟩
  · exact ⟨i, h3, h4, k i (by omega)⟩
theorem Out.wide {l l' : List Nat} {a c a' c' : Nat} (k : Out l l' a c) (h1 : a' ≤ a) (h2 : c ≤ c') : Out l l' a' c' := fun i h => k i (by omega)
theorem swap_org {l : List Nat} {i j a c : Nat} (hi : i < l.length) (hj : j < l.length) (h1 : a ≤ i ∧ i < c) (h2 : a ≤ j ∧ j < c) : Org l (swapL l i j) a c := fun m h3 h4 => by
  rw [swapL_at hi hj]
  by_cases e1 : m = j
  · rw [if_pos e1]; exact ⟨i, h1.1, h1.2, rfl⟩
  · rw [if_neg e1]
    by_cases e2 : m = i
    · rw [if_pos e2]; exact ⟨j, h2.1, h2.2, rfl⟩
    · rw [if_neg e2]; exact ⟨m, h3, h4, rfl⟩
theorem swap_out {l : List Nat} {i j a c : Nat} (hi : i < l.length) (hj : j < l.length) (h1 : a ≤ i ∧ i < c) (h2 : a ≤ j ∧ j < c) : Out l (swapL l i j) a c := fun m h3 => by
  rw [swapL_at hi hj, if_neg (by omega), if_neg (by omega)]

/-- All but the place j in order, what stands there not above what is behind it. -/
structure Inv (xs : List Int) (l : List Nat) (a i j : Nat) : Prop where
  A : ∀ p q, a ≤ p → p < q → q ≤ i → p ≠ j → q ≠ j → lx xs (l.getD p 0) (l.getD q 0)
  B : ∀ q, j < q → q ≤ i → lx xs (l.getD j 0) (l.getD q 0)
  C : ∀ p, a ≤ p → p ≤ i → p ≠ j → l.getD p 0 < l.getD j 0
theorem Inv.step {xs : List Int} {l : List Nat} {a i j : Nat} (h : Inv xs l a i j) (h1 : a < j) (h2 : j ≤ i) (hl : i < l.length) (hc : xs.getD (l.getD j 0) 0 < xs.getD (l.getD (j - 1) 0) 0) : Inv xs (swapL l j (j - 1)) a i (j - 1) := by
  have at' := fun m => swapL_at (l := l) (i := j) (j := j - 1) (by omega) (by omega) m
  have eJ : (swapL l j (j - 1)).getD (j - 1) 0 = l.getD j 0 := by rw [at', if_pos rfl]
  have eI : (swapL l j (j - 1)).getD j 0 = l.getD (j - 1) 0 := by rw [at', if_neg (by omega), if_pos rfl]
  have eO : ∀ m, m ≠ j → m ≠ j - 1 → (swapL l j (j - 1)).getD m 0 = l.getD m 0 := fun m h3 h4 => by rw [at', if_neg h4, if_neg h3]
  refine ⟨fun p q h3 h4 h5 h6 h7 => ?_, fun q h3 h4 => ?_, fun p h3 h4 h5 => ?_⟩
  · by_cases e1 : p = j
    · subst e1; rw [eI, eO q (by omega) (by omega)]; exact h.A _ _ (by omega) (by omega) h5 (by omega) (by omega)
    · by_cases e2 : q = j
      · subst e2; rw [eI, eO p (by omega) (by omega)]; exact h.A _ _ h3 (by omega) (by omega) (by omega) (by omega)
      · rw [eO p e1 h6, eO q e2 h7]; exact h.A _ _ h3 h4 h5 e1 e2
  · rw [eJ]
    by_cases e1 : q = j
    · subst e1; rw [eI]; exact .inl hc
    · rw [eO q e1 (by omega)]; exact h.B q (by omega) h4
  · rw [eJ]
    by_cases e1 : p = j
    · subst e1; rw [eI]; exact h.C _ (by omega) (by omega) (by omega)
    · rw [eO p e1 h5]; exact h.C p h3 h4 e1
theorem Inv.done {xs : List Int} {l : List Nat} {a i j : Nat} (h : Inv xs l a i j) (h1 : a ≤ j) (h2 : j ≤ i) (hc : j = a ∨ ¬ xs.getD (l.getD j 0) 0 < xs.getD (l.getD (j - 1) 0) 0) : SR xs l a (i + 1) := by
  intro p q h3 h4 h5
  by_cases e1 : p = j
  · subst e1; exact h.B q h4 (by omega)
  · by_cases e2 : q = j
    · subst e2
      rcases hc with hc | hc
      · omega
      · have hl := lx_not (h.C (q - 1) (by omega) (by omega) (by omega)) hc
        by_cases e3 : p = q - 1
        · rw [e3]; exact hl
        · exact lx_trans (h.A p (q - 1) h3 (by omega) (by omega) (by omega) (by omega)) hl
    · exact h.A p q h3 h4 (by omega) e1 e2
theorem Inv.start {xs : List Int} {l l1 : List Nat} {a i c : Nat} (hs : SR xs l1 a i) (ho : Org l l1 a i) (hu : Out l l1 a i) (hic : i < c) (hinc : ∀ p q, a ≤ p → p < q → q < c → l.getD p 0 < l.getD q 0) : Inv xs l1 a i i := by
  refine ⟨fun p q h3 h4 h5 h6 h7 => hs p q h3 h4 (by omega), fun q h3 h4 => by omega, fun p h3 h4 h5 => ?_⟩
  obtain ⟨p', h6, h7, h8⟩ := ho p h3 (by omega)
  rw [h8, hu i (by omega)]
  exact hinc p' i h6 h7 hic
end Pu

def SymP (b B g n cap : Nat) (xv : Nat → ByteArray) (xs : List Int) (w0 w1 : World) (l : List Nat) (a c : Nat) (e : Ending) (w' : World) : Prop :=
  e = .returned (.tuple #[]) ∧ ∃ l', Sr b B g n cap xv xs w0 w1 l' w' ∧ l'.Perm l ∧ Pu.SR xs l' a c ∧ Pu.Org l l' a c ∧ Pu.Out l l' a c

set_option maxRecDepth 20000 in
set_option maxHeartbeats 8000000 in
theorem insertion_any {b B g n cap : Nat} {xv : Nat → ByteArray} {xs : List Int} {w0 w1 w : World} {l : List Nat} (h : Sr b B g n cap xv xs w0 w1 l w) (a c : Nat) (h3 : c ≤ n) (ha : a ≤ n) (hn : n ≤ 100000) (hinc : ∀ p q, a ≤ p → p < q → q < c → l.getD p 0 < l.getD q 0) :
    Calls Tryd.prog 70 #[.slice (some ⟨g, 0, none⟩) n cap, .int .i64 a, .int .i64 c, .func (.func 20) #[] #[]] w (SymP b B g n cap xv xs w0 w1 l a c) := by
  have hcap := h.caps
  have H := hide h
  have HINC := hide hinc
  clear h hinc
  go_enter Tryd.func70, Tryd.ntmps70
  go_wp2
  go_loopw [8, 9] (fun ii _ wr => ∃ (i : Nat) (l1 : List Nat), ii = .int .i64 i ∧ a < i ∧ (i ≤ c ∨ i = a + 1) ∧ Sr b B g n cap xv xs w0 w1 l1 wr ∧ l1.Perm l ∧ Pu.SR xs l1 a i ∧ Pu.Org l l1 a i ∧ Pu.Out l l1 a i ∧ (i = a + 1 → l1 = l)) (fun ii _ _ => n + 1 - (intOf ii).toNat)
  case atStart => exact ⟨a + 1, l, by go_num, by omega, .inr rfl, unhide H, List.Perm.refl _, fun i j h1 h2 h4 => by omega, Pu.Org.refl _ _ _, Pu.Out.refl _ _ _, fun _ => rfl⟩
  case round =>
    clear H
    obtain ⟨i, l1, rfl, hai, hic, hS, hp, hsr, horg, hout, hfirst⟩ := hrel
    obtain ⟨wo, hwo⟩ : ∃ wo, wo = wr := ⟨_, rfl⟩
    subst hwo
    by_cases hlt : i < c
    · have hI := Pu.Inv.start hsr horg hout hlt (unhide HINC)
      have HI := hide hI
      have HS := hide hS
      have HP := hide hp
      have HO := hide (horg.wide hout (Nat.le_refl a) (Nat.le_succ i))
      have HU := hide (hout.wide (Nat.le_refl a) (Nat.le_succ i))
      clear hI hS hp hsr horg hout hfirst
      go_wp2
      go_loopw [9] (fun jj wr => ∃ (j : Nat) (l2 : List Nat), jj = .int .i64 j ∧ a ≤ j ∧ j ≤ i ∧ Sr b B g n cap xv xs w0 w1 l2 wr ∧ l2.Perm l ∧ Pu.Inv xs l2 a i j ∧ Pu.Org l l2 a (i + 1) ∧ Pu.Out l l2 a (i + 1)) (fun jj _ => (intOf jj).toNat)
      case atStart => exact ⟨i, l1, rfl, by omega, Nat.le_refl _, unhide HS, unhide HP, unhide HI, unhide HO, unhide HU⟩
      case round =>
        clear HS HP HI HO HU
        obtain ⟨j, l2, rfl, haj, hji, hS, hp, hI, horg, hout⟩ := hrel
        have hll := hS.len
        by_cases hj : a < j
        · have e1 := hS.cell (k := j) (by omega)
          have e2 := hS.cell (k := j - 1) (by omega)
          have e3 := hS.frozen j
          have e4 := hS.frozen (j - 1)
          have HC := fun m => hide (hS.cmp (i := j) (j := j - 1) (by omega) (by omega) m)
          have hjm : ((j : Int) - 1).toNat = j - 1 := by omega
          have hjm2 : (j : Int) - 1 = ((j - 1 : Nat) : Int) := by omega
          by_cases hc : xs.getD (l2.getD j 0) 0 < xs.getD (l2.getD (j - 1) 0) 0
          · have hcb : Pu.cmpI (xs.getD (l2.getD j 0) 0) (xs.getD (l2.getD (j - 1) 0) 0) < 0 := Pu.cmpI_lt.2 hc
            have HN := hide fun m => (hS.drewN m).swap (i := j) (j := j - 1) (by omega) (by omega)
            have HI2 := hide (hI.step hj hji (by omega) hc)
            have HP2 := hide ((Pu.swapL_perm (l := l2) (i := j) (j := j - 1) (by omega) (by omega)).trans hp)
            have HO2 := hide (horg.trans (Pu.swap_org (l := l2) (i := j) (j := j - 1) (a := a) (c := i + 1) (by omega) (by omega) (by omega) (by omega)))
            have HU2 := hide (hout.trans (Pu.swap_out (l := l2) (i := j) (j := j - 1) (a := a) (c := i + 1) (by omega) (by omega) (by omega) (by omega)))
            clear hS hp hI horg hout hc
            generalize Pu.swapL l2 j (j - 1) = l3 at *
            generalize Pu.cmpI (xs.getD (l2.getD j 0) 0) (xs.getD (l2.getD (j - 1) 0) 0) = cr at *
            generalize l2.getD j 0 = p at *
            generalize l2.getD (j - 1) 0 = q at *
            go_wp2
            go_quiet (first | (go_at_call 20; exact Calls.quiet_of (unhide (HC _))))
            have e1q : (wr.drewN nq).cell? ⟨g, j, none⟩ = some (.string (xv p)) := e1
            have e2q : (wr.drewN nq).cell? ⟨g, j - 1, none⟩ = some (.string (xv q)) := e2
            have e3q : (wr.drewN nq).frozen? ⟨g, j, none⟩ = false := e3
            have e4q : (wr.drewN nq).frozen? ⟨g, j - 1, none⟩ = false := e4
            have HNq := hide (unhide HN nq)
            clear e1 e2 e3 e4 HN HC hcb
            generalize wr.drewN nq = wd at *
            have hne : ¬ (j = j - 1) := by omega
            go_wp2
            go_region
            go_wp2
            go_roundw
            case rel => exact ⟨j - 1, l3, by first | rfl | (rw [hjm2]) | go_num, by omega, by omega, unhide HNq, unhide HP2, unhide HI2, unhide HO2, unhide HU2⟩
            case measure => simp [intOf]; omega
          · have hcb : ¬ Pu.cmpI (xs.getD (l2.getD j 0) 0) (xs.getD (l2.getD (j - 1) 0) 0) < 0 := fun hh => hc (Pu.cmpI_lt.1 hh)
            have HN := hide fun m => hS.drewN m
            have HSR := hide (hI.done haj hji (.inr hc))
            have HP2 := hide hp
            have HO2 := hide horg
            have HU2 := hide hout
            clear hS hp hI horg hout hc
            generalize Pu.cmpI (xs.getD (l2.getD j 0) 0) (xs.getD (l2.getD (j - 1) 0) 0) = cr at *
            generalize l2.getD j 0 = p at *
            generalize l2.getD (j - 1) 0 = q at *
            have hcb2 : (decide (cr < 0)) = false := decide_eq_false hcb
            go_wp2
            go_quiet (first | (go_at_call 20; exact Calls.quiet_of (unhide (HC _))))
            have HNq := hide (unhide HN nq)
            clear e1 e2 e3 e4 HN HC
            generalize wr.drewN nq = wd at *
            go_wp2
            go_roundw
            case rel => exact ⟨i + 1, l2, by go_num, by omega, .inl (by omega), unhide HNq, unhide HP2, unhide HSR, unhide HO2, unhide HU2, fun h => by omega⟩
            case measure => simp [intOf]; omega
        · have HN := hide fun m => hS.drewN m
          have HSR := hide (hI.done haj hji (.inl (by omega)))
          have HP2 := hide hp
          have HO2 := hide horg
          have HU2 := hide hout
          clear hS hp hI horg hout
          go_wp2
          go_quiet (fail)
          have HNq := hide (unhide HN nq)
          clear HN
          generalize wr.drewN nq = wd at *
          go_wp2
          go_roundw
          case rel => exact ⟨i + 1, l2, by go_num, by omega, .inl (by omega), unhide HNq, unhide HP2, unhide HSR, unhide HO2, unhide HU2, fun h => by omega⟩
          case measure => simp [intOf]; omega
    · have HF : Hid (SymP b B g n cap xv xs w0 w1 l a c (.returned (.tuple #[])) wo) := by
        refine ⟨rfl, l1, hS, hp, ?_, ?_, ?_⟩
        · intro p q h1 h2 h4; exact hsr p q h1 h2 (by omega)
        · rcases hic with h1 | h1
          · have : i = c := by omega
            subst this; exact horg
          · rw [hfirst h1]; exact Pu.Org.refl _ _ _
        · rcases hic with h1 | h1
          · have : i = c := by omega
            subst this; exact hout
          · rw [hfirst h1]; exact Pu.Out.refl _ _ _
      clear hS hp hsr horg hout hfirst
      go_wp2
      go_end0
      exact unhide HF
end Go.Proofs.YtcnmmghkjblemaaDoor
