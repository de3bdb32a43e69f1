/- The merge of two parts where the one has one place. -/
import Derived.Test.YtcnmmghkjblemaaDoorQsD20
import Derived.Deep.DeepCutAuto
import Derived.Deep.CutBlock
namespace Go.Proofs.YtcnmmghkjblemaaDoor
open Go.RowKit

namespace Pu
/-- The place a carried on to k. -/
def fwd (l l' : List Nat) (a k : Nat) : Prop := ∀ p, l'.getD p 0 = if a ≤ p ∧ p < k then l.getD (p + 1) 0 else if p = k then l.getD a 0 else l.getD p 0
/-- The place m carried back to k. -/
def bwd (l l' : List Nat) (m k : Nat) : Prop := ∀ p, l'.getD p 0 = if k < p ∧ p ≤ m then l.getD (p - 1) 0 else if p = k then l.getD m 0 else l.getD p 0
theorem fwd_refl (l : List Nat) (a : Nat) : fwd l l a a := fun p => by
  rw [if_neg (by omega)]
  by_cases h : p = a
  · rw [if_pos h, h]
  · rw [if_neg h]
theorem bwd_refl (l : List Nat) (m : Nat) : bwd l l m m := fun p => by
  rw [if_neg (by omega)]
  by_cases h : p = m
  · rw [if_pos h, h]
  · rw [if_neg h]
theorem fwd_step {l l' : List Nat} {a k : Nat} (h : fwd l l' a k) (hk : a ≤ k) (hl : k + 1 < l'.length) : fwd l (swapL l' k (k + 1)) a (k + 1) := fun p => by
  rw [swapL_at (by omega) hl, h k, h (k + 1), h p]
  by_cases e1 : p = k + 1
  · rw [if_pos e1, if_neg (by omega), if_pos rfl, if_neg (by omega), if_pos e1]
  · rw [if_neg e1]
    by_cases e2 : p = k
    · subst e2; rw [if_pos rfl, if_neg (by omega), if_neg (by omega), if_pos (by omega)]
    · rw [if_neg e2]
      by_cases e3 : a ≤ p ∧ p < k
      · rw [if_pos e3, if_pos (by omega)]
      · rw [if_neg e3, if_neg e2, if_neg (show ¬ (a ≤ p ∧ p < k + 1) by omega), if_neg e1]
theorem bwd_step {l l' : List Nat} {m k : Nat} (h : bwd l l' m k) (hk : 1 ≤ k) (hkm : k ≤ m) (hl : k < l'.length) : bwd l (swapL l' k (k - 1)) m (k - 1) := fun p => by
  rw [swapL_at hl (by omega), h k, h (k - 1), h p]
  by_cases e1 : p = k - 1
  · rw [if_pos e1, if_neg (by omega), if_pos rfl, if_neg (by omega), if_pos e1]
  · rw [if_neg e1]
    by_cases e2 : p = k
    · subst e2; rw [if_pos rfl, if_neg (by omega), if_neg (by omega), if_pos (by omega)]
    · rw [if_neg e2]
      by_cases e3 : k < p ∧ p ≤ m
      · rw [if_pos e3, if_pos (by omega)]
      · rw [if_neg e3, if_neg e2, if_neg (show ¬ (k - 1 < p ∧ p ≤ m) by omega), if_neg e1]

theorem SR_val {xs : List Int} {l : List Nat} {a c p q : Nat} (h : SR xs l a c) (h1 : a ≤ p) (h2 : p ≤ q) (h3 : q < c) : xs.getD (l.getD p 0) 0 ≤ xs.getD (l.getD q 0) 0 := by
  rcases Nat.eq_or_lt_of_le h2 with h4 | h4
  · rw [h4]; exact Int.le_refl _
  · have := h p q h1 h4 h3; unfold lx at this; omega

theorem fwd_done {xs : List Int} {l l' : List Nat} {a m c t : Nat} (hm : m = a + 1) (hmt : m ≤ t) (htc : t ≤ c) (hs : SR xs l m c) (hix : ∀ i j, a ≤ i → i < m → m ≤ j → j < c → l.getD i 0 < l.getD j 0)
    (h1 : t = m ∨ xs.getD (l.getD (t - 1) 0) 0 < xs.getD (l.getD a 0) 0) (h2 : t = c ∨ xs.getD (l.getD a 0) 0 ≤ xs.getD (l.getD t 0) 0) (hf : fwd l l' a (t - 1)) : SR xs l' a c ∧ Org l l' a c ∧ Out l l' a c := by
  have hlow : ∀ p, m ≤ p → p < t → lx xs (l.getD p 0) (l.getD a 0) := fun p h3 h4 => by
    rcases h1 with h1 | h1
    · omega
    · have := SR_val hs (p := p) (q := t - 1) h3 (by omega) (by omega)
      unfold lx; omega
  have hhigh : ∀ p, t ≤ p → p < c → lx xs (l.getD a 0) (l.getD p 0) := fun p h3 h4 => by
    rcases h2 with h2 | h2
    · omega
    · have := SR_val hs (p := t) (q := p) (by omega) h3 h4
      have := hix a p (Nat.le_refl _) (by omega) (by omega) h4
      unfold lx; omega
  refine ⟨fun p q h3 h4 h5 => ?_, fun p h3 h4 => ?_, fun p h3 => ?_⟩
  · rw [hf p, hf q]
    by_cases e1 : a ≤ p ∧ p < t - 1
    · rw [if_pos e1]
      by_cases e2 : a ≤ q ∧ q < t - 1
      · rw [if_pos e2]; exact hs _ _ (by omega) (by omega) (by omega)
      · rw [if_neg e2]
        by_cases e3 : q = t - 1
        · rw [if_pos e3]; exact hlow _ (by omega) (by omega)
        · rw [if_neg e3]; exact hs _ _ (by omega) (by omega) h5
    · rw [if_neg e1, if_neg (show ¬ (a ≤ q ∧ q < t - 1) by omega)]
      by_cases e3 : p = t - 1
      · rw [if_pos e3, if_neg (by omega)]; exact hhigh _ (by omega) h5
      · rw [if_neg e3, if_neg (by omega)]; exact hs _ _ (by omega) h4 h5
  · rw [hf p]
    by_cases e1 : a ≤ p ∧ p < t - 1
    · rw [if_pos e1]; exact ⟨p + 1, by omega, by omega, rfl⟩
    · rw [if_neg e1]
      by_cases e3 : p = t - 1
      · rw [if_pos e3]; exact ⟨a, Nat.le_refl _, by omega, rfl⟩
      · rw [if_neg e3]; exact ⟨p, h3, h4, rfl⟩
  · rw [hf p, if_neg (by omega)]
    by_cases e3 : p = t - 1
    · omega
    · rw [if_neg e3]
theorem bwd_done {xs : List Int} {l l' : List Nat} {a m c t : Nat} (hm : c = m + 1) (hat : a ≤ t) (htm : t ≤ m) (hs : SR xs l a m) (hix : ∀ i j, a ≤ i → i < m → m ≤ j → j < c → l.getD i 0 < l.getD j 0)
    (h1 : t = a ∨ xs.getD (l.getD (t - 1) 0) 0 ≤ xs.getD (l.getD m 0) 0) (h2 : t = m ∨ xs.getD (l.getD m 0) 0 < xs.getD (l.getD t 0) 0) (hf : bwd l l' m t) : SR xs l' a c ∧ Org l l' a c ∧ Out l l' a c := by
  have hlow : ∀ p, a ≤ p → p < t → lx xs (l.getD p 0) (l.getD m 0) := fun p h3 h4 => by
    rcases h1 with h1 | h1
    · omega
    · have := SR_val hs (p := p) (q := t - 1) h3 (by omega) (by omega)
      have := hix p m h3 (by omega) (Nat.le_refl _) (by omega)
      unfold lx; omega
  have hhigh : ∀ p, t ≤ p → p < m → lx xs (l.getD m 0) (l.getD p 0) := fun p h3 h4 => by
    rcases h2 with h2 | h2
    · omega
    · have := SR_val hs (p := t) (q := p) hat h3 h4
      unfold lx; omega
  refine ⟨fun p q h3 h4 h5 => ?_, fun p h3 h4 => ?_, fun p h3 => ?_⟩
  · rw [hf p, hf q]
    by_cases e1 : t < q ∧ q ≤ m
    · rw [if_pos e1]
      by_cases e2 : t < p ∧ p ≤ m
      · rw [if_pos e2]; exact hs _ _ (by omega) (by omega) (by omega)
      · rw [if_neg e2]
        by_cases e3 : p = t
        · rw [if_pos e3]; exact hhigh _ (by omega) (by omega)
        · rw [if_neg e3]; exact hs _ _ h3 (by omega) (by omega)
    · rw [if_neg e1, if_neg (show ¬ (t < p ∧ p ≤ m) by omega), if_neg (by omega)]
      by_cases e3 : q = t
      · rw [if_pos e3]; exact hlow _ h3 (by omega)
      · rw [if_neg e3]; exact hs _ _ h3 h4 (by omega)
  · rw [hf p]
    by_cases e1 : t < p ∧ p ≤ m
    · rw [if_pos e1]; exact ⟨p - 1, by omega, by omega, rfl⟩
    · rw [if_neg e1]
      by_cases e3 : p = t
      · rw [if_pos e3]; exact ⟨m, by omega, by omega, rfl⟩
      · rw [if_neg e3]; exact ⟨p, h3, h4, rfl⟩
  · rw [hf p, if_neg (by omega)]
    by_cases e3 : p = t
    · omega
    · rw [if_neg e3]
end Pu

set_option maxRecDepth 20000 in
set_option maxHeartbeats 8000000 in
theorem sym_one {b B g n cap : Nat} {xv : Nat → ByteArray} {xs : List Int} {w0 w1 w : World} {l : List Nat} (h : Sr b B g n cap xv xs w0 w1 l w) (a m c : Nat) (hm : m = a + 1) (hmc : m < c) (h3 : c ≤ n) (hn : n ≤ 100000) (hs : Pu.SR xs l m c) (hix : ∀ i j, a ≤ i → i < m → m ≤ j → j < c → l.getD i 0 < l.getD j 0) :
    Calls Tryd.prog 71 #[.slice (some ⟨g, 0, none⟩) n cap, .int .i64 a, .int .i64 m, .int .i64 c, .func (.func 20) #[] #[]] w (SymP b B g n cap xv xs w0 w1 l a c) := by
  have hcap := h.caps
  have hll := h.len
  have H := hide h
  have HFIN : Hid (∀ t l', m ≤ t → t ≤ c → (t = m ∨ xs.getD (l.getD (t - 1) 0) 0 < xs.getD (l.getD a 0) 0) → (t = c ∨ xs.getD (l.getD a 0) 0 ≤ xs.getD (l.getD t 0) 0) → Pu.fwd l l' a (t - 1) → Pu.SR xs l' a c ∧ Pu.Org l l' a c ∧ Pu.Out l l' a c) := fun t l' k1 k2 k3 k4 k5 => Pu.fwd_done hm k1 k2 hs hix k3 k4 k5
  have hd : ((m : Int) - (a : Int)) = 1 := by omega
  have hd1 : (((m : Int) - (a : Int)) == 1) = true := by rw [hd]; rfl
  have HMA := hide hm
  have ham : a < m := by omega
  clear h hs hix hd hm
  go_enter Tryd.func71, Tryd.ntmps71
  go_wp2
  go_loopw [10, 11, 12] (fun ii jj _ wr => ∃ i j : Nat, ii = .int .i64 i ∧ jj = .int .i64 j ∧ m ≤ i ∧ i ≤ j ∧ j ≤ c ∧ (i = m ∨ xs.getD (l.getD (i - 1) 0) 0 < xs.getD (l.getD a 0) 0) ∧ (j = c ∨ xs.getD (l.getD a 0) 0 ≤ xs.getD (l.getD j 0) 0) ∧ Sr b B g n cap xv xs w0 w1 l wr) (fun ii jj _ _ => (intOf jj).toNat - (intOf ii).toNat)
  case atStart => exact ⟨m, c, rfl, rfl, Nat.le_refl _, by omega, Nat.le_refl _, .inl rfl, .inl rfl, unhide H⟩
  case round =>
    clear H
    obtain ⟨i, j, rfl, rfl, hi, hij, hj, hlo, hhi, hS⟩ := hrel
    by_cases hlt : i < j
    · have hh1 : (i + j) / 2 < j := by omega
      have hh0 : i ≤ (i + j) / 2 := by omega
      have e1 := hS.cell (k := (i + j) / 2) (by omega)
      have e2 := hS.cell (k := a) (by omega)
      have HC := fun k => hide (hS.cmp (i := (i + j) / 2) (j := a) (by omega) (by omega) k)
      have HN := hide fun k => hS.drewN k
      have hcast : ((i : Int) + (j : Int)) / 2 = (((i + j) / 2 : Nat) : Int) := by omega
      clear hS
      generalize hmid : (i + j) / 2 = hq at *
      by_cases hc : xs.getD (l.getD hq 0) 0 < xs.getD (l.getD a 0) 0
      · have hcb : Pu.cmpI (xs.getD (l.getD hq 0) 0) (xs.getD (l.getD a 0) 0) < 0 := Pu.cmpI_lt.2 hc
        have HC2 := hide hc
        have HHI := hide hhi
        clear hc hlo hhi
        generalize Pu.cmpI (xs.getD (l.getD hq 0) 0) (xs.getD (l.getD a 0) 0) = cr at *
        generalize hp1 : l.getD hq 0 = p at *
        generalize hp2 : l.getD a 0 = q at *
        have HP1 := hide hp1
        have HP2 := hide hp2
        clear hp1 hp2
        go_wp2
        go_quiet (first | (go_at_call 20; exact Calls.quiet_of (unhide (HC _))))
        have HNq := hide (unhide HN nq)
        clear e1 e2 HN HC
        generalize wr.drewN nq = wd at *
        go_wp2
        go_roundw
        case rel => exact ⟨hq + 1, j, by go_num, rfl, by omega, by omega, hj, .inr (by rw [show hq + 1 - 1 = hq by omega, unhide HP1]; exact unhide HC2), unhide HHI, unhide HNq⟩
        case measure => simp [intOf]; omega
      · have hcb : ¬ Pu.cmpI (xs.getD (l.getD hq 0) 0) (xs.getD (l.getD a 0) 0) < 0 := fun hh => hc (Pu.cmpI_lt.1 hh)
        have hcc : xs.getD (l.getD a 0) 0 ≤ xs.getD (l.getD hq 0) 0 := by omega
        have HC2 := hide hcc
        clear hcc
        have HLO := hide hlo
        clear hc hlo hhi
        generalize Pu.cmpI (xs.getD (l.getD hq 0) 0) (xs.getD (l.getD a 0) 0) = cr at *
        generalize hp1 : l.getD hq 0 = p at *
        generalize hp2 : l.getD a 0 = q at *
        have HP1 := hide hp1
        have HP2 := hide hp2
        clear hp1 hp2
        have hcb2 : (decide (cr < 0)) = false := decide_eq_false hcb
        go_wp2
        go_quiet (first | (go_at_call 20; exact Calls.quiet_of (unhide (HC _))))
        have HNq := hide (unhide HN nq)
        clear e1 e2 HN HC
        generalize wr.drewN nq = wd at *
        go_wp2
        go_roundw
        case rel => exact ⟨i, hq, rfl, rfl, hi, hh0, by omega, unhide HLO, .inr (by rw [unhide HP1]; exact unhide HC2), unhide HNq⟩
        case measure => simp [intOf]; omega
    · have hij2 : i = j := by omega
      subst hij2
      have HE := hide (fun l' hf => unhide HFIN i l' hi hj hlo hhi hf)
      have HS := hide hS
      have HMA2 := unhide HMA
      clear hlo hhi hS HFIN
      have ham2 : a ≤ i - 1 := by omega
      clear HMA2
      go_wp2
      go_loopw [13] (fun kk wr => ∃ (k : Nat) (l' : List Nat), kk = .int .i64 k ∧ a ≤ k ∧ k ≤ i - 1 ∧ Sr b B g n cap xv xs w0 w1 l' wr ∧ l'.Perm l ∧ Pu.fwd l l' a k) (fun kk _ => c - (intOf kk).toNat)
      case atStart => exact ⟨a, l, rfl, Nat.le_refl _, ham2, unhide HS, List.Perm.refl _, Pu.fwd_refl l a⟩
      case round =>
        clear HS
        obtain ⟨k, l', rfl, hak, hki, hS, hp, hf⟩ := hrel
        have hl2 := hS.len
        by_cases hkl : k < i - 1
        · have e1 := hS.cell (k := k) (by omega)
          have e2 := hS.cell (k := k + 1) (by omega)
          have e3 := hS.frozen k
          have e4 := hS.frozen (k + 1)
          have HN := hide (hS.swap (i := k) (j := k + 1) (by omega) (by omega))
          have HP := hide ((Pu.swapL_perm (l := l') (i := k) (j := k + 1) (by omega) (by omega)).trans hp)
          have HF := hide (Pu.fwd_step hf hak (by omega))
          have hne : ¬ (k = k + 1) := by omega
          have hz1 : ((k : Int) + 1).toNat = k + 1 := by omega
          have hkc : (k : Int) < (i : Int) - 1 := by omega
          clear hS hp hf
          generalize Pu.swapL l' k (k + 1) = l2 at *
          generalize l'.getD k 0 = p at *
          generalize l'.getD (k + 1) 0 = q at *
          go_wp2
          go_region
          go_wp2
          go_roundw
          case rel => exact ⟨k + 1, l2, by go_num, by omega, by omega, unhide HN, unhide HP, unhide HF⟩
          case measure => simp [intOf]; omega
        · have hke : k = i - 1 := by omega
          subst hke
          have HF : Hid (SymP b B g n cap xv xs w0 w1 l a c (.returned (.tuple #[])) wr) := by
            obtain ⟨k1, k2, k3⟩ := unhide HE l' hf
            exact ⟨rfl, l', hS, hp, k1, k2, k3⟩
          have hkc : ¬ (((i - 1 : Nat) : Int) < (i : Int) - 1) := by omega
          clear hS hp hf HE
          generalize i - 1 = i2 at *
          go_wp2
          go_end0
          exact unhide HF
end Go.Proofs.YtcnmmghkjblemaaDoor
