/- The merge of two parts, the other of one place. -/
import Derived.Test.YtcnmmghkjblemaaDoorQsE20
namespace Go.Proofs.YtcnmmghkjblemaaDoor
open Go.RowKit

set_option maxRecDepth 20000 in
set_option maxHeartbeats 8000000 in
theorem sym_last {b B g n cap : Nat} {xv : Nat → ByteArray} {xs : List Int} {w0 w1 w : World} {l : List Nat} (h : Sr b B g n cap xv xs w0 w1 l w) (a m c : Nat) (hm : c = m + 1) (ham : a + 1 < m) (h3 : c ≤ n) (hn : n ≤ 100000) (hs : Pu.SR xs l a m) (hix : ∀ i j, a ≤ i → i < m → m ≤ j → j < c → l.getD i 0 < l.getD j 0) :
    Calls Tryd.prog 71 #[.slice (some ⟨g, 0, none⟩) n cap, .int .i64 a, .int .i64 m, .int .i64 c, .func (.func 20) #[] #[]] w (SymP b B g n cap xv xs w0 w1 l a c) := by
  have hcap := h.caps
  have hll := h.len
  have H := hide h
  have HFIN : Hid (∀ t l', a ≤ t → t ≤ m → (t = a ∨ xs.getD (l.getD (t - 1) 0) 0 ≤ xs.getD (l.getD m 0) 0) → (t = m ∨ xs.getD (l.getD m 0) 0 < xs.getD (l.getD t 0) 0) → Pu.bwd l l' m t → Pu.SR xs l' a c ∧ Pu.Org l l' a c ∧ Pu.Out l l' a c) := fun t l' k1 k2 k3 k4 k5 => Pu.bwd_done hm k1 k2 hs hix k3 k4 k5
  have hd0 : (((m : Int) - (a : Int)) == 1) = false := by simp; omega
  have hd : ((c : Int) - (m : Int)) = 1 := by omega
  have hd1 : (((c : Int) - (m : Int)) == 1) = true := by rw [hd]; rfl
  have hmn : m < n := by omega
  clear h hs hix hd hm
  go_enter Tryd.func71, Tryd.ntmps71
  go_wp2
  go_loopw [14, 15, 16] (fun ii jj _ wr => ∃ i j : Nat, ii = .int .i64 i ∧ jj = .int .i64 j ∧ a ≤ i ∧ i ≤ j ∧ j ≤ m ∧ (i = a ∨ xs.getD (l.getD (i - 1) 0) 0 ≤ xs.getD (l.getD m 0) 0) ∧ (j = m ∨ xs.getD (l.getD m 0) 0 < xs.getD (l.getD j 0) 0) ∧ Sr b B g n cap xv xs w0 w1 l wr) (fun ii jj _ _ => (intOf jj).toNat - (intOf ii).toNat)
  case atStart => exact ⟨a, m, rfl, rfl, Nat.le_refl _, by omega, Nat.le_refl _, .inl rfl, .inl rfl, unhide H⟩
  case round =>
    clear H
    obtain ⟨i, j, rfl, rfl, hi, hij, hj, hlo, hhi, hS⟩ := hrel
    by_cases hlt : i < j
    · have hh1 : (i + j) / 2 < j := by omega
      have hh0 : i ≤ (i + j) / 2 := by omega
      have e1 := hS.cell (k := (i + j) / 2) (by omega)
      have e2 := hS.cell (k := m) (by omega)
      have HC := fun k => hide (hS.cmp (i := m) (j := (i + j) / 2) (by omega) (by omega) k)
      have HN := hide fun k => hS.drewN k
      have hcast : ((i : Int) + (j : Int)) / 2 = (((i + j) / 2 : Nat) : Int) := by omega
      clear hS
      generalize hmid : (i + j) / 2 = hq at *
      by_cases hc : xs.getD (l.getD m 0) 0 < xs.getD (l.getD hq 0) 0
      · have hcb : Pu.cmpI (xs.getD (l.getD m 0) 0) (xs.getD (l.getD hq 0) 0) < 0 := Pu.cmpI_lt.2 hc
        have HC2 := hide hc
        have HLO := hide hlo
        clear hc hlo hhi
        generalize Pu.cmpI (xs.getD (l.getD m 0) 0) (xs.getD (l.getD hq 0) 0) = cr at *
        generalize hp1 : l.getD hq 0 = p at *
        generalize hp2 : l.getD m 0 = q at *
        have HP1 := hide hp1
        have HP2 := hide hp2
        clear hp1 hp2
        go_wp2
        go_quiet (first | (go_at_call 20; exact Calls.quiet_of (unhide (HC _))))
        have HNq := hide (unhide HN nq)
        clear e1 e2 HN HC
        generalize wr.drewN nq = wd at *
        go_wp2
        go_roundw
        case rel => exact ⟨i, hq, rfl, rfl, hi, hh0, by omega, unhide HLO, .inr (by rw [unhide HP1]; exact unhide HC2), unhide HNq⟩
        case measure => simp [intOf]; omega
      · have hcb : ¬ Pu.cmpI (xs.getD (l.getD m 0) 0) (xs.getD (l.getD hq 0) 0) < 0 := fun hh => hc (Pu.cmpI_lt.1 hh)
        have hcc : xs.getD (l.getD hq 0) 0 ≤ xs.getD (l.getD m 0) 0 := by omega
        have HC2 := hide hcc
        clear hcc
        have HHI := hide hhi
        clear hc hlo hhi
        generalize Pu.cmpI (xs.getD (l.getD m 0) 0) (xs.getD (l.getD hq 0) 0) = cr at *
        generalize hp1 : l.getD hq 0 = p at *
        generalize hp2 : l.getD m 0 = q at *
        have HP1 := hide hp1
        have HP2 := hide hp2
        clear hp1 hp2
        have hcb2 : (decide (cr < 0)) = false := decide_eq_false hcb
        go_wp2
        go_quiet (first | (go_at_call 20; exact Calls.quiet_of (unhide (HC _))))
        have HNq := hide (unhide HN nq)
        clear e1 e2 HN HC
        generalize wr.drewN nq = wd at *
        go_wp2
        go_roundw
        case rel => exact ⟨hq + 1, j, by go_num, rfl, by omega, by omega, hj, .inr (by rw [show hq + 1 - 1 = hq by omega, unhide HP1]; exact unhide HC2), unhide HHI, unhide HNq⟩
        case measure => simp [intOf]; omega
    · have hij2 : i = j := by omega
      subst hij2
      have HE := hide (fun l' hf => unhide HFIN i l' hi hj hlo hhi hf)
      have HS := hide hS
      clear hlo hhi hS HFIN
      go_wp2
      go_loopw [17] (fun kk wr => ∃ (k : Nat) (l' : List Nat), kk = .int .i64 k ∧ i ≤ k ∧ k ≤ m ∧ Sr b B g n cap xv xs w0 w1 l' wr ∧ l'.Perm l ∧ Pu.bwd l l' m k) (fun kk _ => (intOf kk).toNat)
      case atStart => exact ⟨m, l, rfl, hj, Nat.le_refl _, unhide HS, List.Perm.refl _, Pu.bwd_refl l m⟩
      case round =>
        clear HS
        obtain ⟨k, l', rfl, hik, hkm, hS, hp, hf⟩ := hrel
        have hl2 := hS.len
        by_cases hkl : i < k
        · have e1 := hS.cell (k := k) (by omega)
          have e2 := hS.cell (k := k - 1) (by omega)
          have e3 := hS.frozen k
          have e4 := hS.frozen (k - 1)
          have HN := hide (hS.swap (i := k) (j := k - 1) (by omega) (by omega))
          have HP := hide ((Pu.swapL_perm (l := l') (i := k) (j := k - 1) (by omega) (by omega)).trans hp)
          have HF := hide (Pu.bwd_step hf (by omega) hkm (by omega))
          have hne : ¬ (k = k - 1) := by omega
          have hz1 : ((k : Int) - 1).toNat = k - 1 := by omega
          have hz2 : (k : Int) - 1 = ((k - 1 : Nat) : Int) := by omega
          clear hS hp hf
          generalize Pu.swapL l' k (k - 1) = l2 at *
          generalize l'.getD k 0 = p at *
          generalize l'.getD (k - 1) 0 = q at *
          go_wp2
          go_region
          go_wp2
          go_roundw
          case rel => exact ⟨k - 1, l2, by first | rfl | (rw [hz2]) | go_num, by omega, by omega, unhide HN, unhide HP, unhide HF⟩
          case measure => simp [intOf]; omega
        · have hke : k = i := by omega
          subst hke
          have HF : Hid (SymP b B g n cap xv xs w0 w1 l a c (.returned (.tuple #[])) wr) := by
            obtain ⟨k1, k2, k3⟩ := unhide HE l' hf
            exact ⟨rfl, l', hS, hp, k1, k2, k3⟩
          clear hS hp hf HE
          go_wp2
          go_end0
          exact unhide HF
end Go.Proofs.YtcnmmghkjblemaaDoor
