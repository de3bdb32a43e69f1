/- The merge of two parts. (By program: genpsh11.py.) -/
import Derived.Test.YtcnmmghkjblemaaDoorQsG20
namespace Go.Proofs.YtcnmmghkjblemaaDoor
open Go.RowKit

namespace Pu
theorem SR_out {xs : List Int} {l1 l2 : List Nat} {a mid p q : Nat} (u : Out l1 l2 a mid) (h : mid ≤ p) (k : SR xs l1 p q) : SR xs l2 p q := fun i j h1 h2 h3 => by
  rw [u i (by omega), u j (by omega)]; exact k _ _ h1 h2 h3
theorem ix_out {l1 l2 : List Nat} {a mid E c : Nat} (u : Out l1 l2 a mid) (k : ∀ i j, mid ≤ i → i < E → E ≤ j → j < c → l1.getD i 0 < l1.getD j 0) : ∀ i j, mid ≤ i → i < E → E ≤ j → j < c → l2.getD i 0 < l2.getD j 0 := fun i j h1 h2 h3 h4 => by
  rw [u i (by omega), u j (by omega)]; exact k _ _ h1 h2 h3 h4
end Pu

/-- What a merge tells, of parts that are shorter than d. -/
def SymC (b B g n cap : Nat) (xv : Nat → ByteArray) (xs : List Int) (w0 w1 : World) (d : Nat) : Prop := ∀ (a m c : Nat) (l : List Nat) (w : World), c - a < d → Sr b B g n cap xv xs w0 w1 l w → a < m → m < c → c ≤ n → Pu.SR xs l a m → Pu.SR xs l m c → (∀ i j, a ≤ i → i < m → m ≤ j → j < c → l.getD i 0 < l.getD j 0) →
  Calls Tryd.prog 71 #[.slice (some ⟨g, 0, none⟩) n cap, .int .i64 a, .int .i64 m, .int .i64 c, .func (.func 20) #[] #[]] w (SymP b B g n cap xv xs w0 w1 l a c)

set_option maxRecDepth 20000 in
set_option maxHeartbeats 20000000 in
theorem sym_gen {b B g n cap : Nat} {xv : Nat → ByteArray} {xs : List Int} {w0 w1 w : World} {l : List Nat} (h : Sr b B g n cap xv xs w0 w1 l w) (a m c : Nat) (ham : a + 1 < m) (hmc : m + 1 < c) (h3 : c ≤ n) (hn : n ≤ 100000) (hsA : Pu.SR xs l a m) (hsB : Pu.SR xs l m c) (hix : ∀ i j, a ≤ i → i < m → m ≤ j → j < c → l.getD i 0 < l.getD j 0)
    (HIH : SymC b B g n cap xv xs w0 w1 (c - a)) :
    Calls Tryd.prog 71 #[.slice (some ⟨g, 0, none⟩) n cap, .int .i64 a, .int .i64 m, .int .i64 c, .func (.func 20) #[] #[]] w (SymP b B g n cap xv xs w0 w1 l a c) := by
  have hcap := h.caps
  have hll := h.len
  have H := hide h
  obtain ⟨mid, hmid⟩ : ∃ mid, mid = (a + c) / 2 := ⟨_, rfl⟩
  have hm1 : a < mid := by omega
  have hm2 : mid < c := by omega
  have hm3 : 2 * mid ≤ a + c := by omega
  have hm4 : a + c ≤ 2 * mid + 1 := by omega
  have hcast : ((a : Int) + (c : Int)) / 2 = (mid : Int) := by omega
  have HMID : Hid (∀ t E l1, a ≤ t → t ≤ m → m ≤ E → E ≤ c → t + (E - m) = mid → mid + (m - t) = E → (a < t → E < c → xs.getD (l.getD (t - 1) 0) 0 ≤ xs.getD (l.getD E 0) 0) → (t < m → m < E → xs.getD (l.getD (E - 1) 0) 0 < xs.getD (l.getD t 0) 0) → (∀ k, l1.getD k 0 = rotAt l t m E k) → Pu.Mid xs l l1 a m c mid t E) :=
    fun t E l1 k1 k2 k3 k4 k5 k6 k7 k8 k9 => ⟨hsA, hsB, hix, k1, k2, k3, k4, k5, k6, k7, k8, k9⟩
  have HREC := hide HIH
  have hd0 : (((m : Int) - (a : Int)) == 1) = false := by simp; omega
  have hd1 : (((c : Int) - (m : Int)) == 1) = false := by simp; omega
  clear h hsA hsB hix HIH hmid
  by_cases hside : mid < m
  · have hLO1 : a ≤ (mid + m - c) := by omega
    have hLO2 : (mid + m - c) ≤ mid := by omega
    have hHI : mid ≤ m := by omega
    have hci : (mid : Int) + (m : Int) - (c : Int) = ((mid + m - c : Nat) : Int) := by omega
    go_enter Tryd.func71, Tryd.ntmps71
    go_wp2
    go_loopw [20, 21, 23] (fun ss rr _ wr => ∃ s r : Nat, ss = .int .i64 s ∧ rr = .int .i64 r ∧ (mid + m - c) ≤ s ∧ s ≤ r ∧ r ≤ mid ∧ (s = (mid + m - c) ∨ xs.getD (l.getD (s - 1) 0) 0 ≤ xs.getD (l.getD (mid + m - s) 0) 0) ∧ (r = mid ∨ xs.getD (l.getD (mid + m - 1 - r) 0) 0 < xs.getD (l.getD r 0) 0) ∧ Sr b B g n cap xv xs w0 w1 l wr) (fun ss rr _ _ => (intOf rr).toNat - (intOf ss).toNat)
    case atStart => exact ⟨(mid + m - c), mid, by first | rfl | rw [hci], rfl, Nat.le_refl _, hLO2, Nat.le_refl _, .inl rfl, .inl rfl, unhide H⟩
    case round =>
      clear H
      obtain ⟨s, r, rfl, rfl, hs1, hs2, hs3, hlo, hhi, hS⟩ := hrel
      by_cases hlt : s < r
      · have hh1 : (s + r) / 2 < r := by omega
        have hh0 : s ≤ (s + r) / 2 := by omega
        have hcq : ((s : Int) + (r : Int)) / 2 = (((s + r) / 2 : Nat) : Int) := by omega
        generalize hqq : (s + r) / 2 = hq at *
        clear hqq
        have hpn : mid + m - 1 - hq < n := by omega
        have e1 := hS.cell (k := mid + m - 1 - hq) hpn
        have e2 := hS.cell (k := hq) (by omega)
        have HC := fun k => hide (hS.cmp (i := mid + m - 1 - hq) (j := hq) hpn (by omega) k)
        have HN := hide fun k => hS.drewN k
        have hpc : ((mid : Int) + (m : Int) - 1 - (hq : Int)) = ((mid + m - 1 - hq : Nat) : Int) := by omega
        clear hS
        by_cases hc : xs.getD (l.getD (mid + m - 1 - hq) 0) 0 < xs.getD (l.getD hq 0) 0
        · have hcb : Pu.cmpI (xs.getD (l.getD (mid + m - 1 - hq) 0) 0) (xs.getD (l.getD hq 0) 0) < 0 := Pu.cmpI_lt.2 hc
          have HC2 := hide hc
          have HLO := hide hlo
          clear hc hlo hhi
          generalize Pu.cmpI (xs.getD (l.getD (mid + m - 1 - hq) 0) 0) (xs.getD (l.getD hq 0) 0) = cr at *
          generalize hp1 : l.getD hq 0 = p at *
          generalize hp2 : l.getD (mid + m - 1 - hq) 0 = q at *
          have HP1 := hide hp1
          have HP2 := hide hp2
          clear hp1 hp2
          generalize hpx : mid + m - 1 - hq = px at *
          have HPX := hide hpx
          clear hpx
          go_wp2
          go_quiet (first | (go_at_call 20; exact Calls.quiet_of (unhide (HC _))))
          have HNq := hide (unhide HN nq)
          clear e1 e2 HN HC
          generalize wr.drewN nq = wd at *
          go_wp2
          go_roundw
          case rel => exact ⟨s, hq, rfl, rfl, hs1, hh0, by omega, unhide HLO, .inr (by rw [unhide HPX, unhide HP1, unhide HP2]; exact unhide HC2), unhide HNq⟩
          case measure => simp [intOf]; omega
        · have hcb : ¬ Pu.cmpI (xs.getD (l.getD (mid + m - 1 - hq) 0) 0) (xs.getD (l.getD hq 0) 0) < 0 := fun hh => hc (Pu.cmpI_lt.1 hh)
          have hcc : xs.getD (l.getD hq 0) 0 ≤ xs.getD (l.getD (mid + m - 1 - hq) 0) 0 := by omega
          have HC2 := hide hcc
          have HHI := hide hhi
          clear hc hcc hlo hhi
          generalize Pu.cmpI (xs.getD (l.getD (mid + m - 1 - hq) 0) 0) (xs.getD (l.getD hq 0) 0) = cr at *
          generalize hp1 : l.getD hq 0 = p at *
          generalize hp2 : l.getD (mid + m - 1 - hq) 0 = q at *
          have HP1 := hide hp1
          have HP2 := hide hp2
          clear hp1 hp2
          have HPX : Hid (mid + m - (hq + 1) = mid + m - 1 - hq) := by show _ = _; omega
          generalize mid + m - 1 - hq = px at *
          have hcb2 : (decide (cr < 0)) = false := decide_eq_false hcb
          go_wp2
          go_quiet (first | (go_at_call 20; exact Calls.quiet_of (unhide (HC _))))
          have HNq := hide (unhide HN nq)
          clear e1 e2 HN HC
          generalize wr.drewN nq = wd at *
          go_wp2
          go_roundw
          case rel => exact ⟨hq + 1, r, by go_num, rfl, by omega, by omega, hs3, .inr (by rw [show hq + 1 - 1 = hq by omega, unhide HP1, unhide HPX, unhide HP2]; exact unhide HC2), unhide HHI, unhide HNq⟩
          case measure => simp [intOf]; omega
      · have hsr : s = r := by omega
        subst hsr
        obtain ⟨E, hE⟩ : ∃ E, E = mid + m - s := ⟨_, rfl⟩
        have hmE : m ≤ E := by omega
        have hEc : E ≤ c := by omega
        have hE1 : s + (E - m) = mid := by omega
        have hE2 : mid + (m - s) = E := by omega
        have hEi : (mid : Int) + (m : Int) - (s : Int) = (E : Int) := by omega
        have HX : Hid (∀ l1, (∀ k, l1.getD k 0 = rotAt l s m E k) → Pu.Mid xs l l1 a m c mid s E) := fun l1 hrot => unhide HMID s E l1 (by omega) (by omega) hmE hEc hE1 hE2
          (fun k1 k2 => by rcases hlo with hlo | hlo
                           · omega
                           · rw [hE]; exact hlo)
          (fun k1 k2 => by rcases hhi with hhi | hhi
                           · omega
                           · rw [show E - 1 = mid + m - 1 - s by omega]; exact hhi) hrot
        have HROT : Hid (s < m → m < E → Calls Tryd.prog 76 #[.slice (some ⟨g, 0, none⟩) n cap, .int .i64 s, .int .i64 m, .int .i64 E, .func (.func 20) #[] #[]] wr (RotP b B g n cap xv xs w0 w1 l s m E)) := fun k1 k2 => rotate_any hS s m E _ k1 k2 (by omega) hn
        have HS := hide hS
        have HU : Hid (a ≤ s ∧ s ≤ m) := ⟨by omega, by omega⟩
        clear hlo hhi hS HMID hE
        by_cases hp : s < m
        · have hp2 : mid < E := by omega
          by_cases hq : m < E
          · have hq2 : s < mid := by omega
            by_cases hr : a < s
            · by_cases ht : E < c
              · have HC := hide ((unhide HROT) hp hq)
                go_wp2_with (go_at_call 76; refine (unhide HC).mono ?_; rintro e wq ⟨rfl, l1, hv1, hv2, hv3⟩; have HS1 := hide hv1; have HP1 := hide hv2; have HR1 := hide hv3; clear hv1 hv2 hv3 HC HROT HS)
                have HM := hide (unhide HX l1 (unhide HR1))
                clear HX HR1
                have HC := hide (unhide HREC a s mid l1 _ (by omega) (unhide HS1) hr hq2 (by omega) (unhide HM).s1 (unhide HM).s2 (unhide HM).i1)
                go_wp2_with (go_at_call 71; refine (unhide HC).mono ?_; rintro e wq2 ⟨rfl, l2, hv1, hv2, hv3, hv4, hv5⟩; have HS2 := hide hv1; have HP2 := hide (hv2.trans (unhide HP1)); have HT2 := hide (And.intro hv3 (And.intro hv4 hv5)); clear hv1 hv2 hv3 hv4 hv5 HC HS1 HP1)
                have HC := hide (unhide HREC mid E c l2 _ (by omega) (unhide HS2) hp2 ht (by omega) (Pu.SR_out (unhide HT2).2.2 (Nat.le_refl _) (unhide HM).s3) (Pu.SR_out (unhide HT2).2.2 (by omega) (unhide HM).s4) (Pu.ix_out (unhide HT2).2.2 (unhide HM).i2))
                go_wp2_with (go_at_call 71; refine (unhide HC).mono ?_; rintro e wq3 ⟨rfl, l3, hv1, hv2, hv3, hv4, hv5⟩; have HS3 := hide hv1; have HP3 := hide (hv2.trans (unhide HP2)); have HT3 := hide ((unhide HM).done (unhide HT2).1 (unhide HT2).2.1 (unhide HT2).2.2 hv3 hv4 hv5); clear hv1 hv2 hv3 hv4 hv5 HC HS2 HP2 HT2 HM)
                go_end0
                exact ⟨rfl, l3, unhide HS3, unhide HP3, unhide HT3⟩
              · have HC := hide ((unhide HROT) hp hq)
                go_wp2_with (go_at_call 76; refine (unhide HC).mono ?_; rintro e wq ⟨rfl, l1, hv1, hv2, hv3⟩; have HS1 := hide hv1; have HP1 := hide hv2; have HR1 := hide hv3; clear hv1 hv2 hv3 HC HROT HS)
                have HM := hide (unhide HX l1 (unhide HR1))
                clear HX HR1
                have HC := hide (unhide HREC a s mid l1 _ (by omega) (unhide HS1) hr hq2 (by omega) (unhide HM).s1 (unhide HM).s2 (unhide HM).i1)
                go_wp2_with (go_at_call 71; refine (unhide HC).mono ?_; rintro e wq2 ⟨rfl, l2, hv1, hv2, hv3, hv4, hv5⟩; have HS2 := hide hv1; have HP2 := hide (hv2.trans (unhide HP1)); have HT2 := hide (And.intro hv3 (And.intro hv4 hv5)); clear hv1 hv2 hv3 hv4 hv5 HC HS1 HP1)
                have HT3 := hide ((unhide HM).done (unhide HT2).1 (unhide HT2).2.1 (unhide HT2).2.2 (Pu.SR_out (unhide HT2).2.2 (Nat.le_refl _) (Pu.SR_empty (unhide HM).s3 (unhide HM).s4 (by omega) (by omega))) (Pu.Org.refl _ _ _) (Pu.Out.refl _ _ _))
                clear HM HT2
                go_wp2
                go_end0
                exact ⟨rfl, l2, unhide HS2, unhide HP2, unhide HT3⟩
            · by_cases ht : E < c
              · have HC := hide ((unhide HROT) hp hq)
                go_wp2_with (go_at_call 76; refine (unhide HC).mono ?_; rintro e wq ⟨rfl, l1, hv1, hv2, hv3⟩; have HS1 := hide hv1; have HP1 := hide hv2; have HR1 := hide hv3; clear hv1 hv2 hv3 HC HROT HS)
                have HM := hide (unhide HX l1 (unhide HR1))
                clear HX HR1
                obtain ⟨l2, hl2⟩ : ∃ l2, l2 = l1 := ⟨l1, rfl⟩
                have HS2 : Hid (Sr b B g n cap xv xs w0 w1 l2 wq) := by rw [hl2]; exact unhide HS1
                have HP2 : Hid (l2.Perm l) := by rw [hl2]; exact unhide HP1
                have HT2 : Hid (Pu.SR xs l2 a mid ∧ Pu.Org l1 l2 a mid ∧ Pu.Out l1 l2 a mid) := by rw [hl2]; exact ⟨Pu.SR_empty (unhide HM).s1 (unhide HM).s2 (by omega) ⟨(unhide HU).1, by omega⟩, Pu.Org.refl _ _ _, Pu.Out.refl _ _ _⟩
                clear hl2 HS1 HP1
                have HC := hide (unhide HREC mid E c l2 _ (by omega) (unhide HS2) hp2 ht (by omega) (Pu.SR_out (unhide HT2).2.2 (Nat.le_refl _) (unhide HM).s3) (Pu.SR_out (unhide HT2).2.2 (by omega) (unhide HM).s4) (Pu.ix_out (unhide HT2).2.2 (unhide HM).i2))
                go_wp2_with (go_at_call 71; refine (unhide HC).mono ?_; rintro e wq3 ⟨rfl, l3, hv1, hv2, hv3, hv4, hv5⟩; have HS3 := hide hv1; have HP3 := hide (hv2.trans (unhide HP2)); have HT3 := hide ((unhide HM).done (unhide HT2).1 (unhide HT2).2.1 (unhide HT2).2.2 hv3 hv4 hv5); clear hv1 hv2 hv3 hv4 hv5 HC HS2 HP2 HT2 HM)
                go_end0
                exact ⟨rfl, l3, unhide HS3, unhide HP3, unhide HT3⟩
              · have HC := hide ((unhide HROT) hp hq)
                go_wp2_with (go_at_call 76; refine (unhide HC).mono ?_; rintro e wq ⟨rfl, l1, hv1, hv2, hv3⟩; have HS1 := hide hv1; have HP1 := hide hv2; have HR1 := hide hv3; clear hv1 hv2 hv3 HC HROT HS)
                have HM := hide (unhide HX l1 (unhide HR1))
                clear HX HR1
                obtain ⟨l2, hl2⟩ : ∃ l2, l2 = l1 := ⟨l1, rfl⟩
                have HS2 : Hid (Sr b B g n cap xv xs w0 w1 l2 wq) := by rw [hl2]; exact unhide HS1
                have HP2 : Hid (l2.Perm l) := by rw [hl2]; exact unhide HP1
                have HT2 : Hid (Pu.SR xs l2 a mid ∧ Pu.Org l1 l2 a mid ∧ Pu.Out l1 l2 a mid) := by rw [hl2]; exact ⟨Pu.SR_empty (unhide HM).s1 (unhide HM).s2 (by omega) ⟨(unhide HU).1, by omega⟩, Pu.Org.refl _ _ _, Pu.Out.refl _ _ _⟩
                clear hl2 HS1 HP1
                have HT3 := hide ((unhide HM).done (unhide HT2).1 (unhide HT2).2.1 (unhide HT2).2.2 (Pu.SR_out (unhide HT2).2.2 (Nat.le_refl _) (Pu.SR_empty (unhide HM).s3 (unhide HM).s4 (by omega) (by omega))) (Pu.Org.refl _ _ _) (Pu.Out.refl _ _ _))
                clear HM HT2
                go_wp2
                go_end0
                exact ⟨rfl, l2, unhide HS2, unhide HP2, unhide HT3⟩
          · have hq2 : ¬ s < mid := by omega
            by_cases hr : a < s
            · by_cases ht : E < c
              · obtain ⟨l1, hl1⟩ : ∃ l1, l1 = l := ⟨l, rfl⟩
                have HS1 : Hid (Sr b B g n cap xv xs w0 w1 l1 wr) := by rw [hl1]; exact unhide HS
                have HP1 : Hid (l1.Perm l) := by rw [hl1]; exact List.Perm.refl _
                have HR1 : Hid (∀ k, l1.getD k 0 = rotAt l s m E k) := by rw [hl1]; exact Pu.rot_id (by omega)
                clear hl1 HS HROT
                have HM := hide (unhide HX l1 (unhide HR1))
                clear HX HR1
                obtain ⟨l2, hl2⟩ : ∃ l2, l2 = l1 := ⟨l1, rfl⟩
                have HS2 : Hid (Sr b B g n cap xv xs w0 w1 l2 wr) := by rw [hl2]; exact unhide HS1
                have HP2 : Hid (l2.Perm l) := by rw [hl2]; exact unhide HP1
                have HT2 : Hid (Pu.SR xs l2 a mid ∧ Pu.Org l1 l2 a mid ∧ Pu.Out l1 l2 a mid) := by rw [hl2]; exact ⟨Pu.SR_empty (unhide HM).s1 (unhide HM).s2 (by omega) ⟨(unhide HU).1, by omega⟩, Pu.Org.refl _ _ _, Pu.Out.refl _ _ _⟩
                clear hl2 HS1 HP1
                have HC := hide (unhide HREC mid E c l2 _ (by omega) (unhide HS2) hp2 ht (by omega) (Pu.SR_out (unhide HT2).2.2 (Nat.le_refl _) (unhide HM).s3) (Pu.SR_out (unhide HT2).2.2 (by omega) (unhide HM).s4) (Pu.ix_out (unhide HT2).2.2 (unhide HM).i2))
                go_wp2_with (go_at_call 71; refine (unhide HC).mono ?_; rintro e wq3 ⟨rfl, l3, hv1, hv2, hv3, hv4, hv5⟩; have HS3 := hide hv1; have HP3 := hide (hv2.trans (unhide HP2)); have HT3 := hide ((unhide HM).done (unhide HT2).1 (unhide HT2).2.1 (unhide HT2).2.2 hv3 hv4 hv5); clear hv1 hv2 hv3 hv4 hv5 HC HS2 HP2 HT2 HM)
                go_end0
                exact ⟨rfl, l3, unhide HS3, unhide HP3, unhide HT3⟩
              · obtain ⟨l1, hl1⟩ : ∃ l1, l1 = l := ⟨l, rfl⟩
                have HS1 : Hid (Sr b B g n cap xv xs w0 w1 l1 wr) := by rw [hl1]; exact unhide HS
                have HP1 : Hid (l1.Perm l) := by rw [hl1]; exact List.Perm.refl _
                have HR1 : Hid (∀ k, l1.getD k 0 = rotAt l s m E k) := by rw [hl1]; exact Pu.rot_id (by omega)
                clear hl1 HS HROT
                have HM := hide (unhide HX l1 (unhide HR1))
                clear HX HR1
                obtain ⟨l2, hl2⟩ : ∃ l2, l2 = l1 := ⟨l1, rfl⟩
                have HS2 : Hid (Sr b B g n cap xv xs w0 w1 l2 wr) := by rw [hl2]; exact unhide HS1
                have HP2 : Hid (l2.Perm l) := by rw [hl2]; exact unhide HP1
                have HT2 : Hid (Pu.SR xs l2 a mid ∧ Pu.Org l1 l2 a mid ∧ Pu.Out l1 l2 a mid) := by rw [hl2]; exact ⟨Pu.SR_empty (unhide HM).s1 (unhide HM).s2 (by omega) ⟨(unhide HU).1, by omega⟩, Pu.Org.refl _ _ _, Pu.Out.refl _ _ _⟩
                clear hl2 HS1 HP1
                have HT3 := hide ((unhide HM).done (unhide HT2).1 (unhide HT2).2.1 (unhide HT2).2.2 (Pu.SR_out (unhide HT2).2.2 (Nat.le_refl _) (Pu.SR_empty (unhide HM).s3 (unhide HM).s4 (by omega) (by omega))) (Pu.Org.refl _ _ _) (Pu.Out.refl _ _ _))
                clear HM HT2
                go_wp2
                go_end0
                exact ⟨rfl, l2, unhide HS2, unhide HP2, unhide HT3⟩
            · by_cases ht : E < c
              · obtain ⟨l1, hl1⟩ : ∃ l1, l1 = l := ⟨l, rfl⟩
                have HS1 : Hid (Sr b B g n cap xv xs w0 w1 l1 wr) := by rw [hl1]; exact unhide HS
                have HP1 : Hid (l1.Perm l) := by rw [hl1]; exact List.Perm.refl _
                have HR1 : Hid (∀ k, l1.getD k 0 = rotAt l s m E k) := by rw [hl1]; exact Pu.rot_id (by omega)
                clear hl1 HS HROT
                have HM := hide (unhide HX l1 (unhide HR1))
                clear HX HR1
                obtain ⟨l2, hl2⟩ : ∃ l2, l2 = l1 := ⟨l1, rfl⟩
                have HS2 : Hid (Sr b B g n cap xv xs w0 w1 l2 wr) := by rw [hl2]; exact unhide HS1
                have HP2 : Hid (l2.Perm l) := by rw [hl2]; exact unhide HP1
                have HT2 : Hid (Pu.SR xs l2 a mid ∧ Pu.Org l1 l2 a mid ∧ Pu.Out l1 l2 a mid) := by rw [hl2]; exact ⟨Pu.SR_empty (unhide HM).s1 (unhide HM).s2 (by omega) ⟨(unhide HU).1, by omega⟩, Pu.Org.refl _ _ _, Pu.Out.refl _ _ _⟩
                clear hl2 HS1 HP1
                have HC := hide (unhide HREC mid E c l2 _ (by omega) (unhide HS2) hp2 ht (by omega) (Pu.SR_out (unhide HT2).2.2 (Nat.le_refl _) (unhide HM).s3) (Pu.SR_out (unhide HT2).2.2 (by omega) (unhide HM).s4) (Pu.ix_out (unhide HT2).2.2 (unhide HM).i2))
                go_wp2_with (go_at_call 71; refine (unhide HC).mono ?_; rintro e wq3 ⟨rfl, l3, hv1, hv2, hv3, hv4, hv5⟩; have HS3 := hide hv1; have HP3 := hide (hv2.trans (unhide HP2)); have HT3 := hide ((unhide HM).done (unhide HT2).1 (unhide HT2).2.1 (unhide HT2).2.2 hv3 hv4 hv5); clear hv1 hv2 hv3 hv4 hv5 HC HS2 HP2 HT2 HM)
                go_end0
                exact ⟨rfl, l3, unhide HS3, unhide HP3, unhide HT3⟩
              · obtain ⟨l1, hl1⟩ : ∃ l1, l1 = l := ⟨l, rfl⟩
                have HS1 : Hid (Sr b B g n cap xv xs w0 w1 l1 wr) := by rw [hl1]; exact unhide HS
                have HP1 : Hid (l1.Perm l) := by rw [hl1]; exact List.Perm.refl _
                have HR1 : Hid (∀ k, l1.getD k 0 = rotAt l s m E k) := by rw [hl1]; exact Pu.rot_id (by omega)
                clear hl1 HS HROT
                have HM := hide (unhide HX l1 (unhide HR1))
                clear HX HR1
                obtain ⟨l2, hl2⟩ : ∃ l2, l2 = l1 := ⟨l1, rfl⟩
                have HS2 : Hid (Sr b B g n cap xv xs w0 w1 l2 wr) := by rw [hl2]; exact unhide HS1
                have HP2 : Hid (l2.Perm l) := by rw [hl2]; exact unhide HP1
                have HT2 : Hid (Pu.SR xs l2 a mid ∧ Pu.Org l1 l2 a mid ∧ Pu.Out l1 l2 a mid) := by rw [hl2]; exact ⟨Pu.SR_empty (unhide HM).s1 (unhide HM).s2 (by omega) ⟨(unhide HU).1, by omega⟩, Pu.Org.refl _ _ _, Pu.Out.refl _ _ _⟩
                clear hl2 HS1 HP1
                have HT3 := hide ((unhide HM).done (unhide HT2).1 (unhide HT2).2.1 (unhide HT2).2.2 (Pu.SR_out (unhide HT2).2.2 (Nat.le_refl _) (Pu.SR_empty (unhide HM).s3 (unhide HM).s4 (by omega) (by omega))) (Pu.Org.refl _ _ _) (Pu.Out.refl _ _ _))
                clear HM HT2
                go_wp2
                go_end0
                exact ⟨rfl, l2, unhide HS2, unhide HP2, unhide HT3⟩
        · have hp2 : ¬ mid < E := by omega
          by_cases hq : m < E
          · have hq2 : s < mid := by omega
            by_cases hr : a < s
            · by_cases ht : E < c
              · obtain ⟨l1, hl1⟩ : ∃ l1, l1 = l := ⟨l, rfl⟩
                have HS1 : Hid (Sr b B g n cap xv xs w0 w1 l1 wr) := by rw [hl1]; exact unhide HS
                have HP1 : Hid (l1.Perm l) := by rw [hl1]; exact List.Perm.refl _
                have HR1 : Hid (∀ k, l1.getD k 0 = rotAt l s m E k) := by rw [hl1]; exact Pu.rot_id (by omega)
                clear hl1 HS HROT
                have HM := hide (unhide HX l1 (unhide HR1))
                clear HX HR1
                have HC := hide (unhide HREC a s mid l1 _ (by omega) (unhide HS1) hr hq2 (by omega) (unhide HM).s1 (unhide HM).s2 (unhide HM).i1)
                go_wp2_with (go_at_call 71; refine (unhide HC).mono ?_; rintro e wq2 ⟨rfl, l2, hv1, hv2, hv3, hv4, hv5⟩; have HS2 := hide hv1; have HP2 := hide (hv2.trans (unhide HP1)); have HT2 := hide (And.intro hv3 (And.intro hv4 hv5)); clear hv1 hv2 hv3 hv4 hv5 HC HS1 HP1)
                have HT3 := hide ((unhide HM).done (unhide HT2).1 (unhide HT2).2.1 (unhide HT2).2.2 (Pu.SR_out (unhide HT2).2.2 (Nat.le_refl _) (Pu.SR_empty (unhide HM).s3 (unhide HM).s4 (by omega) (by omega))) (Pu.Org.refl _ _ _) (Pu.Out.refl _ _ _))
                clear HM HT2
                go_wp2
                go_end0
                exact ⟨rfl, l2, unhide HS2, unhide HP2, unhide HT3⟩
              · obtain ⟨l1, hl1⟩ : ∃ l1, l1 = l := ⟨l, rfl⟩
                have HS1 : Hid (Sr b B g n cap xv xs w0 w1 l1 wr) := by rw [hl1]; exact unhide HS
                have HP1 : Hid (l1.Perm l) := by rw [hl1]; exact List.Perm.refl _
                have HR1 : Hid (∀ k, l1.getD k 0 = rotAt l s m E k) := by rw [hl1]; exact Pu.rot_id (by omega)
                clear hl1 HS HROT
                have HM := hide (unhide HX l1 (unhide HR1))
                clear HX HR1
                have HC := hide (unhide HREC a s mid l1 _ (by omega) (unhide HS1) hr hq2 (by omega) (unhide HM).s1 (unhide HM).s2 (unhide HM).i1)
                go_wp2_with (go_at_call 71; refine (unhide HC).mono ?_; rintro e wq2 ⟨rfl, l2, hv1, hv2, hv3, hv4, hv5⟩; have HS2 := hide hv1; have HP2 := hide (hv2.trans (unhide HP1)); have HT2 := hide (And.intro hv3 (And.intro hv4 hv5)); clear hv1 hv2 hv3 hv4 hv5 HC HS1 HP1)
                have HT3 := hide ((unhide HM).done (unhide HT2).1 (unhide HT2).2.1 (unhide HT2).2.2 (Pu.SR_out (unhide HT2).2.2 (Nat.le_refl _) (Pu.SR_empty (unhide HM).s3 (unhide HM).s4 (by omega) (by omega))) (Pu.Org.refl _ _ _) (Pu.Out.refl _ _ _))
                clear HM HT2
                go_wp2
                go_end0
                exact ⟨rfl, l2, unhide HS2, unhide HP2, unhide HT3⟩
            · by_cases ht : E < c
              · obtain ⟨l1, hl1⟩ : ∃ l1, l1 = l := ⟨l, rfl⟩
                have HS1 : Hid (Sr b B g n cap xv xs w0 w1 l1 wr) := by rw [hl1]; exact unhide HS
                have HP1 : Hid (l1.Perm l) := by rw [hl1]; exact List.Perm.refl _
                have HR1 : Hid (∀ k, l1.getD k 0 = rotAt l s m E k) := by rw [hl1]; exact Pu.rot_id (by omega)
                clear hl1 HS HROT
                have HM := hide (unhide HX l1 (unhide HR1))
                clear HX HR1
                obtain ⟨l2, hl2⟩ : ∃ l2, l2 = l1 := ⟨l1, rfl⟩
                have HS2 : Hid (Sr b B g n cap xv xs w0 w1 l2 wr) := by rw [hl2]; exact unhide HS1
                have HP2 : Hid (l2.Perm l) := by rw [hl2]; exact unhide HP1
                have HT2 : Hid (Pu.SR xs l2 a mid ∧ Pu.Org l1 l2 a mid ∧ Pu.Out l1 l2 a mid) := by rw [hl2]; exact ⟨Pu.SR_empty (unhide HM).s1 (unhide HM).s2 (by omega) ⟨(unhide HU).1, by omega⟩, Pu.Org.refl _ _ _, Pu.Out.refl _ _ _⟩
                clear hl2 HS1 HP1
                have HT3 := hide ((unhide HM).done (unhide HT2).1 (unhide HT2).2.1 (unhide HT2).2.2 (Pu.SR_out (unhide HT2).2.2 (Nat.le_refl _) (Pu.SR_empty (unhide HM).s3 (unhide HM).s4 (by omega) (by omega))) (Pu.Org.refl _ _ _) (Pu.Out.refl _ _ _))
                clear HM HT2
                go_wp2
                go_end0
                exact ⟨rfl, l2, unhide HS2, unhide HP2, unhide HT3⟩
              · obtain ⟨l1, hl1⟩ : ∃ l1, l1 = l := ⟨l, rfl⟩
                have HS1 : Hid (Sr b B g n cap xv xs w0 w1 l1 wr) := by rw [hl1]; exact unhide HS
                have HP1 : Hid (l1.Perm l) := by rw [hl1]; exact List.Perm.refl _
                have HR1 : Hid (∀ k, l1.getD k 0 = rotAt l s m E k) := by rw [hl1]; exact Pu.rot_id (by omega)
                clear hl1 HS HROT
                have HM := hide (unhide HX l1 (unhide HR1))
                clear HX HR1
                obtain ⟨l2, hl2⟩ : ∃ l2, l2 = l1 := ⟨l1, rfl⟩
                have HS2 : Hid (Sr b B g n cap xv xs w0 w1 l2 wr) := by rw [hl2]; exact unhide HS1
                have HP2 : Hid (l2.Perm l) := by rw [hl2]; exact unhide HP1
                have HT2 : Hid (Pu.SR xs l2 a mid ∧ Pu.Org l1 l2 a mid ∧ Pu.Out l1 l2 a mid) := by rw [hl2]; exact ⟨Pu.SR_empty (unhide HM).s1 (unhide HM).s2 (by omega) ⟨(unhide HU).1, by omega⟩, Pu.Org.refl _ _ _, Pu.Out.refl _ _ _⟩
                clear hl2 HS1 HP1
                have HT3 := hide ((unhide HM).done (unhide HT2).1 (unhide HT2).2.1 (unhide HT2).2.2 (Pu.SR_out (unhide HT2).2.2 (Nat.le_refl _) (Pu.SR_empty (unhide HM).s3 (unhide HM).s4 (by omega) (by omega))) (Pu.Org.refl _ _ _) (Pu.Out.refl _ _ _))
                clear HM HT2
                go_wp2
                go_end0
                exact ⟨rfl, l2, unhide HS2, unhide HP2, unhide HT3⟩
          · have hq2 : ¬ s < mid := by omega
            by_cases hr : a < s
            · by_cases ht : E < c
              · obtain ⟨l1, hl1⟩ : ∃ l1, l1 = l := ⟨l, rfl⟩
                have HS1 : Hid (Sr b B g n cap xv xs w0 w1 l1 wr) := by rw [hl1]; exact unhide HS
                have HP1 : Hid (l1.Perm l) := by rw [hl1]; exact List.Perm.refl _
                have HR1 : Hid (∀ k, l1.getD k 0 = rotAt l s m E k) := by rw [hl1]; exact Pu.rot_id (by omega)
                clear hl1 HS HROT
                have HM := hide (unhide HX l1 (unhide HR1))
                clear HX HR1
                obtain ⟨l2, hl2⟩ : ∃ l2, l2 = l1 := ⟨l1, rfl⟩
                have HS2 : Hid (Sr b B g n cap xv xs w0 w1 l2 wr) := by rw [hl2]; exact unhide HS1
                have HP2 : Hid (l2.Perm l) := by rw [hl2]; exact unhide HP1
                have HT2 : Hid (Pu.SR xs l2 a mid ∧ Pu.Org l1 l2 a mid ∧ Pu.Out l1 l2 a mid) := by rw [hl2]; exact ⟨Pu.SR_empty (unhide HM).s1 (unhide HM).s2 (by omega) ⟨(unhide HU).1, by omega⟩, Pu.Org.refl _ _ _, Pu.Out.refl _ _ _⟩
                clear hl2 HS1 HP1
                have HT3 := hide ((unhide HM).done (unhide HT2).1 (unhide HT2).2.1 (unhide HT2).2.2 (Pu.SR_out (unhide HT2).2.2 (Nat.le_refl _) (Pu.SR_empty (unhide HM).s3 (unhide HM).s4 (by omega) (by omega))) (Pu.Org.refl _ _ _) (Pu.Out.refl _ _ _))
                clear HM HT2
                go_wp2
                go_end0
                exact ⟨rfl, l2, unhide HS2, unhide HP2, unhide HT3⟩
              · obtain ⟨l1, hl1⟩ : ∃ l1, l1 = l := ⟨l, rfl⟩
                have HS1 : Hid (Sr b B g n cap xv xs w0 w1 l1 wr) := by rw [hl1]; exact unhide HS
                have HP1 : Hid (l1.Perm l) := by rw [hl1]; exact List.Perm.refl _
                have HR1 : Hid (∀ k, l1.getD k 0 = rotAt l s m E k) := by rw [hl1]; exact Pu.rot_id (by omega)
                clear hl1 HS HROT
                have HM := hide (unhide HX l1 (unhide HR1))
                clear HX HR1
                obtain ⟨l2, hl2⟩ : ∃ l2, l2 = l1 := ⟨l1, rfl⟩
                have HS2 : Hid (Sr b B g n cap xv xs w0 w1 l2 wr) := by rw [hl2]; exact unhide HS1
                have HP2 : Hid (l2.Perm l) := by rw [hl2]; exact unhide HP1
                have HT2 : Hid (Pu.SR xs l2 a mid ∧ Pu.Org l1 l2 a mid ∧ Pu.Out l1 l2 a mid) := by rw [hl2]; exact ⟨Pu.SR_empty (unhide HM).s1 (unhide HM).s2 (by omega) ⟨(unhide HU).1, by omega⟩, Pu.Org.refl _ _ _, Pu.Out.refl _ _ _⟩
                clear hl2 HS1 HP1
                have HT3 := hide ((unhide HM).done (unhide HT2).1 (unhide HT2).2.1 (unhide HT2).2.2 (Pu.SR_out (unhide HT2).2.2 (Nat.le_refl _) (Pu.SR_empty (unhide HM).s3 (unhide HM).s4 (by omega) (by omega))) (Pu.Org.refl _ _ _) (Pu.Out.refl _ _ _))
                clear HM HT2
                go_wp2
                go_end0
                exact ⟨rfl, l2, unhide HS2, unhide HP2, unhide HT3⟩
            · by_cases ht : E < c
              · obtain ⟨l1, hl1⟩ : ∃ l1, l1 = l := ⟨l, rfl⟩
                have HS1 : Hid (Sr b B g n cap xv xs w0 w1 l1 wr) := by rw [hl1]; exact unhide HS
                have HP1 : Hid (l1.Perm l) := by rw [hl1]; exact List.Perm.refl _
                have HR1 : Hid (∀ k, l1.getD k 0 = rotAt l s m E k) := by rw [hl1]; exact Pu.rot_id (by omega)
                clear hl1 HS HROT
                have HM := hide (unhide HX l1 (unhide HR1))
                clear HX HR1
                obtain ⟨l2, hl2⟩ : ∃ l2, l2 = l1 := ⟨l1, rfl⟩
                have HS2 : Hid (Sr b B g n cap xv xs w0 w1 l2 wr) := by rw [hl2]; exact unhide HS1
                have HP2 : Hid (l2.Perm l) := by rw [hl2]; exact unhide HP1
                have HT2 : Hid (Pu.SR xs l2 a mid ∧ Pu.Org l1 l2 a mid ∧ Pu.Out l1 l2 a mid) := by rw [hl2]; exact ⟨Pu.SR_empty (unhide HM).s1 (unhide HM).s2 (by omega) ⟨(unhide HU).1, by omega⟩, Pu.Org.refl _ _ _, Pu.Out.refl _ _ _⟩
                clear hl2 HS1 HP1
                have HT3 := hide ((unhide HM).done (unhide HT2).1 (unhide HT2).2.1 (unhide HT2).2.2 (Pu.SR_out (unhide HT2).2.2 (Nat.le_refl _) (Pu.SR_empty (unhide HM).s3 (unhide HM).s4 (by omega) (by omega))) (Pu.Org.refl _ _ _) (Pu.Out.refl _ _ _))
                clear HM HT2
                go_wp2
                go_end0
                exact ⟨rfl, l2, unhide HS2, unhide HP2, unhide HT3⟩
              · obtain ⟨l1, hl1⟩ : ∃ l1, l1 = l := ⟨l, rfl⟩
                have HS1 : Hid (Sr b B g n cap xv xs w0 w1 l1 wr) := by rw [hl1]; exact unhide HS
                have HP1 : Hid (l1.Perm l) := by rw [hl1]; exact List.Perm.refl _
                have HR1 : Hid (∀ k, l1.getD k 0 = rotAt l s m E k) := by rw [hl1]; exact Pu.rot_id (by omega)
                clear hl1 HS HROT
                have HM := hide (unhide HX l1 (unhide HR1))
                clear HX HR1
                obtain ⟨l2, hl2⟩ : ∃ l2, l2 = l1 := ⟨l1, rfl⟩
                have HS2 : Hid (Sr b B g n cap xv xs w0 w1 l2 wr) := by rw [hl2]; exact unhide HS1
                have HP2 : Hid (l2.Perm l) := by rw [hl2]; exact unhide HP1
                have HT2 : Hid (Pu.SR xs l2 a mid ∧ Pu.Org l1 l2 a mid ∧ Pu.Out l1 l2 a mid) := by rw [hl2]; exact ⟨Pu.SR_empty (unhide HM).s1 (unhide HM).s2 (by omega) ⟨(unhide HU).1, by omega⟩, Pu.Org.refl _ _ _, Pu.Out.refl _ _ _⟩
                clear hl2 HS1 HP1
                have HT3 := hide ((unhide HM).done (unhide HT2).1 (unhide HT2).2.1 (unhide HT2).2.2 (Pu.SR_out (unhide HT2).2.2 (Nat.le_refl _) (Pu.SR_empty (unhide HM).s3 (unhide HM).s4 (by omega) (by omega))) (Pu.Org.refl _ _ _) (Pu.Out.refl _ _ _))
                clear HM HT2
                go_wp2
                go_end0
                exact ⟨rfl, l2, unhide HS2, unhide HP2, unhide HT3⟩
  · have hLO1 : a ≤ a := by omega
    have hLO2 : a ≤ m := by omega
    have hHI : m ≤ m := by omega
    have hside2 : m ≤ mid := by omega
    go_enter Tryd.func71, Tryd.ntmps71
    go_wp2
    go_loopw [20, 21, 23] (fun ss rr _ wr => ∃ s r : Nat, ss = .int .i64 s ∧ rr = .int .i64 r ∧ a ≤ s ∧ s ≤ r ∧ r ≤ m ∧ (s = a ∨ xs.getD (l.getD (s - 1) 0) 0 ≤ xs.getD (l.getD (mid + m - s) 0) 0) ∧ (r = m ∨ xs.getD (l.getD (mid + m - 1 - r) 0) 0 < xs.getD (l.getD r 0) 0) ∧ Sr b B g n cap xv xs w0 w1 l wr) (fun ss rr _ _ => (intOf rr).toNat - (intOf ss).toNat)
    case atStart => exact ⟨a, m, by rfl, rfl, Nat.le_refl _, hLO2, Nat.le_refl _, .inl rfl, .inl rfl, unhide H⟩
    case round =>
      clear H
      obtain ⟨s, r, rfl, rfl, hs1, hs2, hs3, hlo, hhi, hS⟩ := hrel
      by_cases hlt : s < r
      · have hh1 : (s + r) / 2 < r := by omega
        have hh0 : s ≤ (s + r) / 2 := by omega
        have hcq : ((s : Int) + (r : Int)) / 2 = (((s + r) / 2 : Nat) : Int) := by omega
        generalize hqq : (s + r) / 2 = hq at *
        clear hqq
        have hpn : mid + m - 1 - hq < n := by omega
        have e1 := hS.cell (k := mid + m - 1 - hq) hpn
        have e2 := hS.cell (k := hq) (by omega)
        have HC := fun k => hide (hS.cmp (i := mid + m - 1 - hq) (j := hq) hpn (by omega) k)
        have HN := hide fun k => hS.drewN k
        have hpc : ((mid : Int) + (m : Int) - 1 - (hq : Int)) = ((mid + m - 1 - hq : Nat) : Int) := by omega
        clear hS
        by_cases hc : xs.getD (l.getD (mid + m - 1 - hq) 0) 0 < xs.getD (l.getD hq 0) 0
        · have hcb : Pu.cmpI (xs.getD (l.getD (mid + m - 1 - hq) 0) 0) (xs.getD (l.getD hq 0) 0) < 0 := Pu.cmpI_lt.2 hc
          have HC2 := hide hc
          have HLO := hide hlo
          clear hc hlo hhi
          generalize Pu.cmpI (xs.getD (l.getD (mid + m - 1 - hq) 0) 0) (xs.getD (l.getD hq 0) 0) = cr at *
          generalize hp1 : l.getD hq 0 = p at *
          generalize hp2 : l.getD (mid + m - 1 - hq) 0 = q at *
          have HP1 := hide hp1
          have HP2 := hide hp2
          clear hp1 hp2
          generalize hpx : mid + m - 1 - hq = px at *
          have HPX := hide hpx
          clear hpx
          go_wp2
          go_quiet (first | (go_at_call 20; exact Calls.quiet_of (unhide (HC _))))
          have HNq := hide (unhide HN nq)
          clear e1 e2 HN HC
          generalize wr.drewN nq = wd at *
          go_wp2
          go_roundw
          case rel => exact ⟨s, hq, rfl, rfl, hs1, hh0, by omega, unhide HLO, .inr (by rw [unhide HPX, unhide HP1, unhide HP2]; exact unhide HC2), unhide HNq⟩
          case measure => simp [intOf]; omega
        · have hcb : ¬ Pu.cmpI (xs.getD (l.getD (mid + m - 1 - hq) 0) 0) (xs.getD (l.getD hq 0) 0) < 0 := fun hh => hc (Pu.cmpI_lt.1 hh)
          have hcc : xs.getD (l.getD hq 0) 0 ≤ xs.getD (l.getD (mid + m - 1 - hq) 0) 0 := by omega
          have HC2 := hide hcc
          have HHI := hide hhi
          clear hc hcc hlo hhi
          generalize Pu.cmpI (xs.getD (l.getD (mid + m - 1 - hq) 0) 0) (xs.getD (l.getD hq 0) 0) = cr at *
          generalize hp1 : l.getD hq 0 = p at *
          generalize hp2 : l.getD (mid + m - 1 - hq) 0 = q at *
          have HP1 := hide hp1
          have HP2 := hide hp2
          clear hp1 hp2
          have HPX : Hid (mid + m - (hq + 1) = mid + m - 1 - hq) := by show _ = _; omega
          generalize mid + m - 1 - hq = px at *
          have hcb2 : (decide (cr < 0)) = false := decide_eq_false hcb
          go_wp2
          go_quiet (first | (go_at_call 20; exact Calls.quiet_of (unhide (HC _))))
          have HNq := hide (unhide HN nq)
          clear e1 e2 HN HC
          generalize wr.drewN nq = wd at *
          go_wp2
          go_roundw
          case rel => exact ⟨hq + 1, r, by go_num, rfl, by omega, by omega, hs3, .inr (by rw [show hq + 1 - 1 = hq by omega, unhide HP1, unhide HPX, unhide HP2]; exact unhide HC2), unhide HHI, unhide HNq⟩
          case measure => simp [intOf]; omega
      · have hsr : s = r := by omega
        subst hsr
        obtain ⟨E, hE⟩ : ∃ E, E = mid + m - s := ⟨_, rfl⟩
        have hmE : m ≤ E := by omega
        have hEc : E ≤ c := by omega
        have hE1 : s + (E - m) = mid := by omega
        have hE2 : mid + (m - s) = E := by omega
        have hEi : (mid : Int) + (m : Int) - (s : Int) = (E : Int) := by omega
        have HX : Hid (∀ l1, (∀ k, l1.getD k 0 = rotAt l s m E k) → Pu.Mid xs l l1 a m c mid s E) := fun l1 hrot => unhide HMID s E l1 (by omega) (by omega) hmE hEc hE1 hE2
          (fun k1 k2 => by rcases hlo with hlo | hlo
                           · omega
                           · rw [hE]; exact hlo)
          (fun k1 k2 => by rcases hhi with hhi | hhi
                           · omega
                           · rw [show E - 1 = mid + m - 1 - s by omega]; exact hhi) hrot
        have HROT : Hid (s < m → m < E → Calls Tryd.prog 76 #[.slice (some ⟨g, 0, none⟩) n cap, .int .i64 s, .int .i64 m, .int .i64 E, .func (.func 20) #[] #[]] wr (RotP b B g n cap xv xs w0 w1 l s m E)) := fun k1 k2 => rotate_any hS s m E _ k1 k2 (by omega) hn
        have HS := hide hS
        have HU : Hid (a ≤ s ∧ s ≤ m) := ⟨by omega, by omega⟩
        clear hlo hhi hS HMID hE
        by_cases hp : s < m
        · have hp2 : mid < E := by omega
          by_cases hq : m < E
          · have hq2 : s < mid := by omega
            by_cases hr : a < s
            · by_cases ht : E < c
              · have HC := hide ((unhide HROT) hp hq)
                go_wp2_with (go_at_call 76; refine (unhide HC).mono ?_; rintro e wq ⟨rfl, l1, hv1, hv2, hv3⟩; have HS1 := hide hv1; have HP1 := hide hv2; have HR1 := hide hv3; clear hv1 hv2 hv3 HC HROT HS)
                have HM := hide (unhide HX l1 (unhide HR1))
                clear HX HR1
                have HC := hide (unhide HREC a s mid l1 _ (by omega) (unhide HS1) hr hq2 (by omega) (unhide HM).s1 (unhide HM).s2 (unhide HM).i1)
                go_wp2_with (go_at_call 71; refine (unhide HC).mono ?_; rintro e wq2 ⟨rfl, l2, hv1, hv2, hv3, hv4, hv5⟩; have HS2 := hide hv1; have HP2 := hide (hv2.trans (unhide HP1)); have HT2 := hide (And.intro hv3 (And.intro hv4 hv5)); clear hv1 hv2 hv3 hv4 hv5 HC HS1 HP1)
                have HC := hide (unhide HREC mid E c l2 _ (by omega) (unhide HS2) hp2 ht (by omega) (Pu.SR_out (unhide HT2).2.2 (Nat.le_refl _) (unhide HM).s3) (Pu.SR_out (unhide HT2).2.2 (by omega) (unhide HM).s4) (Pu.ix_out (unhide HT2).2.2 (unhide HM).i2))
                go_wp2_with (go_at_call 71; refine (unhide HC).mono ?_; rintro e wq3 ⟨rfl, l3, hv1, hv2, hv3, hv4, hv5⟩; have HS3 := hide hv1; have HP3 := hide (hv2.trans (unhide HP2)); have HT3 := hide ((unhide HM).done (unhide HT2).1 (unhide HT2).2.1 (unhide HT2).2.2 hv3 hv4 hv5); clear hv1 hv2 hv3 hv4 hv5 HC HS2 HP2 HT2 HM)
                go_end0
                exact ⟨rfl, l3, unhide HS3, unhide HP3, unhide HT3⟩
              · have HC := hide ((unhide HROT) hp hq)
                go_wp2_with (go_at_call 76; refine (unhide HC).mono ?_; rintro e wq ⟨rfl, l1, hv1, hv2, hv3⟩; have HS1 := hide hv1; have HP1 := hide hv2; have HR1 := hide hv3; clear hv1 hv2 hv3 HC HROT HS)
                have HM := hide (unhide HX l1 (unhide HR1))
                clear HX HR1
                have HC := hide (unhide HREC a s mid l1 _ (by omega) (unhide HS1) hr hq2 (by omega) (unhide HM).s1 (unhide HM).s2 (unhide HM).i1)
                go_wp2_with (go_at_call 71; refine (unhide HC).mono ?_; rintro e wq2 ⟨rfl, l2, hv1, hv2, hv3, hv4, hv5⟩; have HS2 := hide hv1; have HP2 := hide (hv2.trans (unhide HP1)); have HT2 := hide (And.intro hv3 (And.intro hv4 hv5)); clear hv1 hv2 hv3 hv4 hv5 HC HS1 HP1)
                have HT3 := hide ((unhide HM).done (unhide HT2).1 (unhide HT2).2.1 (unhide HT2).2.2 (Pu.SR_out (unhide HT2).2.2 (Nat.le_refl _) (Pu.SR_empty (unhide HM).s3 (unhide HM).s4 (by omega) (by omega))) (Pu.Org.refl _ _ _) (Pu.Out.refl _ _ _))
                clear HM HT2
                go_wp2
                go_end0
                exact ⟨rfl, l2, unhide HS2, unhide HP2, unhide HT3⟩
            · by_cases ht : E < c
              · have HC := hide ((unhide HROT) hp hq)
                go_wp2_with (go_at_call 76; refine (unhide HC).mono ?_; rintro e wq ⟨rfl, l1, hv1, hv2, hv3⟩; have HS1 := hide hv1; have HP1 := hide hv2; have HR1 := hide hv3; clear hv1 hv2 hv3 HC HROT HS)
                have HM := hide (unhide HX l1 (unhide HR1))
                clear HX HR1
                obtain ⟨l2, hl2⟩ : ∃ l2, l2 = l1 := ⟨l1, rfl⟩
                have HS2 : Hid (Sr b B g n cap xv xs w0 w1 l2 wq) := by rw [hl2]; exact unhide HS1
                have HP2 : Hid (l2.Perm l) := by rw [hl2]; exact unhide HP1
                have HT2 : Hid (Pu.SR xs l2 a mid ∧ Pu.Org l1 l2 a mid ∧ Pu.Out l1 l2 a mid) := by rw [hl2]; exact ⟨Pu.SR_empty (unhide HM).s1 (unhide HM).s2 (by omega) ⟨(unhide HU).1, by omega⟩, Pu.Org.refl _ _ _, Pu.Out.refl _ _ _⟩
                clear hl2 HS1 HP1
                have HC := hide (unhide HREC mid E c l2 _ (by omega) (unhide HS2) hp2 ht (by omega) (Pu.SR_out (unhide HT2).2.2 (Nat.le_refl _) (unhide HM).s3) (Pu.SR_out (unhide HT2).2.2 (by omega) (unhide HM).s4) (Pu.ix_out (unhide HT2).2.2 (unhide HM).i2))
                go_wp2_with (go_at_call 71; refine (unhide HC).mono ?_; rintro e wq3 ⟨rfl, l3, hv1, hv2, hv3, hv4, hv5⟩; have HS3 := hide hv1; have HP3 := hide (hv2.trans (unhide HP2)); have HT3 := hide ((unhide HM).done (unhide HT2).1 (unhide HT2).2.1 (unhide HT2).2.2 hv3 hv4 hv5); clear hv1 hv2 hv3 hv4 hv5 HC HS2 HP2 HT2 HM)
                go_end0
                exact ⟨rfl, l3, unhide HS3, unhide HP3, unhide HT3⟩
              · have HC := hide ((unhide HROT) hp hq)
                go_wp2_with (go_at_call 76; refine (unhide HC).mono ?_; rintro e wq ⟨rfl, l1, hv1, hv2, hv3⟩; have HS1 := hide hv1; have HP1 := hide hv2; have HR1 := hide hv3; clear hv1 hv2 hv3 HC HROT HS)
                have HM := hide (unhide HX l1 (unhide HR1))
                clear HX HR1
                obtain ⟨l2, hl2⟩ : ∃ l2, l2 = l1 := ⟨l1, rfl⟩
                have HS2 : Hid (Sr b B g n cap xv xs w0 w1 l2 wq) := by rw [hl2]; exact unhide HS1
                have HP2 : Hid (l2.Perm l) := by rw [hl2]; exact unhide HP1
                have HT2 : Hid (Pu.SR xs l2 a mid ∧ Pu.Org l1 l2 a mid ∧ Pu.Out l1 l2 a mid) := by rw [hl2]; exact ⟨Pu.SR_empty (unhide HM).s1 (unhide HM).s2 (by omega) ⟨(unhide HU).1, by omega⟩, Pu.Org.refl _ _ _, Pu.Out.refl _ _ _⟩
                clear hl2 HS1 HP1
                have HT3 := hide ((unhide HM).done (unhide HT2).1 (unhide HT2).2.1 (unhide HT2).2.2 (Pu.SR_out (unhide HT2).2.2 (Nat.le_refl _) (Pu.SR_empty (unhide HM).s3 (unhide HM).s4 (by omega) (by omega))) (Pu.Org.refl _ _ _) (Pu.Out.refl _ _ _))
                clear HM HT2
                go_wp2
                go_end0
                exact ⟨rfl, l2, unhide HS2, unhide HP2, unhide HT3⟩
          · have hq2 : ¬ s < mid := by omega
            by_cases hr : a < s
            · by_cases ht : E < c
              · obtain ⟨l1, hl1⟩ : ∃ l1, l1 = l := ⟨l, rfl⟩
                have HS1 : Hid (Sr b B g n cap xv xs w0 w1 l1 wr) := by rw [hl1]; exact unhide HS
                have HP1 : Hid (l1.Perm l) := by rw [hl1]; exact List.Perm.refl _
                have HR1 : Hid (∀ k, l1.getD k 0 = rotAt l s m E k) := by rw [hl1]; exact Pu.rot_id (by omega)
                clear hl1 HS HROT
                have HM := hide (unhide HX l1 (unhide HR1))
                clear HX HR1
                obtain ⟨l2, hl2⟩ : ∃ l2, l2 = l1 := ⟨l1, rfl⟩
                have HS2 : Hid (Sr b B g n cap xv xs w0 w1 l2 wr) := by rw [hl2]; exact unhide HS1
                have HP2 : Hid (l2.Perm l) := by rw [hl2]; exact unhide HP1
                have HT2 : Hid (Pu.SR xs l2 a mid ∧ Pu.Org l1 l2 a mid ∧ Pu.Out l1 l2 a mid) := by rw [hl2]; exact ⟨Pu.SR_empty (unhide HM).s1 (unhide HM).s2 (by omega) ⟨(unhide HU).1, by omega⟩, Pu.Org.refl _ _ _, Pu.Out.refl _ _ _⟩
                clear hl2 HS1 HP1
                have HC := hide (unhide HREC mid E c l2 _ (by omega) (unhide HS2) hp2 ht (by omega) (Pu.SR_out (unhide HT2).2.2 (Nat.le_refl _) (unhide HM).s3) (Pu.SR_out (unhide HT2).2.2 (by omega) (unhide HM).s4) (Pu.ix_out (unhide HT2).2.2 (unhide HM).i2))
                go_wp2_with (go_at_call 71; refine (unhide HC).mono ?_; rintro e wq3 ⟨rfl, l3, hv1, hv2, hv3, hv4, hv5⟩; have HS3 := hide hv1; have HP3 := hide (hv2.trans (unhide HP2)); have HT3 := hide ((unhide HM).done (unhide HT2).1 (unhide HT2).2.1 (unhide HT2).2.2 hv3 hv4 hv5); clear hv1 hv2 hv3 hv4 hv5 HC HS2 HP2 HT2 HM)
                go_end0
                exact ⟨rfl, l3, unhide HS3, unhide HP3, unhide HT3⟩
              · obtain ⟨l1, hl1⟩ : ∃ l1, l1 = l := ⟨l, rfl⟩
                have HS1 : Hid (Sr b B g n cap xv xs w0 w1 l1 wr) := by rw [hl1]; exact unhide HS
                have HP1 : Hid (l1.Perm l) := by rw [hl1]; exact List.Perm.refl _
                have HR1 : Hid (∀ k, l1.getD k 0 = rotAt l s m E k) := by rw [hl1]; exact Pu.rot_id (by omega)
                clear hl1 HS HROT
                have HM := hide (unhide HX l1 (unhide HR1))
                clear HX HR1
                obtain ⟨l2, hl2⟩ : ∃ l2, l2 = l1 := ⟨l1, rfl⟩
                have HS2 : Hid (Sr b B g n cap xv xs w0 w1 l2 wr) := by rw [hl2]; exact unhide HS1
                have HP2 : Hid (l2.Perm l) := by rw [hl2]; exact unhide HP1
                have HT2 : Hid (Pu.SR xs l2 a mid ∧ Pu.Org l1 l2 a mid ∧ Pu.Out l1 l2 a mid) := by rw [hl2]; exact ⟨Pu.SR_empty (unhide HM).s1 (unhide HM).s2 (by omega) ⟨(unhide HU).1, by omega⟩, Pu.Org.refl _ _ _, Pu.Out.refl _ _ _⟩
                clear hl2 HS1 HP1
                have HT3 := hide ((unhide HM).done (unhide HT2).1 (unhide HT2).2.1 (unhide HT2).2.2 (Pu.SR_out (unhide HT2).2.2 (Nat.le_refl _) (Pu.SR_empty (unhide HM).s3 (unhide HM).s4 (by omega) (by omega))) (Pu.Org.refl _ _ _) (Pu.Out.refl _ _ _))
                clear HM HT2
                go_wp2
                go_end0
                exact ⟨rfl, l2, unhide HS2, unhide HP2, unhide HT3⟩
            · by_cases ht : E < c
              · obtain ⟨l1, hl1⟩ : ∃ l1, l1 = l := ⟨l, rfl⟩
                have HS1 : Hid (Sr b B g n cap xv xs w0 w1 l1 wr) := by rw [hl1]; exact unhide HS
                have HP1 : Hid (l1.Perm l) := by rw [hl1]; exact List.Perm.refl _
                have HR1 : Hid (∀ k, l1.getD k 0 = rotAt l s m E k) := by rw [hl1]; exact Pu.rot_id (by omega)
                clear hl1 HS HROT
                have HM := hide (unhide HX l1 (unhide HR1))
                clear HX HR1
                obtain ⟨l2, hl2⟩ : ∃ l2, l2 = l1 := ⟨l1, rfl⟩
                have HS2 : Hid (Sr b B g n cap xv xs w0 w1 l2 wr) := by rw [hl2]; exact unhide HS1
                have HP2 : Hid (l2.Perm l) := by rw [hl2]; exact unhide HP1
                have HT2 : Hid (Pu.SR xs l2 a mid ∧ Pu.Org l1 l2 a mid ∧ Pu.Out l1 l2 a mid) := by rw [hl2]; exact ⟨Pu.SR_empty (unhide HM).s1 (unhide HM).s2 (by omega) ⟨(unhide HU).1, by omega⟩, Pu.Org.refl _ _ _, Pu.Out.refl _ _ _⟩
                clear hl2 HS1 HP1
                have HC := hide (unhide HREC mid E c l2 _ (by omega) (unhide HS2) hp2 ht (by omega) (Pu.SR_out (unhide HT2).2.2 (Nat.le_refl _) (unhide HM).s3) (Pu.SR_out (unhide HT2).2.2 (by omega) (unhide HM).s4) (Pu.ix_out (unhide HT2).2.2 (unhide HM).i2))
                go_wp2_with (go_at_call 71; refine (unhide HC).mono ?_; rintro e wq3 ⟨rfl, l3, hv1, hv2, hv3, hv4, hv5⟩; have HS3 := hide hv1; have HP3 := hide (hv2.trans (unhide HP2)); have HT3 := hide ((unhide HM).done (unhide HT2).1 (unhide HT2).2.1 (unhide HT2).2.2 hv3 hv4 hv5); clear hv1 hv2 hv3 hv4 hv5 HC HS2 HP2 HT2 HM)
                go_end0
                exact ⟨rfl, l3, unhide HS3, unhide HP3, unhide HT3⟩
              · obtain ⟨l1, hl1⟩ : ∃ l1, l1 = l := ⟨l, rfl⟩
                have HS1 : Hid (Sr b B g n cap xv xs w0 w1 l1 wr) := by rw [hl1]; exact unhide HS
                have HP1 : Hid (l1.Perm l) := by rw [hl1]; exact List.Perm.refl _
                have HR1 : Hid (∀ k, l1.getD k 0 = rotAt l s m E k) := by rw [hl1]; exact Pu.rot_id (by omega)
                clear hl1 HS HROT
                have HM := hide (unhide HX l1 (unhide HR1))
                clear HX HR1
                obtain ⟨l2, hl2⟩ : ∃ l2, l2 = l1 := ⟨l1, rfl⟩
                have HS2 : Hid (Sr b B g n cap xv xs w0 w1 l2 wr) := by rw [hl2]; exact unhide HS1
                have HP2 : Hid (l2.Perm l) := by rw [hl2]; exact unhide HP1
                have HT2 : Hid (Pu.SR xs l2 a mid ∧ Pu.Org l1 l2 a mid ∧ Pu.Out l1 l2 a mid) := by rw [hl2]; exact ⟨Pu.SR_empty (unhide HM).s1 (unhide HM).s2 (by omega) ⟨(unhide HU).1, by omega⟩, Pu.Org.refl _ _ _, Pu.Out.refl _ _ _⟩
                clear hl2 HS1 HP1
                have HT3 := hide ((unhide HM).done (unhide HT2).1 (unhide HT2).2.1 (unhide HT2).2.2 (Pu.SR_out (unhide HT2).2.2 (Nat.le_refl _) (Pu.SR_empty (unhide HM).s3 (unhide HM).s4 (by omega) (by omega))) (Pu.Org.refl _ _ _) (Pu.Out.refl _ _ _))
                clear HM HT2
                go_wp2
                go_end0
                exact ⟨rfl, l2, unhide HS2, unhide HP2, unhide HT3⟩
        · have hp2 : ¬ mid < E := by omega
          by_cases hq : m < E
          · have hq2 : s < mid := by omega
            by_cases hr : a < s
            · by_cases ht : E < c
              · obtain ⟨l1, hl1⟩ : ∃ l1, l1 = l := ⟨l, rfl⟩
                have HS1 : Hid (Sr b B g n cap xv xs w0 w1 l1 wr) := by rw [hl1]; exact unhide HS
                have HP1 : Hid (l1.Perm l) := by rw [hl1]; exact List.Perm.refl _
                have HR1 : Hid (∀ k, l1.getD k 0 = rotAt l s m E k) := by rw [hl1]; exact Pu.rot_id (by omega)
                clear hl1 HS HROT
                have HM := hide (unhide HX l1 (unhide HR1))
                clear HX HR1
                have HC := hide (unhide HREC a s mid l1 _ (by omega) (unhide HS1) hr hq2 (by omega) (unhide HM).s1 (unhide HM).s2 (unhide HM).i1)
                go_wp2_with (go_at_call 71; refine (unhide HC).mono ?_; rintro e wq2 ⟨rfl, l2, hv1, hv2, hv3, hv4, hv5⟩; have HS2 := hide hv1; have HP2 := hide (hv2.trans (unhide HP1)); have HT2 := hide (And.intro hv3 (And.intro hv4 hv5)); clear hv1 hv2 hv3 hv4 hv5 HC HS1 HP1)
                have HT3 := hide ((unhide HM).done (unhide HT2).1 (unhide HT2).2.1 (unhide HT2).2.2 (Pu.SR_out (unhide HT2).2.2 (Nat.le_refl _) (Pu.SR_empty (unhide HM).s3 (unhide HM).s4 (by omega) (by omega))) (Pu.Org.refl _ _ _) (Pu.Out.refl _ _ _))
                clear HM HT2
                go_wp2
                go_end0
                exact ⟨rfl, l2, unhide HS2, unhide HP2, unhide HT3⟩
              · obtain ⟨l1, hl1⟩ : ∃ l1, l1 = l := ⟨l, rfl⟩
                have HS1 : Hid (Sr b B g n cap xv xs w0 w1 l1 wr) := by rw [hl1]; exact unhide HS
                have HP1 : Hid (l1.Perm l) := by rw [hl1]; exact List.Perm.refl _
                have HR1 : Hid (∀ k, l1.getD k 0 = rotAt l s m E k) := by rw [hl1]; exact Pu.rot_id (by omega)
                clear hl1 HS HROT
                have HM := hide (unhide HX l1 (unhide HR1))
                clear HX HR1
                have HC := hide (unhide HREC a s mid l1 _ (by omega) (unhide HS1) hr hq2 (by omega) (unhide HM).s1 (unhide HM).s2 (unhide HM).i1)
                go_wp2_with (go_at_call 71; refine (unhide HC).mono ?_; rintro e wq2 ⟨rfl, l2, hv1, hv2, hv3, hv4, hv5⟩; have HS2 := hide hv1; have HP2 := hide (hv2.trans (unhide HP1)); have HT2 := hide (And.intro hv3 (And.intro hv4 hv5)); clear hv1 hv2 hv3 hv4 hv5 HC HS1 HP1)
                have HT3 := hide ((unhide HM).done (unhide HT2).1 (unhide HT2).2.1 (unhide HT2).2.2 (Pu.SR_out (unhide HT2).2.2 (Nat.le_refl _) (Pu.SR_empty (unhide HM).s3 (unhide HM).s4 (by omega) (by omega))) (Pu.Org.refl _ _ _) (Pu.Out.refl _ _ _))
                clear HM HT2
                go_wp2
                go_end0
                exact ⟨rfl, l2, unhide HS2, unhide HP2, unhide HT3⟩
            · by_cases ht : E < c
              · obtain ⟨l1, hl1⟩ : ∃ l1, l1 = l := ⟨l, rfl⟩
                have HS1 : Hid (Sr b B g n cap xv xs w0 w1 l1 wr) := by rw [hl1]; exact unhide HS
                have HP1 : Hid (l1.Perm l) := by rw [hl1]; exact List.Perm.refl _
                have HR1 : Hid (∀ k, l1.getD k 0 = rotAt l s m E k) := by rw [hl1]; exact Pu.rot_id (by omega)
                clear hl1 HS HROT
                have HM := hide (unhide HX l1 (unhide HR1))
                clear HX HR1
                obtain ⟨l2, hl2⟩ : ∃ l2, l2 = l1 := ⟨l1, rfl⟩
                have HS2 : Hid (Sr b B g n cap xv xs w0 w1 l2 wr) := by rw [hl2]; exact unhide HS1
                have HP2 : Hid (l2.Perm l) := by rw [hl2]; exact unhide HP1
                have HT2 : Hid (Pu.SR xs l2 a mid ∧ Pu.Org l1 l2 a mid ∧ Pu.Out l1 l2 a mid) := by rw [hl2]; exact ⟨Pu.SR_empty (unhide HM).s1 (unhide HM).s2 (by omega) ⟨(unhide HU).1, by omega⟩, Pu.Org.refl _ _ _, Pu.Out.refl _ _ _⟩
                clear hl2 HS1 HP1
                have HT3 := hide ((unhide HM).done (unhide HT2).1 (unhide HT2).2.1 (unhide HT2).2.2 (Pu.SR_out (unhide HT2).2.2 (Nat.le_refl _) (Pu.SR_empty (unhide HM).s3 (unhide HM).s4 (by omega) (by omega))) (Pu.Org.refl _ _ _) (Pu.Out.refl _ _ _))
                clear HM HT2
                go_wp2
                go_end0
                exact ⟨rfl, l2, unhide HS2, unhide HP2, unhide HT3⟩
              · obtain ⟨l1, hl1⟩ : ∃ l1, l1 = l := ⟨l, rfl⟩
                have HS1 : Hid (Sr b B g n cap xv xs w0 w1 l1 wr) := by rw [hl1]; exact unhide HS
                have HP1 : Hid (l1.Perm l) := by rw [hl1]; exact List.Perm.refl _
                have HR1 : Hid (∀ k, l1.getD k 0 = rotAt l s m E k) := by rw [hl1]; exact Pu.rot_id (by omega)
                clear hl1 HS HROT
                have HM := hide (unhide HX l1 (unhide HR1))
                clear HX HR1
                obtain ⟨l2, hl2⟩ : ∃ l2, l2 = l1 := ⟨l1, rfl⟩
                have HS2 : Hid (Sr b B g n cap xv xs w0 w1 l2 wr) := by rw [hl2]; exact unhide HS1
                have HP2 : Hid (l2.Perm l) := by rw [hl2]; exact unhide HP1
                have HT2 : Hid (Pu.SR xs l2 a mid ∧ Pu.Org l1 l2 a mid ∧ Pu.Out l1 l2 a mid) := by rw [hl2]; exact ⟨Pu.SR_empty (unhide HM).s1 (unhide HM).s2 (by omega) ⟨(unhide HU).1, by omega⟩, Pu.Org.refl _ _ _, Pu.Out.refl _ _ _⟩
                clear hl2 HS1 HP1
                have HT3 := hide ((unhide HM).done (unhide HT2).1 (unhide HT2).2.1 (unhide HT2).2.2 (Pu.SR_out (unhide HT2).2.2 (Nat.le_refl _) (Pu.SR_empty (unhide HM).s3 (unhide HM).s4 (by omega) (by omega))) (Pu.Org.refl _ _ _) (Pu.Out.refl _ _ _))
                clear HM HT2
                go_wp2
                go_end0
                exact ⟨rfl, l2, unhide HS2, unhide HP2, unhide HT3⟩
          · have hq2 : ¬ s < mid := by omega
            by_cases hr : a < s
            · by_cases ht : E < c
              · obtain ⟨l1, hl1⟩ : ∃ l1, l1 = l := ⟨l, rfl⟩
                have HS1 : Hid (Sr b B g n cap xv xs w0 w1 l1 wr) := by rw [hl1]; exact unhide HS
                have HP1 : Hid (l1.Perm l) := by rw [hl1]; exact List.Perm.refl _
                have HR1 : Hid (∀ k, l1.getD k 0 = rotAt l s m E k) := by rw [hl1]; exact Pu.rot_id (by omega)
                clear hl1 HS HROT
                have HM := hide (unhide HX l1 (unhide HR1))
                clear HX HR1
                obtain ⟨l2, hl2⟩ : ∃ l2, l2 = l1 := ⟨l1, rfl⟩
                have HS2 : Hid (Sr b B g n cap xv xs w0 w1 l2 wr) := by rw [hl2]; exact unhide HS1
                have HP2 : Hid (l2.Perm l) := by rw [hl2]; exact unhide HP1
                have HT2 : Hid (Pu.SR xs l2 a mid ∧ Pu.Org l1 l2 a mid ∧ Pu.Out l1 l2 a mid) := by rw [hl2]; exact ⟨Pu.SR_empty (unhide HM).s1 (unhide HM).s2 (by omega) ⟨(unhide HU).1, by omega⟩, Pu.Org.refl _ _ _, Pu.Out.refl _ _ _⟩
                clear hl2 HS1 HP1
                have HT3 := hide ((unhide HM).done (unhide HT2).1 (unhide HT2).2.1 (unhide HT2).2.2 (Pu.SR_out (unhide HT2).2.2 (Nat.le_refl _) (Pu.SR_empty (unhide HM).s3 (unhide HM).s4 (by omega) (by omega))) (Pu.Org.refl _ _ _) (Pu.Out.refl _ _ _))
                clear HM HT2
                go_wp2
                go_end0
                exact ⟨rfl, l2, unhide HS2, unhide HP2, unhide HT3⟩
              · obtain ⟨l1, hl1⟩ : ∃ l1, l1 = l := ⟨l, rfl⟩
                have HS1 : Hid (Sr b B g n cap xv xs w0 w1 l1 wr) := by rw [hl1]; exact unhide HS
                have HP1 : Hid (l1.Perm l) := by rw [hl1]; exact List.Perm.refl _
                have HR1 : Hid (∀ k, l1.getD k 0 = rotAt l s m E k) := by rw [hl1]; exact Pu.rot_id (by omega)
                clear hl1 HS HROT
                have HM := hide (unhide HX l1 (unhide HR1))
                clear HX HR1
                obtain ⟨l2, hl2⟩ : ∃ l2, l2 = l1 := ⟨l1, rfl⟩
                have HS2 : Hid (Sr b B g n cap xv xs w0 w1 l2 wr) := by rw [hl2]; exact unhide HS1
                have HP2 : Hid (l2.Perm l) := by rw [hl2]; exact unhide HP1
                have HT2 : Hid (Pu.SR xs l2 a mid ∧ Pu.Org l1 l2 a mid ∧ Pu.Out l1 l2 a mid) := by rw [hl2]; exact ⟨Pu.SR_empty (unhide HM).s1 (unhide HM).s2 (by omega) ⟨(unhide HU).1, by omega⟩, Pu.Org.refl _ _ _, Pu.Out.refl _ _ _⟩
                clear hl2 HS1 HP1
                have HT3 := hide ((unhide HM).done (unhide HT2).1 (unhide HT2).2.1 (unhide HT2).2.2 (Pu.SR_out (unhide HT2).2.2 (Nat.le_refl _) (Pu.SR_empty (unhide HM).s3 (unhide HM).s4 (by omega) (by omega))) (Pu.Org.refl _ _ _) (Pu.Out.refl _ _ _))
                clear HM HT2
                go_wp2
                go_end0
                exact ⟨rfl, l2, unhide HS2, unhide HP2, unhide HT3⟩
            · by_cases ht : E < c
              · obtain ⟨l1, hl1⟩ : ∃ l1, l1 = l := ⟨l, rfl⟩
                have HS1 : Hid (Sr b B g n cap xv xs w0 w1 l1 wr) := by rw [hl1]; exact unhide HS
                have HP1 : Hid (l1.Perm l) := by rw [hl1]; exact List.Perm.refl _
                have HR1 : Hid (∀ k, l1.getD k 0 = rotAt l s m E k) := by rw [hl1]; exact Pu.rot_id (by omega)
                clear hl1 HS HROT
                have HM := hide (unhide HX l1 (unhide HR1))
                clear HX HR1
                obtain ⟨l2, hl2⟩ : ∃ l2, l2 = l1 := ⟨l1, rfl⟩
                have HS2 : Hid (Sr b B g n cap xv xs w0 w1 l2 wr) := by rw [hl2]; exact unhide HS1
                have HP2 : Hid (l2.Perm l) := by rw [hl2]; exact unhide HP1
                have HT2 : Hid (Pu.SR xs l2 a mid ∧ Pu.Org l1 l2 a mid ∧ Pu.Out l1 l2 a mid) := by rw [hl2]; exact ⟨Pu.SR_empty (unhide HM).s1 (unhide HM).s2 (by omega) ⟨(unhide HU).1, by omega⟩, Pu.Org.refl _ _ _, Pu.Out.refl _ _ _⟩
                clear hl2 HS1 HP1
                have HT3 := hide ((unhide HM).done (unhide HT2).1 (unhide HT2).2.1 (unhide HT2).2.2 (Pu.SR_out (unhide HT2).2.2 (Nat.le_refl _) (Pu.SR_empty (unhide HM).s3 (unhide HM).s4 (by omega) (by omega))) (Pu.Org.refl _ _ _) (Pu.Out.refl _ _ _))
                clear HM HT2
                go_wp2
                go_end0
                exact ⟨rfl, l2, unhide HS2, unhide HP2, unhide HT3⟩
              · obtain ⟨l1, hl1⟩ : ∃ l1, l1 = l := ⟨l, rfl⟩
                have HS1 : Hid (Sr b B g n cap xv xs w0 w1 l1 wr) := by rw [hl1]; exact unhide HS
                have HP1 : Hid (l1.Perm l) := by rw [hl1]; exact List.Perm.refl _
                have HR1 : Hid (∀ k, l1.getD k 0 = rotAt l s m E k) := by rw [hl1]; exact Pu.rot_id (by omega)
                clear hl1 HS HROT
                have HM := hide (unhide HX l1 (unhide HR1))
                clear HX HR1
                obtain ⟨l2, hl2⟩ : ∃ l2, l2 = l1 := ⟨l1, rfl⟩
                have HS2 : Hid (Sr b B g n cap xv xs w0 w1 l2 wr) := by rw [hl2]; exact unhide HS1
                have HP2 : Hid (l2.Perm l) := by rw [hl2]; exact unhide HP1
                have HT2 : Hid (Pu.SR xs l2 a mid ∧ Pu.Org l1 l2 a mid ∧ Pu.Out l1 l2 a mid) := by rw [hl2]; exact ⟨Pu.SR_empty (unhide HM).s1 (unhide HM).s2 (by omega) ⟨(unhide HU).1, by omega⟩, Pu.Org.refl _ _ _, Pu.Out.refl _ _ _⟩
                clear hl2 HS1 HP1
                have HT3 := hide ((unhide HM).done (unhide HT2).1 (unhide HT2).2.1 (unhide HT2).2.2 (Pu.SR_out (unhide HT2).2.2 (Nat.le_refl _) (Pu.SR_empty (unhide HM).s3 (unhide HM).s4 (by omega) (by omega))) (Pu.Org.refl _ _ _) (Pu.Out.refl _ _ _))
                clear HM HT2
                go_wp2
                go_end0
                exact ⟨rfl, l2, unhide HS2, unhide HP2, unhide HT3⟩
theorem sym_rec {b B g n cap : Nat} {xv : Nat → ByteArray} {xs : List Int} {w0 w1 : World} (hn : n ≤ 100000) : ∀ d, SymC b B g n cap xv xs w0 w1 d := by
  intro d
  induction d with
  | zero => intro a m c l w h; omega
  | succ d ih =>
    intro a m c l w hd hS h1 h2 h3 sA sB hix
    by_cases e1 : m = a + 1
    · exact sym_one hS a m c e1 h2 h3 hn sB hix
    · by_cases e2 : c = m + 1
      · exact sym_last hS a m c e2 (by omega) h3 hn sA hix
      · refine sym_gen hS a m c (by omega) (by omega) h3 hn sA sB hix ?_
        intro a' m' c' l' w' hd'
        exact ih a' m' c' l' w' (by omega)

end Go.Proofs.YtcnmmghkjblemaaDoor
