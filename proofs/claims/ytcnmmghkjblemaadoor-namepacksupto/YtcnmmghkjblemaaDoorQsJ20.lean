/- The sort. -/
import Derived.Test.YtcnmmghkjblemaaDoorQsI20
namespace Go.Proofs.YtcnmmghkjblemaaDoor
open Go.RowKit

def StP (b B g n cap : Nat) (xv : Nat → ByteArray) (xs : List Int) (w0 w1 : World) (l : List Nat) (e : Ending) (w' : World) : Prop :=
  e = .returned (.tuple #[]) ∧ ∃ l', Sr b B g n cap xv xs w0 w1 l' w' ∧ l'.Perm l ∧ Pu.SR xs l' 0 n

set_option maxRecDepth 20000 in
set_option maxHeartbeats 2000000 in
theorem stable_any {b B g n cap : Nat} {xv : Nat → ByteArray} {xs : List Int} {w0 w1 w : World} {l : List Nat} (h : Sr b B g n cap xv xs w0 w1 l w) (hn : n ≤ 100000) (hinc : ∀ p q, p < q → q < n → l.getD p 0 < l.getD q 0) :
    Calls Tryd.prog 56 #[.slice (some ⟨g, 0, none⟩) n cap, .int .i64 n, .func (.func 20) #[] #[]] w (StP b B g n cap xv xs w0 w1 l) := by
  have hcap := h.caps
  have hll := h.len
  have H := hide h
  have HINC := hide hinc
  clear h hinc
  go_enter Tryd.func56, Tryd.ntmps56
  go_wp2
  go_loopw [7, 8] (fun aa bb wr => ∃ (a c : Nat) (l' : List Nat), aa = .int .i64 a ∧ bb = .int .i64 c ∧ c = a + 20 ∧ a ≤ n ∧ Sr b B g n cap xv xs w0 w1 l' wr ∧ l'.Perm l ∧ Pu.Is xs l l' n a) (fun aa _ _ => n - (intOf aa).toNat)
  case atStart => exact ⟨0, 20, l, rfl, rfl, rfl, by omega, unhide H, List.Perm.refl _, Pu.Is.start _ _ _⟩
  case round =>
    clear H
    obtain ⟨a, c, l', rfl, rfl, hc, ha, hS, hp, hI⟩ := hrel
    by_cases hb : c ≤ n
    · have HC := hide (insertion_any hS a c hb ha hn (hI.inc (unhide HINC) hb))
      have HP := hide hp
      have HNX : Hid (∀ l2, Pu.SR xs l2 a c → Pu.Org l' l2 a c → Pu.Out l' l2 a c → Pu.Is xs l l2 n c) := by
        subst hc; exact fun l2 k1 k2 k3 => hI.next hb k1 k2 k3
      have HCC := hide hc
      have hac : a < c := by omega
      clear hS hI hp hc
      go_wp2_with (go_at_call 70; refine (unhide HC).mono ?_; rintro e wq ⟨rfl, l2, hv1, hv2, hv3, hv4, hv5⟩; have HS2 := hide hv1; have HP2 := hide (hv2.trans (unhide HP)); have HI2 := hide (unhide HNX l2 hv3 hv4 hv5); clear hv1 hv2 hv3 hv4 hv5 HC HP HNX)
      go_roundw
      case rel => exact ⟨c, c + 20, l2, rfl, by rw [show ((c + 20 : Nat) : Int) = (c : Int) + 20 by omega], rfl, hb, unhide HS2, unhide HP2, unhide HI2⟩
      case measure => simp [intOf]; omega
    · have HC := hide (insertion_any hS a n (Nat.le_refl _) ha hn (hI.inc (unhide HINC) (Nat.le_refl _)))
      have HP := hide hp
      have HNX : Hid (∀ l2, Pu.SR xs l2 a n → Pu.Org l' l2 a n → Pu.Out l' l2 a n → Pu.Bs xs l l2 20 n) := fun l2 k1 k2 k3 => hI.last (by omega) k1 k2 k3
      have HCC := hide hc
      clear hS hI hp hc
      go_wp2_with (go_at_call 70; refine (unhide HC).mono ?_; rintro e wq ⟨rfl, l2, hv1, hv2, hv3, hv4, hv5⟩; have HS2 := hide hv1; have HP2 := hide (hv2.trans (unhide HP)); have HI2 := hide (unhide HNX l2 hv3 hv4 hv5); clear hv1 hv2 hv3 hv4 hv5 HC HP HNX)
      clear hb ha HCC
      go_loopw [6, 7, 8] (fun zz _ _ wr => ∃ (z : Nat) (l' : List Nat), zz = .int .i64 z ∧ 20 ≤ z ∧ z ≤ 200000 ∧ Sr b B g n cap xv xs w0 w1 l' wr ∧ l'.Perm l ∧ Pu.Bs xs l l' z n) (fun zz _ _ _ => n - (intOf zz).toNat)
      case atStart => exact ⟨20, l2, rfl, Nat.le_refl _, by omega, unhide HS2, unhide HP2, unhide HI2⟩
      case round =>
        clear HS2 HP2 HI2
        obtain ⟨z, l3, rfl, hz1, hz2, hS, hp, hI⟩ := hrel
        by_cases hz : z < n
        · have HS3 := hide hS
          have HP3 := hide hp
          have HI3 := hide hI.st
          clear hS hp hI
          go_wp2
          go_loopw [7, 8] (fun aa bb wr => ∃ (a c : Nat) (l' : List Nat), aa = .int .i64 a ∧ bb = .int .i64 c ∧ c = a + 2 * z ∧ a ≤ n ∧ Sr b B g n cap xv xs w0 w1 l' wr ∧ l'.Perm l ∧ Pu.Sm xs l l' z n a) (fun aa _ _ => n - (intOf aa).toNat)
          case atStart => exact ⟨0, 2 * z, l3, rfl, by rw [show ((2 * z : Nat) : Int) = 2 * (z : Int) by omega], by omega, by omega, unhide HS3, unhide HP3, unhide HI3⟩
          case round =>
            clear HS3 HP3 HI3
            obtain ⟨a, c, l4, rfl, rfl, hc, ha, hS, hp, hI⟩ := hrel
            have haz : (a : Int) + (z : Int) = ((a + z : Nat) : Int) := by omega
            by_cases hb : c ≤ n
            · obtain ⟨q1, q2, q3⟩ := hI.pre (b := c) (by omega) hb (by omega) (unhide HINC)
              have HC := hide (sym_rec hn (c - a + 1) a (a + z) c l4 _ (by omega) hS (by omega) (by omega) hb q1 q2 q3)
              have HP := hide hp
              have HNX : Hid (∀ l2, Pu.SR xs l2 a c → Pu.Org l4 l2 a c → Pu.Out l4 l2 a c → Pu.Sm xs l l2 z n c) := by
                subst hc; exact fun l2 k1 k2 k3 => hI.next hb k1 k2 k3
              have HCC := hide hc
              have hac : a < c := by omega
              rw [← haz] at HC
              clear hS hI hp hc q1 q2 q3 haz
              go_wp2_with (go_at_call 71; refine (unhide HC).mono ?_; rintro e wq2 ⟨rfl, l5, hv1, hv2, hv3, hv4, hv5⟩; have HS2 := hide hv1; have HP2 := hide (hv2.trans (unhide HP)); have HI2 := hide (unhide HNX l5 hv3 hv4 hv5); clear hv1 hv2 hv3 hv4 hv5 HC HP HNX)
              go_roundw
              case rel => exact ⟨c, c + 2 * z, l5, rfl, by rw [show ((c + 2 * z : Nat) : Int) = (c : Int) + 2 * (z : Int) by omega], rfl, hb, unhide HS2, unhide HP2, unhide HI2⟩
              case measure => simp [intOf]; omega
            · by_cases hm : a + z < n
              · obtain ⟨q1, q2, q3⟩ := hI.pre (b := n) (by omega) (Nat.le_refl _) (by omega) (unhide HINC)
                have HC := hide (sym_rec hn (n - a + 1) a (a + z) n l4 _ (by omega) hS (by omega) hm (Nat.le_refl _) q1 q2 q3)
                have HP := hide hp
                have HNX : Hid (∀ l2, Pu.SR xs l2 a n → Pu.Org l4 l2 a n → Pu.Out l4 l2 a n → Pu.Bs xs l l2 (2 * z) n) := fun l2 k1 k2 k3 => hI.last (by omega) k1 k2 k3
                rw [← haz] at HC
                clear hS hI hp hc q1 q2 q3 haz
                go_wp2_with (go_at_call 71; refine (unhide HC).mono ?_; rintro e wq2 ⟨rfl, l5, hv1, hv2, hv3, hv4, hv5⟩; have HS2 := hide hv1; have HP2 := hide (hv2.trans (unhide HP)); have HI2 := hide (unhide HNX l5 hv3 hv4 hv5); clear hv1 hv2 hv3 hv4 hv5 HC HP HNX)
                go_roundw
                case rel => exact ⟨2 * z, l5, by rw [show ((2 * z : Nat) : Int) = (z : Int) * 2 by omega], by omega, by omega, unhide HS2, unhide HP2, unhide HI2⟩
                case measure => simp [intOf]; omega
              · have HS2 := hide hS
                have HP2 := hide hp
                have HI2 := hide (hI.stop (by omega))
                clear hS hI hp hc haz
                go_wp2
                go_roundw
                case rel => exact ⟨2 * z, l4, by rw [show ((2 * z : Nat) : Int) = (z : Int) * 2 by omega], by omega, by omega, unhide HS2, unhide HP2, unhide HI2⟩
                case measure => simp [intOf]; omega
        · have HF : Hid (StP b B g n cap xv xs w0 w1 l (.returned (.tuple #[])) wr) := ⟨rfl, l3, hS, hp, hI.whole (by omega)⟩
          clear hS hp hI
          go_wp2
          go_end0
          exact unhide HF
end Go.Proofs.YtcnmmghkjblemaaDoor
