import Derived.Test.YtloocceakfmnoaaGreatDoorGd9
import Derived.Test.YtloocceakfmnoaaGreatDoorGc9
import Derived.Shelf.Abstract
import Derived.Lib.Walk
/- The contracts of scalar's Valid, Sound (out of ScE). -/
namespace Go.Proofs.YtloocceakfmnoaaGreatDoor
open Go.RowKit

set_option maxHeartbeats 400000 in
theorem validRune_any (c : Int) (w : World) (h : -2147483648 ≤ c ∧ c ≤ 2147483647) :
    Calls Tryz.prog 232 #[.int .i32 c] w fun e w' => e = .returned (.bool (Cn.scalar c)) ∧ w' = w := by
  by_cases h1 : 0 ≤ c
  · by_cases h2 : c < 55296
    · have hk : Cn.scalar c = true := decide_eq_true (by omega)
      rw [hk]
      go_enter Tryz.func232, Tryz.ntmps232
      go_wp2
      go_ret
      exact ⟨rfl, rfl⟩
    · by_cases h3 : 57343 < c
      · by_cases h4 : c ≤ 1114111
        · have hk : Cn.scalar c = true := decide_eq_true (by omega)
          rw [hk]
          go_enter Tryz.func232, Tryz.ntmps232
          go_wp2
          go_ret
          exact ⟨rfl, rfl⟩
        · have hk : Cn.scalar c = false := decide_eq_false (by omega)
          rw [hk]
          go_enter Tryz.func232, Tryz.ntmps232
          go_wp2
          go_ret
          exact ⟨rfl, rfl⟩
      · have hk : Cn.scalar c = false := decide_eq_false (by omega)
        rw [hk]
        go_enter Tryz.func232, Tryz.ntmps232
        go_wp2
        go_ret
        exact ⟨rfl, rfl⟩
  · have hk : Cn.scalar c = false := decide_eq_false (by omega)
    rw [hk]
    go_enter Tryz.func232, Tryz.ntmps232
    go_wp2
    go_ret
    exact ⟨rfl, rfl⟩

theorem valid_any (c : Int) (w : World) (h : -2147483648 ≤ c ∧ c ≤ 2147483647) :
    Calls Tryz.prog 230 #[.int .i32 c] w fun e w' => e = .returned (.bool (Cn.scalar c)) ∧ w' = w := by
  have H := hide (validRune_any c w h)
  generalize Cn.scalar c = b at *
  go_enter Tryz.func230, Tryz.ntmps230
  go_wp2_with fail
  refine (unhide H).mono ?_
  rintro e w ⟨rfl, rfl⟩
  clear H
  go_wp2
  go_ret
  exact ⟨rfl, rfl⟩

theorem unsound1_any (c : Int) (w : World) (h : -2147483648 ≤ c ∧ c ≤ 2147483647) :
    Calls Tryz.prog 229 #[.int .i32 c] w fun e w' => e = .returned (.bool (!Cn.scalar c)) ∧ w' = w := by
  have H := hide (valid_any c w h)
  generalize Cn.scalar c = b at *
  go_enter Tryz.func229, Tryz.ntmps229
  go_wp2_with fail
  refine (unhide H).mono ?_
  rintro e w ⟨rfl, rfl⟩
  clear H
  go_wp2
  go_ret
  exact ⟨rfl, rfl⟩

theorem drop_next {xs : List Int} {k : Nat} (hk : k < xs.length) : xs.drop k = xs.getD k 0 :: xs.drop (k + 1) := by
  rw [List.drop_eq_getElem_cons hk]
  simp [List.getD, hk]
/-- The place of the first at which p holds, or -1. -/
def fb (p : Int → Bool) : Nat → List Int → Int
  | _, [] => -1
  | i, c :: r => if p c then (i : Int) else fb p (i + 1) r

theorem fb_hit {p : Int → Bool} {xs : List Int} {k : Nat} {r : Int} (hk : k < xs.length) (h : r = fb p k (xs.drop k)) (hp : p (xs.getD k 0) = true) : r = (k : Int) := by
  rw [h, drop_next hk, fb, if_pos hp]
theorem fb_next {p : Int → Bool} {xs : List Int} {k : Nat} {r : Int} (hk : k < xs.length) (h : r = fb p k (xs.drop k)) (hp : p (xs.getD k 0) = false) : r = fb p (k + 1) (xs.drop (k + 1)) := by
  rw [h, drop_next hk, fb, hp]; rfl
theorem fb_end {p : Int → Bool} {xs : List Int} {k : Nat} {r : Int} (hk : xs.length ≤ k) (h : r = fb p k (xs.drop k)) : r = -1 := by
  rw [h, List.drop_eq_nil_of_le hk, fb]
theorem fb_all (p : Int → Bool) (i : Nat) (xs : List Int) : decide (fb p i xs < 0) = xs.all (fun c => !p c) := by
  induction xs generalizing i with
  | nil => rfl
  | cons c r ih =>
    simp only [fb, List.all_cons]
    by_cases hp : p c = true
    · simp [hp]
    · simpa [hp] using ih (i + 1)

set_option maxHeartbeats 1000000 in
theorem indexFunc_any (p : Int → Bool) (g : Nat) (hp : ∀ x w, (-2147483648 ≤ x ∧ x ≤ 2147483647) → Calls Tryz.prog g #[.int .i32 x] w fun e w' => e = .returned (.bool (p x)) ∧ w' = w) (eg : ∀ args w, (callFunc g args).run Tryz.prog w = .ok (.enter g args) w)
    (v : Value) (xs : List Int) (w : World) (hv : Sk .i32 w v xs) :
    Calls Tryz.prog 228 #[v, .func (.func g) #[] #[]] w fun e w' => e = .returned (.int .i64 (fb p 0 xs)) ∧ w' = w := by
  have hlx := hv.len
  have hr0 : fb p 0 xs = fb p 0 (xs.drop 0) := by rw [List.drop_zero]
  rcases Nat.eq_zero_or_pos xs.length with h0 | h0
  · have hq := fb_end (by omega) hr0
    obtain ⟨ao, cap, rfl, _, _⟩ := hv.shape
    rw [hq, h0]
    clear hr0 hv
    go_enter Tryz.func228, Tryz.ntmps228
    go_wp2
    refine wp_loop_rounds 1 ?_
    rw [rounds_succ]
    go_wp2
    go_ret
    exact ⟨rfl, rfl⟩
  · have hfit := hide hv.1
    obtain ⟨b, off, cap, rfl, hc1, hc2, hc⟩ := hv.place h0
    have HC := hide hc
    have HR0 := hide hr0
    have HP := hide hp
    clear hv hc hr0 hp
    generalize hq : fb p 0 xs = r at *
    clear hq
    go_enter Tryz.func228, Tryz.ntmps228
    go_wp2
    go_loop [5, 8] (fun _ i => ∃ k : Nat, i = .int .i64 k ∧ k ≤ xs.length ∧ r = fb p k (xs.drop k)) (fun _ i => xs.length - (intOf i).toNat)
    case atStart => exact ⟨0, rfl, by omega, unhide HR0⟩
    case round =>
      obtain ⟨k, rfl, hk, hr⟩ := hrel
      by_cases hlt : k < xs.length
      · have hcell := unhide HC k hlt
        have hrg := (unhide hfit).i32at k
        have HV := hide ((unhide HP) (xs.getD k 0) w hrg)
        cases hok : p (xs.getD k 0) with
        | true =>
          have hb := fb_hit hlt hr hok
          rw [hok] at HV
          subst hb
          clear hr hok HR0
          generalize xs.getD k 0 = c at *
          go_wp2_with (go_at_fn g; refine (unhide HV).mono ?_; rintro e w ⟨rfl, rfl⟩)
          go_ret
          exact ⟨rfl, rfl⟩
        | false =>
          have HR := hide (fb_next hlt hr hok)
          rw [hok] at HV
          clear hr hok HR0
          generalize xs.getD k 0 = c at *
          go_wp2_with (go_at_fn g; refine (unhide HV).mono ?_; rintro e w ⟨rfl, rfl⟩)
          go_round
          case rel => exact ⟨k + 1, by go_num, by omega, unhide HR⟩
          case measure => simp [intOf]; omega
      · have hb := fb_end (by omega) hr
        subst hb
        clear hr HR0
        go_wp2
        go_ret
        exact ⟨rfl, rfl⟩

theorem enters_un : ∀ args w, (callFunc 229 args).run Tryz.prog w = .ok (.enter 229 args) w := enters_of Tryz.func229 (by kernel_rfl) rfl

theorem firstUnsound_any (v : Value) (xs : List Int) (w : World) (hv : Sk .i32 w v xs) :
    Calls Tryz.prog 225 #[v] w fun e w' => e = .returned (.int .i64 (fb (fun c => !Cn.scalar c) 0 xs)) ∧ w' = w := by
  have H := hide (indexFunc_any (fun c => !Cn.scalar c) 229 unsound1_any enters_un v xs w hv)
  clear hv
  generalize fb (fun c => !Cn.scalar c) 0 xs = r at *
  go_enter Tryz.func225, Tryz.ntmps225
  go_wp2_with fail
  refine (unhide H).mono ?_
  rintro e w ⟨rfl, rfl⟩
  clear H
  go_wp2
  go_ret
  exact ⟨rfl, rfl⟩
theorem sound_any (v : Value) (xs : List Int) (w : World) (hv : Sk .i32 w v xs) :
    Calls Tryz.prog 223 #[v] w fun e w' => e = .returned (.bool (xs.all Cn.scalar)) ∧ w' = w := by
  have H := hide (firstUnsound_any v xs w hv)
  have e : xs.all Cn.scalar = decide (fb (fun c => !Cn.scalar c) 0 xs < 0) := by rw [fb_all]; simp
  rw [e]
  clear hv e
  generalize fb (fun c => !Cn.scalar c) 0 xs = r at *
  go_enter Tryz.func223, Tryz.ntmps223
  go_wp2_with fail
  refine (unhide H).mono ?_
  rintro e w ⟨rfl, rfl⟩
  clear H
  go_wp2
  go_ret
  exact ⟨rfl, rfl⟩
end Go.Proofs.YtloocceakfmnoaaGreatDoor
/- Weights: NaN, weigh's Order against nought. -/
namespace Go.Proofs.YtloocceakfmnoaaGreatDoor
open Go.RowKit

def nanB (u : Nat) : Bool := decide (9218868437227405312 < u % 9223372036854775808)
theorem order_self (d : Ieee.Datum) : d.order d = if d.isNaN then none else some .eq := by
  cases d with
  | number s m i =>
    simp [Ieee.Datum.order, Ieee.Datum.isNaN, Std.ReflCmp.compare_self]
  | infinity s => simp [Ieee.Datum.order, Ieee.Datum.isNaN, Std.ReflCmp.compare_self]
  | nan s t => simp [Ieee.Datum.order, Ieee.Datum.isNaN]
theorem read_nan (u : Nat) : (FloatKind.f64.format.read u).isNaN = nanB u := by
  have e1 : FloatKind.f64.format.signWeight = 9223372036854775808 := by decide
  have e2 : FloatKind.f64.format.binade = 4503599627370496 := by decide
  have e3 : FloatKind.f64.format.infRung = 9218868437227405312 := by decide
  unfold Ieee.Format.read nanB
  simp only [e1, e2, e3]
  split
  · rw [decide_eq_false (by omega)]; rfl
  · split
    · rw [decide_eq_false (by omega)]; rfl
    · split
      · rw [decide_eq_false (by omega)]; rfl
      · rw [decide_eq_true (by omega)]; rfl
theorem neq_self (u : Nat) : (FloatKind.f64.format.order u u != some .eq) = nanB u := by
  unfold Ieee.Format.order
  rw [order_self, ← read_nan]
  cases (FloatKind.f64.format.read u).isNaN <;> rfl
theorem isNaN_any (u : Nat) (w : World) : Calls Tryz.prog 103 #[.float .f64 u] w fun e w' => e = .returned (.bool (nanB u)) ∧ w' = w := by
  have e := neq_self u
  go_enter Tryz.func103, Tryz.ntmps103
  go_wp2
  go_ret
  exact ⟨rfl, rfl⟩
/-- A number's rank, of what is no NaN. -/
def rankN (u : Nat) : Int := if nanB u then 18446744073709551615 else if u < 9223372036854775808 then (u : Int) + 9223372036854775808 else 18446744073709551615 - u
theorem or_sign {u : Nat} (h : u < 9223372036854775808) : bits .or .u64 (u : Int) 9223372036854775808 = (u : Int) + 9223372036854775808 := by
  unfold bits
  simp only []
  have e : (BitVec.ofInt IntKind.u64.bits (u : Int) ||| BitVec.ofInt IntKind.u64.bits 9223372036854775808).toNat = u + 9223372036854775808 := by
    rw [BitVec.toNat_or, BitVec.toNat_ofInt, BitVec.toNat_ofInt]
    have e1 : ((u : Int) % ((2 ^ IntKind.u64.bits : Nat) : Int)).toNat = u := by
      rw [show ((2 ^ IntKind.u64.bits : Nat) : Int) = 18446744073709551616 by decide]
      omega
    have e2 : ((9223372036854775808 : Int) % ((2 ^ IntKind.u64.bits : Nat) : Int)).toNat = 9223372036854775808 := by decide
    rw [e1, e2, Nat.or_comm]
    have := Nat.two_pow_add_eq_or_of_lt (i := 63) (b := u) (by omega) 1
    rw [show (2 : Nat) ^ 63 * 1 = 9223372036854775808 by decide] at this
    omega
  rw [e, IntWalk.u64_in _ ⟨by omega, by omega⟩]
  omega
theorem xor_all {u : Nat} (h : u < 18446744073709551616) : bits .xor .u64 IntKind.u64.max (u : Int) = 18446744073709551615 - (u : Int) := by
  unfold bits
  simp only []
  have e : (BitVec.ofInt IntKind.u64.bits IntKind.u64.max ^^^ BitVec.ofInt IntKind.u64.bits (u : Int)).toNat = 18446744073709551615 - u := by
    rw [show BitVec.ofInt IntKind.u64.bits IntKind.u64.max = BitVec.allOnes IntKind.u64.bits by decide, BitVec.allOnes_xor, BitVec.toNat_not, BitVec.toNat_ofInt]
    have e1 : ((u : Int) % ((2 ^ IntKind.u64.bits : Nat) : Int)).toNat = u := by
      rw [show ((2 ^ IntKind.u64.bits : Nat) : Int) = 18446744073709551616 by decide]
      omega
    rw [e1]
    rfl
  rw [e, IntWalk.u64_in _ ⟨by omega, by omega⟩]
  omega
set_option maxRecDepth 8000 in
set_option maxHeartbeats 1000000 in
theorem rank_any (u : Nat) (w : World) (hu : u < 18446744073709551616) : Calls Tryz.prog 227 #[.float .f64 u] w fun e w' => e = .returned (.int .u64 (rankN u)) ∧ w' = w := by
  have K1 := hide (bits_any u w)
  have K2 := hide (isNaN_any u w)
  unfold rankN
  cases hn : nanB u with
  | true =>
    rw [hn] at K2
    rw [if_pos rfl]
    go_enter Tryz.func227, Tryz.ntmps227
    go_wp2_with fail
    refine (unhide K1).mono ?_
    rintro e w ⟨rfl, rfl⟩
    clear K1
    go_wp2_with fail
    refine (unhide K2).mono ?_
    rintro e w ⟨rfl, rfl⟩
    clear K2
    go_wp2
    go_ret
    exact ⟨rfl, rfl⟩
  | false =>
    rw [hn] at K2
    rw [if_neg (by decide)]
    by_cases hs : u < 9223372036854775808
    · rw [if_pos hs]
      have hs1 : ¬ (9223372036854775808 : Int) ≤ (u : Int) := by omega
      have ho := or_sign hs
      have hz : (0 : Int) ≤ (u : Int) := by omega
      have hs2 : (u : Int) < 9223372036854775808 := by omega
      clear hn hu hs hs1
      generalize (u : Int) = x at *
      generalize hy : x + 9223372036854775808 = y at *
      generalize hq : bits .or .u64 x 9223372036854775808 = q at *
      go_enter Tryz.func227, Tryz.ntmps227
      go_wp2_with fail
      refine (unhide K1).mono ?_
      rintro e w ⟨rfl, rfl⟩
      clear K1
      go_wp2_with fail
      refine (unhide K2).mono ?_
      rintro e w ⟨rfl, rfl⟩
      clear K2
      go_wp2
      go_ret
      exact ⟨rfl, rfl⟩
    · rw [if_neg hs]
      have hs1 : (9223372036854775808 : Int) ≤ (u : Int) := by omega
      have hx := xor_all hu
      go_enter Tryz.func227, Tryz.ntmps227
      go_wp2_with fail
      refine (unhide K1).mono ?_
      rintro e w ⟨rfl, rfl⟩
      clear K1
      go_wp2_with fail
      refine (unhide K2).mono ?_
      rintro e w ⟨rfl, rfl⟩
      clear K2
      go_wp2
      go_ret
      refine ⟨?_, rfl⟩
      rw [← hx]
      rfl
end Go.Proofs.YtloocceakfmnoaaGreatDoor
