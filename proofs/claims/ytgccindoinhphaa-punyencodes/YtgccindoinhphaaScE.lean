/- The contracts of scalar's Valid, of slices.IndexFunc, of what leans on them. -/
import Derived.Test.YtgccindoinhphaaPost
import Derived.Shelf.Abstract
import Derived.Lib.Walk
namespace Go.Proofs.Ytgccindoinhphaa
open Go.RowKit

set_option maxHeartbeats 400000 in
theorem validRune_any (c : Int) (w : World) (h : -2147483648 ≤ c ∧ c ≤ 2147483647) :
    Calls Try.prog 52 #[.int .i32 c] w fun e w' => e = .returned (.bool (okb c)) ∧ w' = w := by
  by_cases h1 : 0 ≤ c
  · by_cases h2 : c < 55296
    · have hk : okb c = true := decide_eq_true (by unfold Utf.okc; omega)
      rw [hk]
      go_enter Try.func52, Try.ntmps52
      go_wp2
      go_ret
      exact ⟨rfl, rfl⟩
    · by_cases h3 : 57343 < c
      · by_cases h4 : c ≤ 1114111
        · have hk : okb c = true := decide_eq_true (by unfold Utf.okc; omega)
          rw [hk]
          go_enter Try.func52, Try.ntmps52
          go_wp2
          go_ret
          exact ⟨rfl, rfl⟩
        · have hk : okb c = false := decide_eq_false (by unfold Utf.okc; omega)
          rw [hk]
          go_enter Try.func52, Try.ntmps52
          go_wp2
          go_ret
          exact ⟨rfl, rfl⟩
      · have hk : okb c = false := decide_eq_false (by unfold Utf.okc; omega)
        rw [hk]
        go_enter Try.func52, Try.ntmps52
        go_wp2
        go_ret
        exact ⟨rfl, rfl⟩
  · have hk : okb c = false := decide_eq_false (by unfold Utf.okc; omega)
    rw [hk]
    go_enter Try.func52, Try.ntmps52
    go_wp2
    go_ret
    exact ⟨rfl, rfl⟩

theorem valid_any (c : Int) (w : World) (h : -2147483648 ≤ c ∧ c ≤ 2147483647) :
    Calls Try.prog 43 #[.int .i32 c] w fun e w' => e = .returned (.bool (okb c)) ∧ w' = w := by
  have H := hide (validRune_any c w h)
  generalize okb c = b at *
  go_enter Try.func43, Try.ntmps43
  go_wp2_with fail
  refine (unhide H).mono ?_
  rintro e w ⟨rfl, rfl⟩
  clear H
  go_wp2
  go_ret
  exact ⟨rfl, rfl⟩

theorem valC : ValC := fun c w h1 h2 => (valid_any c w ⟨h1, h2⟩).mono fun _ _ ⟨h, e⟩ => ⟨h, by rw [e]; exact Below.refl _ _⟩

theorem unsound1_any (c : Int) (w : World) (h : -2147483648 ≤ c ∧ c ≤ 2147483647) :
    Calls Try.prog 46 #[.int .i32 c] w fun e w' => e = .returned (.bool (!okb c)) ∧ w' = w := by
  have H := hide (valid_any c w h)
  generalize okb c = b at *
  go_enter Try.func46, Try.ntmps46
  go_wp2_with fail
  refine (unhide H).mono ?_
  rintro e w ⟨rfl, rfl⟩
  clear H
  go_wp2
  go_ret
  exact ⟨rfl, rfl⟩

/-- The place of the first at which p holds, or -1. -/
def fb (p : Int → Bool) : Nat → List Int → Int
  | _, [] => -1
  | i, c :: r => if p c then (i : Int) else fb p (i + 1) r

theorem fb_hit {p : Int → Bool} {xs : List Int} {k : Nat} {r : Int} (hk : k < xs.length) (h : r = fb p k (xs.drop k)) (hp : p (xs.getD k 0) = true) : r = (k : Int) := by
  rw [h, drop_next hk, fb, if_pos hp]
theorem fb_next {p : Int → Bool} {xs : List Int} {k : Nat} {r : Int} (hk : k < xs.length) (h : r = fb p k (xs.drop k)) (hp : p (xs.getD k 0) = false) : r = fb p (k + 1) (xs.drop (k + 1)) := by
  rw [h, drop_next hk, fb, hp]; rfl
theorem fb_end {p : Int → Bool} {xs : List Int} {k : Nat} {r : Int} (hk : xs.length ≤ k) (h : r = fb p k (xs.drop k)) : r = -1 := by
  rw [h, List.drop_eq_nil_of_le hk, fb]
theorem fb_all (p : Int → Bool) (i : Nat) (xs : List Int) : decide (fb p i xs < 0) = xs.all (fun c => !p c) := by
  induction xs generalizing i with
  | nil => rfl
  | cons c r ih =>
    simp only [fb, List.all_cons]
    by_cases hp : p c = true
    · simp [hp]
    · simpa [hp] using ih (i + 1)

set_option maxHeartbeats 1000000 in
theorem indexFunc_any (p : Int → Bool) (g : Nat) (hp : ∀ x w, (-2147483648 ≤ x ∧ x ≤ 2147483647) → Calls Try.prog g #[.int .i32 x] w fun e w' => e = .returned (.bool (p x)) ∧ w' = w) (eg : ∀ args w, (callFunc g args).run Try.prog w = .ok (.enter g args) w)
    (v : Value) (xs : List Int) (w : World) (hv : Sk .i32 w v xs) :
    Calls Try.prog 45 #[v, .func (.func g) #[] #[]] w fun e w' => e = .returned (.int .i64 (fb p 0 xs)) ∧ w' = w := by
  have hlx := hv.len
  have hr0 : fb p 0 xs = fb p 0 (xs.drop 0) := by rw [List.drop_zero]
  rcases Nat.eq_zero_or_pos xs.length with h0 | h0
  · have hq := fb_end (by omega) hr0
    obtain ⟨ao, cap, rfl, _, _⟩ := hv.shape
    rw [hq, h0]
    clear hr0 hv
    go_enter Try.func45, Try.ntmps45
    go_wp2
    refine wp_loop_rounds 1 ?_
    rw [rounds_succ]
    go_wp2
    go_ret
    exact ⟨rfl, rfl⟩
  · have hfit := hide hv.1
    obtain ⟨b, off, cap, rfl, hc1, hc2, hc⟩ := hv.place h0
    have HC := hide hc
    have HR0 := hide hr0
    have HP := hide hp
    clear hv hc hr0 hp
    generalize hq : fb p 0 xs = r at *
    clear hq
    go_enter Try.func45, Try.ntmps45
    go_wp2
    go_loop [5, 8] (fun _ i => ∃ k : Nat, i = .int .i64 k ∧ k ≤ xs.length ∧ r = fb p k (xs.drop k)) (fun _ i => xs.length - (intOf i).toNat)
    case atStart => exact ⟨0, rfl, by omega, unhide HR0⟩
    case round =>
      obtain ⟨k, rfl, hk, hr⟩ := hrel
      by_cases hlt : k < xs.length
      · have hcell := unhide HC k hlt
        have hrg := (unhide hfit).i32at k
        have HV := hide ((unhide HP) (xs.getD k 0) w hrg)
        cases hok : p (xs.getD k 0) with
        | true =>
          have hb := fb_hit hlt hr hok
          rw [hok] at HV
          subst hb
          clear hr hok HR0
          generalize xs.getD k 0 = c at *
          go_wp2_with (go_at_fn g; refine (unhide HV).mono ?_; rintro e w ⟨rfl, rfl⟩)
          go_ret
          exact ⟨rfl, rfl⟩
        | false =>
          have HR := hide (fb_next hlt hr hok)
          rw [hok] at HV
          clear hr hok HR0
          generalize xs.getD k 0 = c at *
          go_wp2_with (go_at_fn g; refine (unhide HV).mono ?_; rintro e w ⟨rfl, rfl⟩)
          go_round
          case rel => exact ⟨k + 1, by go_num, by omega, unhide HR⟩
          case measure => simp [intOf]; omega
      · have hb := fb_end (by omega) hr
        subst hb
        clear hr HR0
        go_wp2
        go_ret
        exact ⟨rfl, rfl⟩

theorem enters_un : ∀ args w, (callFunc 46 args).run Try.prog w = .ok (.enter 46 args) w := enters_of Try.func46 (by kernel_rfl) rfl

theorem firstUnsound_any (v : Value) (xs : List Int) (w : World) (hv : Sk .i32 w v xs) :
    Calls Try.prog 31 #[v] w fun e w' => e = .returned (.int .i64 (fb (fun c => !okb c) 0 xs)) ∧ w' = w := by
  have H := hide (indexFunc_any (fun c => !okb c) 46 unsound1_any enters_un v xs w hv)
  clear hv
  generalize fb (fun c => !okb c) 0 xs = r at *
  go_enter Try.func31, Try.ntmps31
  go_wp2_with fail
  refine (unhide H).mono ?_
  rintro e w ⟨rfl, rfl⟩
  clear H
  go_wp2
  go_ret
  exact ⟨rfl, rfl⟩
end Go.Proofs.Ytgccindoinhphaa
