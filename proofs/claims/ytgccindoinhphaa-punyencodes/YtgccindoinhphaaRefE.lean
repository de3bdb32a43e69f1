/- The contracts of the document's own Valid, Sound, ASCII, Form, Encode, Bytes. -/
import Derived.Test.YtgccindoinhphaaPost
namespace Go.Proofs.Ytgccindoinhphaa
open Go.RowKit

theorem Try.info5 : (Try.prog.info? 5).map (fun i => (i.zero, i.size, i.bytes)) = some (some (.int .u8 0), 1, 1) := by kernel_rfl

set_option maxHeartbeats 400000 in
theorem refValid_any (c : Int) (w : World) (h : -2147483648 ≤ c ∧ c ≤ 2147483647) :
    Calls Try.prog 18 #[.int .i32 c] w fun e w' => e = .returned (.bool (decide (Utf.okc c))) ∧ w' = w := by
  by_cases h1 : 0 ≤ c
  · by_cases h2 : c ≤ 55295
    · have hk : decide (Utf.okc c) = true := decide_eq_true (by unfold Utf.okc; omega)
      rw [hk]
      go_enter Try.func18, Try.ntmps18
      go_wp2
      go_ret
      exact ⟨rfl, rfl⟩
    · by_cases h3 : 57344 ≤ c
      · by_cases h4 : c ≤ 1114111
        · have hk : decide (Utf.okc c) = true := decide_eq_true (by unfold Utf.okc; omega)
          rw [hk]
          go_enter Try.func18, Try.ntmps18
          go_wp2
          go_ret
          exact ⟨rfl, rfl⟩
        · have hk : decide (Utf.okc c) = false := decide_eq_false (by unfold Utf.okc; omega)
          rw [hk]
          go_enter Try.func18, Try.ntmps18
          go_wp2
          go_ret
          exact ⟨rfl, rfl⟩
      · have hk : decide (Utf.okc c) = false := decide_eq_false (by unfold Utf.okc; omega)
        rw [hk]
        go_enter Try.func18, Try.ntmps18
        go_wp2
        go_ret
        exact ⟨rfl, rfl⟩
  · have hk : decide (Utf.okc c) = false := decide_eq_false (by unfold Utf.okc; omega)
    rw [hk]
    go_enter Try.func18, Try.ntmps18
    go_wp2
    go_ret
    exact ⟨rfl, rfl⟩

set_option maxHeartbeats 1000000 in
theorem refSound_any (v : Value) (xs : List Int) (w : World) (hv : Sk .i32 w v xs) :
    Calls Try.prog 19 #[v] w fun e w' => e = .returned (.bool (allb okb xs)) ∧ w' = w := by
  have hlx := hv.len
  rcases Nat.eq_zero_or_pos xs.length with h0 | h0
  · have hk : allb okb xs = true := by simp [allb, List.eq_nil_of_length_eq_zero h0]
    obtain ⟨ao, cap, rfl, _, _⟩ := hv.shape
    rw [hk, h0]
    go_enter Try.func19, Try.ntmps19
    go_wp2
    refine wp_loop_rounds 1 ?_
    rw [rounds_succ]
    go_wp2
    go_ret
    exact ⟨rfl, rfl⟩
  · have hfit := hide hv.1
    obtain ⟨b, off, cap, rfl, hc1, hc2, hc⟩ := hv.place h0
    have HC := hide hc
    have HY := @allb_yes okb xs
    have HN := @allb_no okb xs
    clear hv hc
    generalize allb okb xs = bb at *
    go_enter Try.func19, Try.ntmps19
    go_wp2
    go_loop [3] (fun i => ∃ k : Nat, i = .int .i64 k ∧ k ≤ xs.length ∧ ∀ j, j < k → okb (xs.getD j 0) = true) (fun i => xs.length - (intOf i).toNat)
    case atStart => exact ⟨0, rfl, by omega, fun j hj => by omega⟩
    case round =>
      obtain ⟨k, rfl, hk, hall⟩ := hrel
      by_cases hlt : k < xs.length
      · have hcell := unhide HC k hlt
        have hr := (unhide hfit).i32at k
        have HV : Hid (Calls Try.prog 18 #[.int .i32 (xs.getD k 0)] w fun e w' => e = .returned (.bool (okb (xs.getD k 0))) ∧ w' = w) := hide (refValid_any (xs.getD k 0) w hr)
        have HA := hide hall
        clear hall
        cases hok : okb (xs.getD k 0) with
        | true =>
          have HA2 : ∀ j, j < k + 1 → okb (xs.getD j 0) = true := by
            intro j hj
            rcases Nat.lt_or_ge j k with h | h
            · exact unhide HA j h
            · obtain rfl : j = k := by omega
              exact hok
          have HA2 := hide HA2
          rw [hok] at HV
          clear HA HY HN hok
          generalize xs.getD k 0 = c at *
          go_wp2_with fail
          refine (unhide HV).mono ?_
          rintro e w ⟨rfl, rfl⟩
          clear HV
          go_wp2
          go_round
          case rel => exact ⟨k + 1, by go_num, by omega, unhide HA2⟩
          case measure => simp [intOf]; omega
        | false =>
          have hb := HN hlt hok
          rw [hok] at HV
          subst hb
          clear HA HY HN hok
          generalize xs.getD k 0 = c at *
          go_wp2_with fail
          refine (unhide HV).mono ?_
          rintro e w ⟨rfl, rfl⟩
          clear HV
          go_wp2
          go_ret
          exact ⟨rfl, rfl⟩
      · obtain rfl : k = xs.length := by omega
        have hb := HY hall
        subst hb
        clear HY HN hall
        go_wp2
        go_ret
        exact ⟨rfl, rfl⟩

set_option maxHeartbeats 1000000 in
theorem refASCII_any (v : Value) (xs : List Int) (w : World) (hv : Sk .i32 w v xs) :
    Calls Try.prog 20 #[v] w fun e w' => e = .returned (.bool (allb ascb xs)) ∧ w' = w := by
  have hlx := hv.len
  rcases Nat.eq_zero_or_pos xs.length with h0 | h0
  · have hk : allb ascb xs = true := by simp [allb, List.eq_nil_of_length_eq_zero h0]
    obtain ⟨ao, cap, rfl, _, _⟩ := hv.shape
    rw [hk, h0]
    go_enter Try.func20, Try.ntmps20
    go_wp2
    refine wp_loop_rounds 1 ?_
    rw [rounds_succ]
    go_wp2
    go_ret
    exact ⟨rfl, rfl⟩
  · have hfit := hide hv.1
    obtain ⟨b, off, cap, rfl, hc1, hc2, hc⟩ := hv.place h0
    have HC := hide hc
    have HY := @allb_yes ascb xs
    have HN := @allb_no ascb xs
    clear hv hc
    generalize allb ascb xs = bb at *
    go_enter Try.func20, Try.ntmps20
    go_wp2
    go_loop [3] (fun i => ∃ k : Nat, i = .int .i64 k ∧ k ≤ xs.length ∧ ∀ j, j < k → ascb (xs.getD j 0) = true) (fun i => xs.length - (intOf i).toNat)
    case atStart => exact ⟨0, rfl, by omega, fun j hj => by omega⟩
    case round =>
      obtain ⟨k, rfl, hk, hall⟩ := hrel
      by_cases hlt : k < xs.length
      · have hcell := unhide HC k hlt
        have hr := (unhide hfit).i32at k
        have HA := hide hall
        clear hall
        by_cases hneg : xs.getD k 0 < 0
        · have hb := HN hlt (decide_eq_false (by omega))
          subst hb
          clear HA HY HN
          generalize xs.getD k 0 = c at *
          go_wp2
          go_ret
          exact ⟨rfl, rfl⟩
        · by_cases hbig : 127 < xs.getD k 0
          · have hb := HN hlt (decide_eq_false (by omega))
            subst hb
            clear HA HY HN
            generalize xs.getD k 0 = c at *
            go_wp2
            go_ret
            exact ⟨rfl, rfl⟩
          · have HA2 : ∀ j, j < k + 1 → ascb (xs.getD j 0) = true := by
              intro j hj
              rcases Nat.lt_or_ge j k with h | h
              · exact unhide HA j h
              · obtain rfl : j = k := by omega
                exact decide_eq_true (by omega)
            have HA2 := hide HA2
            clear HA HY HN
            generalize xs.getD k 0 = c at *
            go_wp2
            go_round
            case rel => exact ⟨k + 1, by go_num, by omega, unhide HA2⟩
            case measure => simp [intOf]; omega
      · obtain rfl : k = xs.length := by omega
        have hb := HY hall
        subst hb
        clear HY HN hall
        go_wp2
        go_ret
        exact ⟨rfl, rfl⟩
end Go.Proofs.Ytgccindoinhphaa
