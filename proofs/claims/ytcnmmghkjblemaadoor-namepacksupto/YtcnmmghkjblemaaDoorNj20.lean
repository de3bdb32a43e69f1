/- The program's comparison of two labels. -/
import Derived.Test.YtcnmmghkjblemaaDoorNf20
import Derived.Deep.QuietTactic
import Derived.Lib.MinMaxS
namespace Go.Proofs.YtcnmmghkjblemaaDoor
open Go.RowKit

theorem small20 (x : Int) (h : 0 ≤ x ∧ x ≤ 255) (w : World) : Calls Tryd.prog 54 #[.int .u8 x] w (fun e w' => e = .returned (.int .u8 (Na.sm x)) ∧ w' = w) := by
  by_cases h1 : 65 ≤ x
  · by_cases h2 : x ≤ 90
    · have E : Na.sm x = x + 32 := by unfold Na.sm; rw [if_pos ⟨h1, h2⟩]
      have hw : IntKind.u8.wrap (x + 32) = x + 32 := by simp [IntKind.wrap, IntKind.bits, IntKind.signed]; omega
      rw [E]
      go_enter Tryd.func54, Tryd.ntmps54
      go_wp2
      go_ret
      exact ⟨rfl, rfl⟩
    · have E : Na.sm x = x := by unfold Na.sm; rw [if_neg (by omega)]
      rw [E]
      go_enter Tryd.func54, Tryd.ntmps54
      go_wp2
      go_ret
      exact ⟨rfl, rfl⟩
  · have E : Na.sm x = x := by unfold Na.sm; rw [if_neg (by omega)]
    rw [E]
    go_enter Tryd.func54, Tryd.ntmps54
    go_wp2
    go_ret
    exact ⟨rfl, rfl⟩
namespace Na
def cmpI (a b : Int) : Int := if a < b then -1 else if b < a then 1 else 0
theorem byt_cmpI (x y : Int) : byt x y = cmpI (sm x) (sm y) := rfl
end Na
def IntS20 (w : World) (n : Int) (e : Ending) (w' : World) : Prop := e = .returned (.int .i64 n) ∧ w' = w
theorem isNaNu8_20 (c : Int) (w : World) : Calls Tryd.prog 68 #[.int .u8 c] w (fun e w' => e = .returned (.bool false) ∧ w' = w) := by
  go_enter Tryd.func68, Tryd.ntmps68
  go_wp2
  go_ret
  exact ⟨by simp, rfl⟩
set_option maxHeartbeats 1000000 in
theorem compareu8_20 (a b : Int) (w : World) : Calls Tryd.prog 53 #[.int .u8 a, .int .u8 b] w (IntS20 w (Na.cmpI a b)) := by
  have HA := fun W => hide (isNaNu8_20 a W)
  have HB := fun W => hide (isNaNu8_20 b W)
  obtain ⟨n, hn⟩ : ∃ n, n = Na.cmpI a b := ⟨_, rfl⟩
  rw [← hn]
  unfold Na.cmpI at hn
  by_cases h1 : a < b
  all_goals by_cases h2 : b < a
  · omega
  all_goals
    simp only [h1, h2, if_true, if_false] at hn
    subst hn
    go_enter Tryd.func53, Tryd.ntmps53
    go_wp2_with fail
    refine (unhide (HA _)).mono ?_
    rintro e w ⟨rfl, rfl⟩
    go_wp2_with fail
    refine (unhide (HB _)).mono ?_
    rintro e w ⟨rfl, rfl⟩
    go_wp2
    go_ret
    exact ⟨rfl, rfl⟩
theorem isNaNi64_20 (c : Int) (w : World) : Calls Tryd.prog 69 #[.int .i64 c] w (fun e w' => e = .returned (.bool false) ∧ w' = w) := by
  go_enter Tryd.func69, Tryd.ntmps69
  go_wp2
  go_ret
  exact ⟨by simp, rfl⟩
set_option maxHeartbeats 1000000 in
theorem comparei64_20 (a b : Int) (w : World) : Calls Tryd.prog 55 #[.int .i64 a, .int .i64 b] w (IntS20 w (Na.cmpI a b)) := by
  have HA := fun W => hide (isNaNi64_20 a W)
  have HB := fun W => hide (isNaNi64_20 b W)
  obtain ⟨n, hn⟩ : ∃ n, n = Na.cmpI a b := ⟨_, rfl⟩
  rw [← hn]
  unfold Na.cmpI at hn
  by_cases h1 : a < b
  all_goals by_cases h2 : b < a
  · omega
  all_goals
    simp only [h1, h2, if_true, if_false] at hn
    subst hn
    go_enter Tryd.func55, Tryd.ntmps55
    go_wp2_with fail
    refine (unhide (HA _)).mono ?_
    rintro e w ⟨rfl, rfl⟩
    go_wp2_with fail
    refine (unhide (HB _)).mono ?_
    rintro e w ⟨rfl, rfl⟩
    go_wp2
    go_ret
    exact ⟨rfl, rfl⟩
set_option maxRecDepth 8000 in
set_option maxHeartbeats 1000000 in
theorem compareLabels20 (a b : ByteArray) (w : World) (ha : a.size ≤ 9223372036854775807) : Calls Tryd.prog 41 #[.string a, .string b] w (IntD20 w (Na.lbl (nums a) (nums b))) := by
  have hla := nums_length a
  have hlb := nums_length b
  have HA : Hid (∀ k, k < a.size → ∀ w, (Instr.index 9 (.string a) (.int .i64 (k : Int))).run Tryd.prog w = .ok (.int .u8 ((nums a).getD k 0)) w) := fun k hk w => run_at a k k rfl hk w
  have HB : Hid (∀ k, k < b.size → ∀ w, (Instr.index 9 (.string b) (.int .i64 (k : Int))).run Tryd.prog w = .ok (.int .u8 ((nums b).getD k 0)) w) := fun k hk w => run_at b k k rfl hk w
  have HS : Hid (∀ k, k < a.size → k < b.size → Na.lex Na.byt ((nums a).drop k) ((nums b).drop k) = if Na.byt ((nums a).getD k 0) ((nums b).getD k 0) = 0 then Na.lex Na.byt ((nums a).drop (k + 1)) ((nums b).drop (k + 1)) else Na.byt ((nums a).getD k 0) ((nums b).getD k 0)) := fun k h1 h2 => by
    have := Na.lex_step (c := Na.byt) (A := nums a) (B := nums b) (i := k) (by omega) (by omega)
    rw [this]
    simp only [List.getD, List.getElem?_eq_getElem (show k < (nums a).length by omega), List.getElem?_eq_getElem (show k < (nums b).length by omega), Option.getD_some]
  have HE : Hid (∀ k, k ≤ a.size → k ≤ b.size → (a.size ≤ k ∨ b.size ≤ k) → Na.lex Na.byt ((nums a).drop k) ((nums b).drop k) = Na.cmpI a.size b.size) := fun k h1 h2 h3 => by
    rw [Na.lex_end (by omega) (by omega), hla, hlb]
    unfold Na.cmpI
    congr 1
    · simp
    · congr 1; simp
  have KS : Hid (∀ x, (0 ≤ x ∧ x ≤ 255) → ∀ w, Calls Tryd.prog 54 #[.int .u8 x] w (fun e w' => e = .returned (.int .u8 (Na.sm x)) ∧ w' = w)) := fun x hx w => small20 x hx w
  have KC : Hid (∀ x y w, Calls Tryd.prog 53 #[.int .u8 x, .int .u8 y] w (IntS20 w (Na.cmpI x y))) := fun x y w => compareu8_20 x y w
  have KE := hide (fun w => comparei64_20 a.size b.size w)
  have HYA := hide (fun k => (nums_byt a).at k)
  have HYB := hide (fun k => (nums_byt b).at k)
  have H0 : Hid (Na.lbl (nums a) (nums b) = Na.lex Na.byt ((nums a).drop 0) ((nums b).drop 0)) := rfl
  have HC : Hid (∀ u v, Na.byt u v = Na.cmpI (Na.sm u) (Na.sm v)) := fun _ _ => rfl
  obtain ⟨mn, hmn⟩ : ∃ mn : Nat, mn = min a.size b.size := ⟨_, rfl⟩
  have hmin : min (a.size : Int) b.size = mn := by omega
  generalize Na.lbl (nums a) (nums b) = q at *
  go_enter Tryd.func41, Tryd.ntmps41
  go_wp2
  go_loopw [5, 6, 12] (fun _ _ i wr => ∃ k : Nat, i = .int .i64 k ∧ k ≤ mn ∧ q = Na.lex Na.byt ((nums a).drop k) ((nums b).drop k) ∧ ∃ m, wr = w.drewN m) (fun _ _ i _ => mn - (intOf i).toNat)
  case atStart => exact ⟨0, rfl, by omega, unhide H0, drew0 w⟩
  case round =>
    clear H0
    obtain ⟨k, rfl, hk1, hq, hd⟩ := hrel
    by_cases h1 : k < mn
    · have x1 := (unhide HA) k (by omega)
      have x2 := (unhide HB) k (by omega)
      have b1 := (unhide HYA) k
      have b2 := (unhide HYB) k
      rw [(unhide HS) k (by omega) (by omega), unhide HC] at hq
      have L0 : (k : Int) < mn := by omega
      have L1 : (k : Int) < a.size := by omega
      have L2 : (k : Int) < b.size := by omega
      have K2 := hide (fun w => (unhide KC) (Na.sm ((nums a).getD k 0)) (Na.sm ((nums b).getD k 0)) w)
      by_cases hz : Na.cmpI (Na.sm ((nums a).getD k 0)) (Na.sm ((nums b).getD k 0)) = 0
      · rw [if_pos hz] at hq
        rw [hz] at K2
        have HQ := hide hq
        clear HA HB HS HE HYA HYB hq hz HC KC
        generalize (nums a).getD k 0 = u at *
        generalize (nums b).getD k 0 = v at *
        generalize Na.sm = g at *
        go_wp2
        go_quiet (first | (go_at_call 54; refine Calls.quiet_of_same (unhide KS _ ?_ _); with_reducible (first | exact b1 | exact b2)) | (go_at_call 53; exact Calls.quiet_of_same (unhide K2 _)))
        go_wp2
        go_roundw
        case rel => exact ⟨k + 1, by go_num, by omega, unhide HQ, drews hd nq⟩
        case measure => simp [intOf]; omega
      · rw [if_neg hz] at hq
        rw [← hq] at K2 hz
        have hz2 : (q != 0) = true := by simpa using hz
        clear HA HB HS HE HYA HYB hq HC KC hz
        generalize (nums a).getD k 0 = u at *
        generalize (nums b).getD k 0 = v at *
        generalize Na.sm = g at *
        go_wp2
        go_quiet (first | (go_at_call 54; refine Calls.quiet_of_same (unhide KS _ ?_ _); with_reducible (first | exact b1 | exact b2)) | (go_at_call 53; exact Calls.quiet_of_same (unhide K2 _)))
        go_wp2
        go_ret
        exact ⟨rfl, drews hd nq⟩
    · have L0 : ¬ ((k : Int) < mn) := by omega
      rw [(unhide HE) k (by omega) (by omega) (by omega)] at hq
      rw [← hq] at KE
      clear HA HB HS HE HYA HYB HC KC KS hq
      go_wp2_with fail
      refine (unhide KE _).mono ?_
      rintro e w9 ⟨rfl, rfl⟩
      go_wp2
      go_ret
      exact ⟨rfl, hd⟩
end Go.Proofs.YtcnmmghkjblemaaDoor
