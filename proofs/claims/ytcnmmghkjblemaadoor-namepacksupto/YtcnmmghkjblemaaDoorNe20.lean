/- The document's small and Label of chapter 20. -/
import Derived.Test.YtcnmmghkjblemaaDoorNd20
import Derived.Test.YtcnmmghkjblemaaDoorSameC
namespace Go.Proofs.YtcnmmghkjblemaaDoor
open Go.RowKit

namespace Na
variable {α : Type} {c : α → α → Int}
theorem lex_step {A B : List α} {i : Nat} (hA : i < A.length) (hB : i < B.length) : lex c (A.drop i) (B.drop i) = if c A[i] B[i] = 0 then lex c (A.drop (i + 1)) (B.drop (i + 1)) else c A[i] B[i] := by
  rw [List.drop_eq_getElem_cons hA, List.drop_eq_getElem_cons hB]; rfl
theorem lex_end {A B : List α} {i : Nat} (h : i ≤ A.length ∧ i ≤ B.length) (h2 : A.length ≤ i ∨ B.length ≤ i) : lex c (A.drop i) (B.drop i) = if A.length < B.length then -1 else if B.length < A.length then 1 else 0 := by
  rcases Nat.lt_trichotomy A.length B.length with hl | hl | hl
  · have hA : A.drop i = [] := List.drop_eq_nil_of_le (by omega)
    rw [hA, if_pos hl]
    cases e : B.drop i with
    | nil => have := congrArg List.length e; rw [List.length_drop] at this; simp at this; omega
    | cons => rfl
  · have hA : A.drop i = [] := List.drop_eq_nil_of_le (by omega)
    have hB : B.drop i = [] := List.drop_eq_nil_of_le (by omega)
    rw [hA, hB, if_neg (by omega), if_neg (by omega)]; rfl
  · have hB : B.drop i = [] := List.drop_eq_nil_of_le (by omega)
    rw [hB, if_neg (by omega), if_pos hl]
    cases e : A.drop i with
    | nil => have := congrArg List.length e; rw [List.length_drop] at this; simp at this; omega
    | cons => rfl
theorem sm_rng {x : Int} (h : 0 ≤ x ∧ x ≤ 255) : 0 ≤ sm x ∧ sm x ≤ 255 := by unfold sm; split <;> omega
end Na
theorem refSmall20 (x : Int) (h : 0 ≤ x ∧ x ≤ 255) (w : World) : Calls Tryd.prog 42 #[.int .u8 x] w (fun e w' => e = .returned (.int .u8 (Na.sm x)) ∧ w' = w) := by
  by_cases h1 : 65 ≤ x
  · by_cases h2 : x ≤ 90
    · have E : Na.sm x = x + 32 := by unfold Na.sm; rw [if_pos ⟨h1, h2⟩]
      have hw : IntKind.u8.wrap (x + 32) = x + 32 := by simp [IntKind.wrap, IntKind.bits, IntKind.signed]; omega
      rw [E]
      go_enter Tryd.func42, Tryd.ntmps42
      go_wp2
      go_ret
      exact ⟨rfl, rfl⟩
    · have E : Na.sm x = x := by unfold Na.sm; rw [if_neg (by omega)]
      rw [E]
      go_enter Tryd.func42, Tryd.ntmps42
      go_wp2
      go_ret
      exact ⟨rfl, rfl⟩
  · have E : Na.sm x = x := by unfold Na.sm; rw [if_neg (by omega)]
    rw [E]
    go_enter Tryd.func42, Tryd.ntmps42
    go_wp2
    go_ret
    exact ⟨rfl, rfl⟩
def IntD20 (w : World) (n : Int) (e : Ending) (w' : World) : Prop := e = .returned (.int .i64 n) ∧ ∃ m, w' = w.drewN m
set_option maxRecDepth 8000 in
set_option maxHeartbeats 1000000 in
theorem refLabel20 (a b : ByteArray) (w : World) (ha : a.size ≤ 1000000000) (hb : b.size ≤ 1000000000) : Calls Tryd.prog 32 #[.string a, .string b] w (IntD20 w (Na.lbl (nums a) (nums b))) := by
  have hla := nums_length a
  have hlb := nums_length b
  have HA : Hid (∀ k, k < a.size → ∀ w, (Instr.index 9 (.string a) (.int .i64 (k : Int))).run Tryd.prog w = .ok (.int .u8 ((nums a).getD k 0)) w) := fun k hk w => run_at a k k rfl hk w
  have HB : Hid (∀ k, k < b.size → ∀ w, (Instr.index 9 (.string b) (.int .i64 (k : Int))).run Tryd.prog w = .ok (.int .u8 ((nums b).getD k 0)) w) := fun k hk w => run_at b k k rfl hk w
  have HS : Hid (∀ k, k < a.size → k < b.size → Na.lex Na.byt ((nums a).drop k) ((nums b).drop k) = if Na.byt ((nums a).getD k 0) ((nums b).getD k 0) = 0 then Na.lex Na.byt ((nums a).drop (k + 1)) ((nums b).drop (k + 1)) else Na.byt ((nums a).getD k 0) ((nums b).getD k 0)) := fun k h1 h2 => by
    have := Na.lex_step (c := Na.byt) (A := nums a) (B := nums b) (i := k) (by omega) (by omega)
    rw [this]
    simp only [List.getD, List.getElem?_eq_getElem (show k < (nums a).length by omega), List.getElem?_eq_getElem (show k < (nums b).length by omega), Option.getD_some]
  have HE : Hid (∀ k, k ≤ a.size → k ≤ b.size → (a.size ≤ k ∨ b.size ≤ k) → Na.lex Na.byt ((nums a).drop k) ((nums b).drop k) = if a.size < b.size then -1 else if b.size < a.size then 1 else 0) := fun k h1 h2 h3 => by
    rw [Na.lex_end (by omega) (by omega), hla, hlb]
  have KS : Hid (∀ x, (0 ≤ x ∧ x ≤ 255) → ∀ w, Calls Tryd.prog 42 #[.int .u8 x] w (fun e w' => e = .returned (.int .u8 (Na.sm x)) ∧ w' = w)) := fun x hx w => refSmall20 x hx w
  have HYA := hide (fun k => (nums_byt a).at k)
  have HYB := hide (fun k => (nums_byt b).at k)
  have H0 : Hid (Na.lbl (nums a) (nums b) = Na.lex Na.byt ((nums a).drop 0) ((nums b).drop 0)) := rfl
  generalize Na.lbl (nums a) (nums b) = q at *
  go_enter Tryd.func32, Tryd.ntmps32
  go_wp2
  go_loopw [5, 6, 7] (fun i _ _ wr => ∃ k : Nat, i = .int .i64 k ∧ k ≤ a.size ∧ k ≤ b.size ∧ q = Na.lex Na.byt ((nums a).drop k) ((nums b).drop k) ∧ ∃ m, wr = w.drewN m) (fun i _ _ _ => a.size - (intOf i).toNat)
  case atStart => exact ⟨0, rfl, by omega, by omega, unhide H0, drew0 w⟩
  case round =>
    clear H0
    obtain ⟨k, rfl, hk1, hk2, hq, hd⟩ := hrel
    by_cases h1 : k < a.size
    · by_cases h2 : k < b.size
      · have x1 := (unhide HA) k h1
        have x2 := (unhide HB) k h2
        have b1 := (unhide HYA) k
        have b2 := (unhide HYB) k
        rw [(unhide HS) k h1 h2] at hq
        have s1 := Na.sm_rng b1
        have s2 := Na.sm_rng b2
        have L1 : (k : Int) < a.size := by omega
        have L2 : (k : Int) < b.size := by omega
        have HQ : Hid (Na.byt ((nums a).getD k 0) ((nums b).getD k 0) = 0 → q = Na.lex Na.byt ((nums a).drop (k + 1)) ((nums b).drop (k + 1))) := fun h => by rw [hq, if_pos h]
        have HN : Hid (Na.byt ((nums a).getD k 0) ((nums b).getD k 0) ≠ 0 → q = Na.byt ((nums a).getD k 0) ((nums b).getD k 0)) := fun h => by rw [hq, if_neg h]
        have e1 : Na.byt ((nums a).getD k 0) ((nums b).getD k 0) = (if Na.sm ((nums a).getD k 0) < Na.sm ((nums b).getD k 0) then -1 else if Na.sm ((nums b).getD k 0) < Na.sm ((nums a).getD k 0) then 1 else 0) := rfl
        clear HA HB HS HE HYA HYB hq
        generalize Na.byt ((nums a).getD k 0) ((nums b).getD k 0) = by1 at *
        generalize (nums a).getD k 0 = u at *
        generalize (nums b).getD k 0 = v at *
        generalize Na.sm = g at *
        rcases Int.lt_trichotomy (g u) (g v) with hl | hl | hl
        · rw [if_pos hl] at e1
          obtain rfl : q = -1 := by rw [unhide HN (by omega), e1]
          clear HQ HN e1
          go_wp2
          go_quiet (first | (go_at_call 42; refine Calls.quiet_of_same (unhide KS _ ?_ _); with_reducible (first | exact b1 | exact b2)))
          go_wp2
          go_ret
          exact ⟨rfl, drews hd nq⟩
        · have hl1 : ¬ g u < g v := by omega
          have hl2 : ¬ g v < g u := by omega
          rw [if_neg hl1, if_neg hl2] at e1
          have HQ2 := hide (unhide HQ e1)
          clear hl HQ HN e1
          go_wp2
          go_quiet (first | (go_at_call 42; refine Calls.quiet_of_same (unhide KS _ ?_ _); with_reducible (first | exact b1 | exact b2)))
          go_wp2
          go_roundw
          case rel => exact ⟨k + 1, by go_num, by omega, by omega, unhide HQ2, drews hd nq⟩
          case measure => simp [intOf]; omega
        · have hl2 : ¬ g u < g v := by omega
          rw [if_neg hl2, if_pos hl] at e1
          obtain rfl : q = 1 := by rw [unhide HN (by omega), e1]
          clear HQ HN e1
          go_wp2
          go_quiet (first | (go_at_call 42; refine Calls.quiet_of_same (unhide KS _ ?_ _); with_reducible (first | exact b1 | exact b2)))
          go_wp2
          go_ret
          exact ⟨rfl, drews hd nq⟩
      · have L1 : (k : Int) < a.size := by omega
        have L2 : ¬ ((k : Int) < b.size) := by omega
        rw [(unhide HE) k hk1 hk2 (by omega)] at hq
        clear HA HB HS HE KS HYA HYB
        rcases Nat.lt_trichotomy a.size b.size with hl | hl | hl
        · rw [if_pos hl] at hq
          subst hq
          have M1 : (a.size : Int) < b.size := by omega
          go_wp2
          go_ret
          exact ⟨rfl, hd⟩
        · rw [if_neg (by omega), if_neg (by omega)] at hq
          subst hq
          have M1 : ¬ ((a.size : Int) < b.size) := by omega
          have M2 : ¬ ((b.size : Int) < a.size) := by omega
          go_wp2
          go_ret
          exact ⟨rfl, hd⟩
        · rw [if_neg (by omega), if_pos hl] at hq
          subst hq
          have M1 : ¬ ((a.size : Int) < b.size) := by omega
          have M2 : (b.size : Int) < a.size := by omega
          go_wp2
          go_ret
          exact ⟨rfl, hd⟩
    · have L1 : ¬ ((k : Int) < a.size) := by omega
      rw [(unhide HE) k hk1 hk2 (by omega)] at hq
      clear HA HB HS HE KS HYA HYB
      rcases Nat.lt_trichotomy a.size b.size with hl | hl | hl
      · rw [if_pos hl] at hq
        subst hq
        have M1 : (a.size : Int) < b.size := by omega
        go_wp2
        go_ret
        exact ⟨rfl, hd⟩
      · rw [if_neg (by omega), if_neg (by omega)] at hq
        subst hq
        have M1 : ¬ ((a.size : Int) < b.size) := by omega
        have M2 : ¬ ((b.size : Int) < a.size) := by omega
        go_wp2
        go_ret
        exact ⟨rfl, hd⟩
      · rw [if_neg (by omega), if_pos hl] at hq
        subst hq
        have M1 : ¬ ((a.size : Int) < b.size) := by omega
        have M2 : (b.size : Int) < a.size := by omega
        go_wp2
        go_ret
        exact ⟨rfl, hd⟩
end Go.Proofs.YtcnmmghkjblemaaDoor
