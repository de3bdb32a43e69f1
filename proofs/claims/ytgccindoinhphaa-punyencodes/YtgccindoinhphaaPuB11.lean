/- The contracts of the thresholds and of the digits. -/
import Derived.Test.YtgccindoinhphaaPuA11
import Derived.Test.YtgccindoinhphaaPost
namespace Go.Proofs.Ytgccindoinhphaa
open Go.RowKit

set_option maxHeartbeats 1000000 in
theorem threshold_any (k bias : Int) (w : World) (hk : 0 ≤ k ∧ k ≤ 1000000) (hb : -1000000 ≤ bias ∧ bias ≤ 1000000) :
    Calls Try.prog 42 #[.int .i64 k, .int .i64 bias] w (IntPost w (Pu.thr k bias)) := by
  by_cases h1 : 36 * k - bias < 1
  · have hr : Pu.thr k bias = 1 := by unfold Pu.thr; rw [if_pos h1]
    rw [hr]; clear hr
    go_enter Try.func42, Try.ntmps42
    go_wp2
    go_ret
    exact IntPost.mk rfl
  · by_cases h2 : 26 < 36 * k - bias
    · have hr : Pu.thr k bias = 26 := by unfold Pu.thr; rw [if_neg h1, if_pos h2]
      rw [hr]; clear hr
      go_enter Try.func42, Try.ntmps42
      go_wp2
      go_ret
      exact IntPost.mk rfl
    · have hr : Pu.thr k bias = 36 * k - bias := by unfold Pu.thr; rw [if_neg h1, if_neg h2]
      rw [hr]; clear hr
      go_enter Try.func42, Try.ntmps42
      go_wp2
      go_ret
      exact IntPost.mk rfl

set_option maxHeartbeats 1000000 in
theorem refThreshold_any (k bias : Int) (w : World) (hk : 0 ≤ k ∧ k ≤ 1000000) (hb : -1000000 ≤ bias ∧ bias ≤ 1000000) :
    Calls Try.prog 29 #[.int .i64 k, .int .i64 bias] w (IntPost w (Pu.thr k bias)) := by
  by_cases h1 : 36 * k - bias < 1
  · have hr : Pu.thr k bias = 1 := by unfold Pu.thr; rw [if_pos h1]
    rw [hr]; clear hr
    go_enter Try.func29, Try.ntmps29
    go_wp2
    go_ret
    exact IntPost.mk rfl
  · by_cases h2 : 26 < 36 * k - bias
    · have hr : Pu.thr k bias = 26 := by unfold Pu.thr; rw [if_neg h1, if_pos h2]
      rw [hr]; clear hr
      go_enter Try.func29, Try.ntmps29
      go_wp2
      go_ret
      exact IntPost.mk rfl
    · have hr : Pu.thr k bias = 36 * k - bias := by unfold Pu.thr; rw [if_neg h1, if_neg h2]
      rw [hr]; clear hr
      go_enter Try.func29, Try.ntmps29
      go_wp2
      go_ret
      exact IntPost.mk rfl

theorem dig_cases (b : Int) : ((97 ≤ b ∧ b ≤ 122) ∧ Pu.dig b = b - 97) ∨ ((65 ≤ b ∧ b ≤ 90) ∧ Pu.dig b = b - 65) ∨ ((48 ≤ b ∧ b ≤ 57) ∧ Pu.dig b = b - 48 + 26) ∨ ((¬ (97 ≤ b ∧ b ≤ 122) ∧ ¬ (65 ≤ b ∧ b ≤ 90) ∧ ¬ (48 ≤ b ∧ b ≤ 57)) ∧ Pu.dig b = -1) := by
  unfold Pu.dig
  by_cases h1 : 97 ≤ b ∧ b ≤ 122
  · rw [if_pos h1]; exact .inl ⟨h1, rfl⟩
  · rw [if_neg h1]
    by_cases h2 : 65 ≤ b ∧ b ≤ 90
    · rw [if_pos h2]; exact .inr (.inl ⟨h2, rfl⟩)
    · rw [if_neg h2]
      by_cases h3 : 48 ≤ b ∧ b ≤ 57
      · rw [if_pos h3]; exact .inr (.inr (.inl ⟨h3, rfl⟩))
      · rw [if_neg h3]; exact .inr (.inr (.inr ⟨⟨h1, h2, h3⟩, rfl⟩))

def DigPost (w : World) (d : Int) (e : Ending) (w' : World) : Prop := ((d < 0 ∧ e = .returned (.tuple #[.int .i64 0, .bool false])) ∨ (0 ≤ d ∧ e = .returned (.tuple #[.int .i64 d, .bool true]))) ∧ w' = w
theorem DigPost.yes {w : World} {d u : Int} (h : d = u) (h0 : 0 ≤ u) : DigPost w d (.returned (.tuple #[.int .i64 u, .bool true])) w := by subst h; exact ⟨.inr ⟨h0, rfl⟩, rfl⟩
theorem DigPost.no {w : World} {d : Int} (h : d = -1) : DigPost w d (.returned (.tuple #[.int .i64 0, .bool false])) w := by subst h; exact ⟨.inl ⟨by omega, rfl⟩, rfl⟩

set_option maxHeartbeats 1000000 in
theorem digitOf_any (b : Int) (w : World) (h0 : 0 ≤ b) (h1 : b ≤ 255) : Calls Try.prog 41 #[.int .u8 b] w (DigPost w (Pu.dig b)) := by
  rcases dig_cases b with ⟨⟨ha, hb⟩, hr⟩ | ⟨⟨ha, hb⟩, hr⟩ | ⟨⟨ha, hb⟩, hr⟩ | ⟨⟨n1, n2, n3⟩, hr⟩
  · have HR := hide hr; clear hr
    generalize Pu.dig b = d at *
    go_enter Try.func41, Try.ntmps41
    go_wp2
    go_ret2
    exact DigPost.yes (unhide HR) (by omega)
  · have HR := hide hr; clear hr
    generalize Pu.dig b = d at *
    go_enter Try.func41, Try.ntmps41
    go_wp2
    go_ret2
    exact DigPost.yes (unhide HR) (by omega)
  · have HR := hide hr; clear hr
    generalize Pu.dig b = d at *
    go_enter Try.func41, Try.ntmps41
    go_wp2
    go_ret2
    exact DigPost.yes (unhide HR) (by omega)
  · have HR := hide hr; clear hr
    generalize Pu.dig b = d at *
    have hc : b < 48 ∨ (57 < b ∧ b < 65) ∨ (90 < b ∧ b < 97) ∨ 122 < b := by omega
    clear n1 n2 n3
    rcases hc with hc | ⟨hc, hd⟩ | ⟨hc, hd⟩ | hc
    all_goals
      go_enter Try.func41, Try.ntmps41
      go_wp2
      go_ret2
      exact DigPost.no (unhide HR)

set_option maxHeartbeats 1000000 in
theorem worth_any (b : Int) (w : World) (h0 : 0 ≤ b) (h1 : b ≤ 255) : Calls Try.prog 28 #[.int .u8 b] w (IntPost w (Pu.dig b)) := by
  rcases dig_cases b with ⟨⟨ha, hb⟩, hr⟩ | ⟨⟨ha, hb⟩, hr⟩ | ⟨⟨ha, hb⟩, hr⟩ | ⟨⟨n1, n2, n3⟩, hr⟩
  · rw [hr]; clear hr
    go_enter Try.func28, Try.ntmps28
    go_wp2
    go_ret
    exact IntPost.mk rfl
  · rw [hr]; clear hr
    go_enter Try.func28, Try.ntmps28
    go_wp2
    go_ret
    exact IntPost.mk rfl
  · rw [hr]; clear hr
    go_enter Try.func28, Try.ntmps28
    go_wp2
    go_ret
    exact IntPost.mk rfl
  · rw [hr]; clear hr
    have hc : b < 48 ∨ (57 < b ∧ b < 65) ∨ (90 < b ∧ b < 97) ∨ 122 < b := by omega
    clear n1 n2 n3
    rcases hc with hc | ⟨hc, hd⟩ | ⟨hc, hd⟩ | hc
    all_goals
      go_enter Try.func28, Try.ntmps28
      go_wp2
      go_ret
      exact IntPost.mk rfl
end Go.Proofs.Ytgccindoinhphaa
