/- The law's same, of the same texts. -/
import Derived.Test.YtcnmmghkjblemaaDoorNu20
namespace Go.Proofs.YtcnmmghkjblemaaDoor
open Go.RowKit

theorem strs_at20 {A : List ByteArray} {k : Nat} (hk : k < A.length) : (A.map Value.string).getD k undef = .string (A.getD k ⟨#[]⟩) := by simp [List.getD, hk]
set_option maxHeartbeats 1000000 in
theorem same20 {w : World} {v u : Value} {A : List ByteArray} (hv : Sv w v (A.map Value.string)) (hu : Sv w u (A.map Value.string)) : Calls Tryd.prog 16 #[v, u] w (Draws w true) := by
  obtain ⟨a1, c1, rfl, hc1, hc2⟩ := hv.shape
  obtain ⟨a2, c2, rfl, hd1, hd2⟩ := hu.shape
  rw [List.length_map] at *
  have hl := hv.1
  rw [List.length_map] at hl
  have HV : Hid (∀ k, k < A.length → ∃ b off, a1 = some ⟨b, off, none⟩ ∧ w.cell? ⟨b, off + k, none⟩ = some (.string (A.getD k ⟨#[]⟩))) := fun k hk => by
    obtain ⟨b, off, cap, he, _, _, hc⟩ := hv.place (by rw [List.length_map]; omega)
    simp only [Value.slice.injEq] at he
    have := hc k (by rw [List.length_map]; exact hk)
    rw [strs_at20 hk] at this
    exact ⟨b, off, he.1, this⟩
  have HU : Hid (∀ k, k < A.length → ∃ b off, a2 = some ⟨b, off, none⟩ ∧ w.cell? ⟨b, off + k, none⟩ = some (.string (A.getD k ⟨#[]⟩))) := fun k hk => by
    obtain ⟨b, off, cap, he, _, _, hc⟩ := hu.place (by rw [List.length_map]; omega)
    simp only [Value.slice.injEq] at he
    have := hc k (by rw [List.length_map]; exact hk)
    rw [strs_at20 hk] at this
    exact ⟨b, off, he.1, this⟩
  clear hv hu
  go_enter Tryd.func16, Tryd.ntmps16
  go_wp2
  go_loopw [5] (fun i wr => ∃ k : Nat, i = .int .i64 k ∧ k ≤ A.length ∧ ∃ m, wr = w.drewN m) (fun i _ => A.length - (intOf i).toNat)
  case atStart => exact ⟨0, rfl, by omega, drew0 w⟩
  case round =>
    obtain ⟨k, rfl, hk, hd⟩ := hrel
    by_cases h1 : k < A.length
    · obtain ⟨b1, o1, rfl, x1⟩ := unhide HV k h1
      obtain ⟨b2, o2, rfl, x2⟩ := unhide HU k h1
      have I1 : (k : Int) < A.length := by omega
      obtain ⟨m, rfl⟩ := hd
      have y1 : (w.drewN m).cell? ⟨b1, o1 + k, none⟩ = _ := x1
      have y2 : (w.drewN m).cell? ⟨b2, o2 + k, none⟩ = _ := x2
      clear HV HU x1 x2
      generalize A.getD k ⟨#[]⟩ = s at *
      have hd : ∃ n, w.drewN m = w.drewN n := ⟨m, rfl⟩
      generalize w.drewN m = wd at *
      go_wp2
      go_quiet (fail)
      go_wp2
      go_roundw
      case rel => exact ⟨k + 1, by go_num, by omega, drews hd nq⟩
      case measure => simp [intOf]; omega
    · have I1 : ¬ ((k : Int) < A.length) := by omega
      clear HV HU
      go_wp2
      go_ret
      exact ⟨rfl, hd⟩
end Go.Proofs.YtcnmmghkjblemaaDoor
