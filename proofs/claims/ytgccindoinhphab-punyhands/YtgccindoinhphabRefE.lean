/- The contracts of the document's own Valid, Sound, ASCII, Form, Encode, Bytes. -/
import Derived.Test.YtgccindoinhphabPost
namespace Go.Proofs.Ytgccindoinhphab
open Go.RowKit

theorem Try.info5 : (Try.prog.info? 5).map (fun i => (i.zero, i.size, i.bytes)) = some (some (.int .u8 0), 1, 1) := by kernel_rfl

set_option maxHeartbeats 400000 in
theorem refValid_any (c : Int) (w : World) (h : -2147483648 ≤ c ∧ c ≤ 2147483647) :
    Calls Try.prog 11 #[.int .i32 c] w fun e w' => e = .returned (.bool (decide (Utf.okc c))) ∧ w' = w := by
  by_cases h1 : 0 ≤ c
  · by_cases h2 : c ≤ 55295
    · have hk : decide (Utf.okc c) = true := decide_eq_true (by unfold Utf.okc; omega)
      rw [hk]
      go_enter Try.func11, Try.ntmps11
      go_wp2
      go_ret
      exact ⟨rfl, rfl⟩
    · by_cases h3 : 57344 ≤ c
      · by_cases h4 : c ≤ 1114111
        · have hk : decide (Utf.okc c) = true := decide_eq_true (by unfold Utf.okc; omega)
          rw [hk]
          go_enter Try.func11, Try.ntmps11
          go_wp2
          go_ret
          exact ⟨rfl, rfl⟩
        · have hk : decide (Utf.okc c) = false := decide_eq_false (by unfold Utf.okc; omega)
          rw [hk]
          go_enter Try.func11, Try.ntmps11
          go_wp2
          go_ret
          exact ⟨rfl, rfl⟩
      · have hk : decide (Utf.okc c) = false := decide_eq_false (by unfold Utf.okc; omega)
        rw [hk]
        go_enter Try.func11, Try.ntmps11
        go_wp2
        go_ret
        exact ⟨rfl, rfl⟩
  · have hk : decide (Utf.okc c) = false := decide_eq_false (by unfold Utf.okc; omega)
    rw [hk]
    go_enter Try.func11, Try.ntmps11
    go_wp2
    go_ret
    exact ⟨rfl, rfl⟩

end Go.Proofs.Ytgccindoinhphab
