/- The contracts of scalar's read. -/
import Derived.Test.YtchjnplceelgoaaPost
import Derived.Test.YtchjnplceelgoaaUtfM
import Derived.Test.YtchjnplceelgoaaJumps
namespace Go.Proofs.Ytchjnplceelgoaa
open Go.RowKit

/-- The bounds of the byte behind a first one. -/
def bnd (b : Int) : Int × Int := if b = 224 then (160, 191) else if b = 237 then (128, 159) else if b = 240 then (144, 191) else if b = 244 then (128, 143) else (128, 191)

def BndPost (w : World) (r : Int × Int) (e : Ending) (w' : World) : Prop := e = .returned (.tuple #[.int .u8 r.1, .int .u8 r.2]) ∧ w' = w
theorem BndPost.mk {w : World} {r : Int × Int} {a b : Int} (h : r = (a, b)) : BndPost w r (.returned (.tuple #[.int .u8 a, .int .u8 b])) w := by subst h; exact ⟨rfl, rfl⟩

set_option maxHeartbeats 400000 in
theorem secondBounds_any (b : Int) (w : World) (h0 : 0 ≤ b) (h1 : b ≤ 255) : Calls Try.prog 40 #[.int .u8 b] w (BndPost w (bnd b)) := by
  have hr : (b = 224 ∧ bnd b = (160, 191)) ∨ (b = 237 ∧ bnd b = (128, 159)) ∨ (b = 240 ∧ bnd b = (144, 191)) ∨ (b = 244 ∧ bnd b = (128, 143)) ∨ ((b ≠ 224 ∧ b ≠ 237 ∧ b ≠ 240 ∧ b ≠ 244) ∧ bnd b = (128, 191)) := by
    unfold bnd; split
    · simp [*]
    · split
      · simp [*]
      · split
        · simp [*]
        · split
          · simp [*]
          · simp [*]
  rcases hr with ⟨rfl, h⟩ | ⟨rfl, h⟩ | ⟨rfl, h⟩ | ⟨rfl, h⟩ | ⟨⟨n1, n2, n3, n4⟩, h⟩
  · generalize bnd 224 = r at *
    go_enter Try.func40, Try.ntmps40
    go_wp2
    go_ret2
    exact BndPost.mk h
  · generalize bnd 237 = r at *
    go_enter Try.func40, Try.ntmps40
    go_wp2
    go_ret2
    exact BndPost.mk h
  · generalize bnd 240 = r at *
    go_enter Try.func40, Try.ntmps40
    go_wp2
    go_ret2
    exact BndPost.mk h
  · generalize bnd 244 = r at *
    go_enter Try.func40, Try.ntmps40
    go_wp2
    go_ret2
    exact BndPost.mk h
  · generalize bnd b = r at *
    go_enter Try.func40, Try.ntmps40
    go_wp2
    go_ret2
    exact BndPost.mk h

/-- Whether a byte stands at the place, within the bounds. -/
def onb (zs : List Int) (k : Nat) (lo hi : Int) : Bool := decide (k < zs.length ∧ lo ≤ zs.getD k 0 ∧ zs.getD k 0 ≤ hi)

set_option maxHeartbeats 1000000 in
theorem goesOn_any (s : ByteArray) (k : Nat) (lo hi : Int) (w : World) (hk : k ≤ s.size) : Calls Try.prog 41 #[.string s, .int .i64 k, .int .u8 lo, .int .u8 hi] w (fun e w' => e = .returned (.bool (onb (nums s) k lo hi)) ∧ w' = w) := by
  have hn := nums_length s
  by_cases hlt : k < s.size
  · have hat := run_at s k k rfl hlt
    by_cases h1 : lo ≤ (nums s).getD k 0
    · by_cases h2 : (nums s).getD k 0 ≤ hi
      · have hr : onb (nums s) k lo hi = true := decide_eq_true ⟨by omega, h1, h2⟩
        rw [hr]; clear hr
        generalize (nums s).getD k 0 = b at *
        go_enter Try.func41, Try.ntmps41
        go_wp2
        go_ret
        exact ⟨rfl, rfl⟩
      · have hr : onb (nums s) k lo hi = false := decide_eq_false (by omega)
        rw [hr]; clear hr
        generalize (nums s).getD k 0 = b at *
        go_enter Try.func41, Try.ntmps41
        go_wp2
        go_ret
        exact ⟨rfl, rfl⟩
    · have hr : onb (nums s) k lo hi = false := decide_eq_false (by omega)
      rw [hr]; clear hr
      generalize (nums s).getD k 0 = b at *
      go_enter Try.func41, Try.ntmps41
      go_wp2
      go_ret
      exact ⟨rfl, rfl⟩
  · have hr : onb (nums s) k lo hi = false := decide_eq_false (by omega)
    rw [hr]; clear hr
    go_enter Try.func41, Try.ntmps41
    go_wp2
    go_ret
    exact ⟨rfl, rfl⟩

set_option maxHeartbeats 1000000 in
theorem withSixBits_any (c b : Int) (w : World) (hc0 : 0 ≤ c) (hc1 : c ≤ 32767) (hb0 : 0 ≤ b) (hb1 : b ≤ 255) : Calls Try.prog 42 #[.int .i32 c, .int .u8 b] w (fun e w' => e = .returned (.int .i32 (c * 64 + b % 64)) ∧ w' = w) := by
  go_enter Try.func42, Try.ntmps42
  go_wp2
  go_ret
  exact ⟨rfl, rfl⟩

theorem r_begin' (zs : List Int) : Utf.dec 0 zs = Utf.glue [] (Utf.dec 0 (zs.drop 0)) := by
  rw [List.drop_zero, Utf.glue_nil]
  · intro h
    rcases Utf.dec_shape _ 0 zs (Nat.le_refl _) with h1 | ⟨q, h1, _⟩
    · exact h1.2.1
    · rw [h1] at h; simp at h
  · intro h
    rcases Utf.dec_shape _ 0 zs (Nat.le_refl _) with h1 | ⟨q, h1, _⟩
    · exact absurd h1.1 h
    · rw [h1]
end Go.Proofs.Ytchjnplceelgoaa
