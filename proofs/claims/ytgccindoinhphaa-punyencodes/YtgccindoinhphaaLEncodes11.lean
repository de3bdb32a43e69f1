/- The walk of PunyEncodes. -/
import Derived.Test.YtgccindoinhphaaLEncR11
import Derived.Test.YtgccindoinhphaaLFewE11
namespace Go.Proofs.Ytgccindoinhphaa
open Go.RowKit

set_option maxRecDepth 20000 in
set_option maxHeartbeats 2000000 in
theorem encodes_any (xv : Value) (xs0 : List Int) (w : World) (hx : Sk .i32 w xv xs0) : Calls Try.prog 3 #[xv] w (Tells w true) := by
  have HFEW := hide (few11_any xv xs0 2000 w hx (by omega))
  obtain ⟨ax, cx, hxv, hcx1, hcx2⟩ := hx.shape
  subst hxv
  have hxl : (xs0.take 2000).length ≤ 2000 := by rw [List.length_take]; omega
  have hx0 : (xs0.take 2000).length ≤ xs0.length := by rw [List.length_take]; omega
  have HX := hide (hx.head (k := (xs0.take 2000).length) hx0 hcx1)
  have htk : xs0.take (xs0.take 2000).length = xs0.take 2000 := by
    rw [List.length_take]
    rcases Nat.le_total 2000 xs0.length with h | h
    · rw [Nat.min_eq_left h]
    · rw [Nat.min_eq_right h, List.take_of_length_le (Nat.le_refl _), List.take_of_length_le h]
  rw [htk] at HX
  clear hx htk
  generalize xs0.take 2000 = xs at *
  generalize xs0.length = x0 at *
  clear xs0
  go_enter Try.func3, Try.ntmps3
  go_wp2_with fail
  refine (unhide HFEW).mono ?_
  rintro e w1 ⟨g, cap, rfl, hok, hb⟩
  have hsk : Sk .i32 w1 (.slice (some ⟨g, 0, none⟩) xs.length cap) xs := by
    have := hok.sk.head (k := xs.length) (by simp) (by obtain ⟨_, _, h1, h2, _⟩ := hok.sk.shape; simp only [Value.slice.injEq] at h1; simp at h2; omega)
    simpa using this
  have hcap1 : xs.length + 2 ≤ cap := by
    obtain ⟨_, _, h1, h2, _⟩ := hok.sk.shape; simp only [Value.slice.injEq] at h1; simp at h2; omega
  have hcap2 : cap ≤ 9223372036854775807 := by
    obtain ⟨_, _, h1, h2, h3⟩ := hok.sk.shape; simp only [Value.slice.injEq] at h1; omega
  have HSK := hide hsk
  have HOK := hide hok
  have HB := hide hb
  have HEN := hide (encode_all _ xs w1 hsk (by omega))
  clear hok hb hsk HFEW
  go_wp2_with fail
  refine (unhide HEN).mono ?_
  rintro e w2 ⟨rfl, hb2⟩
  have HB2 := hide hb2
  have HRE := hide (refEncode11_any _ xs w2 ((unhide HX).below (bthen (unhide HB) hb2)) (by omega))
  clear HEN hb2
  go_wp2_with fail
  refine (unhide HRE).mono ?_
  rintro e w3 ⟨rfl, hb3⟩
  have HB3 := hide (bthen (unhide HB2) hb3)
  clear HRE hb3 HB2
  generalize strOfNums (Pu.encode xs).1 = s at *
  generalize (Pu.encode xs).2 = er at *
  have HT := hide (told_any w3)
  go_wp2_with fail
  refine (unhide HT).mono ?_
  rintro e w4 ⟨rfl, b4⟩
  have HB4 := hide (bthen (unhide HB3) b4)
  clear HT b4 HB3
  have HSM := hide (same_any _ _ xs xs w4 ((unhide HSK).below (unhide HB4)) ((unhide HX).below (bthen (unhide HB) (unhide HB4))))
  rw [decide_eq_true (rfl : xs = xs)] at HSM
  have HC : Hid (∀ W, Below w4.heap.size w4 W → W.cell? ⟨g, xs.length, none⟩ = some (.int .i32 (-7)) ∧ W.cell? ⟨g, xs.length + 1, none⟩ = some (.int .i32 (-8))) := fun W hW => by
    obtain ⟨bx, ox, cqx, hex, _, _, hcl⟩ := ((unhide HOK).below (bthen (unhide HB4) hW)).sk.place (by simp)
    simp only [Value.slice.injEq, Option.some.injEq, Addr.mk.injEq] at hex
    obtain ⟨⟨rfl, rfl, h8⟩, h9, rfl⟩ := hex
    have h1 := hcl xs.length (by simp)
    have h2 := hcl (xs.length + 1) (by simp)
    rw [Nat.zero_add] at h1 h2
    refine ⟨h1.trans ?_, h2.trans ?_⟩
    · simp [List.getD]
    · simp [List.getD]
  clear HSK HOK HX
  go_wp2_with (go_at_call 13; refine (unhide HSM).mono ?_; rintro e w5 ⟨rfl, b5⟩; obtain ⟨hc7, hc8⟩ := unhide HC w5 b5; have HB5 := hide b5; clear HSM HC b5)
  go_ret
  exact ⟨rfl, bthen (bthen (unhide HB) (unhide HB4)) (unhide HB5)⟩
end Go.Proofs.Ytgccindoinhphaa
