/- The contracts of the document's own hex, Code. -/
import Derived.Test.YtkdkmnohnhhojaaDoorStr5
import Derived.Test.YtkdkmnohnhhojaaDoorScn
namespace Go.Proofs.YtkdkmnohnhhojaaDoor
open Go.RowKit

theorem refHex_any (c : Int) (w : World) (h : 0 ≤ c ∧ c ≤ 255) : Calls Tryd.prog 33 #[.int .u8 c] w fun e w' => e = .returned (.int .i64 (Scn.hexd c)) ∧ w' = w := by
  obtain ⟨h1, h2⟩ := h
  by_cases a1 : 48 ≤ c
  · by_cases a2 : c ≤ 57
    · have e : Scn.hexd c = c - 48 := by unfold Scn.hexd; rw [if_pos ⟨a1, a2⟩]
      rw [e]
      go_enter Tryd.func33, Tryd.ntmps33
      go_wp2
      go_ret
      exact ⟨rfl, rfl⟩
    · by_cases a3 : 65 ≤ c
      · by_cases a4 : c ≤ 70
        · have e : Scn.hexd c = c - 65 + 10 := by unfold Scn.hexd; rw [if_neg (by omega), if_pos ⟨a3, a4⟩]; omega
          rw [e]
          go_enter Tryd.func33, Tryd.ntmps33
          go_wp2
          go_ret
          exact ⟨rfl, rfl⟩
        · have e : Scn.hexd c = -1 := by unfold Scn.hexd; rw [if_neg (by omega), if_neg (by omega)]
          rw [e]
          go_enter Tryd.func33, Tryd.ntmps33
          go_wp2
          go_ret
          exact ⟨rfl, rfl⟩
      · have e : Scn.hexd c = -1 := by unfold Scn.hexd; rw [if_neg (by omega), if_neg (by omega)]
        rw [e]
        go_enter Tryd.func33, Tryd.ntmps33
        go_wp2
        go_ret
        exact ⟨rfl, rfl⟩
  · have e : Scn.hexd c = -1 := by unfold Scn.hexd; rw [if_neg (by omega), if_neg (by omega)]
    rw [e]
    go_enter Tryd.func33, Tryd.ntmps33
    go_wp2
    go_ret
    exact ⟨rfl, rfl⟩

/-- A number of a rune's kind, and whether it was there; nothing else is done. -/
def CodeIs (w : World) (r : Int × Bool) (e : Ending) (w' : World) : Prop := e = .returned (.tuple #[.int .i32 r.1, .bool r.2]) ∧ w' = w

set_option maxHeartbeats 1000000 in
theorem refCode_any (s : ByteArray) (w : World) (hs : s.size ≤ 140737488355328) : Calls Tryd.prog 16 #[.string s] w (CodeIs w (Scn.told (Scn.code (nums s)))) := by
  have hlen := nums_length s
  have hat := fun i k hi hk w => run_at s i k hi hk w
  have hbyt := fun k => (nums_byt s).at k
  have HNone : Hid (Scn.code (nums s) = none → CodeIs w (Scn.told (Scn.code (nums s))) (.returned (.tuple #[.int .i32 0, .bool false])) w) := fun h => by rw [h]; exact ⟨rfl, rfl⟩
  have HSome : Hid (∀ n, Scn.code (nums s) = some n → CodeIs w (Scn.told (Scn.code (nums s))) (.returned (.tuple #[.int .i32 n, .bool true])) w) := fun n h => by rw [h]; exact ⟨rfl, rfl⟩
  by_cases a1 : s.size < 1
  · have HF := (unhide HNone) (by unfold Scn.code; rw [if_pos (.inl (by omega))])
    clear HNone HSome hat hbyt
    go_enter Tryd.func16, Tryd.ntmps16
    go_wp2
    go_ret2
    exact HF
  · by_cases a2 : 6 < s.size
    · have HF := (unhide HNone) (by unfold Scn.code; rw [if_pos (.inr (.inl (by omega)))])
      clear HNone HSome hat hbyt
      go_enter Tryd.func16, Tryd.ntmps16
      go_wp2
      go_ret2
      exact HF
    · have h0 := hat 0 0 rfl (by omega)
      obtain ⟨z1, z2⟩ := hbyt 0
      have HX : Hid (∀ n, Scn.hexA n ((nums s).drop s.size) = some n) := fun n => by rw [List.drop_eq_nil_of_le (by omega)]; rfl
      have HC : Hid (¬ (1 < s.size ∧ (nums s).getD 0 0 = 48) → Scn.code (nums s) = Scn.cap (Scn.hexA 0 (nums s))) := fun h => by unfold Scn.code; rw [if_neg (by rw [hlen]; omega)]
      have HC0 : Hid ((1 < s.size ∧ (nums s).getD 0 0 = 48) → Scn.code (nums s) = none) := fun h => by unfold Scn.code; rw [if_pos (.inr (.inr (by rw [hlen]; exact h)))]
      by_cases a3 : 1 < s.size ∧ (nums s).getD 0 0 = 48
      · obtain ⟨b1, b2⟩ := a3
        have HF := (unhide HNone) ((unhide HC0) ⟨b1, b2⟩)
        rw [b2] at h0
        clear HNone HSome hat hbyt HC HC0 HX
        go_enter Tryd.func16, Tryd.ntmps16
        go_wp2
        go_ret2
        exact HF
      · have hc := (unhide HC) a3
        have HH := fun (c : Int) w h => hide (refHex_any c w h)
        have HN2 : Hid (Scn.hexA 0 (nums s) = none → CodeIs w (Scn.told (Scn.code (nums s))) (.returned (.tuple #[.int .i32 0, .bool false])) w) := fun h => (unhide HNone) (by rw [hc, h]; rfl)
        have HN3 : Hid (∀ n, Scn.hexA 0 (nums s) = some n → 1114111 < n → CodeIs w (Scn.told (Scn.code (nums s))) (.returned (.tuple #[.int .i32 0, .bool false])) w) := fun n h h2 => (unhide HNone) (by rw [hc, h]; exact if_pos h2)
        have HS2 : Hid (∀ n, Scn.hexA 0 (nums s) = some n → ¬ 1114111 < n → CodeIs w (Scn.told (Scn.code (nums s))) (.returned (.tuple #[.int .i32 n, .bool true])) w) := fun n h h2 => (unhide HSome) n (by rw [hc, h]; exact if_neg h2)
        have hz0 : 1 < s.size → ((nums s).getD 0 0 == 48) = false := fun h => beq_eq_false_iff_ne.2 (fun e => a3 ⟨h, e⟩)
        have HZ := hide hz0
        clear hz0 hc HNone HSome HC HC0 a3
        have HAt := hide hat
        have HByt := hide hbyt
        clear hat hbyt
        generalize (nums s).getD 0 0 = c0 at h0 z1 z2 HZ
        by_cases b1 : 1 < s.size
        · have hz0 := (unhide HZ) b1
          clear HZ
          go_enter Tryd.func16, Tryd.ntmps16
          go_wp2
          go_loop [4, 5] (fun nv i => ∃ (k : Nat) (n : Int), i = .int .i64 k ∧ nv = .int .i64 n ∧ k ≤ s.size ∧ 0 ≤ n ∧ n < ((16 ^ k : Nat) : Int) ∧ Scn.hexA 0 (nums s) = Scn.hexA n ((nums s).drop k)) (fun _ i => s.size - (intOf i).toNat)
          case atStart => exact ⟨0, 0, rfl, rfl, by omega, by omega, by simp, by rw [List.drop_zero]⟩
          case round =>
            clear h0 z1 z2
            obtain ⟨k, n, rfl, rfl, hk, n1, n2, hx⟩ := hrel
            have hn3 : n < 16777216 := by
              have : 16 ^ k ≤ 16 ^ 6 := Nat.pow_le_pow_right (by omega) (by omega)
              omega
            by_cases hlt : k < s.size
            · have hk0 := (unhide HAt) (k : Int) k rfl hlt
              have hb := (unhide HByt) k
              rw [Scn.hexA_step (by omega)] at hx
              have HK := HH _ w hb
              have hd := Scn.hexd_bound ((nums s).getD k 0)
              have HX2 := hide hx
              have hn4 : 16 ^ (k + 1) = 16 ^ k * 16 := Nat.pow_succ _ _
              have hn5 : ∀ e : Int, 0 ≤ e → e ≤ 15 → 16 * n + e < ((16 ^ (k + 1) : Nat) : Int) := fun e h1 h2 => by rw [hn4]; omega
              have HN5 := hide hn5
              obtain ⟨hd1, hd2⟩ := hd
              clear hx hn4 hn5 n2 HH
              generalize Scn.hexd ((nums s).getD k 0) = e at *
              generalize (nums s).getD k 0 = c at *
              obtain ⟨c1, c2⟩ := hb
              go_wp2_with fail
              refine (unhide HK).mono ?_
              rintro e' w1 ⟨rfl, rfl⟩
              clear HK
              by_cases he : e < 0
              · have HF := (unhide HN2) ((unhide HX2).trans (if_pos he))
                clear HN2 HN3 HS2 HX2 HN5
                go_wp2
                go_ret2
                exact HF
              · have HX3 := hide ((unhide HX2).trans (if_neg he))
                clear HN2 HN3 HS2 HX2
                go_wp2
                go_round
                case rel => exact ⟨k + 1, 16 * n + e, by go_num, by go_num, by omega, by omega, (unhide HN5) e (by omega) hd2, unhide HX3⟩
                case measure => simp [intOf]; omega
            · obtain rfl : k = s.size := by omega
              have hend := hx.trans ((unhide HX) n)
              by_cases hm : 1114111 < n
              · have HF := (unhide HN3) n hend hm
                clear HN2 HN3 HS2 hend hx HX
                go_wp2
                go_ret2
                exact HF
              · have HF := (unhide HS2) n hend (by omega)
                clear HN2 HN3 HS2 hend hx HX
                go_wp2
                go_ret2
                exact HF
        · clear HZ
          go_enter Tryd.func16, Tryd.ntmps16
          go_wp2
          go_loop [4, 5] (fun nv i => ∃ (k : Nat) (n : Int), i = .int .i64 k ∧ nv = .int .i64 n ∧ k ≤ s.size ∧ 0 ≤ n ∧ n < ((16 ^ k : Nat) : Int) ∧ Scn.hexA 0 (nums s) = Scn.hexA n ((nums s).drop k)) (fun _ i => s.size - (intOf i).toNat)
          case atStart => exact ⟨0, 0, rfl, rfl, by omega, by omega, by simp, by rw [List.drop_zero]⟩
          case round =>
            clear h0 z1 z2
            obtain ⟨k, n, rfl, rfl, hk, n1, n2, hx⟩ := hrel
            have hn3 : n < 16777216 := by
              have : 16 ^ k ≤ 16 ^ 6 := Nat.pow_le_pow_right (by omega) (by omega)
              omega
            by_cases hlt : k < s.size
            · have hk0 := (unhide HAt) (k : Int) k rfl hlt
              have hb := (unhide HByt) k
              rw [Scn.hexA_step (by omega)] at hx
              have HK := HH _ w hb
              have hd := Scn.hexd_bound ((nums s).getD k 0)
              have HX2 := hide hx
              have hn4 : 16 ^ (k + 1) = 16 ^ k * 16 := Nat.pow_succ _ _
              have hn5 : ∀ e : Int, 0 ≤ e → e ≤ 15 → 16 * n + e < ((16 ^ (k + 1) : Nat) : Int) := fun e h1 h2 => by rw [hn4]; omega
              have HN5 := hide hn5
              obtain ⟨hd1, hd2⟩ := hd
              clear hx hn4 hn5 n2 HH
              generalize Scn.hexd ((nums s).getD k 0) = e at *
              generalize (nums s).getD k 0 = c at *
              obtain ⟨c1, c2⟩ := hb
              go_wp2_with fail
              refine (unhide HK).mono ?_
              rintro e' w1 ⟨rfl, rfl⟩
              clear HK
              by_cases he : e < 0
              · have HF := (unhide HN2) ((unhide HX2).trans (if_pos he))
                clear HN2 HN3 HS2 HX2 HN5
                go_wp2
                go_ret2
                exact HF
              · have HX3 := hide ((unhide HX2).trans (if_neg he))
                clear HN2 HN3 HS2 HX2
                go_wp2
                go_round
                case rel => exact ⟨k + 1, 16 * n + e, by go_num, by go_num, by omega, by omega, (unhide HN5) e (by omega) hd2, unhide HX3⟩
                case measure => simp [intOf]; omega
            · obtain rfl : k = s.size := by omega
              have hend := hx.trans ((unhide HX) n)
              by_cases hm : 1114111 < n
              · have HF := (unhide HN3) n hend hm
                clear HN2 HN3 HS2 hend hx HX
                go_wp2
                go_ret2
                exact HF
              · have HF := (unhide HS2) n hend (by omega)
                clear HN2 HN3 HS2 hend hx HX
                go_wp2
                go_ret2
                exact HF
end Go.Proofs.YtkdkmnohnhhojaaDoor
