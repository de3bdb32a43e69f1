/- The contract of scan's digits. -/
import Derived.Test.YtkdkmnohnhhojaaDoorRng5
import Derived.Test.YtkdkmnohnhhojaaDoorRefR5
namespace Go.Proofs.YtkdkmnohnhhojaaDoor.Scn

/-- What a digit says; 16 of what is none. -/
def dig (c : Int) : Int := if 48 ≤ c ∧ c ≤ 57 then c - 48 else if 65 ≤ c ∧ c ≤ 70 then c - 55 else 16
def digA (b : Int) : Int → List Int → Option Int
  | n, [] => some n
  | n, c :: r => if b ≤ dig c then none else digA b (n * b + dig c) r
/-- One to most digits, without noughts ahead. -/
def digB (b : Int) (most : Nat) (l : List Int) : Option Int :=
  if l.length < 1 ∨ most < l.length ∨ (1 < l.length ∧ l.getD 0 0 = 48) then none else digA b 0 l
theorem dig_bound (c : Int) : 0 ≤ dig c ∧ dig c ≤ 16 := by unfold dig; split <;> (try split) <;> omega
theorem dig_high {c : Int} (h : 128 ≤ c) : dig c = 16 := by unfold dig; rw [if_neg (by omega), if_neg (by omega)]
theorem digA_step {b n : Int} {l : List Int} {k : Nat} (hk : k < l.length) : digA b n (l.drop k) = if b ≤ dig (l.getD k 0) then none else digA b (n * b + dig (l.getD k 0)) (l.drop (k + 1)) := by
  rw [List.drop_eq_getElem_cons hk, digA]
  simp [List.getD, hk]
end Go.Proofs.YtkdkmnohnhhojaaDoor.Scn
namespace Go.Proofs.YtkdkmnohnhhojaaDoor
open Go.RowKit

theorem digit_any (c : Int) (w : World) (h : 0 ≤ c ∧ c ≤ 2147483647) : Calls Tryd.prog 42 #[.int .i32 c] w fun e w' => e = .returned (.int .i64 (Scn.dig c)) ∧ w' = w := by
  obtain ⟨h1, h2⟩ := h
  unfold Scn.dig
  by_cases a1 : 48 ≤ c
  · by_cases a2 : c ≤ 57
    · rw [if_pos ⟨a1, a2⟩]
      go_enter Tryd.func42, Tryd.ntmps42
      go_wp2
      go_ret
      exact ⟨by rfl, rfl⟩
    · rw [if_neg (by omega)]
      by_cases a3 : 65 ≤ c
      · by_cases a4 : c ≤ 70
        · rw [if_pos ⟨a3, a4⟩]
          have q : c - 65 + 10 = c - 55 := by omega
          go_enter Tryd.func42, Tryd.ntmps42
          go_wp2
          go_ret
          exact ⟨by first | rfl | (rw [q]) | (congr 2; omega), rfl⟩
        · rw [if_neg (by omega)]
          go_enter Tryd.func42, Tryd.ntmps42
          go_wp2
          go_ret
          exact ⟨rfl, rfl⟩
      · rw [if_neg (by omega)]
        go_enter Tryd.func42, Tryd.ntmps42
        go_wp2
        go_ret
        exact ⟨rfl, rfl⟩
  · rw [if_neg (by omega), if_neg (by omega)]
    go_enter Tryd.func42, Tryd.ntmps42
    go_wp2
    go_ret
    exact ⟨rfl, rfl⟩

/-- A number and whether it was there; what was there stays. -/
def NumB (w : World) (o : Option Int) (e : Ending) (w' : World) : Prop := e = .returned (.tuple #[.int .i64 (Scn.told o).1, .bool (Scn.told o).2]) ∧ Below w.heap.size w w'

set_option maxRecDepth 4000 in
set_option maxHeartbeats 4000000 in
theorem digits16_any (s : ByteArray) (w : World) (hs : s.size ≤ 1000000000) : Calls Tryd.prog 32 #[.string s, .int .i64 16, .int .i64 6] w (NumB w (Scn.digB 16 6 (nums s))) := by
  have hlen := nums_length s
  have HNone : Hid (Scn.digB 16 6 (nums s) = none → ∀ w', Below w.heap.size w w' → NumB w (Scn.digB 16 6 (nums s)) (.returned (.tuple #[.int .i64 0, .bool false])) w') := fun h w' hb => by rw [h]; exact ⟨rfl, hb⟩
  have HSome : Hid (∀ n, Scn.digB 16 6 (nums s) = some n → ∀ w', Below w.heap.size w w' → NumB w (Scn.digB 16 6 (nums s)) (.returned (.tuple #[.int .i64 n, .bool true])) w') := fun n h w' hb => by rw [h]; exact ⟨rfl, hb⟩
  by_cases a1 : s.size < 1
  · have HF := (unhide HNone) (by unfold Scn.digB; rw [if_pos (.inl (by omega))]) w (Below.refl _ _)
    have q0 : s.size = 0 := by omega
    have q1 : ((s.size : Int) == 0) = true := by rw [q0]; rfl
    clear HNone HSome
    go_enter Tryd.func32, Tryd.ntmps32
    go_wp2
    go_ret2
    exact HF
  · have q1 : ((s.size : Int) == 0) = false := beq_eq_false_iff_ne.2 (by omega)
    by_cases a2 : 6 < s.size
    · have HF := (unhide HNone) (by unfold Scn.digB; rw [if_pos (.inr (.inl (by omega)))]) w (Below.refl _ _)
      clear HNone HSome
      go_enter Tryd.func32, Tryd.ntmps32
      go_wp2
      go_ret2
      exact HF
    · have h0 := run_at s 0 0 rfl (by omega)
      obtain ⟨z1, z2⟩ := (nums_byt s).at 0
      by_cases a3 : 1 < s.size ∧ (nums s).getD 0 0 = 48
      · obtain ⟨b1, b2⟩ := a3
        have HF := (unhide HNone) (by unfold Scn.digB; rw [if_pos (.inr (.inr (by rw [hlen]; exact ⟨b1, b2⟩)))]) w (Below.refl _ _)
        rw [b2] at h0
        clear HNone HSome
        go_enter Tryd.func32, Tryd.ntmps32
        go_wp2
        go_ret2
        exact HF
      · have hc : Scn.digB 16 6 (nums s) = Scn.digA 16 0 (nums s) := by unfold Scn.digB; rw [if_neg (by rw [hlen]; omega)]
        have hz : ((nums s).getD 0 0 == 48) = false ∨ ((nums s).getD 0 0 = 48 ∧ s.size = 1) := by
          by_cases h1 : (nums s).getD 0 0 = 48
          · exact .inr ⟨h1, by omega⟩
          · exact .inl (beq_eq_false_iff_ne.2 h1)
        rw [hc] at HNone HSome ⊢
        have KD := hide (fun c w h => digit_any c w h)
        have HByt := hide (fun k => (nums_byt s).at k)
        clear hc a3
        generalize hc0 : (nums s).getD 0 0 = c0 at h0 z1 z2 hz
        clear hc0
        have q2 : ¬ (s.size : Int) > 6 := by omega
        have HZ := hide hz
        rcases unhide HZ with hz0 | ⟨rfl, hz0⟩
        all_goals
          clear HZ
          go_enter Tryd.func32, Tryd.ntmps32
          go_wp2
          go_loopw [8, 10, 11] (fun nv _ _ wr => ∃ (k : Nat) (n : Int), nv = .int .i64 n ∧ wr = w.iter s k ∧ k ≤ s.size ∧ 0 ≤ n ∧ n < ((16 ^ k : Nat) : Int) ∧ Scn.digA 16 0 (nums s) = Scn.digA 16 n ((nums s).drop k)) (fun _ _ _ wr => s.size - wr.iterPos w.heap.size)
          case atStart => exact ⟨0, 0, rfl, rfl, by omega, by omega, by simp, by rw [List.drop_zero]⟩
          case round =>
            obtain ⟨k, n, rfl, rfl, hk, n1, n2, hx⟩ := hrel
            have hn3 : n < 16777216 := by
              have : 16 ^ k ≤ 16 ^ 6 := Nat.pow_le_pow_right (by omega) (by omega)
              omega
            clear h0 z1 z2 hz0
            by_cases hlt : k < s.size
            · have hnx := fun ty => run_next_any (P := Tryd.prog) w s k ty hlt
              obtain ⟨c1, c2⟩ := (unhide HByt) k
              rw [Scn.digA_step (by omega)] at hx
              have hn4 : 16 ^ (k + 1) = 16 ^ k * 16 := Nat.pow_succ _ _
              have HN5 : Hid (∀ e : Int, 0 ≤ e → e < 16 → n * 16 + e < ((16 ^ (k + 1) : Nat) : Int)) := fun e h1 h2 => by rw [hn4]; omega
              clear hn4 n2
              rcases Int.lt_or_le ((nums s).getD k 0) 128 with hlo | hhi
              · obtain ⟨d1, d2⟩ := dec_low s k hlt hlo
                rw [d1, d2] at hnx
                have hmo : s.size - (k + 1) < s.size - (w.iter s k).iterPos w.heap.size := by rw [World.iterPos_iter]; omega
                have K1 := hide ((unhide KD) ((nums s).getD k 0) (w.iter s (k + 1)) (by omega))
                obtain ⟨g1, g2⟩ := Scn.dig_bound ((nums s).getD k 0)
                have HX := hide hx
                clear hx d1 d2 KD
                generalize Scn.dig ((nums s).getD k 0) = e at *
                generalize (nums s).getD k 0 = c at *
                go_wp2_with fail
                refine (unhide K1).mono ?_
                rintro e' w1 ⟨rfl, hw1⟩
                subst w1
                clear K1 hnx
                by_cases he : 16 ≤ e
                · have HF := (unhide HNone) ((unhide HX).trans (if_pos he)) (w.iter s (k + 1)) ((Below.refl _ _).alloc (Nat.le_refl _) _)
                  clear HNone HSome HX HN5
                  go_wp2
                  go_ret2
                  exact HF
                · have HX3 := hide ((unhide HX).trans (if_neg he))
                  clear HNone HSome HX
                  go_wp2
                  go_roundw
                  case rel => exact ⟨k + 1, n * 16 + e, by go_num, rfl, by omega, by omega, (unhide HN5) e g1 (by omega), unhide HX3⟩
                  case measure => rw [World.iterPos_iter]; exact hmo
              · obtain ⟨d1, d2, d3, d4⟩ := dec_high s k hlt hhi
                have d5 := dec_top s k
                have HF := (unhide HNone) (hx.trans (if_pos (by rw [Scn.dig_high hhi]; decide))) (w.iter s (k + (Utf8.decode s k).2)) ((Below.refl _ _).alloc (Nat.le_refl _) _)
                have K1 := hide ((unhide KD) ((Utf8.decode s k).1 : Int) (w.iter s (k + (Utf8.decode s k).2)) (by omega))
                rw [Scn.dig_high d1] at K1
                clear hx d4 d3 d2 KD HNone HSome HN5
                generalize (Utf8.decode s k).2 = n2 at *
                generalize ((Utf8.decode s k).1 : Int) = c at *
                go_wp2_with fail
                refine (unhide K1).mono ?_
                rintro e' w1 ⟨rfl, hw1⟩
                subst w1
                clear K1 hnx
                go_wp2
                go_ret2
                exact HF
            · obtain rfl : k = s.size := by omega
              have hnx := fun ty => run_next_end (P := Tryd.prog) w s s.size ty hlt
              have hend := hx.trans (show Scn.digA 16 n ((nums s).drop s.size) = some n by rw [List.drop_eq_nil_of_le (by omega)]; rfl)
              have HF := (unhide HSome) n hend (w.iter s s.size) ((Below.refl _ _).alloc (Nat.le_refl _) _)
              clear HNone HSome hend hx n2
              go_wp2
              go_ret2
              exact HF

set_option maxRecDepth 4000 in
set_option maxHeartbeats 4000000 in
theorem digits10_any (s : ByteArray) (w : World) (hs : s.size ≤ 1000000000) : Calls Tryd.prog 32 #[.string s, .int .i64 10, .int .i64 9] w (NumB w (Scn.digB 10 9 (nums s))) := by
  have hlen := nums_length s
  have HNone : Hid (Scn.digB 10 9 (nums s) = none → ∀ w', Below w.heap.size w w' → NumB w (Scn.digB 10 9 (nums s)) (.returned (.tuple #[.int .i64 0, .bool false])) w') := fun h w' hb => by rw [h]; exact ⟨rfl, hb⟩
  have HSome : Hid (∀ n, Scn.digB 10 9 (nums s) = some n → ∀ w', Below w.heap.size w w' → NumB w (Scn.digB 10 9 (nums s)) (.returned (.tuple #[.int .i64 n, .bool true])) w') := fun n h w' hb => by rw [h]; exact ⟨rfl, hb⟩
  by_cases a1 : s.size < 1
  · have HF := (unhide HNone) (by unfold Scn.digB; rw [if_pos (.inl (by omega))]) w (Below.refl _ _)
    have q0 : s.size = 0 := by omega
    have q1 : ((s.size : Int) == 0) = true := by rw [q0]; rfl
    clear HNone HSome
    go_enter Tryd.func32, Tryd.ntmps32
    go_wp2
    go_ret2
    exact HF
  · have q1 : ((s.size : Int) == 0) = false := beq_eq_false_iff_ne.2 (by omega)
    by_cases a2 : 9 < s.size
    · have HF := (unhide HNone) (by unfold Scn.digB; rw [if_pos (.inr (.inl (by omega)))]) w (Below.refl _ _)
      clear HNone HSome
      go_enter Tryd.func32, Tryd.ntmps32
      go_wp2
      go_ret2
      exact HF
    · have h0 := run_at s 0 0 rfl (by omega)
      obtain ⟨z1, z2⟩ := (nums_byt s).at 0
      by_cases a3 : 1 < s.size ∧ (nums s).getD 0 0 = 48
      · obtain ⟨b1, b2⟩ := a3
        have HF := (unhide HNone) (by unfold Scn.digB; rw [if_pos (.inr (.inr (by rw [hlen]; exact ⟨b1, b2⟩)))]) w (Below.refl _ _)
        rw [b2] at h0
        clear HNone HSome
        go_enter Tryd.func32, Tryd.ntmps32
        go_wp2
        go_ret2
        exact HF
      · have hc : Scn.digB 10 9 (nums s) = Scn.digA 10 0 (nums s) := by unfold Scn.digB; rw [if_neg (by rw [hlen]; omega)]
        have hz : ((nums s).getD 0 0 == 48) = false ∨ ((nums s).getD 0 0 = 48 ∧ s.size = 1) := by
          by_cases h1 : (nums s).getD 0 0 = 48
          · exact .inr ⟨h1, by omega⟩
          · exact .inl (beq_eq_false_iff_ne.2 h1)
        rw [hc] at HNone HSome ⊢
        have KD := hide (fun c w h => digit_any c w h)
        have HByt := hide (fun k => (nums_byt s).at k)
        clear hc a3
        generalize hc0 : (nums s).getD 0 0 = c0 at h0 z1 z2 hz
        clear hc0
        have q2 : ¬ (s.size : Int) > 9 := by omega
        have HZ := hide hz
        rcases unhide HZ with hz0 | ⟨rfl, hz0⟩
        all_goals
          clear HZ
          go_enter Tryd.func32, Tryd.ntmps32
          go_wp2
          go_loopw [8, 10, 11] (fun nv _ _ wr => ∃ (k : Nat) (n : Int), nv = .int .i64 n ∧ wr = w.iter s k ∧ k ≤ s.size ∧ 0 ≤ n ∧ n < ((16 ^ k : Nat) : Int) ∧ Scn.digA 10 0 (nums s) = Scn.digA 10 n ((nums s).drop k)) (fun _ _ _ wr => s.size - wr.iterPos w.heap.size)
          case atStart => exact ⟨0, 0, rfl, rfl, by omega, by omega, by simp, by rw [List.drop_zero]⟩
          case round =>
            obtain ⟨k, n, rfl, rfl, hk, n1, n2, hx⟩ := hrel
            have hn3 : n < 68719476736 := by
              have : 16 ^ k ≤ 16 ^ 9 := Nat.pow_le_pow_right (by omega) (by omega)
              omega
            clear h0 z1 z2 hz0
            by_cases hlt : k < s.size
            · have hnx := fun ty => run_next_any (P := Tryd.prog) w s k ty hlt
              obtain ⟨c1, c2⟩ := (unhide HByt) k
              rw [Scn.digA_step (by omega)] at hx
              have hn4 : 16 ^ (k + 1) = 16 ^ k * 16 := Nat.pow_succ _ _
              have HN5 : Hid (∀ e : Int, 0 ≤ e → e < 10 → n * 10 + e < ((16 ^ (k + 1) : Nat) : Int)) := fun e h1 h2 => by rw [hn4]; omega
              clear hn4 n2
              rcases Int.lt_or_le ((nums s).getD k 0) 128 with hlo | hhi
              · obtain ⟨d1, d2⟩ := dec_low s k hlt hlo
                rw [d1, d2] at hnx
                have hmo : s.size - (k + 1) < s.size - (w.iter s k).iterPos w.heap.size := by rw [World.iterPos_iter]; omega
                have K1 := hide ((unhide KD) ((nums s).getD k 0) (w.iter s (k + 1)) (by omega))
                obtain ⟨g1, g2⟩ := Scn.dig_bound ((nums s).getD k 0)
                have HX := hide hx
                clear hx d1 d2 KD
                generalize Scn.dig ((nums s).getD k 0) = e at *
                generalize (nums s).getD k 0 = c at *
                go_wp2_with fail
                refine (unhide K1).mono ?_
                rintro e' w1 ⟨rfl, hw1⟩
                subst w1
                clear K1 hnx
                by_cases he : 10 ≤ e
                · have HF := (unhide HNone) ((unhide HX).trans (if_pos he)) (w.iter s (k + 1)) ((Below.refl _ _).alloc (Nat.le_refl _) _)
                  clear HNone HSome HX HN5
                  go_wp2
                  go_ret2
                  exact HF
                · have HX3 := hide ((unhide HX).trans (if_neg he))
                  clear HNone HSome HX
                  go_wp2
                  go_roundw
                  case rel => exact ⟨k + 1, n * 10 + e, by go_num, rfl, by omega, by omega, (unhide HN5) e g1 (by omega), unhide HX3⟩
                  case measure => rw [World.iterPos_iter]; exact hmo
              · obtain ⟨d1, d2, d3, d4⟩ := dec_high s k hlt hhi
                have d5 := dec_top s k
                have HF := (unhide HNone) (hx.trans (if_pos (by rw [Scn.dig_high hhi]; decide))) (w.iter s (k + (Utf8.decode s k).2)) ((Below.refl _ _).alloc (Nat.le_refl _) _)
                have K1 := hide ((unhide KD) ((Utf8.decode s k).1 : Int) (w.iter s (k + (Utf8.decode s k).2)) (by omega))
                rw [Scn.dig_high d1] at K1
                clear hx d4 d3 d2 KD HNone HSome HN5
                generalize (Utf8.decode s k).2 = n2 at *
                generalize ((Utf8.decode s k).1 : Int) = c at *
                go_wp2_with fail
                refine (unhide K1).mono ?_
                rintro e' w1 ⟨rfl, hw1⟩
                subst w1
                clear K1 hnx
                go_wp2
                go_ret2
                exact HF
            · obtain rfl : k = s.size := by omega
              have hnx := fun ty => run_next_end (P := Tryd.prog) w s s.size ty hlt
              have hend := hx.trans (show Scn.digA 10 n ((nums s).drop s.size) = some n by rw [List.drop_eq_nil_of_le (by omega)]; rfl)
              have HF := (unhide HSome) n hend (w.iter s s.size) ((Below.refl _ _).alloc (Nat.le_refl _) _)
              clear HNone HSome hend hx n2
              go_wp2
              go_ret2
              exact HF
end Go.Proofs.YtkdkmnohnhhojaaDoor
