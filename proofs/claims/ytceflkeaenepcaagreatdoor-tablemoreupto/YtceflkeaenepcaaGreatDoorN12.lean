import Derived.Test.YtceflkeaenepcaaGreatDoorN9
import Derived.Test.YtceflkeaenepcaaGreatDoorN10
import Derived.Lib.IndexMore
import Derived.Lib.SplitLaws
import Derived.Lib.Strings
import Derived.WalkMore
namespace Go.Proofs.YtceflkeaenepcaaGreatDoor.Sn.Scn
open Go.Proofs.YtceflkeaenepcaaGreatDoor.Scn
def dig (c : Int) : Int := if 48 ≤ c ∧ c ≤ 57 then c - 48 else if 65 ≤ c ∧ c ≤ 70 then c - 55 else 16
def digA (b : Int) : Int → List Int → Option Int
  | n, [] => some n
  | n, c :: r => if b ≤ dig c then none else digA b (n * b + dig c) r
def digB (b : Int) (most : Nat) (l : List Int) : Option Int :=
  if l.length < 1 ∨ most < l.length ∨ (1 < l.length ∧ l.getD 0 0 = 48) then none else digA b 0 l
theorem dig_bound (c : Int) : 0 ≤ dig c ∧ dig c ≤ 16 := by unfold dig; split <;> (try split) <;> omega
theorem dig_high {c : Int} (h : 128 ≤ c) : dig c = 16 := by unfold dig; rw [if_neg (by omega), if_neg (by omega)]
theorem digA_step {b n : Int} {l : List Int} {k : Nat} (hk : k < l.length) : digA b n (l.drop k) = if b ≤ dig (l.getD k 0) then none else digA b (n * b + dig (l.getD k 0)) (l.drop (k + 1)) := by
  rw [List.drop_eq_getElem_cons hk, digA]
  simp [List.getD, hk]
end Go.Proofs.YtceflkeaenepcaaGreatDoor.Sn.Scn
namespace Go.Proofs.YtceflkeaenepcaaGreatDoor.Sn
open Go.RowKit
theorem digit_any (c : Int) (w : World) (h : 0 ≤ c ∧ c ≤ 2147483647) : Calls Tryz.prog 182 #[.int .i32 c] w fun e w' => e = .returned (.int .i64 (Scn.dig c)) ∧ w' = w := by
  obtain ⟨h1, h2⟩ := h
  unfold Scn.dig
  by_cases a1 : 48 ≤ c
  · by_cases a2 : c ≤ 57
    · rw [if_pos ⟨a1, a2⟩]
      go_enter Tryz.func182, Tryz.ntmps182
      go_wp2
      go_ret
      exact ⟨by rfl, rfl⟩
    · rw [if_neg (by omega)]
      by_cases a3 : 65 ≤ c
      · by_cases a4 : c ≤ 70
        · rw [if_pos ⟨a3, a4⟩]
          have q : c - 65 + 10 = c - 55 := by omega
          go_enter Tryz.func182, Tryz.ntmps182
          go_wp2
          go_ret
          exact ⟨by first | rfl | (rw [q]) | (congr 2; omega), rfl⟩
        · rw [if_neg (by omega)]
          go_enter Tryz.func182, Tryz.ntmps182
          go_wp2
          go_ret
          exact ⟨rfl, rfl⟩
      · rw [if_neg (by omega)]
        go_enter Tryz.func182, Tryz.ntmps182
        go_wp2
        go_ret
        exact ⟨rfl, rfl⟩
  · rw [if_neg (by omega), if_neg (by omega)]
    go_enter Tryz.func182, Tryz.ntmps182
    go_wp2
    go_ret
    exact ⟨rfl, rfl⟩
def NumB (w : World) (o : Option Int) (e : Ending) (w' : World) : Prop := e = .returned (.tuple #[.int .i64 (Scn.told o).1, .bool (Scn.told o).2]) ∧ Below w.heap.size w w'
set_option maxRecDepth 4000 in
set_option maxHeartbeats 4000000 in
theorem digits16_any (s : ByteArray) (w : World) (hs : s.size ≤ 1000000000) : Calls Tryz.prog 159 #[.string s, .int .i64 16, .int .i64 6] w (NumB w (Scn.digB 16 6 (nums s))) := by
  have hlen := nums_length s
  have HNone : Hid (Scn.digB 16 6 (nums s) = none → ∀ w', Below w.heap.size w w' → NumB w (Scn.digB 16 6 (nums s)) (.returned (.tuple #[.int .i64 0, .bool false])) w') := fun h w' hb => by rw [h]; exact ⟨rfl, hb⟩
  have HSome : Hid (∀ n, Scn.digB 16 6 (nums s) = some n → ∀ w', Below w.heap.size w w' → NumB w (Scn.digB 16 6 (nums s)) (.returned (.tuple #[.int .i64 n, .bool true])) w') := fun n h w' hb => by rw [h]; exact ⟨rfl, hb⟩
  by_cases a1 : s.size < 1
  · have HF := (unhide HNone) (by unfold Scn.digB; rw [if_pos (.inl (by omega))]) w (Below.refl _ _)
    have q0 : s.size = 0 := by omega
    have q1 : ((s.size : Int) == 0) = true := by rw [q0]; rfl
    clear HNone HSome
    go_enter Tryz.func159, Tryz.ntmps159
    go_wp2
    go_ret2
    exact HF
  · have q1 : ((s.size : Int) == 0) = false := beq_eq_false_iff_ne.2 (by omega)
    by_cases a2 : 6 < s.size
    · have HF := (unhide HNone) (by unfold Scn.digB; rw [if_pos (.inr (.inl (by omega)))]) w (Below.refl _ _)
      clear HNone HSome
      go_enter Tryz.func159, Tryz.ntmps159
      go_wp2
      go_ret2
      exact HF
    · have h0 := run_at s 0 0 rfl (by omega)
      obtain ⟨z1, z2⟩ := (nums_byt s).at 0
      by_cases a3 : 1 < s.size ∧ (nums s).getD 0 0 = 48
      · obtain ⟨b1, b2⟩ := a3
        have HF := (unhide HNone) (by unfold Scn.digB; rw [if_pos (.inr (.inr (by rw [hlen]; exact ⟨b1, b2⟩)))]) w (Below.refl _ _)
        rw [b2] at h0
        clear HNone HSome
        go_enter Tryz.func159, Tryz.ntmps159
        go_wp2
        go_ret2
        exact HF
      · have hc : Scn.digB 16 6 (nums s) = Scn.digA 16 0 (nums s) := by unfold Scn.digB; rw [if_neg (by rw [hlen]; omega)]
        have hz : ((nums s).getD 0 0 == 48) = false ∨ ((nums s).getD 0 0 = 48 ∧ s.size = 1) := by
          by_cases h1 : (nums s).getD 0 0 = 48
          · exact .inr ⟨h1, by omega⟩
          · exact .inl (beq_eq_false_iff_ne.2 h1)
        rw [hc] at HNone HSome ⊢
        have KD := hide (fun c w h => digit_any c w h)
        have HByt := hide (fun k => (nums_byt s).at k)
        clear hc a3
        generalize hc0 : (nums s).getD 0 0 = c0 at h0 z1 z2 hz
        clear hc0
        have q2 : ¬ (s.size : Int) > 6 := by omega
        have HZ := hide hz
        rcases unhide HZ with hz0 | ⟨rfl, hz0⟩
        all_goals
          clear HZ
          go_enter Tryz.func159, Tryz.ntmps159
          go_wp2
          go_loopw [8, 10, 11] (fun nv _ _ wr => ∃ (k : Nat) (n : Int), nv = .int .i64 n ∧ wr = w.iter s k ∧ k ≤ s.size ∧ 0 ≤ n ∧ n < ((16 ^ k : Nat) : Int) ∧ Scn.digA 16 0 (nums s) = Scn.digA 16 n ((nums s).drop k)) (fun _ _ _ wr => s.size - wr.iterPos w.heap.size)
          case atStart => exact ⟨0, 0, rfl, rfl, by omega, by omega, by simp, by rw [List.drop_zero]⟩
          case round =>
            obtain ⟨k, n, rfl, rfl, hk, n1, n2, hx⟩ := hrel
            have hn3 : n < 16777216 := by
              have : 16 ^ k ≤ 16 ^ 6 := Nat.pow_le_pow_right (by omega) (by omega)
              omega
            clear h0 z1 z2 hz0
            by_cases hlt : k < s.size
            · have hnx := fun ty => run_next_any (P := Tryz.prog) w s k ty hlt
              obtain ⟨c1, c2⟩ := (unhide HByt) k
              rw [Scn.digA_step (by omega)] at hx
              have hn4 : 16 ^ (k + 1) = 16 ^ k * 16 := Nat.pow_succ _ _
              have HN5 : Hid (∀ e : Int, 0 ≤ e → e < 16 → n * 16 + e < ((16 ^ (k + 1) : Nat) : Int)) := fun e h1 h2 => by rw [hn4]; omega
              clear hn4 n2
              rcases Int.lt_or_le ((nums s).getD k 0) 128 with hlo | hhi
              · obtain ⟨d1, d2⟩ := dec_low s k hlt hlo
                rw [d1, d2] at hnx
                have hmo : s.size - (k + 1) < s.size - (w.iter s k).iterPos w.heap.size := by rw [World.iterPos_iter]; omega
                have K1 := hide ((unhide KD) ((nums s).getD k 0) (w.iter s (k + 1)) (by omega))
                obtain ⟨g1, g2⟩ := Scn.dig_bound ((nums s).getD k 0)
                have HX := hide hx
                clear hx d1 d2 KD
                generalize Scn.dig ((nums s).getD k 0) = e at *
                generalize (nums s).getD k 0 = c at *
                go_wp2_with fail
                refine (unhide K1).mono ?_
                rintro e' w1 ⟨rfl, hw1⟩
                subst w1
                clear K1 hnx
                by_cases he : 16 ≤ e
                · have HF := (unhide HNone) ((unhide HX).trans (if_pos he)) (w.iter s (k + 1)) ((Below.refl _ _).alloc (Nat.le_refl _) _)
                  clear HNone HSome HX HN5
                  go_wp2
                  go_ret2
                  exact HF
                · have HX3 := hide ((unhide HX).trans (if_neg he))
                  clear HNone HSome HX
                  go_wp2
                  go_roundw
                  case rel => exact ⟨k + 1, n * 16 + e, by go_num, rfl, by omega, by omega, (unhide HN5) e g1 (by omega), unhide HX3⟩
                  case measure => rw [World.iterPos_iter]; exact hmo
              · obtain ⟨d1, d2, d3, d4⟩ := dec_high s k hlt hhi
                have d5 := dec_top s k
                have HF := (unhide HNone) (hx.trans (if_pos (by rw [Scn.dig_high hhi]; decide))) (w.iter s (k + (Utf8.decode s k).2)) ((Below.refl _ _).alloc (Nat.le_refl _) _)
                have K1 := hide ((unhide KD) ((Utf8.decode s k).1 : Int) (w.iter s (k + (Utf8.decode s k).2)) (by omega))
                rw [Scn.dig_high d1] at K1
                clear hx d4 d3 d2 KD HNone HSome HN5
                generalize (Utf8.decode s k).2 = n2 at *
                generalize ((Utf8.decode s k).1 : Int) = c at *
                go_wp2_with fail
                refine (unhide K1).mono ?_
                rintro e' w1 ⟨rfl, hw1⟩
                subst w1
                clear K1 hnx
                go_wp2
                go_ret2
                exact HF
            · obtain rfl : k = s.size := by omega
              have hnx := fun ty => run_next_end (P := Tryz.prog) w s s.size ty hlt
              have hend := hx.trans (show Scn.digA 16 n ((nums s).drop s.size) = some n by rw [List.drop_eq_nil_of_le (by omega)]; rfl)
              have HF := (unhide HSome) n hend (w.iter s s.size) ((Below.refl _ _).alloc (Nat.le_refl _) _)
              clear HNone HSome hend hx n2
              go_wp2
              go_ret2
              exact HF
set_option maxRecDepth 4000 in
set_option maxHeartbeats 4000000 in
theorem digits10_any (s : ByteArray) (w : World) (hs : s.size ≤ 1000000000) : Calls Tryz.prog 159 #[.string s, .int .i64 10, .int .i64 9] w (NumB w (Scn.digB 10 9 (nums s))) := by
  have hlen := nums_length s
  have HNone : Hid (Scn.digB 10 9 (nums s) = none → ∀ w', Below w.heap.size w w' → NumB w (Scn.digB 10 9 (nums s)) (.returned (.tuple #[.int .i64 0, .bool false])) w') := fun h w' hb => by rw [h]; exact ⟨rfl, hb⟩
  have HSome : Hid (∀ n, Scn.digB 10 9 (nums s) = some n → ∀ w', Below w.heap.size w w' → NumB w (Scn.digB 10 9 (nums s)) (.returned (.tuple #[.int .i64 n, .bool true])) w') := fun n h w' hb => by rw [h]; exact ⟨rfl, hb⟩
  by_cases a1 : s.size < 1
  · have HF := (unhide HNone) (by unfold Scn.digB; rw [if_pos (.inl (by omega))]) w (Below.refl _ _)
    have q0 : s.size = 0 := by omega
    have q1 : ((s.size : Int) == 0) = true := by rw [q0]; rfl
    clear HNone HSome
    go_enter Tryz.func159, Tryz.ntmps159
    go_wp2
    go_ret2
    exact HF
  · have q1 : ((s.size : Int) == 0) = false := beq_eq_false_iff_ne.2 (by omega)
    by_cases a2 : 9 < s.size
    · have HF := (unhide HNone) (by unfold Scn.digB; rw [if_pos (.inr (.inl (by omega)))]) w (Below.refl _ _)
      clear HNone HSome
      go_enter Tryz.func159, Tryz.ntmps159
      go_wp2
      go_ret2
      exact HF
    · have h0 := run_at s 0 0 rfl (by omega)
      obtain ⟨z1, z2⟩ := (nums_byt s).at 0
      by_cases a3 : 1 < s.size ∧ (nums s).getD 0 0 = 48
      · obtain ⟨b1, b2⟩ := a3
        have HF := (unhide HNone) (by unfold Scn.digB; rw [if_pos (.inr (.inr (by rw [hlen]; exact ⟨b1, b2⟩)))]) w (Below.refl _ _)
        rw [b2] at h0
        clear HNone HSome
        go_enter Tryz.func159, Tryz.ntmps159
        go_wp2
        go_ret2
        exact HF
      · have hc : Scn.digB 10 9 (nums s) = Scn.digA 10 0 (nums s) := by unfold Scn.digB; rw [if_neg (by rw [hlen]; omega)]
        have hz : ((nums s).getD 0 0 == 48) = false ∨ ((nums s).getD 0 0 = 48 ∧ s.size = 1) := by
          by_cases h1 : (nums s).getD 0 0 = 48
          · exact .inr ⟨h1, by omega⟩
          · exact .inl (beq_eq_false_iff_ne.2 h1)
        rw [hc] at HNone HSome ⊢
        have KD := hide (fun c w h => digit_any c w h)
        have HByt := hide (fun k => (nums_byt s).at k)
        clear hc a3
        generalize hc0 : (nums s).getD 0 0 = c0 at h0 z1 z2 hz
        clear hc0
        have q2 : ¬ (s.size : Int) > 9 := by omega
        have HZ := hide hz
        rcases unhide HZ with hz0 | ⟨rfl, hz0⟩
        all_goals
          clear HZ
          go_enter Tryz.func159, Tryz.ntmps159
          go_wp2
          go_loopw [8, 10, 11] (fun nv _ _ wr => ∃ (k : Nat) (n : Int), nv = .int .i64 n ∧ wr = w.iter s k ∧ k ≤ s.size ∧ 0 ≤ n ∧ n < ((16 ^ k : Nat) : Int) ∧ Scn.digA 10 0 (nums s) = Scn.digA 10 n ((nums s).drop k)) (fun _ _ _ wr => s.size - wr.iterPos w.heap.size)
          case atStart => exact ⟨0, 0, rfl, rfl, by omega, by omega, by simp, by rw [List.drop_zero]⟩
          case round =>
            obtain ⟨k, n, rfl, rfl, hk, n1, n2, hx⟩ := hrel
            have hn3 : n < 68719476736 := by
              have : 16 ^ k ≤ 16 ^ 9 := Nat.pow_le_pow_right (by omega) (by omega)
              omega
            clear h0 z1 z2 hz0
            by_cases hlt : k < s.size
            · have hnx := fun ty => run_next_any (P := Tryz.prog) w s k ty hlt
              obtain ⟨c1, c2⟩ := (unhide HByt) k
              rw [Scn.digA_step (by omega)] at hx
              have hn4 : 16 ^ (k + 1) = 16 ^ k * 16 := Nat.pow_succ _ _
              have HN5 : Hid (∀ e : Int, 0 ≤ e → e < 10 → n * 10 + e < ((16 ^ (k + 1) : Nat) : Int)) := fun e h1 h2 => by rw [hn4]; omega
              clear hn4 n2
              rcases Int.lt_or_le ((nums s).getD k 0) 128 with hlo | hhi
              · obtain ⟨d1, d2⟩ := dec_low s k hlt hlo
                rw [d1, d2] at hnx
                have hmo : s.size - (k + 1) < s.size - (w.iter s k).iterPos w.heap.size := by rw [World.iterPos_iter]; omega
                have K1 := hide ((unhide KD) ((nums s).getD k 0) (w.iter s (k + 1)) (by omega))
                obtain ⟨g1, g2⟩ := Scn.dig_bound ((nums s).getD k 0)
                have HX := hide hx
                clear hx d1 d2 KD
                generalize Scn.dig ((nums s).getD k 0) = e at *
                generalize (nums s).getD k 0 = c at *
                go_wp2_with fail
                refine (unhide K1).mono ?_
                rintro e' w1 ⟨rfl, hw1⟩
                subst w1
                clear K1 hnx
                by_cases he : 10 ≤ e
                · have HF := (unhide HNone) ((unhide HX).trans (if_pos he)) (w.iter s (k + 1)) ((Below.refl _ _).alloc (Nat.le_refl _) _)
                  clear HNone HSome HX HN5
                  go_wp2
                  go_ret2
                  exact HF
                · have HX3 := hide ((unhide HX).trans (if_neg he))
                  clear HNone HSome HX
                  go_wp2
                  go_roundw
                  case rel => exact ⟨k + 1, n * 10 + e, by go_num, rfl, by omega, by omega, (unhide HN5) e g1 (by omega), unhide HX3⟩
                  case measure => rw [World.iterPos_iter]; exact hmo
              · obtain ⟨d1, d2, d3, d4⟩ := dec_high s k hlt hhi
                have d5 := dec_top s k
                have HF := (unhide HNone) (hx.trans (if_pos (by rw [Scn.dig_high hhi]; decide))) (w.iter s (k + (Utf8.decode s k).2)) ((Below.refl _ _).alloc (Nat.le_refl _) _)
                have K1 := hide ((unhide KD) ((Utf8.decode s k).1 : Int) (w.iter s (k + (Utf8.decode s k).2)) (by omega))
                rw [Scn.dig_high d1] at K1
                clear hx d4 d3 d2 KD HNone HSome HN5
                generalize (Utf8.decode s k).2 = n2 at *
                generalize ((Utf8.decode s k).1 : Int) = c at *
                go_wp2_with fail
                refine (unhide K1).mono ?_
                rintro e' w1 ⟨rfl, hw1⟩
                subst w1
                clear K1 hnx
                go_wp2
                go_ret2
                exact HF
            · obtain rfl : k = s.size := by omega
              have hnx := fun ty => run_next_end (P := Tryz.prog) w s s.size ty hlt
              have hend := hx.trans (show Scn.digA 10 n ((nums s).drop s.size) = some n by rw [List.drop_eq_nil_of_le (by omega)]; rfl)
              have HF := (unhide HSome) n hend (w.iter s s.size) ((Below.refl _ _).alloc (Nat.le_refl _) _)
              clear HNone HSome hend hx n2
              go_wp2
              go_ret2
              exact HF
end Go.Proofs.YtceflkeaenepcaaGreatDoor.Sn
namespace Go.Proofs.YtceflkeaenepcaaGreatDoor.Sn.Scn
open Go.Proofs.YtceflkeaenepcaaGreatDoor.Scn
theorem hexA_dig (l : List Int) : ∀ n, digA 16 n l = hexA n l := by
  induction l with
  | nil => intro n; rfl
  | cons c r ih =>
    intro n
    rw [digA, hexA]
    have h : (16 ≤ dig c ↔ hexd c < 0) ∧ (¬ hexd c < 0 → n * 16 + dig c = 16 * n + hexd c) := by
      unfold dig hexd
      split
      · exact ⟨by omega, fun _ => by omega⟩
      · split
        · exact ⟨by omega, fun _ => by omega⟩
        · exact ⟨by omega, fun h => absurd (by omega) h⟩
    by_cases hc : hexd c < 0
    · rw [if_pos (h.1.2 hc), if_pos hc]
    · rw [if_neg (fun e => hc (h.1.1 e)), if_neg hc, ih, h.2 hc]
theorem decA_dig (l : List Int) : ∀ n, digA 10 n l = decA n l := by
  induction l with
  | nil => intro n; rfl
  | cons c r ih =>
    intro n
    rw [digA, decA]
    have h : (10 ≤ dig c ↔ (c < 48 ∨ 57 < c)) ∧ (¬ (c < 48 ∨ 57 < c) → n * 10 + dig c = 10 * n + (c - 48)) := by
      unfold dig
      split
      · exact ⟨by omega, fun _ => by omega⟩
      · split
        · exact ⟨by omega, fun h => absurd (by omega) h⟩
        · exact ⟨by omega, fun h => absurd (by omega) h⟩
    by_cases hc : c < 48 ∨ 57 < c
    · rw [if_pos (h.1.2 hc), if_pos hc]
    · rw [if_neg (fun e => hc (h.1.1 e)), if_neg hc, ih, h.2 hc]
theorem code_dig (l : List Int) : code l = cap (digB 16 6 l) := by
  unfold code digB
  split
  · rfl
  · rw [hexA_dig]
theorem digB_ge {b : Nat} {m : Nat} {l : List Int} {n : Int} (h : digB b m l = some n) : 0 ≤ n := by
  have key : ∀ (l : List Int) (k n : Int), 0 ≤ k → digA b k l = some n → 0 ≤ n := by
    intro l
    induction l with
    | nil => intro k n h0 h; simp [digA] at h; omega
    | cons c r ih =>
      intro k n h0 h
      rw [digA] at h
      split at h
      · cases h
      · refine ih _ _ ?_ h
        have := dig_bound c
        have : 0 ≤ k * (b : Int) := Int.mul_nonneg h0 (by omega)
        omega
  unfold digB at h
  split at h
  · cases h
  · exact key _ _ _ (Int.le_refl _) h
theorem digB_top {l : List Int} {n : Int} (h : digB 10 9 l = some n) : n < 1000000000 := by
  unfold digB at h
  split at h
  · cases h
  · rename_i hc
    rw [decA_dig] at h
    have h1 := decA_lt 0 (Int.le_refl 0) (by simp) h
    have h2 : 10 ^ (0 + l.length) ≤ 10 ^ 9 := Nat.pow_le_pow_right (by omega) (by omega)
    omega
def wholeN : Option Int → Int × Bool
  | some n => (-n, decide (n ≠ 0))
  | none => (0, false)
def wholeP (l : List Int) : Int × Bool := if 0 < l.length ∧ l.getD 0 0 = 45 then wholeN (digB 10 9 (l.drop 1)) else told (digB 10 9 l)
theorem digs_dig {l : List Int} (h : ¬ (l.length = 1 ∧ l.getD 0 0 = 48)) : digs l = digB 10 9 l := by
  unfold digs digB
  by_cases hc : l.length < 1 ∨ 9 < l.length ∨ l.getD 0 0 = 48
  · rw [if_pos hc]
    rw [if_pos (by omega)]
  · rw [if_neg hc, if_neg (by omega), decA_dig]
theorem one_of {l : List Int} (h : l.length = 1) : l = [l.getD 0 0] := by
  match l, h with
  | [x], _ => rfl
theorem whole_dig (l : List Int) : told (whole l) = wholeP l := by
  unfold whole wholeP
  by_cases h48 : l = [48]
  · subst h48; decide
  · rw [if_neg h48]
    have hn : ¬ (l.length = 1 ∧ l.getD 0 0 = 48) := fun ⟨a, b⟩ => h48 (by rw [one_of a, b])
    by_cases hm : 0 < l.length ∧ l.getD 0 0 = 45
    · rw [if_pos hm, if_pos hm]
      by_cases hr : (l.drop 1).length = 1 ∧ (l.drop 1).getD 0 0 = 48
      · rw [one_of hr.1, hr.2]; decide
      · rw [← digs_dig hr]
        cases hd : digs (l.drop 1) with
        | none => rfl
        | some n =>
          have := (digs_back hd).2
          show (-n, true) = (-n, decide (n ≠ 0))
          rw [decide_eq_true (by omega)]
    · rw [if_neg hm, if_neg hm, digs_dig hn]
theorem span_none {l : List Int} (h : ∀ k, k + 1 < l.length → ¬ (l.getD k 0 = 46 ∧ l.getD (k + 1) 0 = 46)) : span l = (code l).map fun a => (a, a) := by
  have key : ∀ f k, spanA l f k = (code l).map fun a => (a, a) := by
    intro f
    induction f with
    | zero => intro k; rfl
    | succ f ih =>
      intro k
      rw [spanA]
      split
      · rename_i hk
        rw [if_neg (h k hk), ih]
      · rfl
  exact key _ _
theorem span_at {l : List Int} {i : Nat} (hi : i + 1 < l.length) (h1 : l.getD i 0 = 46 ∧ l.getD (i + 1) 0 = 46) (h : ∀ k, k < i → ¬ (l.getD k 0 = 46 ∧ l.getD (k + 1) 0 = 46)) : span l = both (code (l.take i)) (code (l.drop (i + 2))) := by
  have key : ∀ f k, k ≤ i → i < k + f → spanA l f k = both (code (l.take i)) (code (l.drop (i + 2))) := by
    intro f
    induction f with
    | zero => intro k a b; omega
    | succ f ih =>
      intro k a b
      rw [spanA, if_pos (by omega)]
      by_cases hk : k = i
      · subst hk; rw [if_pos h1]
      · rw [if_neg (h k (by omega)), ih (k + 1) (by omega) (by omega)]
  exact key _ _ (by omega) (by omega)
def linesF : List Int → List Int → List (List Int)
  | cur, [] => [cur]
  | cur, c :: r => if c = 10 then cur :: linesF [] r else linesF (cur ++ [c]) r
def cutLast (ls : List (List Int)) : List (List Int) := if ls.getLastD [] = [] then ls.dropLast else ls
theorem linesF_ne (cur l : List Int) : linesF cur l ≠ [] := by
  induction l generalizing cur with
  | nil => simp [linesF]
  | cons c r ih => rw [linesF]; split <;> simp [ih]
theorem lines_cut (l : List Int) : ∀ cur, linesA cur l = cutLast (linesF cur l) := by
  induction l with
  | nil => intro cur; simp only [linesA, linesF, cutLast, List.getLastD]; split <;> simp_all
  | cons c r ih =>
    intro cur
    rw [linesA, linesF]
    split
    · rw [ih []]
      have hne := linesF_ne [] r
      unfold cutLast
      have e : (cur :: linesF [] r).getLastD [] = (linesF [] r).getLastD [] := by
        cases h : linesF [] r with
        | nil => exact absurd h hne
        | cons a t => simp [List.getLastD]
      rw [e]
      split
      · rw [List.dropLast_cons_of_ne_nil hne]
      · rfl
    · exact ih _
end Go.Proofs.YtceflkeaenepcaaGreatDoor.Sn.Scn
namespace Go.Proofs.YtceflkeaenepcaaGreatDoor.Sn
open Go.RowKit
def n8 (l : List UInt8) : List Int := l.map fun b => (b.toNat : Int)
theorem nums_n8 (s : ByteArray) : nums s = n8 s.data.toList := rfl
theorem nums_of (l : List UInt8) : nums ⟨l.toArray⟩ = n8 l := by rw [nums_n8]
theorem n8_at (l : List UInt8) (k : Nat) : (n8 l).getD k 0 = (((l.getD k 0).toNat : Nat) : Int) := by
  unfold n8
  simp only [List.getD, List.getElem?_map]
  cases l[k]? <;> rfl
theorem u8_eq {b c : UInt8} : ((b.toNat : Int) = (c.toNat : Int)) ↔ b = c := by
  constructor
  · intro h; exact UInt8.toNat_inj.1 (by omega)
  · rintro rfl; rfl
theorem occ_two (l : List UInt8) (k : Nat) : Lib.occAt l [46, 46] k = true ↔ (k + 1 < l.length ∧ (n8 l).getD k 0 = 46 ∧ (n8 l).getD (k + 1) 0 = 46) := by
  rw [n8_at, n8_at]
  rw [show (46 : Int) = ((46 : UInt8).toNat : Int) from rfl, u8_eq, u8_eq]
  rcases Nat.lt_or_ge (k + 1) l.length with h | h
  · rw [Lib.occAt, List.drop_eq_getElem_cons (by omega : k < l.length), List.drop_eq_getElem_cons h]
    simp [List.isPrefixOf, List.getD, h, (by omega : k < l.length)]
    constructor
    · rintro ⟨a, b⟩; exact ⟨a.symm, b.symm⟩
    · rintro ⟨a, b⟩; exact ⟨a.symm, b.symm⟩
  · constructor
    · intro ho
      rcases Lib.occAt_room ho with hr | hr
      · simp at hr; omega
      · cases hr
    · intro ⟨a, _⟩; omega
theorem span_cut (l : List UInt8) : (∃ i, Lib.cut l [46, 46] = (l.take i, l.drop (i + 2), true) ∧ i + 2 ≤ l.length ∧ Scn.span (n8 l) = Scn.both (Scn.code (n8 (l.take i))) (Scn.code (n8 (l.drop (i + 2))))) ∨
    (Lib.cut l [46, 46] = (l, [], false) ∧ Scn.span (n8 l) = (Scn.code (n8 l)).map fun a => (a, a)) := by
  have hl : (n8 l).length = l.length := by simp [n8]
  rcases Lib.index_spec l [46, 46] with ⟨hm, hn⟩ | ⟨i, hi, hil, ho, hno⟩
  · refine .inr ⟨?_, Scn.span_none fun k hk hc => ?_⟩
    · unfold Lib.cut; rw [hm]; rfl
    · have := hn k (by omega)
      rw [(occ_two l k).2 ⟨by omega, hc.1, hc.2⟩] at this
      cases this
  · obtain ⟨h1, h2, h3⟩ := (occ_two l i).1 ho
    refine .inl ⟨i, ?_, by omega, ?_⟩
    · unfold Lib.cut; rw [hi, if_pos (by omega)]; rfl
    · rw [Scn.span_at (by omega) ⟨h2, h3⟩ fun k hk hc => ?_]
      · rw [show n8 (l.take i) = (n8 l).take i from List.map_take, show n8 (l.drop (i + 2)) = (n8 l).drop (i + 2) from List.map_drop]
      · have := hno k hk
        rw [(occ_two l k).2 ⟨by omega, hc.1, hc.2⟩] at this
        cases this
theorem splitK_ne (b : UInt8) (r : List UInt8) (k : Nat) (h : b ≠ 10) : Lib.splitK [10] 0 k (b :: r) = (b :: (Lib.splitK [10] 0 k r).headD []) :: (Lib.splitK [10] 0 k r).tail := by
  cases k with
  | zero => rfl
  | succ k =>
    have hp : ([10] : List UInt8).isPrefixOf (b :: r) = false := by simp [List.isPrefixOf]; exact fun e => h e.symm
    have hi : Lib.index (b :: r) [10] = if Lib.index r [10] == -1 then -1 else Lib.index r [10] + 1 := by rw [Lib.index, if_neg (by rw [hp]; exact Bool.false_ne_true)]
    by_cases hr : Lib.index r [10] = -1
    · have e1 : Lib.index (b :: r) [10] = -1 := by rw [hi, if_pos (beq_iff_eq.2 hr)]
      rw [Lib.splitK, Lib.splitK, if_pos (beq_iff_eq.2 e1), if_pos (beq_iff_eq.2 hr)]; rfl
    · have hg := Lib.index_ge r [10]
      have e1 : Lib.index (b :: r) [10] = Lib.index r [10] + 1 := by rw [hi, if_neg (fun e => hr (beq_iff_eq.1 e))]
      rw [Lib.splitK, Lib.splitK, if_neg (fun e => by have := beq_iff_eq.1 e; omega), if_neg (fun e => hr (beq_iff_eq.1 e)), e1]
      obtain ⟨i, hi2⟩ : ∃ i : Nat, Lib.index r [10] = i := ⟨(Lib.index r [10]).toNat, by omega⟩
      rw [hi2, show (((i : Int) + 1).toNat) = i + 1 by omega, show ((i : Int).toNat) = i by omega]
      rfl
theorem splitK_eq (r : List UInt8) (k : Nat) : Lib.splitK [10] 0 (k + 1) (10 :: r) = [] :: Lib.splitK [10] 0 k r := by
  have e1 : Lib.index (10 :: r) [10] = 0 := by rw [Lib.index, if_pos (by simp [List.isPrefixOf])]
  rw [Lib.splitK, e1]; rfl
theorem split_lines (l : List UInt8) : ∀ cur, Scn.linesF cur (n8 l) = (cur ++ n8 ((Lib.splitK [10] 0 (l.count 10) l).headD [])) :: ((Lib.splitK [10] 0 (l.count 10) l).tail).map n8 := by
  induction l with
  | nil => intro cur; simp [n8, Scn.linesF, Lib.splitK]
  | cons b r ih =>
    intro cur
    have e : n8 (b :: r) = (b.toNat : Int) :: n8 r := rfl
    rw [e, Scn.linesF]
    by_cases hb : b = 10
    · subst hb
      rw [if_pos (show (((10 : UInt8).toNat : Nat) : Int) = 10 from rfl), List.count_cons_self, splitK_eq, ih []]
      cases h : Lib.splitK [10] 0 (r.count 10) r with
      | nil => exact absurd h (by cases r.count 10 <;> (rw [Lib.splitK]; first | exact List.cons_ne_nil _ _ | (split <;> exact List.cons_ne_nil _ _)))
      | cons x t => simp [n8]
    · have hn : ¬ (b.toNat : Int) = 10 := fun e => hb (u8_eq.1 (show (b.toNat : Int) = ((10 : UInt8).toNat : Int) from e))
      rw [if_neg hn, List.count_cons_of_ne hb, splitK_ne b r _ hb, ih]
      simp [n8]
theorem split_nums (s : ByteArray) : (Lib.splitB ⟨#[10]⟩ 0 (Lib.countB s ⟨#[10]⟩) s).map nums = Scn.linesF [] (nums s) := by
  have h1 : (Lib.splitB ⟨#[10]⟩ 0 (Lib.countB s ⟨#[10]⟩) s).map nums = ((Lib.splitB ⟨#[10]⟩ 0 (Lib.countB s ⟨#[10]⟩) s).map (·.data.toList)).map n8 := by
    rw [List.map_map]; rfl
  have h2 : Lib.countB s ⟨#[10]⟩ = s.data.toList.count 10 := by
    show Lib.count s.data.toList [10] = _
    rw [Lib.count_one]
  rw [h1, Lib.splitB_data, h2, nums_n8, split_lines]
  show (Lib.splitK [10] 0 _ _).map n8 = _
  cases h : Lib.splitK [10] 0 (s.data.toList.count 10) s.data.toList with
  | nil => exact absurd h (by cases s.data.toList.count 10 <;> (rw [Lib.splitK]; first | exact List.cons_ne_nil _ _ | (split <;> exact List.cons_ne_nil _ _)))
  | cons x t => rfl
end Go.Proofs.YtceflkeaenepcaaGreatDoor.Sn
namespace Go.Proofs.YtceflkeaenepcaaGreatDoor.Sn
open Go.RowKit
theorem owns_iterAt {w : World} {B e sz n k : Nat} {v : Value} {us : List Value} (h : w.ownsRow B e sz v n us) (hk : k < B) (s : ByteArray) (p : Nat) : (w.iterAt k s p).ownsRow B e sz v n us := by
  obtain ⟨h1, h2⟩ := h
  refine ⟨h1, ?_⟩
  rcases h2 with h2 | ⟨g, cap, cur, hv, hb, hg, rest⟩
  · exact .inl h2
  · exact .inr ⟨g, cap, cur, hv, hb, (Lib.iterAt_other w k g s p (by omega)).trans hg, rest⟩
theorem iter_keep {B k : Nat} {w w' : World} {s : ByteArray} {p : Nat} (h : w.heap[k]? = some (.stringIter s p)) (hb : Below B w w') (hk : k < B) : w'.heap[k]? = some (.stringIter s p) := (hb.block k hk).trans h
theorem owns_lower {w : World} {B B' e sz n : Nat} {v : Value} {us : List Value} (h : w.ownsRow B e sz v n us) (hB : B' ≤ B) : w.ownsRow B' e sz v n us := by
  obtain ⟨h1, h2⟩ := h
  refine ⟨h1, ?_⟩
  rcases h2 with h2 | ⟨g, cap, cur, hv, hb, hg, rest⟩
  · exact .inl h2
  · exact .inr ⟨g, cap, cur, hv, Nat.le_trans hB hb, hg, rest⟩
def WAt (res : List (List Int × Nat)) (T : List Int) (pos : Nat) (ws : List (List Int × Nat)) (a : Value) : Prop :=
  (a = .int .i64 (-1) ∧ res = ws ++ Scn.wordsA pos [] (T.drop pos)) ∨ ∃ j : Nat, a = .int .i64 (j : Int) ∧ j < pos ∧ res = ws ++ Scn.wordsA pos (Scn.cut T j pos) (T.drop pos)
def WIn (w : World) (s : ByteArray) (res : List (List Int × Nat)) (vl a en : Value) (wr : World) : Prop :=
  ∃ (pos : Nat) (ws : List (List Int × Nat)), en = .int .i64 (s.size : Int) ∧ pos ≤ s.size ∧ wr.heap[w.heap.size]? = some (.stringIter s pos) ∧ wr.ownsRow (w.heap.size + 1) 84 2 vl ws.length (wvals ws) ∧ ws.length ≤ pos ∧ Below w.heap.size w wr ∧
    Scn.endA ((nums s).drop pos) + pos = Scn.endA (nums s) ∧ WAt res ((nums s).take (Scn.endA (nums s))) pos ws a
set_option maxRecDepth 4000 in
set_option maxHeartbeats 4000000 in
theorem words_any (s : ByteArray) (w : World) (hs : s.size ≤ 1000000000) : Calls Tryz.prog 47 #[.string s] w (WordsNew 84 w (Scn.words (nums s)) (Scn.endA (nums s))) := by
  have hlen := nums_length s
  have hEl := Scn.endA_le (nums s)
  have HByt := hide (fun k => (nums_byt s).at k)
  have KN := hide (fun v k w => withWord_none v s k w)
  have KM : Hid (∀ v ws j k wr, World.ownsRow wr (w.heap.size + 1) 84 2 v ws.length (wvals ws) → w.heap.size + 1 ≤ wr.heap.size → j ≤ k → k ≤ s.size → ws.length ≤ 1000000000 → Calls Tryz.prog 59 #[v, .string s, .int .i64 (j : Int), .int .i64 (k : Int)] wr fun e w' => ∃ v', e = .returned v' ∧ w'.ownsRow (w.heap.size + 1) 84 2 v' (ws ++ [(Scn.cut (nums s) j k, j)]).length (wvals (ws ++ [(Scn.cut (nums s) j k, j)])) ∧ Below (w.heap.size + 1) wr w') := fun v ws j k wr how hB hjk hk hwl => withWord_more (w.heap.size + 1) v ws s j k wr how hB hjk hk hwl
  generalize hres : Scn.words (nums s) = res
  have hTl : ((nums s).take (Scn.endA (nums s))).length = Scn.endA (nums s) := by simp; omega
  have HTA : Hid (∀ k, k < Scn.endA (nums s) → ((nums s).take (Scn.endA (nums s))).getD k 0 = (nums s).getD k 0) := fun k hk => Scn.take_at hk
  have HST : Hid (WIn w s res (.slice none 0 0) (.int .i64 (-1)) (.int .i64 (s.size : Int)) (w.iter s 0)) := by
    refine ⟨0, [], rfl, by omega, World.iter_heap w s 0, World.ownsRow_nil _ _ _ _, by simp, (Below.refl _ _).alloc (Nat.le_refl _) _, by simp, .inl ⟨rfl, ?_⟩⟩
    rw [← hres]; rfl
  clear hres
  go_enter Tryz.func47, Tryz.ntmps47
  go_wp2
  go_step3
  go_wp2
  go_step3
  go_wp2
  go_loopw [4, 5, 6, 7, 8] (fun vl a en _ _ wr => WIn w s res vl a en wr) (fun _ _ _ _ _ wr => s.size - wr.iterPos w.heap.size)
  case atStart => exact unhide HST
  case round =>
    clear HST
    obtain ⟨pos, ws, rfl, hps, hit, how, hwl, hbel, hE, hat⟩ := hrel
    have hsz : w.heap.size < wr.heap.size := (Array.getElem?_eq_some_iff.1 hit).1
    by_cases hp : pos < s.size
    · obtain ⟨c1, c2⟩ := (unhide HByt) pos
      have hES := Scn.endA_step (l := nums s) (k := pos) (by omega)
      by_cases hbk : Scn.isBlank ((nums s).getD pos 0) = true
      · have hne35 : ¬ (nums s).getD pos 0 = 35 := fun e => by rw [e] at hbk; cases hbk
        rw [if_neg hne35] at hES
        have hposE : pos < Scn.endA (nums s) := by omega
        have hTb : Scn.isBlank (((nums s).take (Scn.endA (nums s))).getD pos 0) = true := by rw [(unhide HTA) pos hposE]; exact hbk
        have hR : (nums s).getD pos 0 = 32 ∨ (nums s).getD pos 0 = 9 ∨ (nums s).getD pos 0 = 13 := by
          simp only [Scn.isBlank, Bool.or_eq_true, beq_iff_eq] at hbk; omega
        obtain ⟨d1, d2⟩ := dec_low s pos hp (by omega)
        have hnx := fun ty => Lib.run_next_any_at (P := Tryz.prog) wr w.heap.size s pos ty hit hp
        rw [d1, d2] at hnx
        have how2 := owns_iterAt how (k := w.heap.size) (by omega) s (pos + 1)
        have hit2 := Lib.iterAt_heap wr w.heap.size s pos (pos + 1) hit
        have hbel2 := Lib.below_iterAt hbel (k := w.heap.size) (Nat.le_refl _) s (pos + 1)
        have hsz2 : w.heap.size < (wr.iterAt w.heap.size s (pos + 1)).heap.size := by rw [Lib.iterAt_size]; exact hsz
        have hmo : s.size - (pos + 1) < s.size - wr.iterPos w.heap.size := by
          simp only [World.iterPos, hit]; omega
        clear how hbel hit hsz
        generalize wr.iterAt w.heap.size s (pos + 1) = W2 at *
        have HB2 := hide hTb
        have HE2 : Hid (Scn.endA ((nums s).drop (pos + 1)) + (pos + 1) = Scn.endA (nums s)) := by show _ = _; omega
        clear hTb hES hE hbk hne35 d1 d2 c1 c2
        generalize (nums s).getD pos 0 = c at hR hnx
        have HAT := hide hat
        rcases unhide HAT with ⟨rfl, hx⟩ | ⟨j, rfl, hj, hx⟩
        · have HX : Hid (WIn w s res u4 (.int .i64 (-1)) (.int .i64 (s.size : Int)) W2) := by
            refine ⟨pos + 1, ws, rfl, by omega, hit2, how2, by omega, hbel2, unhide HE2, .inl ⟨rfl, ?_⟩⟩
            rw [hx, Scn.wordsA_blank (by rw [hTl]; exact hposE) (unhide HB2)]
          have K1 := hide ((unhide KN) u4 (pos : Int) W2)
          clear hx HAT how2 hbel2
          rcases hR with rfl | rfl | rfl
          all_goals
            go_wp2_with fail
            refine (unhide K1).mono ?_
            rintro e' w1 ⟨rfl, hw1⟩
            subst w1
            clear hnx
            go_wp2
            go_roundw
            case rel => exact unhide HX
            case measure => simp only [World.iterPos, hit2]; exact hmo
        · have K1 := hide ((unhide KM) u4 ws j pos W2 how2 (by omega) (by omega) (by omega) (by omega))
          have HX : Hid (∀ v W3, World.ownsRow W3 (w.heap.size + 1) 84 2 v (ws ++ [(Scn.cut (nums s) j pos, j)]).length (wvals (ws ++ [(Scn.cut (nums s) j pos, j)])) → Below (w.heap.size + 1) W2 W3 → WIn w s res v (.int .i64 (-1)) (.int .i64 (s.size : Int)) W3 ∧ W3.heap[w.heap.size]? = some (.stringIter s (pos + 1))) := by
            intro v W3 ho3 hb3
            refine ⟨⟨pos + 1, ws ++ [(Scn.cut (nums s) j pos, j)], rfl, by omega, iter_keep hit2 hb3 (by omega), ho3, by simp; omega, hbel2.trans (hb3.mono (by omega)), unhide HE2, .inl ⟨rfl, ?_⟩⟩, iter_keep hit2 hb3 (by omega)⟩
            rw [hx, Scn.wordsA_done hj (by rw [hTl]; omega) (fun _ => unhide HB2), Scn.wordsA_blank (by rw [hTl]; exact hposE) (unhide HB2), Scn.cut_take (by omega), List.append_assoc]; rfl
          clear hx HAT how2 hbel2
          rcases hR with rfl | rfl | rfl
          all_goals
            go_wp2_with fail
            refine (unhide K1).mono ?_
            rintro e' w1 ⟨v1, rfl, ho1, hb1⟩
            obtain ⟨HY, hit3⟩ := (unhide HX) v1 w1 ho1 hb1
            have HZ := hide HY
            clear hnx HX HY K1 ho1 hb1 hit2
            go_wp2
            go_roundw
            case rel => exact unhide HZ
            case measure => simp only [World.iterPos, hit3]; exact hmo
      · have hbf : Scn.isBlank ((nums s).getD pos 0) = false := by simpa using hbk
        by_cases h35 : (nums s).getD pos 0 = 35
        · rw [if_pos h35] at hES
          have hposE : pos = Scn.endA (nums s) := by omega
          obtain ⟨d1, d2⟩ := dec_low s pos hp (by omega)
          have hnx := fun ty => Lib.run_next_any_at (P := Tryz.prog) wr w.heap.size s pos ty hit hp
          rw [d1, d2, h35] at hnx
          have how2 := owns_iterAt how (k := w.heap.size) (by omega) s (pos + 1)
          have hit2 := Lib.iterAt_heap wr w.heap.size s pos (pos + 1) hit
          have hbel2 := Lib.below_iterAt hbel (k := w.heap.size) (Nat.le_refl _) s (pos + 1)
          have hsz2 : w.heap.size < (wr.iterAt w.heap.size s (pos + 1)).heap.size := by rw [Lib.iterAt_size]; exact hsz
          have hmo : s.size - (pos + 1) < s.size - wr.iterPos w.heap.size := by
            simp only [World.iterPos, hit]; omega
          clear how hbel hit hsz
          generalize wr.iterAt w.heap.size s (pos + 1) = W2 at *
          rcases hat with ⟨rfl, hx⟩ | ⟨j, rfl, hj, hx⟩
          · have HF : WordsNew 84 w res (Scn.endA (nums s)) (.returned (.tuple #[u4, .int .i64 ((pos : Nat) : Int)])) W2 := by
              rw [← hposE]
              refine ⟨u4, rfl, ?_, hbel2⟩
              have hr : res = ws := by rw [hx, List.drop_eq_nil_of_le (by rw [hTl]; omega), Scn.wordsA, if_pos rfl, List.append_nil]
              rw [hr]
              exact owns_lower how2 (by omega)
            have K1 := hide ((unhide KN) u4 ((pos : Nat) : Int) W2)
            clear hx how2 hbel2 hTl HTA hposE hES hE hbk hbf h35 d1 d2 c1 c2 hmo
            go_wp2_with fail
            refine (unhide K1).mono ?_
            rintro e' w1 ⟨rfl, hw1⟩
            subst w1
            clear hnx
            go_wp2
            rw [Exit.noGoto_ret]
            go_ret2
            exact HF
          · have K1 := hide ((unhide KM) u4 ws j pos W2 how2 (by omega) (by omega) (by omega) (by omega))
            have HX : Hid (∀ v W3, World.ownsRow W3 (w.heap.size + 1) 84 2 v (ws ++ [(Scn.cut (nums s) j pos, j)]).length (wvals (ws ++ [(Scn.cut (nums s) j pos, j)])) → Below (w.heap.size + 1) W2 W3 → WordsNew 84 w res (Scn.endA (nums s)) (.returned (.tuple #[v, .int .i64 ((pos : Nat) : Int)])) W3) := by
              intro v W3 ho3 hb3
              have hr : res = ws ++ [(Scn.cut (nums s) j pos, j)] := by
                rw [hx, Scn.wordsA_done hj (by rw [hTl]; omega) (fun h => by rw [hTl] at h; omega), List.drop_eq_nil_of_le (by rw [hTl]; omega), Scn.wordsA, if_pos rfl, Scn.cut_take (by omega)]
              rw [← hposE, hr]
              exact ⟨v, rfl, owns_lower ho3 (by omega), hbel2.trans (hb3.mono (by omega))⟩
            clear hx how2 hbel2 hTl HTA hposE hES hE hbk hbf h35 d1 d2 c1 c2 hmo
            go_wp2_with fail
            refine (unhide K1).mono ?_
            rintro e' w1 ⟨v1, rfl, ho1, hb1⟩
            have HF := (unhide HX) v1 w1 ho1 hb1
            clear hnx ho1 hb1 HX K1
            go_wp2
            rw [Exit.noGoto_ret]
            go_ret2
            exact HF
        · obtain ⟨R, n, hn1, hnS, hRun, hNB, hR32, hR9, hR13, hR35, hnx⟩ : ∃ (R : Int) (n : Nat), 1 ≤ n ∧ pos + n ≤ s.size ∧ (∀ j, pos ≤ j → j < pos + n → (nums s).getD j 0 ≠ 35) ∧ (∀ j, pos ≤ j → j < pos + n → Scn.isBlank ((nums s).getD j 0) = false) ∧ (R == 32) = false ∧ (R == 9) = false ∧ (R == 13) = false ∧ (R == 35) = false ∧ ∀ ty, (Instr.next (.pointer (some ⟨w.heap.size, 0, none⟩)) true ty).run Tryz.prog wr = .ok (.tuple #[.bool true, .int .i64 (pos : Int), .int .i32 R]) (wr.iterAt w.heap.size s (pos + n)) := by
            have hnx := fun ty => Lib.run_next_any_at (P := Tryz.prog) wr w.heap.size s pos ty hit hp
            rcases Int.lt_or_le ((nums s).getD pos 0) 128 with hlo | hhi
            · obtain ⟨d1, d2⟩ := dec_low s pos hp hlo
              rw [d1, d2] at hnx
              have hb' := hbf
              simp only [Scn.isBlank, Bool.or_eq_false_iff, beq_eq_false_iff_ne] at hb'
              refine ⟨(nums s).getD pos 0, 1, Nat.le_refl _, by omega, fun j j1 j2 => ?_, fun j j1 j2 => ?_, beq_eq_false_iff_ne.2 hb'.1.1, beq_eq_false_iff_ne.2 hb'.1.2, beq_eq_false_iff_ne.2 hb'.2, beq_eq_false_iff_ne.2 h35, hnx⟩
              · obtain rfl : j = pos := by omega
                exact h35
              · obtain rfl : j = pos := by omega
                exact hbf
            · obtain ⟨d1, d2, d3, d4⟩ := dec_high s pos hp hhi
              refine ⟨_, _, d2, d3, fun j j1 j2 => ?_, fun j j1 j2 => Scn.isBlank_high (d4 j j1 j2), beq_eq_false_iff_ne.2 (by omega), beq_eq_false_iff_ne.2 (by omega), beq_eq_false_iff_ne.2 (by omega), beq_eq_false_iff_ne.2 (by omega), hnx⟩
              have := d4 j j1 j2
              omega
          have hER := Scn.endA_run hRun (by omega)
          have hposE : pos + n ≤ Scn.endA (nums s) := by omega
          have how2 := owns_iterAt how (k := w.heap.size) (by omega) s (pos + n)
          have hit2 := Lib.iterAt_heap wr w.heap.size s pos (pos + n) hit
          have hbel2 := Lib.below_iterAt hbel (k := w.heap.size) (Nat.le_refl _) s (pos + n)
          have hsz2 : w.heap.size < (wr.iterAt w.heap.size s (pos + n)).heap.size := by rw [Lib.iterAt_size]; exact hsz
          have hmo : s.size - (pos + n) < s.size - wr.iterPos w.heap.size := by
            simp only [World.iterPos, hit]; omega
          clear how hbel hit hsz
          generalize wr.iterAt w.heap.size s (pos + n) = W2 at *
          have HE2 : Hid (Scn.endA ((nums s).drop (pos + n)) + (pos + n) = Scn.endA (nums s)) := by show _ = _; omega
          have HNB : Hid (∀ j, pos ≤ j → j < pos + n → Scn.isBlank (((nums s).take (Scn.endA (nums s))).getD j 0) = false) := fun j j1 j2 => by rw [(unhide HTA) j (by omega)]; exact hNB j j1 j2
          clear hES hE hbk hbf h35 c1 c2 hRun hNB hER
          have HAT := hide hat
          rcases unhide HAT with ⟨rfl, hx⟩ | ⟨j, rfl, hj, hx⟩
          · have HX : Hid (WIn w s res u4 (.int .i64 (pos : Int)) (.int .i64 (s.size : Int)) W2) := by
              refine ⟨pos + n, ws, rfl, by omega, hit2, how2, by omega, hbel2, unhide HE2, .inr ⟨pos, rfl, by omega, ?_⟩⟩
              rw [hx, ← Scn.wordsA_run (Nat.le_refl _) (unhide HNB) (by rw [hTl]; exact hposE), Scn.cut_same]
            clear hx HAT how2 hbel2
            go_wp2
            go_roundw
            case rel => exact unhide HX
            case measure => simp only [World.iterPos, hit2]; exact hmo
          · have HX : Hid (WIn w s res u4 (.int .i64 (j : Int)) (.int .i64 (s.size : Int)) W2) := by
              refine ⟨pos + n, ws, rfl, by omega, hit2, how2, by omega, hbel2, unhide HE2, .inr ⟨j, rfl, by omega, ?_⟩⟩
              rw [hx, Scn.wordsA_run (by omega) (unhide HNB) (by rw [hTl]; exact hposE)]
            have hne : (((j : Int)) == -1) = false := beq_eq_false_iff_ne.2 (by omega)
            clear hx HAT how2 hbel2
            go_wp2
            go_roundw
            case rel => exact unhide HX
            case measure => simp only [World.iterPos, hit2]; exact hmo
    · obtain rfl : pos = s.size := by omega
      have hposE : s.size = Scn.endA (nums s) := by
        rw [List.drop_eq_nil_of_le (by omega), Scn.endA] at hE; omega
      have hnx := fun ty => Lib.run_next_end_at (P := Tryz.prog) wr w.heap.size s s.size ty hit hp
      have how2 := how
      have hbel2 := hbel
      have hES := hE
      clear how hbel
      rcases hat with ⟨rfl, hx⟩ | ⟨j, rfl, hj, hx⟩
      · have HF : WordsNew 84 w res (Scn.endA (nums s)) (.returned (.tuple #[u4, .int .i64 ((s.size : Nat) : Int)])) wr := by
          rw [← hposE]
          refine ⟨u4, rfl, ?_, hbel2⟩
          have hr : res = ws := by rw [hx, List.drop_eq_nil_of_le (by rw [hTl]; omega), Scn.wordsA, if_pos rfl, List.append_nil]
          rw [hr]
          exact owns_lower how2 (by omega)
        have K1 := hide ((unhide KN) u4 ((s.size : Nat) : Int) wr)
        clear hx how2 hbel2 hTl HTA hposE hES hE
        go_wp2_with fail
        refine (unhide K1).mono ?_
        rintro e' w1 ⟨rfl, hw1⟩
        subst w1
        clear hnx
        go_wp2
        go_ret2
        exact HF
      · have K1 := hide ((unhide KM) u4 ws j s.size wr how2 (by omega) (by omega) (by omega) (by omega))
        have HX : Hid (∀ v W3, World.ownsRow W3 (w.heap.size + 1) 84 2 v (ws ++ [(Scn.cut (nums s) j s.size, j)]).length (wvals (ws ++ [(Scn.cut (nums s) j s.size, j)])) → Below (w.heap.size + 1) wr W3 → WordsNew 84 w res (Scn.endA (nums s)) (.returned (.tuple #[v, .int .i64 ((s.size : Nat) : Int)])) W3) := by
          intro v W3 ho3 hb3
          have hr : res = ws ++ [(Scn.cut (nums s) j s.size, j)] := by
            rw [hx, Scn.wordsA_done hj (by rw [hTl]; omega) (fun h => by rw [hTl] at h; omega), List.drop_eq_nil_of_le (by rw [hTl]; omega), Scn.wordsA, if_pos rfl, Scn.cut_take (by omega)]
          rw [← hposE, hr]
          exact ⟨v, rfl, owns_lower ho3 (by omega), hbel2.trans (hb3.mono (by omega))⟩
        clear hx how2 hbel2 hTl HTA hposE hES hE
        go_wp2_with fail
        refine (unhide K1).mono ?_
        rintro e' w1 ⟨v1, rfl, ho1, hb1⟩
        have HF := (unhide HX) v1 w1 ho1 hb1
        clear hnx ho1 hb1 HX K1
        go_wp2
        go_ret2
        exact HF
theorem scanWords_any (s : ByteArray) (w : World) (hs : s.size ≤ 1000000000) : Calls Tryz.prog 35 #[.string s] w (WordsNew 84 w (Scn.words (nums s)) (Scn.endA (nums s))) := by
  have K := hide (words_any s w hs)
  go_enter Tryz.func35, Tryz.ntmps35
  go_wp2_with fail
  refine (unhide K).mono ?_
  rintro e w1 ⟨v, rfl, h1, h2⟩
  have HF : WordsNew 84 w (Scn.words (nums s)) (Scn.endA (nums s)) (.returned (.tuple #[v, .int .i64 (Scn.endA (nums s) : Int)])) w1 := ⟨v, rfl, h1, h2⟩
  clear K h1 h2
  go_wp2
  go_ret2
  exact HF
end Go.Proofs.YtceflkeaenepcaaGreatDoor.Sn
