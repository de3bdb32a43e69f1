/- The contract of the document's own Whole. -/
import Derived.Test.YtkdkmnohnhhojaaDoorRefT5
import Derived.Deep.Cut
namespace Go.Proofs.YtkdkmnohnhhojaaDoor
open Go.RowKit

/-- A whole number, and whether it was there. -/
def WholeIs (w : World) (r : Int × Bool) (e : Ending) (w' : World) : Prop := e = .returned (.tuple #[.int .i64 r.1, .bool r.2]) ∧ w' = w
theorem WholeIs.no {w : World} {o : Option Int} (h : o = none) : WholeIs w (Scn.told o) (.returned (.tuple #[.int .i64 0, .bool false])) w := by subst h; exact ⟨rfl, rfl⟩
theorem WholeIs.yes {w : World} {o : Option Int} {n : Int} (h : o = some n) : WholeIs w (Scn.told o) (.returned (.tuple #[.int .i64 n, .bool true])) w := by subst h; exact ⟨rfl, rfl⟩
theorem nums_nought {s : ByteArray} : nums s = [48] ↔ s = ⟨#[48]⟩ := by
  constructor
  · intro h
    apply nums_inj
    rw [h]; rfl
  · intro h; subst h; rfl

theorem eq_nought {s : ByteArray} (h : s = ⟨#[48]⟩) : (s.toList == [48]) = true := by subst h; simp
theorem ne_nought {s : ByteArray} (h : ¬ s = ⟨#[48]⟩) : (s.toList == [48]) = false := by
  refine beq_eq_false_iff_ne.2 fun e => h (nums_nought.1 ?_)
  rw [ByteArray.toList_eq] at e
  rw [nums, e]; rfl

set_option maxHeartbeats 2000000 in
theorem refWhole_any (s : ByteArray) (w : World) (hs : s.size ≤ 140737488355328) : Calls Tryd.prog 20 #[.string s] w (WholeIs w (Scn.told (Scn.whole (nums s)))) := by
  have hls := nums_length s
  by_cases a1 : s = ⟨#[48]⟩
  · have HF := WholeIs.yes (w := w) (o := Scn.whole (nums s)) (n := 0) (by unfold Scn.whole; rw [if_pos (nums_nought.2 a1)])
    have he := eq_nought a1
    clear a1
    go_enter Tryd.func20, Tryd.ntmps20
    go_wp2
    go_ret2
    exact HF
  · have he := ne_nought a1
    have hn0 : ¬ nums s = [48] := fun h => a1 (nums_nought.1 h)
    by_cases a2 : 0 < s.size ∧ (nums s).getD 0 0 = 45
    · obtain ⟨a2, a3⟩ := a2
      have hw : Scn.whole (nums s) = (Scn.digs ((nums s).drop 1)).map fun n => -n := by unfold Scn.whole; rw [if_neg hn0, if_pos ⟨by omega, a3⟩]
      have hcut : nums (s.extract 1 s.size) = (nums s).drop 1 := by rw [nums_cut, List.take_of_length_le (by simp [hls])]
      have hf0 := run_at s 0 0 rfl a2
      rw [a3] at hf0
      have hi1 : (0 : Int) < (s.size : Int) := by omega
      obtain ⟨t, ht⟩ : ∃ t, t = s.extract 1 s.size := ⟨_, rfl⟩
      have hst : t.size ≤ 140737488355328 := by rw [ht, ByteArray.size_extract]; omega
      have HRn : Hid (Scn.digs (nums t) = none → WholeIs w (Scn.told (Scn.whole (nums s))) (.returned (.tuple #[.int .i64 0, .bool false])) w) := fun h => WholeIs.no (by rw [hw, ← hcut, ← ht, h]; rfl)
      have HRs : Hid (∀ n, Scn.digs (nums t) = some n → WholeIs w (Scn.told (Scn.whole (nums s))) (.returned (.tuple #[.int .i64 (-n), .bool true])) w) := fun n h => WholeIs.yes (by rw [hw, ← hcut, ← ht, h]; rfl)
      clear hw hcut a1 hn0
      go_enter Tryd.func20, Tryd.ntmps20
      go_upto_region 6 with fail
      rw [← ht]
      clear ht hf0 he a3
      have hlt := nums_length t
      have hat := fun i k hi hk w => run_at t i k hi hk w
      have hbyt := fun k => (nums_byt t).at k
      by_cases b1 : t.size < 1
      · have HF := (unhide HRn) (by unfold Scn.digs; rw [if_pos (.inl (by omega))])
        clear HRn HRs hat hbyt
        go_wp2
        go_ret2
        exact HF
      · by_cases b2 : 9 < t.size
        · have HF := (unhide HRn) (by unfold Scn.digs; rw [if_pos (.inr (.inl (by omega)))])
          clear HRn HRs hat hbyt
          go_wp2
          go_ret2
          exact HF
        · have h0 := hat 0 0 rfl (by omega)
          obtain ⟨z1, z2⟩ := hbyt 0
          have HD : Hid (¬ (nums t).getD 0 0 = 48 → Scn.digs (nums t) = Scn.decA 0 (nums t)) := fun h => by unfold Scn.digs; rw [if_neg (by rw [hlt]; omega)]
          have HD0 : Hid ((nums t).getD 0 0 = 48 → Scn.digs (nums t) = none) := fun h => by unfold Scn.digs; rw [if_pos (.inr (.inr h))]
          by_cases b3 : (nums t).getD 0 0 = 48
          · have HF := (unhide HRn) ((unhide HD0) b3)
            rw [b3] at h0
            clear HRn HRs hat hbyt HD HD0
            go_wp2
            go_ret2
            exact HF
          · have hdg := (unhide HD) b3
            have hz0 : ((nums t).getD 0 0 == 48) = false := beq_eq_false_iff_ne.2 b3
            have HX : Hid (∀ n, Scn.decA n ((nums t).drop t.size) = some n) := fun n => by rw [List.drop_eq_nil_of_le (by omega)]; rfl
            have HN : Hid (Scn.decA 0 (nums t) = none → WholeIs w (Scn.told (Scn.whole (nums s))) (.returned (.tuple #[.int .i64 0, .bool false])) w) := fun h => (unhide HRn) (by rw [hdg, h])
            have HS : Hid (∀ n, Scn.decA 0 (nums t) = some n → WholeIs w (Scn.told (Scn.whole (nums s))) (.returned (.tuple #[.int .i64 (-n), .bool true])) w) := fun n h => (unhide HRs) n (by rw [hdg, h])
            have HAt := hide hat
            have HByt := hide hbyt
            clear hat hbyt hdg HD HD0 HRn HRs b3
            generalize (nums t).getD 0 0 = c0 at h0 z1 z2 hz0
            go_wp2
            go_loop [5, 6] (fun nv i => ∃ (k : Nat) (n : Int), i = .int .i64 k ∧ nv = .int .i64 n ∧ k ≤ t.size ∧ 0 ≤ n ∧ n < ((10 ^ k : Nat) : Int) ∧ Scn.decA 0 (nums t) = Scn.decA n ((nums t).drop k)) (fun _ i => t.size - (intOf i).toNat)
            case atStart => exact ⟨0, 0, rfl, rfl, by omega, by omega, by simp, by rw [List.drop_zero]⟩
            case round =>
              clear h0 z1 z2 hz0
              obtain ⟨k, n, rfl, rfl, hk, n1, n2, hx⟩ := hrel
              have hn3 : n < 1000000000 := by
                have : 10 ^ k ≤ 10 ^ 9 := Nat.pow_le_pow_right (by omega) (by omega)
                omega
              by_cases hlk : k < t.size
              · have hk0 := (unhide HAt) (k : Int) k rfl hlk
                obtain ⟨c1, c2⟩ := (unhide HByt) k
                rw [Scn.decA_step (by omega)] at hx
                have HX2 := hide hx
                have hn4 : 10 ^ (k + 1) = 10 ^ k * 10 := Nat.pow_succ _ _
                have HN5 : Hid (∀ e : Int, 0 ≤ e → e ≤ 9 → 10 * n + e < ((10 ^ (k + 1) : Nat) : Int)) := fun e h1 h2 => by rw [hn4]; omega
                clear hx hn4 n2
                generalize (nums t).getD k 0 = c at *
                by_cases e1 : c < 48
                · have HF := (unhide HN) ((unhide HX2).trans (if_pos (.inl e1)))
                  clear HN HS HX2 HN5
                  go_wp2
                  go_ret2
                  exact HF
                · by_cases e2 : 57 < c
                  · have HF := (unhide HN) ((unhide HX2).trans (if_pos (.inr e2)))
                    clear HN HS HX2 HN5
                    go_wp2
                    go_ret2
                    exact HF
                  · have HX3 := hide ((unhide HX2).trans (if_neg (by omega)))
                    clear HN HS HX2
                    go_wp2
                    go_round
                    case rel => exact ⟨k + 1, 10 * n + (c - 48), by go_num, by go_num, by omega, by omega, (unhide HN5) (c - 48) (by omega) (by omega), unhide HX3⟩
                    case measure => simp [intOf]; omega
              · obtain rfl : k = t.size := by omega
                have HF := (unhide HS) n (hx.trans ((unhide HX) n))
                clear HN HS hx HX
                go_wp2
                go_ret2
                exact HF
    · have hw : Scn.whole (nums s) = Scn.digs (nums s) := by unfold Scn.whole; rw [if_neg hn0, if_neg (by rw [hls]; exact a2)]
      obtain ⟨t, ht⟩ : ∃ t, t = s := ⟨_, rfl⟩
      have hst : t.size ≤ 140737488355328 := by rw [ht]; exact hs
      have HRn : Hid (Scn.digs (nums t) = none → WholeIs w (Scn.told (Scn.whole (nums s))) (.returned (.tuple #[.int .i64 0, .bool false])) w) := fun h => WholeIs.no (by rw [hw, ← ht, h])
      have HRs : Hid (∀ n, Scn.digs (nums t) = some n → WholeIs w (Scn.told (Scn.whole (nums s))) (.returned (.tuple #[.int .i64 (n), .bool true])) w) := fun n h => WholeIs.yes (by rw [hw, ← ht, h])
      by_cases a3 : 0 < s.size
      · have hf0 := run_at s 0 0 rfl a3
        have hm : ((nums s).getD 0 0 == 45) = false := beq_eq_false_iff_ne.2 (fun e => a2 ⟨a3, e⟩)
        have hi1 : (0 : Int) < (s.size : Int) := by omega
        generalize (nums s).getD 0 0 = m0 at hf0 hm
        clear hw a1 hn0 a2
        subst ht
        go_enter Tryd.func20, Tryd.ntmps20
        go_upto_region 6 with fail
        clear hf0 he hm
        have hlt := nums_length t
        have hat := fun i k hi hk w => run_at t i k hi hk w
        have hbyt := fun k => (nums_byt t).at k
        by_cases b1 : t.size < 1
        · exact absurd b1 (by omega)
        · by_cases b2 : 9 < t.size
          · have HF := (unhide HRn) (by unfold Scn.digs; rw [if_pos (.inr (.inl (by omega)))])
            clear HRn HRs hat hbyt
            go_wp2
            go_ret2
            exact HF
          · have h0 := hat 0 0 rfl (by omega)
            obtain ⟨z1, z2⟩ := hbyt 0
            have HD : Hid (¬ (nums t).getD 0 0 = 48 → Scn.digs (nums t) = Scn.decA 0 (nums t)) := fun h => by unfold Scn.digs; rw [if_neg (by rw [hlt]; omega)]
            have HD0 : Hid ((nums t).getD 0 0 = 48 → Scn.digs (nums t) = none) := fun h => by unfold Scn.digs; rw [if_pos (.inr (.inr h))]
            by_cases b3 : (nums t).getD 0 0 = 48
            · have HF := (unhide HRn) ((unhide HD0) b3)
              rw [b3] at h0
              clear HRn HRs hat hbyt HD HD0
              go_wp2
              go_ret2
              exact HF
            · have hdg := (unhide HD) b3
              have hz0 : ((nums t).getD 0 0 == 48) = false := beq_eq_false_iff_ne.2 b3
              have HX : Hid (∀ n, Scn.decA n ((nums t).drop t.size) = some n) := fun n => by rw [List.drop_eq_nil_of_le (by omega)]; rfl
              have HN : Hid (Scn.decA 0 (nums t) = none → WholeIs w (Scn.told (Scn.whole (nums t))) (.returned (.tuple #[.int .i64 0, .bool false])) w) := fun h => (unhide HRn) (by rw [hdg, h])
              have HS : Hid (∀ n, Scn.decA 0 (nums t) = some n → WholeIs w (Scn.told (Scn.whole (nums t))) (.returned (.tuple #[.int .i64 (n), .bool true])) w) := fun n h => (unhide HRs) n (by rw [hdg, h])
              have HAt := hide hat
              have HByt := hide hbyt
              clear hat hbyt hdg HD HD0 HRn HRs b3
              generalize (nums t).getD 0 0 = c0 at h0 z1 z2 hz0
              go_wp2
              go_loop [5, 6] (fun nv i => ∃ (k : Nat) (n : Int), i = .int .i64 k ∧ nv = .int .i64 n ∧ k ≤ t.size ∧ 0 ≤ n ∧ n < ((10 ^ k : Nat) : Int) ∧ Scn.decA 0 (nums t) = Scn.decA n ((nums t).drop k)) (fun _ i => t.size - (intOf i).toNat)
              case atStart => exact ⟨0, 0, rfl, rfl, by omega, by omega, by simp, by rw [List.drop_zero]⟩
              case round =>
                clear h0 z1 z2 hz0
                obtain ⟨k, n, rfl, rfl, hk, n1, n2, hx⟩ := hrel
                have hn3 : n < 1000000000 := by
                  have : 10 ^ k ≤ 10 ^ 9 := Nat.pow_le_pow_right (by omega) (by omega)
                  omega
                by_cases hlk : k < t.size
                · have hk0 := (unhide HAt) (k : Int) k rfl hlk
                  obtain ⟨c1, c2⟩ := (unhide HByt) k
                  rw [Scn.decA_step (by omega)] at hx
                  have HX2 := hide hx
                  have hn4 : 10 ^ (k + 1) = 10 ^ k * 10 := Nat.pow_succ _ _
                  have HN5 : Hid (∀ e : Int, 0 ≤ e → e ≤ 9 → 10 * n + e < ((10 ^ (k + 1) : Nat) : Int)) := fun e h1 h2 => by rw [hn4]; omega
                  clear hx hn4 n2
                  generalize (nums t).getD k 0 = c at *
                  by_cases e1 : c < 48
                  · have HF := (unhide HN) ((unhide HX2).trans (if_pos (.inl e1)))
                    clear HN HS HX2 HN5
                    go_wp2
                    go_ret2
                    exact HF
                  · by_cases e2 : 57 < c
                    · have HF := (unhide HN) ((unhide HX2).trans (if_pos (.inr e2)))
                      clear HN HS HX2 HN5
                      go_wp2
                      go_ret2
                      exact HF
                    · have HX3 := hide ((unhide HX2).trans (if_neg (by omega)))
                      clear HN HS HX2
                      go_wp2
                      go_round
                      case rel => exact ⟨k + 1, 10 * n + (c - 48), by go_num, by go_num, by omega, by omega, (unhide HN5) (c - 48) (by omega) (by omega), unhide HX3⟩
                      case measure => simp [intOf]; omega
                · obtain rfl : k = t.size := by omega
                  have HF := (unhide HS) n (hx.trans ((unhide HX) n))
                  clear HN HS hx HX
                  go_wp2
                  go_ret2
                  exact HF
      · have hF := (unhide HRn) (by unfold Scn.digs; rw [if_pos (.inl (by rw [ht]; omega))])
        clear hw a1 hn0 a2 HRn HRs
        go_enter Tryd.func20, Tryd.ntmps20
        go_wp2
        go_ret2
        exact hF
end Go.Proofs.YtkdkmnohnhhojaaDoor
