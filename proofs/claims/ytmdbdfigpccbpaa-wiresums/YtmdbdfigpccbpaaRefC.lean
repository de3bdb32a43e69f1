/- The contracts of the document's own answers: Uint, ReadUint, Same. -/
import Derived.Test.YtmdbdfigpccbpaaMake
namespace Go.Proofs.Ytmdbdfigpccbpaa
open Go.RowKit

set_option maxHeartbeats 1000000 in
theorem refUint_any (n : Int) (w : World) (h63 : n ≤ 9223372036854775807) :
    Calls Try.prog 15 #[.int .i64 n] w fun e w' => ∃ v, e = .returned v ∧ Own w' w.heap.size v (Ref.uint n) ∧ Below w.heap.size w w' := by
  obtain ⟨i0, hi, hz0, hz1, hz2⟩ := info_parts Try.info5
  by_cases hneg : n < 0
  · have HU : Hid (Ref.uint n = []) := by simp [Hid, Ref.uint, hneg]
    go_enter Try.func15, Try.ntmps15
    go_wp2
    refine wp_loop_rounds 1 ?_
    rw [rounds_succ]
    go_wp2
    go_ret
    refine ⟨_, rfl, ?_, Below.refl _ _⟩
    rw [HU.out]
    exact ⟨Byt.nil, by simp, World.ownsRow_nil _ _ _ _⟩
  · have HU : Hid (Ref.uint n = Ref.ub 8 n) := by simp [Hid, Ref.uint, hneg]
    go_enter Try.func15, Try.ntmps15
    go_wp2
    go_loopw [0, 3] (fun x v wr => ∃ (x' : Int) (zs : List Int), x = .int .i64 x' ∧ 0 ≤ x' ∧ x' ≤ n ∧ zs.length ≤ 8 ∧ x' < 2 ^ (7 * (9 - zs.length)) ∧ wr.ownsRow w.heap.size 5 1 v zs.length (zs.map (Value.int .u8)) ∧ Byt zs ∧ Below w.heap.size w wr ∧ Ref.ub 8 n = zs ++ Ref.ub (8 - zs.length) x')
      (fun x _ _ => (intOf x).toNat)
    case atStart =>
      exact ⟨n, [], rfl, by omega, by omega, by simp, by simp; omega, World.ownsRow_nil _ _ _ _, Byt.nil, Below.refl _ _, by simp⟩
    case round =>
      obtain ⟨x, zs, rfl, hx0, hxn, hz8, hxp, hown, hbt, hbel, hub⟩ := hrel
      have HB := hide hub
      have HX := hide hxp
      clear hub hxp
      have hsz := hbel.size
      by_cases hge : 128 ≤ x
      · go_wp2_with (first
          | (at_builtin; refine wpList_append_own _ rfl _ _ 22 rfl w.heap.size 5 i0 (.int .u8 0) 1 1 Try.underlying22 hi hz0 hz1 hz2 rfl (by decide) _ _ _ rfl (hown.alloc _) ⟨wr.heap.size, 0, none⟩ 1 1 [.int .u8 (x % 128 + 128)] rfl rfl (cell_one_new _ _ _) (one_u8 _) (by unfold maxLen; omega) (by omega) (by simp; omega) ?_)
          | go_in)
        · intro v' w1 hown' hgrow _
          have R := uint_round hge hbt hz8 HX.out HB.out hxn hsz hown hbel hown' hgrow
          clear hown' hgrow hown hbel
          go_wp2
          go_roundw
          case rel => exact ⟨x / 128, zs ++ [x % 128 + 128], by go_num, R⟩
          case measure => simp [intOf]; omega
      · go_wp2_with (first
          | (at_builtin; refine wpList_append_own _ rfl _ _ 22 rfl w.heap.size 5 i0 (.int .u8 0) 1 1 Try.underlying22 hi hz0 hz1 hz2 rfl (by decide) _ _ _ rfl (hown.alloc _) ⟨wr.heap.size, 0, none⟩ 1 1 [.int .u8 x] rfl rfl (cell_one_new _ _ _) (one_u8 _) (by unfold maxLen; omega) (by omega) (by simp; omega) ?_)
          | go_in)
        · intro v' w1 hown' hgrow _
          have R := uint_stop (by omega) hx0 hbt hz8 HB.out hsz hown hbel hown' hgrow
          rw [← HU.out] at R
          clear hown' hgrow hown hbel
          go_wp2
          go_ret
          exact ⟨_, rfl, R⟩

theorem val_sum (l : List Int) (c : Int) (h : l.length ≤ 8) : wrap64 (Ref.val l + c % 128 * 2 ^ (7 * l.length)) = Ref.val (l ++ [c]) := by
  have hb := val_bound (l ++ [c])
  have hp := pow56 l.length h
  rw [val_snoc, pow128] at *
  rw [show (l ++ [c]).length = l.length + 1 by simp, pow128, show 7 * (l.length + 1) = 7 * l.length + 7 by omega, Int.pow_add] at hb
  generalize (2 : Int) ^ (7 * l.length) = q at *
  exact IntWalk.wrap64_in _ ⟨by omega, by omega⟩

set_option maxHeartbeats 1000000 in
theorem refReadUint_any (v : Value) (zs : List Int) (at_ : Int) (w : World) (hs : Sl w v zs) :
    Calls Try.prog 11 #[v, .int .i64 at_] w (RdPost w (Ref.rd zs at_)) := by
  have hl := hs.len
  by_cases hbad : at_ < 0 ∨ (zs.length : Int) < at_
  · have HF := RdPost.mk (w := w) (show Ref.rd zs at_ = (0, 0, 1) by simp [Ref.rd, hbad])
    generalize Ref.rd zs at_ = r at *
    obtain ⟨ao, cap, rfl, hc1, hc2⟩ := hs.shape
    rcases hbad with h | h
    · go_enter Try.func11, Try.ntmps11
      go_wp2
      go_ret3
      exact HF
    · have h0 : decide (at_ < 0) = false := by simp; omega
      go_enter Try.func11, Try.ntmps11
      go_wp2
      go_ret3
      exact HF
  · have h0 : 0 ≤ at_ := by omega
    have h1 : at_ ≤ zs.length := by omega
    obtain ⟨a, rfl⟩ := Int.eq_ofNat_of_zero_le h0
    have hrd : Ref.rd zs (a : Int) = if (Ref.num 0 (zs.drop a)).2 = 0 then (Ref.val ((zs.drop a).take (Ref.num 0 (zs.drop a)).1), (a : Int) + (Ref.num 0 (zs.drop a)).1, 0) else (0, 0, (Ref.num 0 (zs.drop a)).2) := by
      rw [Ref.rd, if_neg hbad, Int.toNat_natCast]
    have HRD := hide hrd
    have h2 : decide ((a : Int) < 0) = false := by simp
    have h3 : decide ((zs.length : Int) < a) = false := by simp; omega
    clear hrd hbad
    rcases Nat.eq_zero_or_pos (zs.length - a) with he | he
    · have hy : zs.drop a = [] := List.drop_eq_nil_of_le (by omega)
      rw [hy] at HRD
      have HF := RdPost.mk (w := w) (show Ref.rd zs (a : Int) = (0, 0, 10) from unhide HRD)
      obtain ⟨ao, cap, rfl, hc1, hc2⟩ := hs.shape
      have e1 : ((a : Int) == (zs.length : Int)) = true := beq_iff_eq.2 (by omega)
      generalize Ref.rd zs a = r at *
      clear HRD
      go_enter Try.func11, Try.ntmps11
      go_wp2
      refine wp_loop_rounds 1 ?_
      rw [rounds_succ]
      go_wp2
      go_ret3
      exact HF
    · obtain ⟨b, off, cap, rfl, hc1, hc2, hc⟩ := hs.place (by omega)
      have hbt := hs.1
      go_enter Try.func11, Try.ntmps11
      go_wp2
      go_loop [7, 8] (fun n i => ∃ k : Nat, k ≤ 9 ∧ a + k ≤ zs.length ∧ i = .int .i64 k ∧ n = .int .i64 (Ref.val ((zs.drop a).take k)) ∧ ((k ≤ 8 ∧ Ref.num 0 (zs.drop a) = Ref.num k ((zs.drop a).drop k)) ∨ (k = 9 ∧ Ref.num 0 (zs.drop a) = (0, 11)))) (fun _ i => 9 - (intOf i).toNat)
      case atStart => exact ⟨0, by omega, by omega, rfl, rfl, .inl ⟨by omega, by simp⟩⟩
      case round =>
        obtain ⟨k, hk9, hkl, rfl, rfl, hcase⟩ := hrel
        rcases hcase with ⟨hk8, hn⟩ | ⟨hk, hn⟩
        · by_cases hlt : a + k < zs.length
          · have hcell := hc (a + k) hlt
            have hr := hbt.at (a + k)
            have hdl : k < (zs.drop a).length := by simp; omega
            have hst := num_step (zs.drop a) k hdl
            rw [← hn] at hst
            have hts := take_snoc (zs.drop a) k hdl
            have htl : ((zs.drop a).take k).length = k := by simp; omega
            have hsum := val_sum ((zs.drop a).take k) ((zs.drop a)[k]?.getD 0) (by omega)
            rw [← hts, htl] at hsum
            simp only [List.getElem?_drop] at hst hsum
            simp only [List.getD_eq_getElem?_getD] at hcell
            have hgrp := grp_in (zs[a + k]?.getD 0) k hk8
            have hne : ((a : Int) + k == (zs.length : Int)) = false := beq_eq_false_iff_ne.2 (by omega)
            have HT := hide hst
            clear hc hn hst hts htl hdl
            generalize zs[a + k]?.getD 0 = c at *
            by_cases h128 : 128 ≤ c
            · have HT2 : Hid (Ref.num 0 (zs.drop a) = if k + 1 = 9 then (0, 11) else Ref.num (k + 1) ((zs.drop a).drop (k + 1))) := (unhide HT).trans (if_pos h128)
              clear HT
              go_wp2
              go_round
              case rel =>
                refine ⟨k + 1, by omega, by omega, by go_num, val_int hsum, ?_⟩
                by_cases h9 : k + 1 = 9
                · exact .inr ⟨h9, (unhide HT2).trans (if_pos h9)⟩
                · exact .inl ⟨by omega, (unhide HT2).trans (if_neg h9)⟩
              case measure => simp [intOf]; omega
            · have HT2 : Hid (Ref.num 0 (zs.drop a) = if c = 0 ∧ 0 < k then (0, 12) else (k + 1, 0)) := (unhide HT).trans (if_neg h128)
              clear HT
              by_cases hform : c = 0 ∧ 0 < k
              · have hq := (unhide HT2).trans (if_pos hform)
                rw [hq] at HRD
                have HF := RdPost.mk (w := w) (show Ref.rd zs (a : Int) = (0, 0, 12) from unhide HRD)
                obtain ⟨rfl, hk0⟩ := hform
                clear hq HRD HT2
                generalize Ref.rd zs a = r at *
                go_wp2
                go_ret3
                exact HF
              · have hq := (unhide HT2).trans (if_neg hform)
                rw [hq] at HRD
                have HF := RdPost.mk (w := w) (show Ref.rd zs (a : Int) = (Ref.val ((zs.drop a).take (k + 1)), (a : Int) + (k : Int) + 1, 0) from (unhide HRD).trans (by simp [Int.add_assoc]))
                clear hq HRD HT2
                generalize Ref.rd zs a = r at *
                by_cases hc0 : c = 0
                · have hc0' : (c == 0) = true := beq_iff_eq.2 hc0
                  have hk0 : k ≤ 0 := by omega
                  clear hc0
                  go_wp2
                  go_ret3
                  exact HF
                · have hc0' : (c == 0) = false := beq_eq_false_iff_ne.2 hc0
                  clear hc0
                  go_wp2
                  go_ret3
                  exact HF
          · have hq : Ref.num 0 (zs.drop a) = (0, 10) := hn.trans (num_end _ _ (by simp; omega))
            rw [hq] at HRD
            have HF := RdPost.mk (w := w) (show Ref.rd zs (a : Int) = (0, 0, 10) from unhide HRD)
            have hne : ((a : Int) + k == (zs.length : Int)) = true := beq_iff_eq.2 (by omega)
            clear hq HRD hn hc
            generalize Ref.rd zs a = r at *
            go_wp2
            go_ret3
            exact HF
        · rw [hn] at HRD
          have HF := RdPost.mk (w := w) (show Ref.rd zs (a : Int) = (0, 0, 11) from unhide HRD)
          subst hk
          clear HRD hn hc
          generalize Ref.rd zs a = r at *
          go_wp2
          go_ret3
          exact HF
end Go.Proofs.Ytmdbdfigpccbpaa
