import Derived.Test.YtdnkfnccbmbpaaaGreatDoorGl8
import Derived.Lib.ConvBytes
import Derived.Test.YtdnkfnccbmbpaaaGreatDoorGm8
/- The contracts of the document's own answers: Uint, ReadUint, Same. -/
namespace Go.Proofs.YtdnkfnccbmbpaaaGreatDoor.Wi
open Go.RowKit

set_option maxRecDepth 8000 in
set_option maxHeartbeats 1000000 in
theorem refUint_any (n : Int) (w : World) (h63 : n ≤ 9223372036854775807) :
    Calls Tryz.prog 17 #[.int .i64 n] w fun e w' => ∃ v, e = .returned v ∧ Own w' w.heap.size v (Ref.uint n) ∧ Below w.heap.size w w' := by
  obtain ⟨i0, hi, hz0, hz1, hz2⟩ := info_parts Tryz.info5
  by_cases hneg : n < 0
  · have HU : Hid (Ref.uint n = []) := by simp [Hid, Ref.uint, hneg]
    go_enter Tryz.func17, Tryz.ntmps17
    go_wp2
    refine wp_loop_rounds 1 ?_
    rw [rounds_succ]
    go_wp2
    go_ret
    refine ⟨_, rfl, ?_, Below.refl _ _⟩
    rw [HU.out]
    exact ⟨Byt.nil, by simp, World.ownsRow_nil _ _ _ _⟩
  · have HU : Hid (Ref.uint n = Ref.ub 8 n) := by simp [Hid, Ref.uint, hneg]
    go_enter Tryz.func17, Tryz.ntmps17
    go_wp2
    go_loopw [0, 3] (fun x v wr => ∃ (x' : Int) (zs : List Int), x = .int .i64 x' ∧ 0 ≤ x' ∧ x' ≤ n ∧ zs.length ≤ 8 ∧ x' < 2 ^ (7 * (9 - zs.length)) ∧ wr.ownsRow w.heap.size 5 1 v zs.length (zs.map (Value.int .u8)) ∧ Byt zs ∧ Below w.heap.size w wr ∧ Ref.ub 8 n = zs ++ Ref.ub (8 - zs.length) x')
      (fun x _ _ => (intOf x).toNat)
    case atStart =>
      exact ⟨n, [], rfl, by omega, by omega, by simp, by simp; omega, World.ownsRow_nil _ _ _ _, Byt.nil, Below.refl _ _, by simp⟩
    case round =>
      obtain ⟨x, zs, rfl, hx0, hxn, hz8, hxp, hown, hbt, hbel, hub⟩ := hrel
      have HB := hide hub
      have HX := hide hxp
      clear hub hxp
      have hsz := hbel.size
      by_cases hge : 128 ≤ x
      · go_wp2_with (first
          | (at_builtin; refine wpList_append_own _ rfl _ _ 24 rfl w.heap.size 5 i0 (.int .u8 0) 1 1 Tryz.underlying24 hi hz0 hz1 hz2 rfl (by decide) _ _ _ rfl (hown.alloc _) ⟨wr.heap.size, 0, none⟩ 1 1 [.int .u8 (x % 128 + 128)] rfl rfl (cell_one_new _ _ _) (one_u8 _) (by unfold maxLen; omega) (by omega) (by simp; omega) ?_)
          | go_in)
        · intro v' w1 hown' hgrow _
          have R := uint_round hge hbt hz8 HX.out HB.out hxn hsz hown hbel hown' hgrow
          clear hown' hgrow hown hbel
          go_wp2
          go_roundw
          case rel => exact ⟨x / 128, zs ++ [x % 128 + 128], by go_num, R⟩
          case measure => simp [intOf]; omega
      · go_wp2_with (first
          | (at_builtin; refine wpList_append_own _ rfl _ _ 24 rfl w.heap.size 5 i0 (.int .u8 0) 1 1 Tryz.underlying24 hi hz0 hz1 hz2 rfl (by decide) _ _ _ rfl (hown.alloc _) ⟨wr.heap.size, 0, none⟩ 1 1 [.int .u8 x] rfl rfl (cell_one_new _ _ _) (one_u8 _) (by unfold maxLen; omega) (by omega) (by simp; omega) ?_)
          | go_in)
        · intro v' w1 hown' hgrow _
          have R := uint_stop (by omega) hx0 hbt hz8 HB.out hsz hown hbel hown' hgrow
          rw [← HU.out] at R
          clear hown' hgrow hown hbel
          go_wp2
          go_ret
          exact ⟨_, rfl, R⟩

theorem val_sum (l : List Int) (c : Int) (h : l.length ≤ 8) : wrap64 (Ref.val l + c % 128 * 2 ^ (7 * l.length)) = Ref.val (l ++ [c]) := by
  have hb := val_bound (l ++ [c])
  have hp := pow56 l.length h
  rw [val_snoc, pow128] at *
  rw [show (l ++ [c]).length = l.length + 1 by simp, pow128, show 7 * (l.length + 1) = 7 * l.length + 7 by omega, Int.pow_add] at hb
  generalize (2 : Int) ^ (7 * l.length) = q at *
  exact IntWalk.wrap64_in _ ⟨by omega, by omega⟩

set_option maxRecDepth 8000 in
set_option maxHeartbeats 1000000 in
theorem refReadUint_any (v : Value) (zs : List Int) (at_ : Int) (w : World) (hs : Sl w v zs) :
    Calls Tryz.prog 37 #[v, .int .i64 at_] w (RdPost w (Ref.rd zs at_)) := by
  have hl := hs.len
  by_cases hbad : at_ < 0 ∨ (zs.length : Int) < at_
  · have HF := RdPost.mk (w := w) (show Ref.rd zs at_ = (0, 0, 1) by simp [Ref.rd, hbad])
    generalize Ref.rd zs at_ = r at *
    obtain ⟨ao, cap, rfl, hc1, hc2⟩ := hs.shape
    rcases hbad with h | h
    · go_enter Tryz.func37, Tryz.ntmps37
      go_wp2
      go_ret3
      exact HF
    · have h0 : decide (at_ < 0) = false := by simp; omega
      go_enter Tryz.func37, Tryz.ntmps37
      go_wp2
      go_ret3
      exact HF
  · have h0 : 0 ≤ at_ := by omega
    have h1 : at_ ≤ zs.length := by omega
    obtain ⟨a, rfl⟩ := Int.eq_ofNat_of_zero_le h0
    have hrd : Ref.rd zs (a : Int) = if (Ref.num 0 (zs.drop a)).2 = 0 then (Ref.val ((zs.drop a).take (Ref.num 0 (zs.drop a)).1), (a : Int) + (Ref.num 0 (zs.drop a)).1, 0) else (0, 0, (Ref.num 0 (zs.drop a)).2) := by
      rw [Ref.rd, if_neg hbad, Int.toNat_natCast]
    have HRD := hide hrd
    have h2 : decide ((a : Int) < 0) = false := by simp
    have h3 : decide ((zs.length : Int) < a) = false := by simp; omega
    clear hrd hbad
    rcases Nat.eq_zero_or_pos (zs.length - a) with he | he
    · have hy : zs.drop a = [] := List.drop_eq_nil_of_le (by omega)
      rw [hy] at HRD
      have HF := RdPost.mk (w := w) (show Ref.rd zs (a : Int) = (0, 0, 10) from unhide HRD)
      obtain ⟨ao, cap, rfl, hc1, hc2⟩ := hs.shape
      have e1 : ((a : Int) == (zs.length : Int)) = true := beq_iff_eq.2 (by omega)
      generalize Ref.rd zs a = r at *
      clear HRD
      go_enter Tryz.func37, Tryz.ntmps37
      go_wp2
      refine wp_loop_rounds 1 ?_
      rw [rounds_succ]
      go_wp2
      go_ret3
      exact HF
    · obtain ⟨b, off, cap, rfl, hc1, hc2, hc⟩ := hs.place (by omega)
      have hbt := hs.1
      go_enter Tryz.func37, Tryz.ntmps37
      go_wp2
      go_loop [7, 8] (fun n i => ∃ k : Nat, k ≤ 9 ∧ a + k ≤ zs.length ∧ i = .int .i64 k ∧ n = .int .i64 (Ref.val ((zs.drop a).take k)) ∧ ((k ≤ 8 ∧ Ref.num 0 (zs.drop a) = Ref.num k ((zs.drop a).drop k)) ∨ (k = 9 ∧ Ref.num 0 (zs.drop a) = (0, 11)))) (fun _ i => 9 - (intOf i).toNat)
      case atStart => exact ⟨0, by omega, by omega, rfl, rfl, .inl ⟨by omega, by simp⟩⟩
      case round =>
        obtain ⟨k, hk9, hkl, rfl, rfl, hcase⟩ := hrel
        rcases hcase with ⟨hk8, hn⟩ | ⟨hk, hn⟩
        · by_cases hlt : a + k < zs.length
          · have hcell := hc (a + k) hlt
            have hr := hbt.at (a + k)
            have hdl : k < (zs.drop a).length := by simp; omega
            have hst := num_step (zs.drop a) k hdl
            rw [← hn] at hst
            have hts := take_snoc (zs.drop a) k hdl
            have htl : ((zs.drop a).take k).length = k := by simp; omega
            have hsum := val_sum ((zs.drop a).take k) ((zs.drop a)[k]?.getD 0) (by omega)
            rw [← hts, htl] at hsum
            simp only [List.getElem?_drop] at hst hsum
            simp only [List.getD_eq_getElem?_getD] at hcell
            have hgrp := grp_in (zs[a + k]?.getD 0) k hk8
            have hne : ((a : Int) + k == (zs.length : Int)) = false := beq_eq_false_iff_ne.2 (by omega)
            have HT := hide hst
            clear hc hn hst hts htl hdl
            generalize zs[a + k]?.getD 0 = c at *
            by_cases h128 : 128 ≤ c
            · have HT2 : Hid (Ref.num 0 (zs.drop a) = if k + 1 = 9 then (0, 11) else Ref.num (k + 1) ((zs.drop a).drop (k + 1))) := (unhide HT).trans (if_pos h128)
              clear HT
              go_wp2
              go_round
              case rel =>
                refine ⟨k + 1, by omega, by omega, by go_num, val_int hsum, ?_⟩
                by_cases h9 : k + 1 = 9
                · exact .inr ⟨h9, (unhide HT2).trans (if_pos h9)⟩
                · exact .inl ⟨by omega, (unhide HT2).trans (if_neg h9)⟩
              case measure => simp [intOf]; omega
            · have HT2 : Hid (Ref.num 0 (zs.drop a) = if c = 0 ∧ 0 < k then (0, 12) else (k + 1, 0)) := (unhide HT).trans (if_neg h128)
              clear HT
              by_cases hform : c = 0 ∧ 0 < k
              · have hq := (unhide HT2).trans (if_pos hform)
                rw [hq] at HRD
                have HF := RdPost.mk (w := w) (show Ref.rd zs (a : Int) = (0, 0, 12) from unhide HRD)
                obtain ⟨rfl, hk0⟩ := hform
                clear hq HRD HT2
                generalize Ref.rd zs a = r at *
                go_wp2
                go_ret3
                exact HF
              · have hq := (unhide HT2).trans (if_neg hform)
                rw [hq] at HRD
                have HF := RdPost.mk (w := w) (show Ref.rd zs (a : Int) = (Ref.val ((zs.drop a).take (k + 1)), (a : Int) + (k : Int) + 1, 0) from (unhide HRD).trans (by simp [Int.add_assoc]))
                clear hq HRD HT2
                generalize Ref.rd zs a = r at *
                by_cases hc0 : c = 0
                · have hc0' : (c == 0) = true := beq_iff_eq.2 hc0
                  have hk0 : k ≤ 0 := by omega
                  clear hc0
                  go_wp2
                  go_ret3
                  exact HF
                · have hc0' : (c == 0) = false := beq_eq_false_iff_ne.2 hc0
                  clear hc0
                  go_wp2
                  go_ret3
                  exact HF
          · have hq : Ref.num 0 (zs.drop a) = (0, 10) := hn.trans (num_end _ _ (by simp; omega))
            rw [hq] at HRD
            have HF := RdPost.mk (w := w) (show Ref.rd zs (a : Int) = (0, 0, 10) from unhide HRD)
            have hne : ((a : Int) + k == (zs.length : Int)) = true := beq_iff_eq.2 (by omega)
            clear hq HRD hn hc
            generalize Ref.rd zs a = r at *
            go_wp2
            go_ret3
            exact HF
        · rw [hn] at HRD
          have HF := RdPost.mk (w := w) (show Ref.rd zs (a : Int) = (0, 0, 11) from unhide HRD)
          subst hk
          clear HRD hn hc
          generalize Ref.rd zs a = r at *
          go_wp2
          go_ret3
          exact HF
end Go.Proofs.YtdnkfnccbmbpaaaGreatDoor.Wi
/- The contracts of the document's own Text and ReadText. -/
namespace Go.Proofs.YtdnkfnccbmbpaaaGreatDoor.Wi
open Go.RowKit

theorem below_bytesWorld (w : World) (e : TypeId) (s : ByteArray) : Below w.heap.size w (Lib.bytesWorld w e s) := by
  refine ⟨?_, ?_, ?_, ?_, fun k hk => Lib.bytesWorld_at_old w e s k hk⟩
  · rfl
  · rfl
  · rfl
  · rw [Lib.bytesWorld_size]; omega
theorem own_below {w w' : World} {base : Nat} {v : Value} {zs : List Int} (h : Own w base v zs) (hb : Below w.heap.size w w') : Own w' base v zs := by
  refine ⟨h.1, h.2.1, h.2.2.kept (row := none) ⟨hb.os, hb.tape, hb.output, hb.size, fun k hk _ => hb.block k hk⟩ ?_⟩
  cases h' : v.ownBlock with
  | none => exact .inl rfl
  | some k => exact .inr (by simp)

set_option maxRecDepth 8000 in
set_option maxHeartbeats 400000 in
theorem refText_any (s : ByteArray) (w : World) (hs : s.size ≤ 140737488351232) :
    Calls Tryz.prog 31 #[.string s] w fun e w' => ∃ v, e = .returned v ∧ Own w' w.heap.size v (Ref.uint s.size ++ nums s) ∧ Below w.heap.size w w' := by
  obtain ⟨i0, hi, hz0, hz1, hz2⟩ := info_parts Tryz.info5
  have hul := uint_len s.size
  go_enter Tryz.func31, Tryz.ntmps31
  go_wp2_with fail
  refine (refUint_any _ _ (by omega)).mono ?_
  rintro e w1 ⟨v, rfl, hown, hb⟩
  have hcv := Lib.run_convert_string_bytes (P := Tryz.prog) w1 9 24 5 s Tryz.underlying9 Tryz.underlying24 Tryz.underlying5
  have hb2 := below_bytesWorld w1 5 s
  have hown2 := own_below hown hb2
  have hc2 : ∀ j u, ((nums s).map (Value.int .u8))[j]? = some u → (Lib.bytesWorld w1 5 s).cell? ((⟨w1.heap.size, 0, none⟩ : Addr).add j) = some u := by
    intro j u hj
    have hjl : j < s.size := by
      rcases Nat.lt_or_ge j s.size with h | h
      · exact h
      · rw [List.getElem?_eq_none (by rw [List.length_map, nums_length]; exact h)] at hj; cases hj
    have hplain : (⟨w1.heap.size, 0, none⟩ : Addr).add j = ⟨w1.heap.size, j, none⟩ := by unfold Addr.add; split <;> simp_all
    have hjd : j < s.data.toList.length := by simpa using hjl
    rw [hplain, Lib.bytesWorld_cell w1 5 s j hjl]
    simp [nums, List.getElem?_eq_getElem hjd] at hj
    subst hj
    simp [List.getD, hjl]
  have hB := bthen hb hb2
  have hsz := hB.size
  have ho := hown2.2.2
  generalize Lib.bytesWorld w1 5 s = wb at *
  generalize grownCap w1 s.size 0 5 = cp at *
  clear hown
  go_wp2_with (at_builtin; refine wpList_append_own _ rfl (.tmp 5) (.tmp 7) 24 rfl w.heap.size 5 i0 (.int .u8 0) 1 1 Tryz.underlying24 hi hz0 hz1 hz2 rfl (by decide) _ _ _ rfl ho ⟨w1.heap.size, 0, none⟩ s.size cp ((nums s).map (Value.int .u8)) rfl (by simp [nums_length]) hc2 (ints_one _) (by unfold maxLen; omega) (by omega) hsz ?_)
  intro v2 w2 hown3 hg2 _
  have R : Own w2 w.heap.size v2 (Ref.uint s.size ++ nums s) ∧ Below w.heap.size w w2 := by
    refine ⟨⟨hown2.1.append (nums_byt s), by simp [nums_length]; omega, ?_⟩, hB.grown hg2 hsz (fun k hk => (ho.lt k hk).1)⟩
    rw [List.length_append, nums_length, List.map_append]
    exact hown3
  clear hown3 hg2 ho hown2
  go_wp2
  go_ret
  exact ⟨_, rfl, R⟩

set_option maxRecDepth 8000 in
set_option maxHeartbeats 1000000 in
theorem refReadText_any (v : Value) (zs : List Int) (at_ most : Int) (w : World) (hs : Sl w v zs) :
    Calls Tryz.prog 96 #[v, .int .i64 at_, .int .i64 most] w (RtPost w (Ref.rt zs at_ most)) := by
  have hl := hs.len
  have HR := hide (refReadUint_any v zs at_ w hs)
  by_cases hbad : at_ < 0 ∨ (zs.length : Int) < at_
  · have HF := RtPost.no (w := w) (show Ref.rt zs at_ most = ([], 0, 1) by simp [Ref.rt, Ref.rd, hbad])
    generalize Ref.rt zs at_ most = r at *
    obtain ⟨ao, cap, rfl, hc1, hc2⟩ := hs.shape
    clear HR
    rcases hbad with h | h
    · go_enter Tryz.func96, Tryz.ntmps96
      go_wp2
      go_ret3
      exact HF
    · have h0 : decide (at_ < 0) = false := by simp; omega
      have h1 : decide ((zs.length : Int) < at_) = true := by simp; omega
      go_enter Tryz.func96, Tryz.ntmps96
      go_wp2
      go_ret3
      exact HF
  · have g0 : decide (at_ < 0) = false := by simp; omega
    have g1 : decide ((zs.length : Int) < at_) = false := by simp; omega
    by_cases hm : most < 0
    · have HF := RtPost.no (w := w) (show Ref.rt zs at_ most = ([], 0, 1) by simp [Ref.rt, hm])
      generalize Ref.rt zs at_ most = r at *
      obtain ⟨ao, cap, rfl, hc1, hc2⟩ := hs.shape
      clear HR hbad
      go_enter Tryz.func96, Tryz.ntmps96
      go_wp2
      go_ret3
      exact HF
    · clear hbad
      by_cases he : (Ref.rd zs at_).2.2 ≠ 0
      · have HF := RtPost.no (w := w) (show Ref.rt zs at_ most = ([], 0, (Ref.rd zs at_).2.2) by simp [Ref.rt, hm, he])
        have hne : ((Ref.rd zs at_).2.2 != 0) = true := by simpa using he
        generalize Ref.rt zs at_ most = r at *
        clear he
        obtain ⟨ao, cap, rfl, hc1, hc2⟩ := hs.shape
        generalize Ref.rd zs at_ = q at *
        go_enter Tryz.func96, Tryz.ntmps96
        go_wp2_with fail
        refine (unhide HR).mono ?_
        rintro e w' ⟨rfl, rfl⟩
        go_wp2
        go_ret3
        exact HF
      · have he' : (Ref.rd zs at_).2.2 = 0 := by simpa using he
        have hok := rd_ok zs at_ he'
        have hne : ((Ref.rd zs at_).2.2 != 0) = false := by simp [he']
        have hrt : Ref.rt zs at_ most = if most < (Ref.rd zs at_).1 then ([], 0, 3) else if (zs.length : Int) - (Ref.rd zs at_).2.1 < (Ref.rd zs at_).1 then ([], 0, 10) else ((zs.drop (Ref.rd zs at_).2.1.toNat).take (Ref.rd zs at_).1.toNat, (Ref.rd zs at_).2.1 + (Ref.rd zs at_).1, 0) := by
          rw [Ref.rt, if_neg hm, if_neg he]
        clear he he'
        have HT := hide hrt
        clear hrt
        generalize Ref.rd zs at_ = q at *
        by_cases hmany : most < q.1
        · have HF := RtPost.no (w := w) ((unhide HT).trans (if_pos hmany))
          generalize Ref.rt zs at_ most = r at *
          obtain ⟨ao, cap, rfl, hc1, hc2⟩ := hs.shape
          clear HT
          go_enter Tryz.func96, Tryz.ntmps96
          go_wp2_with fail
          refine (unhide HR).mono ?_
          rintro e w' ⟨rfl, rfl⟩
          go_wp2
          go_ret3
          exact HF
        · have HT2 := hide ((unhide HT).trans (if_neg hmany))
          by_cases hsh : (zs.length : Int) - q.2.1 < q.1
          · have HF := RtPost.no (w := w) ((unhide HT2).trans (if_pos hsh))
            generalize Ref.rt zs at_ most = r at *
            obtain ⟨ao, cap, rfl, hc1, hc2⟩ := hs.shape
            clear HT HT2
            go_enter Tryz.func96, Tryz.ntmps96
            go_wp2_with fail
            refine (unhide HR).mono ?_
            rintro e w' ⟨rfl, rfl⟩
            go_wp2
            go_ret3
            exact HF
          · have HF := RtPost.mk (w := w) ((unhide HT2).trans (if_neg hsh))
            generalize Ref.rt zs at_ most = r at *
            obtain ⟨ao, cap, rfl, hc1, hc2⟩ := hs.shape
            have hcut := hs.cut (l := q.2.1.toNat) (h := (q.2.1 + q.1).toNat) (m := cap) (by omega) (by omega) (by omega) (by omega)
            rw [show (q.2.1 + q.1).toNat - q.2.1.toNat = q.1.toNat by omega] at hcut
            generalize (zs.drop q.2.1.toNat).take q.1.toNat = ys at *
            have hcv := hcut.conv
            generalize strOfNums ys = sy at *
            clear HT HT2 hcut
            by_cases hcp : cap = q.2.1.toNat
            · subst hcp
              simp only [sliced, if_true, Nat.sub_self] at hcv
              go_enter Tryz.func96, Tryz.ntmps96
              go_wp2_with fail
              refine (unhide HR).mono ?_
              rintro e w' ⟨rfl, rfl⟩
              go_wp2
              go_ret3
              exact HF
            · simp only [sliced, hcp, if_false, Nat.mul_one] at hcv
              go_enter Tryz.func96, Tryz.ntmps96
              go_wp2_with fail
              refine (unhide HR).mono ?_
              rintro e w' ⟨rfl, rfl⟩
              go_wp2
              go_ret3
              exact HF
end Go.Proofs.YtdnkfnccbmbpaaaGreatDoor.Wi
/- The contracts of the document's own Float and ReadFloat. -/
namespace Go.Proofs.YtdnkfnccbmbpaaaGreatDoor.Wi
open Go.RowKit

theorem and255 (x : Int) (h0 : 0 ≤ x) (h1 : x < 2 ^ 64) : bits .and .u64 x 255 = x % 256 := bits_mask .u64 64 (by decide) wraps_u64 8 (by decide) x h0 h1

set_option maxRecDepth 8000 in
set_option maxHeartbeats 1000000 in
theorem refFloat_any (u : Nat) (hu : u < 18446744073709551616) (w : World) :
    Calls Tryz.prog 32 #[.int .u64 (u : Int)] w fun e w' => ∃ v, e = .returned v ∧ Own w' w.heap.size v (Ref.fl u) ∧ Below w.heap.size w w' := by
  obtain ⟨i0, hi, hz0, hz1, hz2⟩ := info_parts Tryz.info5
  go_enter Tryz.func32, Tryz.ntmps32
  go_wp2
  go_loopw [3, 4] (fun v i wr => ∃ k : Nat, k ≤ 8 ∧ i = .int .i64 k ∧ wr.ownsRow w.heap.size 5 1 v ((Ref.fl u).take k).length (((Ref.fl u).take k).map (Value.int .u8)) ∧ Below w.heap.size w wr) (fun _ i _ => 8 - (intOf i).toNat)
  case atStart => exact ⟨0, by omega, rfl, World.ownsRow_nil _ _ _ _, Below.refl _ _⟩
  case round =>
    obtain ⟨k, hk, rfl, hown, hb⟩ := hrel
    have hsz := hb.size
    by_cases h8 : k < 8
    · have htl : ((Ref.fl u).take k).length = k := by simp [Ref.fl_length]; omega
      have hts := Ref.fl_take u k h8
      have hq : (0 : Int) ≤ (u : Int) / 2 ^ (8 * k) ∧ (u : Int) / 2 ^ (8 * k) < 2 ^ 64 := by
        have e : (u : Int) / 2 ^ (8 * k) = ((u / 2 ^ (8 * k) : Nat) : Int) := by simp
        rw [e]
        have hd := Nat.div_le_self u (2 ^ (8 * k))
        generalize u / 2 ^ (8 * k) = d at *
        omega
      have hm := and255 _ hq.1 hq.2
      rw [Ref.byteAt_int] at hm
      have hbb := Ref.byteAt_bound u k
      have HT := hide hts
      rw [htl] at hown
      clear hts htl hq
      generalize Ref.byteAt u k = c at *
      go_wp2_with (first
        | (at_builtin; refine wpList_append_own _ rfl _ _ 24 rfl w.heap.size 5 i0 (.int .u8 0) 1 1 Tryz.underlying24 hi hz0 hz1 hz2 rfl (by decide) _ _ _ rfl (hown.alloc _) ⟨wr.heap.size, 0, none⟩ 1 1 [.int .u8 c] rfl rfl (cell_one_new _ _ _) (one_u8 _) (by unfold maxLen; omega) (by omega) (by simp; omega) ?_)
        | go_in)
      intro v' w1 hown' hgrow _
      have R : w1.ownsRow w.heap.size 5 1 v' ((Ref.fl u).take (k + 1)).length (((Ref.fl u).take (k + 1)).map (Value.int .u8)) := by
        rw [unhide HT]
        have htl : ((Ref.fl u).take k).length = k := by simp [Ref.fl_length]; omega
        rw [List.length_append, htl]
        simpa using hown'
      have R2 : Below w.heap.size w w1 := (hb.alloc hsz _).grown hgrow (by simp; omega) (fun k hk => (hown.lt k hk).1)
      clear hown' hgrow hown hb HT
      go_wp2
      go_roundw
      case rel => exact ⟨k + 1, by omega, by go_num, R, R2⟩
      case measure => simp [intOf]; omega
    · have R : Own wr w.heap.size u3 (Ref.fl u) := by
        rw [List.take_of_length_le (by rw [Ref.fl_length]; omega)] at hown
        exact ⟨fl_byt u, by rw [Ref.fl_length]; decide, hown⟩
      clear hown
      go_wp2
      go_ret
      exact ⟨_, rfl, R, hb⟩

/-- What the document's ReadFloat answers. -/
def RuPost (w : World) (r : Int × Int × Int) (e : Ending) (w' : World) : Prop :=
  e = .returned (.tuple #[.int .u64 r.1, .int .i64 r.2.1, .int .i64 r.2.2]) ∧ w' = w

theorem RuPost.mk {w : World} {r : Int × Int × Int} {a b c : Int} (h : r = (a, b, c)) : RuPost w r (.returned (.tuple #[.int .u64 a, .int .i64 b, .int .i64 c])) w := by
  subst h; exact ⟨rfl, rfl⟩

set_option maxRecDepth 8000 in
set_option maxHeartbeats 1000000 in
theorem refReadFloat_any (v : Value) (zs : List Int) (at_ : Int) (w : World) (hs : Sl w v zs) :
    Calls Tryz.prog 97 #[v, .int .i64 at_] w (RuPost w (Ref.rf zs at_)) := by
  have hl := hs.len
  by_cases hbad : at_ < 0 ∨ (zs.length : Int) < at_
  · have HF := RuPost.mk (w := w) (show Ref.rf zs at_ = (0, 0, 1) by simp [Ref.rf, hbad])
    generalize Ref.rf zs at_ = r at *
    obtain ⟨ao, cap, rfl, hc1, hc2⟩ := hs.shape
    rcases hbad with h | h
    · go_enter Tryz.func97, Tryz.ntmps97
      go_wp2
      go_ret3
      exact HF
    · have h0 : decide (at_ < 0) = false := by simp; omega
      go_enter Tryz.func97, Tryz.ntmps97
      go_wp2
      go_ret3
      exact HF
  · have h0 : 0 ≤ at_ := by omega
    have h1 : at_ ≤ zs.length := by omega
    obtain ⟨a, rfl⟩ := Int.eq_ofNat_of_zero_le h0
    have h2 : decide ((a : Int) < 0) = false := by simp
    have h3 : decide ((zs.length : Int) < a) = false := by simp; omega
    by_cases hsh : (zs.length : Int) - a < 8
    · have HF := RuPost.mk (w := w) (show Ref.rf zs a = (0, 0, 10) by rw [Ref.rf, if_neg hbad, if_pos hsh])
      generalize Ref.rf zs a = r at *
      clear hbad
      obtain ⟨ao, cap, rfl, hc1, hc2⟩ := hs.shape
      go_enter Tryz.func97, Tryz.ntmps97
      go_wp2
      go_ret3
      exact HF
    · have HF := RuPost.mk (w := w) (show Ref.rf zs a = (Ref.fval ((zs.drop a).take 8), (a : Int) + 8, 0) by rw [Ref.rf, if_neg hbad, if_neg hsh, Int.toNat_natCast])
      generalize Ref.rf zs a = r at *
      clear hbad
      obtain ⟨b, off, cap, rfl, hc1, hc2, hc⟩ := hs.place (by omega)
      have hbt := hs.1
      go_enter Tryz.func97, Tryz.ntmps97
      go_wp2
      go_loop [7, 8] (fun u i => ∃ k : Nat, k ≤ 8 ∧ i = .int .i64 k ∧ u = .int .u64 (Ref.fval ((zs.drop a).take k))) (fun _ i => 8 - (intOf i).toNat)
      case atStart => exact ⟨0, by omega, rfl, rfl⟩
      case round =>
        obtain ⟨k, hk, rfl, rfl⟩ := hrel
        by_cases h8 : k < 8
        · have hcell := hc (a + k) (by omega)
          have hr := hbt.at (a + k)
          have hdl : k < (zs.drop a).length := by simp; omega
          have hts := take_snoc (zs.drop a) k hdl
          have htl : ((zs.drop a).take k).length = k := by simp; omega
          rw [List.getElem?_drop] at hts
          have hor := fval_or ((zs.drop a).take k) (zs[a + k]?.getD 0) (by omega) (fun z hz => hbt z (List.mem_of_mem_drop (List.mem_of_mem_take hz))) hr.1 hr.2
          rw [← hts, htl] at hor
          simp only [List.getD_eq_getElem?_getD] at hcell
          have hgrp := grp_u64 (zs[a + k]?.getD 0) k (by omega) hr.1 hr.2
          have HS := hide hor
          clear hor hts htl hc hdl
          generalize zs[a + k]?.getD 0 = c at *
          go_wp2
          go_round
          case rel => exact ⟨k + 1, by omega, by go_num, val_int (by rw [← unhide HS])⟩
          case measure => simp [intOf]; omega
        · obtain rfl : k = 8 := by omega
          clear hc
          generalize (zs.drop a).take 8 = xs at *
          go_wp2
          go_ret3
          exact HF
end Go.Proofs.YtdnkfnccbmbpaaaGreatDoor.Wi
