/- The law ScalarCuts, out of the contracts. (By program: gencuts.py.) -/
import Derived.Test.YtchjnplceelgoabTold3
import Derived.Test.YtchjnplceelgoabSameA
import Derived.Test.YtchjnplceelgoabRows3
import Derived.Test.YtchjnplceelgoabOwnW
namespace Go.Proofs.Ytchjnplceelgoab
open Go.RowKit

set_option maxHeartbeats 8000000 in
theorem scalarCuts_any (HD : DecC) (HE : EncC) (HV : ValC) (HS : SplC) (HJ : JoinC) (s t : ByteArray) (vx vl : Value) (xs : List Int) (lss : List (List Int)) (w : World) (hs : s.size + t.size ≤ 1048576) (hx : Sk .i32 w vx xs) (hxl : xs.length ≤ 1048576)
    (hl : Rws w vl lss) (hlb : Spl.total lss ≤ 1048576) (hln : lss.length ≤ 1048576) :
    Calls Try.prog 3 #[.string s, .string t, vx, vl] w (Tells w true) := by
  obtain ⟨i0, hi, hz0, hz1, hz2⟩ := info_parts Try.info21
  obtain ⟨j0, hj, hj0, hj1, hj2⟩ := info_parts Try.info22
  have HT := fun w => hide (told_any HD HE HV HS w)
  have H1 := hide (HD s w (by omega))
  have H2 := fun w => hide (HD t w (by omega))
  have H3 := fun w => hide (HD (s ++ t) w (by rw [ByteArray.size_append]; omega))
  have hcat := fun a b => Utf.dec_cat _ 0 0 (nums s) (nums t) (Nat.le_refl _) a b
  have hsh1 := Utf.dec_shape _ 0 (nums s) (Nat.le_refl _)
  have hsh2 := Utf.dec_shape _ 0 (nums t) (Nat.le_refl _)
  rw [nums_append] at H3
  rw [nums_length] at hsh1 hsh2
  have hno : ¬ 9223372036854775807 < s.size + t.size := by omega
  have KS := hide HS
  have KJ := hide HJ
  have hx := hide hx
  have hl := hide hl
  clear HD HE HV HS HJ
  generalize Utf.dec 0 (nums s) = d1 at *
  generalize Utf.dec 0 (nums t) = d2 at *
  generalize Utf.dec 0 (nums s ++ nums t) = d3 at *
  obtain ⟨a1, p1', e1⟩ := d1
  obtain ⟨a2, p2', e2⟩ := d2
  go_enter Try.func3, Try.ntmps3
  go_wp2_with fail
  refine (unhide H1).mono ?_
  rintro e w1 ⟨v1, rfl, ok1, hb1⟩
  have hlt1 := hide (fun k hk => ok1.row.lt k hk)
  clear H1
  go_wp2_with fail
  refine (unhide (H2 _)).mono ?_
  rintro e w2 ⟨v2, rfl, ok2, hb2⟩
  have ok1 := ok1.below hb2
  have hb02 := bthen hb1 hb2
  have hs12 := hb2.size
  clear H2 hb2
  go_wp2_with fail
  refine (unhide (H3 _)).mono ?_
  rintro e w3 ⟨v3, rfl, ok3, hb3⟩
  have ok1 := ok1.below hb3
  have ok2 := ok2.below hb3
  have hb03 := bthen hb02 hb3
  clear H3 hb3 hb02
  go_wp2_with fail
  refine (unhide (HT _)).mono ?_
  rintro e w4 ⟨rfl, hb4⟩
  have ok1 := ok1.below hb4
  have ok2 := ok2.below hb4
  have ok3 := ok3.below hb4
  have hbP := bthen hb03 hb4
  clear HT hb4 hb03
  try simp only at hsh1 hsh2
  cases hE1 : (e1 == 0) with
  | false =>
    clear hcat hsh1 hsh2 ok1 ok2 ok3
    have HSp := hide (unhide KS vx xs w4 ((unhide hx).below hbP) (by omega))
    go_wp2_with fail
    refine (unhide HSp).mono ?_
    rintro e p1 ⟨vs, rfl, hrs, hbs⟩
    have HJn := hide (unhide KJ vs _ p1 hrs (by
      have h1 := Spl.total_split [] xs
      have h2 := Spl.splitA_len [] xs
      simp only [List.length_nil, Nat.zero_add] at h1
      simp only [Spl.split]
      omega))
    rw [Spl.join_split] at HJn
    have hbs2 := bthen hbP hbs
    clear HSp hrs hbs hbP
    go_wp2_with fail
    refine (unhide HJn).mono ?_
    rintro e p2 ⟨vj, rfl, okj, hbj⟩
    have hbQ := bthen hbs2 hbj
    have HSm := hide (same_any vj vx xs xs p2 okj.sk ((unhide hx).below hbQ))
    simp only [decide_true] at HSm
    clear HJn okj hbs2 hbj
    go_wp2_with fail
    refine (unhide HSm).mono ?_
    rintro e p3 ⟨rfl, hbS⟩
    have hbR := bthen hbQ hbS
    clear HSm hbQ hbS
    rcases Nat.eq_zero_or_pos lss.length with hl0 | hl0
    · obtain ⟨aol, capl, hvl, _, _⟩ := (unhide hl).shape
      subst hvl
      rw [hl0]
      go_wp2
      refine wp_loop_rounds 1 ?_
      rw [rounds_succ]
      go_wp2
      go_ret
      exact ⟨rfl, hbR⟩
    · obtain ⟨b, off, cap, us, hvl, hc1, hc2, hcl, hsl⟩ := (unhide hl).place hl0
      have HCL := hide hcl
      have HSL := hide hsl
      subst hvl
      clear hcl hsl
      go_wp2
      go_loopw [18, 19] (fun vm i wr => ∃ (k : Nat), i = .int .i64 k ∧ k ≤ lss.length ∧ Mr wr w.heap.size vm ((lss.take k).map Spl.filt) ∧ Below w.heap.size w wr) (fun _ i _ => lss.length - (intOf i).toNat)
      case atStart => exact ⟨0, rfl, by omega, Mr.nil _ _, hbR⟩
      case round =>
        obtain ⟨k, rfl, hk, hmr, hbel⟩ := hrel
        obtain ⟨wo, hwo⟩ : ∃ wo, wo = wr := ⟨_, rfl⟩
        subst hwo
        clear hbR
        by_cases hlt : k < lss.length
        · have hck : ∀ wx, Below wo.heap.size wo wx → wx.cell? ⟨b, off + k, none⟩ = some (us.getD k undef) := by
            intro wx hb
            have h0 := (unhide HCL) k hlt
            have hb' := hbel.trans (hb.mono hbel.size)
            rw [hb'.cell (lt_of_cell? h0)]; exact h0
          have hsk := ((unhide HSL) k hlt).below hbel
          have hmp : (lss.take (k + 1)).map Spl.filt = (lss.take k).map Spl.filt ++ [Spl.filt (lss.getD k [])] := by rw [take_snoc lss k [] hlt]; simp
          have hrl : (lss.getD k []).length ≤ 1048576 := Nat.le_trans (Spl.row_le lss k) hlb
          have HMP := hide hmp
          have hlen : ((lss.take k).map Spl.filt).length ≤ 1048576 := by rw [List.length_map, List.length_take]; omega
          generalize hm0 : (lss.take k).map Spl.filt = ms0 at *
          clear hm0
          generalize lss.getD k [] = row at *
          have hcl0 := hck wo (Below.refl _ _)
          have HCK := hide hck
          obtain ⟨aor, capr, hvr, _, _⟩ := hsk.shape
          have HVR := hide hvr
          clear hmp hck hvr
          rcases Nat.eq_zero_or_pos row.length with hr0 | hr0
          · have hrow0 : row = [] := List.eq_nil_of_length_eq_zero hr0
            subst hrow0
            rw [unhide HVR] at hcl0
            obtain ⟨ms, hms1, hms2, hms3⟩ := hmr.open
            have hszw := hbel.size
            have hnil : Ok .i32 21 wo w.heap.size (.slice none 0 0) [] := Ok.nil _ _ _ _
            clear hmr hsk
            go_wp2
            refine wp_loop_rounds 1 ?_
            rw [rounds_succ]
            go_wp2_with (first
              | (at_builtin; refine wpList_append_own _ rfl (.tmp 103) (.tmp 105) 23 rfl w.heap.size 22 j0 (.slice none 0 0) 1 24 Try.underlying23 hj hj0 hj1 hj2 rfl (by decide) _ _ _ rfl (hms2.alloc _) ⟨wo.heap.size, 0, none⟩ 1 1 [.slice none 0 0] rfl rfl (cell_one_new _ _ _) (slice_one _ _ _) (by unfold maxLen; omega) (by omega) (by simp; omega) ?_)
              | go_in)
            intro v9 w9 hrow9 hg9 _
            have hm9 := Mr.snoc (by omega) hms1 hms2 hms3 hnil hrow9 hg9
            have hb9 : Below w.heap.size w w9 := below_append hszw hms2 hbel hg9
            clear hrow9 hg9 hms2 hms3 hnil hbel
            go_wp2
            go_roundw
            case rel => exact ⟨k + 1, by go_num, by omega, by rw [unhide HMP]; exact hm9, hb9⟩
            case measure => simp [intOf]; omega
          · obtain ⟨br, offr, capr2, hvr2, hcr1, hcr2, hcr⟩ := hsk.place hr0
            rw [hvr2] at hcl0
            have HCR : Hid (∀ wx, Below wo.heap.size wo wx → (∀ i, i < row.length → wx.cell? ⟨br, offr + i, none⟩ = some (.int .i32 (row.getD i 0))) ∧ wx.cell? ⟨b, off + k, none⟩ = some (.slice (some ⟨br, offr, none⟩) row.length capr2)) := by
              intro wx hb
              refine ⟨fun i hi => ?_, by rw [(unhide HCK) wx hb, hvr2]⟩
              rw [hb.cell (lt_of_cell? (hcr i hi))]; exact hcr i hi
            have hfr := hide hsk.1
            have HMR := hide hmr
            clear hsk hcr hvr2 hmr HCK HVR
            go_wp2
            go_loopw [20, 21] (fun vy j wq => ∃ (q : Nat), j = .int .i64 q ∧ q ≤ row.length ∧ Ok .i32 21 wq wo.heap.size vy (Spl.filt (row.take q)) ∧ Below wo.heap.size wo wq) (fun _ j _ => row.length - (intOf j).toNat)
            case atStart => exact ⟨0, rfl, by omega, Ok.nil _ _ _ _, Below.refl _ _⟩
            case round =>
              obtain ⟨q, rfl, hq, hoy, hbq⟩ := hrel
              obtain ⟨hcq, hcc⟩ := (unhide HCR) _ hbq
              have hszq := hbq.size
              by_cases hlq : q < row.length
              · have hcell := hcq q hlq
                have hfs := Spl.filt_snoc (row.take q) (row.getD q 0)
                rw [← take_snoc row q 0 hlq] at hfs
                have hrg := (unhide hfr).i32at q
                have hfl := Nat.le_trans (Spl.filt_len (row.take q)) (show (row.take q).length ≤ 1048576 by rw [List.length_take]; omega)
                have HFS := hide hfs
                generalize row.getD q 0 = c at *
                generalize Spl.filt (row.take q) = fy at *
                clear hcq hfs
                by_cases h46 : c = 46
                · have e46 : (c != 46) = false := by simp [h46]
                  have HF2 : Hid (Spl.filt (row.take (q + 1)) = fy) := by have := unhide HFS; rw [if_pos h46, List.append_nil] at this; exact this
                  clear h46 HFS
                  go_wp2
                  go_roundw
                  case rel => exact ⟨q + 1, by go_num, by omega, by rw [unhide HF2]; exact hoy, hbq⟩
                  case measure => simp [intOf]; omega
                · have e46 : (c != 46) = true := by simp [h46]
                  have HF2 : Hid (Spl.filt (row.take (q + 1)) = fy ++ [c]) := by have := unhide HFS; rw [if_neg h46] at this; exact this
                  clear h46 HFS
                  go_wp2_with (first
                    | (at_builtin; refine wpList_append_own _ rfl (.tmp 93) (.tmp 101) 22 rfl wo.heap.size 21 i0 (.int .i32 0) 1 4 Try.underlying22 hi hz0 hz1 hz2 rfl (by decide) _ _ _ rfl (hoy.row.alloc _) ⟨wr.heap.size, 0, none⟩ 1 1 [.int .i32 c] rfl rfl (cell_one_new _ _ _) (int_one .i32 c) (by unfold maxLen; omega) (by omega) (by simp; omega) ?_)
                    | go_in)
                  intro v8 w8 hrow8 hg8 _
                  have hb8 : Below wo.heap.size wo w8 := below_append hszq hoy.row hbq hg8
                  have ok8 : Ok .i32 21 w8 wo.heap.size v8 (fy ++ [c]) := Ok.of (hoy.1.snoc (i32_fit hrg)) (by simp; omega) hrow8 (by simp) (by simp)
                  clear hrow8 hg8 hoy hbq
                  go_wp2
                  go_roundw
                  case rel => exact ⟨q + 1, by go_num, by omega, by rw [unhide HF2]; exact ok8, hb8⟩
                  case measure => simp [intOf]; omega
              · obtain rfl : q = row.length := by omega
                rw [List.take_length] at hoy
                obtain ⟨ms, hms1, hms2, hms3⟩ := ((unhide HMR).below hbq).open
                have hszw := hbel.size
                have hoy2 := hoy.lower hszw
                have hbw := hbel.trans (hbq.mono hszw)
                obtain ⟨aoy, cpy, hvy, _, _⟩ := hoy.sk.shape
                subst hvy
                clear hoy HCR hbq hbel hcq HMR
                go_wp2_with (first
                  | (at_builtin; refine wpList_append_own _ rfl (.tmp 103) (.tmp 105) 23 rfl w.heap.size 22 j0 (.slice none 0 0) 1 24 Try.underlying23 hj hj0 hj1 hj2 rfl (by decide) _ _ _ rfl (hms2.alloc _) ⟨wr.heap.size, 0, none⟩ 1 1 [.slice aoy (Spl.filt row).length cpy] rfl rfl (cell_one_new _ _ _) (slice_one _ _ _) (by unfold maxLen; omega) (by omega) (by simp; omega) ?_)
                  | go_in)
                intro v9 w9 hrow9 hg9 _
                have hm9 := Mr.snoc (by omega) hms1 hms2 hms3 hoy2 hrow9 hg9
                have hb9 : Below w.heap.size w w9 := below_append (by omega) hms2 hbw hg9
                clear hrow9 hg9 hms2 hms3 hoy2 hbw
                go_wp2
                go_roundw
                case rel => exact ⟨k + 1, by go_num, by omega, by rw [unhide HMP]; exact hm9, hb9⟩
                case measure => simp [intOf]; omega
        · obtain rfl : k = lss.length := by omega
          rw [List.take_length] at hmr
          have hml : (lss.map Spl.filt).length = lss.length := by simp
          have hrw := hmr.rws
          have HJ2 := hide (unhide KJ _ _ wo hrw (by
            have := Spl.total_filt lss
            omega))
          have hsj : Spl.split (Spl.join (lss.map Spl.filt)) = lss.map Spl.filt := Spl.split_join _ (by intro h; have := congrArg List.length h; rw [List.length_map, List.length_nil] at this; omega) (by
            intro p hp
            obtain ⟨x, _, rfl⟩ := List.mem_map.1 hp
            exact Spl.filt_no x)
          have hjl := Nat.le_trans (Spl.join_len (lss.map Spl.filt)) (Nat.add_le_add_right (Spl.total_filt lss) _)
          generalize lss.map Spl.filt = mss at *
          obtain ⟨aom, capm, hvm, _, _⟩ := hrw.shape
          subst hvm
          have hne : ¬ mss.length = 0 := by omega
          have hne2 : ((mss.length : Int) == 0) = false := beq_eq_false_iff_ne.2 (by omega)
          have hjl2 : (Spl.join mss).length ≤ 1000000000 := by omega
          clear hmr hml hjl
          go_wp2_with fail
          refine (unhide HJ2).mono ?_
          rintro e q1 ⟨vj, rfl, okj, hbj⟩
          have HS2 := hide (unhide KS vj _ q1 okj.sk (by omega))
          rw [hsj] at HS2
          have hb1 := hbel.trans (hbj.mono hbel.size)
          have hrw1 := hrw.below hbj
          clear HJ2 okj hbel hbj hrw
          go_wp2_with fail
          refine (unhide HS2).mono ?_
          rintro e q2 ⟨vs, rfl, hrs, hbs⟩
          have hb2 := hb1.trans (hbs.mono hb1.size)
          have HA := hide (sameAll_any vs _ mss mss q2 hrs (hrw1.below hbs))
          simp only [decide_true] at HA
          clear HS2 hrs hrw1 hb1 hbs
          go_wp2_with fail
          refine (unhide HA).mono ?_
          rintro e q3 ⟨rfl, hb3⟩
          have hb := hb2.trans (hb3.mono hb2.size)
          clear HA
          go_wp2
          go_ret
          exact ⟨rfl, hb⟩
  | true =>
    cases hE2 : (e2 == 0) with
    | false =>
      clear hcat hsh1 hsh2 ok1 ok2 ok3
      have HSp := hide (unhide KS vx xs w4 ((unhide hx).below hbP) (by omega))
      go_wp2_with fail
      refine (unhide HSp).mono ?_
      rintro e p1 ⟨vs, rfl, hrs, hbs⟩
      have HJn := hide (unhide KJ vs _ p1 hrs (by
        have h1 := Spl.total_split [] xs
        have h2 := Spl.splitA_len [] xs
        simp only [List.length_nil, Nat.zero_add] at h1
        simp only [Spl.split]
        omega))
      rw [Spl.join_split] at HJn
      have hbs2 := bthen hbP hbs
      clear HSp hrs hbs hbP
      go_wp2_with fail
      refine (unhide HJn).mono ?_
      rintro e p2 ⟨vj, rfl, okj, hbj⟩
      have hbQ := bthen hbs2 hbj
      have HSm := hide (same_any vj vx xs xs p2 okj.sk ((unhide hx).below hbQ))
      simp only [decide_true] at HSm
      clear HJn okj hbs2 hbj
      go_wp2_with fail
      refine (unhide HSm).mono ?_
      rintro e p3 ⟨rfl, hbS⟩
      have hbR := bthen hbQ hbS
      clear HSm hbQ hbS
      rcases Nat.eq_zero_or_pos lss.length with hl0 | hl0
      · obtain ⟨aol, capl, hvl, _, _⟩ := (unhide hl).shape
        subst hvl
        rw [hl0]
        go_wp2
        refine wp_loop_rounds 1 ?_
        rw [rounds_succ]
        go_wp2
        go_ret
        exact ⟨rfl, hbR⟩
      · obtain ⟨b, off, cap, us, hvl, hc1, hc2, hcl, hsl⟩ := (unhide hl).place hl0
        have HCL := hide hcl
        have HSL := hide hsl
        subst hvl
        clear hcl hsl
        go_wp2
        go_loopw [18, 19] (fun vm i wr => ∃ (k : Nat), i = .int .i64 k ∧ k ≤ lss.length ∧ Mr wr w.heap.size vm ((lss.take k).map Spl.filt) ∧ Below w.heap.size w wr) (fun _ i _ => lss.length - (intOf i).toNat)
        case atStart => exact ⟨0, rfl, by omega, Mr.nil _ _, hbR⟩
        case round =>
          obtain ⟨k, rfl, hk, hmr, hbel⟩ := hrel
          obtain ⟨wo, hwo⟩ : ∃ wo, wo = wr := ⟨_, rfl⟩
          subst hwo
          clear hbR
          by_cases hlt : k < lss.length
          · have hck : ∀ wx, Below wo.heap.size wo wx → wx.cell? ⟨b, off + k, none⟩ = some (us.getD k undef) := by
              intro wx hb
              have h0 := (unhide HCL) k hlt
              have hb' := hbel.trans (hb.mono hbel.size)
              rw [hb'.cell (lt_of_cell? h0)]; exact h0
            have hsk := ((unhide HSL) k hlt).below hbel
            have hmp : (lss.take (k + 1)).map Spl.filt = (lss.take k).map Spl.filt ++ [Spl.filt (lss.getD k [])] := by rw [take_snoc lss k [] hlt]; simp
            have hrl : (lss.getD k []).length ≤ 1048576 := Nat.le_trans (Spl.row_le lss k) hlb
            have HMP := hide hmp
            have hlen : ((lss.take k).map Spl.filt).length ≤ 1048576 := by rw [List.length_map, List.length_take]; omega
            generalize hm0 : (lss.take k).map Spl.filt = ms0 at *
            clear hm0
            generalize lss.getD k [] = row at *
            have hcl0 := hck wo (Below.refl _ _)
            have HCK := hide hck
            obtain ⟨aor, capr, hvr, _, _⟩ := hsk.shape
            have HVR := hide hvr
            clear hmp hck hvr
            rcases Nat.eq_zero_or_pos row.length with hr0 | hr0
            · have hrow0 : row = [] := List.eq_nil_of_length_eq_zero hr0
              subst hrow0
              rw [unhide HVR] at hcl0
              obtain ⟨ms, hms1, hms2, hms3⟩ := hmr.open
              have hszw := hbel.size
              have hnil : Ok .i32 21 wo w.heap.size (.slice none 0 0) [] := Ok.nil _ _ _ _
              clear hmr hsk
              go_wp2
              refine wp_loop_rounds 1 ?_
              rw [rounds_succ]
              go_wp2_with (first
                | (at_builtin; refine wpList_append_own _ rfl (.tmp 103) (.tmp 105) 23 rfl w.heap.size 22 j0 (.slice none 0 0) 1 24 Try.underlying23 hj hj0 hj1 hj2 rfl (by decide) _ _ _ rfl (hms2.alloc _) ⟨wo.heap.size, 0, none⟩ 1 1 [.slice none 0 0] rfl rfl (cell_one_new _ _ _) (slice_one _ _ _) (by unfold maxLen; omega) (by omega) (by simp; omega) ?_)
                | go_in)
              intro v9 w9 hrow9 hg9 _
              have hm9 := Mr.snoc (by omega) hms1 hms2 hms3 hnil hrow9 hg9
              have hb9 : Below w.heap.size w w9 := below_append hszw hms2 hbel hg9
              clear hrow9 hg9 hms2 hms3 hnil hbel
              go_wp2
              go_roundw
              case rel => exact ⟨k + 1, by go_num, by omega, by rw [unhide HMP]; exact hm9, hb9⟩
              case measure => simp [intOf]; omega
            · obtain ⟨br, offr, capr2, hvr2, hcr1, hcr2, hcr⟩ := hsk.place hr0
              rw [hvr2] at hcl0
              have HCR : Hid (∀ wx, Below wo.heap.size wo wx → (∀ i, i < row.length → wx.cell? ⟨br, offr + i, none⟩ = some (.int .i32 (row.getD i 0))) ∧ wx.cell? ⟨b, off + k, none⟩ = some (.slice (some ⟨br, offr, none⟩) row.length capr2)) := by
                intro wx hb
                refine ⟨fun i hi => ?_, by rw [(unhide HCK) wx hb, hvr2]⟩
                rw [hb.cell (lt_of_cell? (hcr i hi))]; exact hcr i hi
              have hfr := hide hsk.1
              have HMR := hide hmr
              clear hsk hcr hvr2 hmr HCK HVR
              go_wp2
              go_loopw [20, 21] (fun vy j wq => ∃ (q : Nat), j = .int .i64 q ∧ q ≤ row.length ∧ Ok .i32 21 wq wo.heap.size vy (Spl.filt (row.take q)) ∧ Below wo.heap.size wo wq) (fun _ j _ => row.length - (intOf j).toNat)
              case atStart => exact ⟨0, rfl, by omega, Ok.nil _ _ _ _, Below.refl _ _⟩
              case round =>
                obtain ⟨q, rfl, hq, hoy, hbq⟩ := hrel
                obtain ⟨hcq, hcc⟩ := (unhide HCR) _ hbq
                have hszq := hbq.size
                by_cases hlq : q < row.length
                · have hcell := hcq q hlq
                  have hfs := Spl.filt_snoc (row.take q) (row.getD q 0)
                  rw [← take_snoc row q 0 hlq] at hfs
                  have hrg := (unhide hfr).i32at q
                  have hfl := Nat.le_trans (Spl.filt_len (row.take q)) (show (row.take q).length ≤ 1048576 by rw [List.length_take]; omega)
                  have HFS := hide hfs
                  generalize row.getD q 0 = c at *
                  generalize Spl.filt (row.take q) = fy at *
                  clear hcq hfs
                  by_cases h46 : c = 46
                  · have e46 : (c != 46) = false := by simp [h46]
                    have HF2 : Hid (Spl.filt (row.take (q + 1)) = fy) := by have := unhide HFS; rw [if_pos h46, List.append_nil] at this; exact this
                    clear h46 HFS
                    go_wp2
                    go_roundw
                    case rel => exact ⟨q + 1, by go_num, by omega, by rw [unhide HF2]; exact hoy, hbq⟩
                    case measure => simp [intOf]; omega
                  · have e46 : (c != 46) = true := by simp [h46]
                    have HF2 : Hid (Spl.filt (row.take (q + 1)) = fy ++ [c]) := by have := unhide HFS; rw [if_neg h46] at this; exact this
                    clear h46 HFS
                    go_wp2_with (first
                      | (at_builtin; refine wpList_append_own _ rfl (.tmp 93) (.tmp 101) 22 rfl wo.heap.size 21 i0 (.int .i32 0) 1 4 Try.underlying22 hi hz0 hz1 hz2 rfl (by decide) _ _ _ rfl (hoy.row.alloc _) ⟨wr.heap.size, 0, none⟩ 1 1 [.int .i32 c] rfl rfl (cell_one_new _ _ _) (int_one .i32 c) (by unfold maxLen; omega) (by omega) (by simp; omega) ?_)
                      | go_in)
                    intro v8 w8 hrow8 hg8 _
                    have hb8 : Below wo.heap.size wo w8 := below_append hszq hoy.row hbq hg8
                    have ok8 : Ok .i32 21 w8 wo.heap.size v8 (fy ++ [c]) := Ok.of (hoy.1.snoc (i32_fit hrg)) (by simp; omega) hrow8 (by simp) (by simp)
                    clear hrow8 hg8 hoy hbq
                    go_wp2
                    go_roundw
                    case rel => exact ⟨q + 1, by go_num, by omega, by rw [unhide HF2]; exact ok8, hb8⟩
                    case measure => simp [intOf]; omega
                · obtain rfl : q = row.length := by omega
                  rw [List.take_length] at hoy
                  obtain ⟨ms, hms1, hms2, hms3⟩ := ((unhide HMR).below hbq).open
                  have hszw := hbel.size
                  have hoy2 := hoy.lower hszw
                  have hbw := hbel.trans (hbq.mono hszw)
                  obtain ⟨aoy, cpy, hvy, _, _⟩ := hoy.sk.shape
                  subst hvy
                  clear hoy HCR hbq hbel hcq HMR
                  go_wp2_with (first
                    | (at_builtin; refine wpList_append_own _ rfl (.tmp 103) (.tmp 105) 23 rfl w.heap.size 22 j0 (.slice none 0 0) 1 24 Try.underlying23 hj hj0 hj1 hj2 rfl (by decide) _ _ _ rfl (hms2.alloc _) ⟨wr.heap.size, 0, none⟩ 1 1 [.slice aoy (Spl.filt row).length cpy] rfl rfl (cell_one_new _ _ _) (slice_one _ _ _) (by unfold maxLen; omega) (by omega) (by simp; omega) ?_)
                    | go_in)
                  intro v9 w9 hrow9 hg9 _
                  have hm9 := Mr.snoc (by omega) hms1 hms2 hms3 hoy2 hrow9 hg9
                  have hb9 : Below w.heap.size w w9 := below_append (by omega) hms2 hbw hg9
                  clear hrow9 hg9 hms2 hms3 hoy2 hbw
                  go_wp2
                  go_roundw
                  case rel => exact ⟨k + 1, by go_num, by omega, by rw [unhide HMP]; exact hm9, hb9⟩
                  case measure => simp [intOf]; omega
          · obtain rfl : k = lss.length := by omega
            rw [List.take_length] at hmr
            have hml : (lss.map Spl.filt).length = lss.length := by simp
            have hrw := hmr.rws
            have HJ2 := hide (unhide KJ _ _ wo hrw (by
              have := Spl.total_filt lss
              omega))
            have hsj : Spl.split (Spl.join (lss.map Spl.filt)) = lss.map Spl.filt := Spl.split_join _ (by intro h; have := congrArg List.length h; rw [List.length_map, List.length_nil] at this; omega) (by
              intro p hp
              obtain ⟨x, _, rfl⟩ := List.mem_map.1 hp
              exact Spl.filt_no x)
            have hjl := Nat.le_trans (Spl.join_len (lss.map Spl.filt)) (Nat.add_le_add_right (Spl.total_filt lss) _)
            generalize lss.map Spl.filt = mss at *
            obtain ⟨aom, capm, hvm, _, _⟩ := hrw.shape
            subst hvm
            have hne : ¬ mss.length = 0 := by omega
            have hne2 : ((mss.length : Int) == 0) = false := beq_eq_false_iff_ne.2 (by omega)
            have hjl2 : (Spl.join mss).length ≤ 1000000000 := by omega
            clear hmr hml hjl
            go_wp2_with fail
            refine (unhide HJ2).mono ?_
            rintro e q1 ⟨vj, rfl, okj, hbj⟩
            have HS2 := hide (unhide KS vj _ q1 okj.sk (by omega))
            rw [hsj] at HS2
            have hb1 := hbel.trans (hbj.mono hbel.size)
            have hrw1 := hrw.below hbj
            clear HJ2 okj hbel hbj hrw
            go_wp2_with fail
            refine (unhide HS2).mono ?_
            rintro e q2 ⟨vs, rfl, hrs, hbs⟩
            have hb2 := hb1.trans (hbs.mono hb1.size)
            have HA := hide (sameAll_any vs _ mss mss q2 hrs (hrw1.below hbs))
            simp only [decide_true] at HA
            clear HS2 hrs hrw1 hb1 hbs
            go_wp2_with fail
            refine (unhide HA).mono ?_
            rintro e q3 ⟨rfl, hb3⟩
            have hb := hb2.trans (hb3.mono hb2.size)
            clear HA
            go_wp2
            go_ret
            exact ⟨rfl, hb⟩
    | true =>
      have hc := hcat (by simpa using hE1) (by simpa using hE2)
      subst hc
      have hl1 : a1.length ≤ 1048576 := by
        rcases hsh1 with h | ⟨q, h, _⟩
        · omega
        · simp only [Prod.mk.injEq] at h; rw [h.1]; simp
      have hl2 : a2.length ≤ 1048576 := by
        rcases hsh2 with h | ⟨q, h, _⟩
        · omega
        · simp only [Prod.mk.injEq] at h; rw [h.1]; simp
      clear hcat hsh1 hsh2
      have hszP := hbP.size
      rcases ok2.sk.src with ⟨h1, h2⟩ | ⟨ad, cp, h2, hsrc⟩
      · subst h1; subst h2
        have HSm := hide (same_any v3 v1 _ _ w4 ok3.sk ok1.sk)
        simp only [List.append_nil, decide_true] at HSm
        have row1 := ok1.row
        clear ok1 ok2 ok3
        go_wp2_with (at_builtin; refine wpList_append_own_none_w rfl (.tmp 56) (.tmp 57) 22 rfl w.heap.size 21 i0 1 Try.underlying22 hi _ _ _ rfl row1 rfl ?_)
        clear row1
        try go_wp2_with fail
        refine (unhide HSm).mono ?_
        rintro e w5 ⟨rfl, hb5⟩
        have hbP := bthen hbP hb5
        clear HSm hb5
        have HSp := hide (unhide KS vx xs w5 ((unhide hx).below hbP) (by omega))
        go_wp2_with fail
        refine (unhide HSp).mono ?_
        rintro e p1 ⟨vs, rfl, hrs, hbs⟩
        have HJn := hide (unhide KJ vs _ p1 hrs (by
          have h1 := Spl.total_split [] xs
          have h2 := Spl.splitA_len [] xs
          simp only [List.length_nil, Nat.zero_add] at h1
          simp only [Spl.split]
          omega))
        rw [Spl.join_split] at HJn
        have hbs2 := bthen hbP hbs
        clear HSp hrs hbs hbP
        go_wp2_with fail
        refine (unhide HJn).mono ?_
        rintro e p2 ⟨vj, rfl, okj, hbj⟩
        have hbQ := bthen hbs2 hbj
        have HSm := hide (same_any vj vx xs xs p2 okj.sk ((unhide hx).below hbQ))
        simp only [decide_true] at HSm
        clear HJn okj hbs2 hbj
        go_wp2_with fail
        refine (unhide HSm).mono ?_
        rintro e p3 ⟨rfl, hbS⟩
        have hbR := bthen hbQ hbS
        clear HSm hbQ hbS
        rcases Nat.eq_zero_or_pos lss.length with hl0 | hl0
        · obtain ⟨aol, capl, hvl, _, _⟩ := (unhide hl).shape
          subst hvl
          rw [hl0]
          go_wp2
          refine wp_loop_rounds 1 ?_
          rw [rounds_succ]
          go_wp2
          go_ret
          exact ⟨rfl, hbR⟩
        · obtain ⟨b, off, cap, us, hvl, hc1, hc2, hcl, hsl⟩ := (unhide hl).place hl0
          have HCL := hide hcl
          have HSL := hide hsl
          subst hvl
          clear hcl hsl
          go_wp2
          go_loopw [18, 19] (fun vm i wr => ∃ (k : Nat), i = .int .i64 k ∧ k ≤ lss.length ∧ Mr wr w.heap.size vm ((lss.take k).map Spl.filt) ∧ Below w.heap.size w wr) (fun _ i _ => lss.length - (intOf i).toNat)
          case atStart => exact ⟨0, rfl, by omega, Mr.nil _ _, hbR⟩
          case round =>
            obtain ⟨k, rfl, hk, hmr, hbel⟩ := hrel
            obtain ⟨wo, hwo⟩ : ∃ wo, wo = wr := ⟨_, rfl⟩
            subst hwo
            clear hbR
            by_cases hlt : k < lss.length
            · have hck : ∀ wx, Below wo.heap.size wo wx → wx.cell? ⟨b, off + k, none⟩ = some (us.getD k undef) := by
                intro wx hb
                have h0 := (unhide HCL) k hlt
                have hb' := hbel.trans (hb.mono hbel.size)
                rw [hb'.cell (lt_of_cell? h0)]; exact h0
              have hsk := ((unhide HSL) k hlt).below hbel
              have hmp : (lss.take (k + 1)).map Spl.filt = (lss.take k).map Spl.filt ++ [Spl.filt (lss.getD k [])] := by rw [take_snoc lss k [] hlt]; simp
              have hrl : (lss.getD k []).length ≤ 1048576 := Nat.le_trans (Spl.row_le lss k) hlb
              have HMP := hide hmp
              have hlen : ((lss.take k).map Spl.filt).length ≤ 1048576 := by rw [List.length_map, List.length_take]; omega
              generalize hm0 : (lss.take k).map Spl.filt = ms0 at *
              clear hm0
              generalize lss.getD k [] = row at *
              have hcl0 := hck wo (Below.refl _ _)
              have HCK := hide hck
              obtain ⟨aor, capr, hvr, _, _⟩ := hsk.shape
              have HVR := hide hvr
              clear hmp hck hvr
              rcases Nat.eq_zero_or_pos row.length with hr0 | hr0
              · have hrow0 : row = [] := List.eq_nil_of_length_eq_zero hr0
                subst hrow0
                rw [unhide HVR] at hcl0
                obtain ⟨ms, hms1, hms2, hms3⟩ := hmr.open
                have hszw := hbel.size
                have hnil : Ok .i32 21 wo w.heap.size (.slice none 0 0) [] := Ok.nil _ _ _ _
                clear hmr hsk
                go_wp2
                refine wp_loop_rounds 1 ?_
                rw [rounds_succ]
                go_wp2_with (first
                  | (at_builtin; refine wpList_append_own _ rfl (.tmp 103) (.tmp 105) 23 rfl w.heap.size 22 j0 (.slice none 0 0) 1 24 Try.underlying23 hj hj0 hj1 hj2 rfl (by decide) _ _ _ rfl (hms2.alloc _) ⟨wo.heap.size, 0, none⟩ 1 1 [.slice none 0 0] rfl rfl (cell_one_new _ _ _) (slice_one _ _ _) (by unfold maxLen; omega) (by omega) (by simp; omega) ?_)
                  | go_in)
                intro v9 w9 hrow9 hg9 _
                have hm9 := Mr.snoc (by omega) hms1 hms2 hms3 hnil hrow9 hg9
                have hb9 : Below w.heap.size w w9 := below_append hszw hms2 hbel hg9
                clear hrow9 hg9 hms2 hms3 hnil hbel
                go_wp2
                go_roundw
                case rel => exact ⟨k + 1, by go_num, by omega, by rw [unhide HMP]; exact hm9, hb9⟩
                case measure => simp [intOf]; omega
              · obtain ⟨br, offr, capr2, hvr2, hcr1, hcr2, hcr⟩ := hsk.place hr0
                rw [hvr2] at hcl0
                have HCR : Hid (∀ wx, Below wo.heap.size wo wx → (∀ i, i < row.length → wx.cell? ⟨br, offr + i, none⟩ = some (.int .i32 (row.getD i 0))) ∧ wx.cell? ⟨b, off + k, none⟩ = some (.slice (some ⟨br, offr, none⟩) row.length capr2)) := by
                  intro wx hb
                  refine ⟨fun i hi => ?_, by rw [(unhide HCK) wx hb, hvr2]⟩
                  rw [hb.cell (lt_of_cell? (hcr i hi))]; exact hcr i hi
                have hfr := hide hsk.1
                have HMR := hide hmr
                clear hsk hcr hvr2 hmr HCK HVR
                go_wp2
                go_loopw [20, 21] (fun vy j wq => ∃ (q : Nat), j = .int .i64 q ∧ q ≤ row.length ∧ Ok .i32 21 wq wo.heap.size vy (Spl.filt (row.take q)) ∧ Below wo.heap.size wo wq) (fun _ j _ => row.length - (intOf j).toNat)
                case atStart => exact ⟨0, rfl, by omega, Ok.nil _ _ _ _, Below.refl _ _⟩
                case round =>
                  obtain ⟨q, rfl, hq, hoy, hbq⟩ := hrel
                  obtain ⟨hcq, hcc⟩ := (unhide HCR) _ hbq
                  have hszq := hbq.size
                  by_cases hlq : q < row.length
                  · have hcell := hcq q hlq
                    have hfs := Spl.filt_snoc (row.take q) (row.getD q 0)
                    rw [← take_snoc row q 0 hlq] at hfs
                    have hrg := (unhide hfr).i32at q
                    have hfl := Nat.le_trans (Spl.filt_len (row.take q)) (show (row.take q).length ≤ 1048576 by rw [List.length_take]; omega)
                    have HFS := hide hfs
                    generalize row.getD q 0 = c at *
                    generalize Spl.filt (row.take q) = fy at *
                    clear hcq hfs
                    by_cases h46 : c = 46
                    · have e46 : (c != 46) = false := by simp [h46]
                      have HF2 : Hid (Spl.filt (row.take (q + 1)) = fy) := by have := unhide HFS; rw [if_pos h46, List.append_nil] at this; exact this
                      clear h46 HFS
                      go_wp2
                      go_roundw
                      case rel => exact ⟨q + 1, by go_num, by omega, by rw [unhide HF2]; exact hoy, hbq⟩
                      case measure => simp [intOf]; omega
                    · have e46 : (c != 46) = true := by simp [h46]
                      have HF2 : Hid (Spl.filt (row.take (q + 1)) = fy ++ [c]) := by have := unhide HFS; rw [if_neg h46] at this; exact this
                      clear h46 HFS
                      go_wp2_with (first
                        | (at_builtin; refine wpList_append_own _ rfl (.tmp 93) (.tmp 101) 22 rfl wo.heap.size 21 i0 (.int .i32 0) 1 4 Try.underlying22 hi hz0 hz1 hz2 rfl (by decide) _ _ _ rfl (hoy.row.alloc _) ⟨wr.heap.size, 0, none⟩ 1 1 [.int .i32 c] rfl rfl (cell_one_new _ _ _) (int_one .i32 c) (by unfold maxLen; omega) (by omega) (by simp; omega) ?_)
                        | go_in)
                      intro v8 w8 hrow8 hg8 _
                      have hb8 : Below wo.heap.size wo w8 := below_append hszq hoy.row hbq hg8
                      have ok8 : Ok .i32 21 w8 wo.heap.size v8 (fy ++ [c]) := Ok.of (hoy.1.snoc (i32_fit hrg)) (by simp; omega) hrow8 (by simp) (by simp)
                      clear hrow8 hg8 hoy hbq
                      go_wp2
                      go_roundw
                      case rel => exact ⟨q + 1, by go_num, by omega, by rw [unhide HF2]; exact ok8, hb8⟩
                      case measure => simp [intOf]; omega
                  · obtain rfl : q = row.length := by omega
                    rw [List.take_length] at hoy
                    obtain ⟨ms, hms1, hms2, hms3⟩ := ((unhide HMR).below hbq).open
                    have hszw := hbel.size
                    have hoy2 := hoy.lower hszw
                    have hbw := hbel.trans (hbq.mono hszw)
                    obtain ⟨aoy, cpy, hvy, _, _⟩ := hoy.sk.shape
                    subst hvy
                    clear hoy HCR hbq hbel hcq HMR
                    go_wp2_with (first
                      | (at_builtin; refine wpList_append_own _ rfl (.tmp 103) (.tmp 105) 23 rfl w.heap.size 22 j0 (.slice none 0 0) 1 24 Try.underlying23 hj hj0 hj1 hj2 rfl (by decide) _ _ _ rfl (hms2.alloc _) ⟨wr.heap.size, 0, none⟩ 1 1 [.slice aoy (Spl.filt row).length cpy] rfl rfl (cell_one_new _ _ _) (slice_one _ _ _) (by unfold maxLen; omega) (by omega) (by simp; omega) ?_)
                      | go_in)
                    intro v9 w9 hrow9 hg9 _
                    have hm9 := Mr.snoc (by omega) hms1 hms2 hms3 hoy2 hrow9 hg9
                    have hb9 : Below w.heap.size w w9 := below_append (by omega) hms2 hbw hg9
                    clear hrow9 hg9 hms2 hms3 hoy2 hbw
                    go_wp2
                    go_roundw
                    case rel => exact ⟨k + 1, by go_num, by omega, by rw [unhide HMP]; exact hm9, hb9⟩
                    case measure => simp [intOf]; omega
            · obtain rfl : k = lss.length := by omega
              rw [List.take_length] at hmr
              have hml : (lss.map Spl.filt).length = lss.length := by simp
              have hrw := hmr.rws
              have HJ2 := hide (unhide KJ _ _ wo hrw (by
                have := Spl.total_filt lss
                omega))
              have hsj : Spl.split (Spl.join (lss.map Spl.filt)) = lss.map Spl.filt := Spl.split_join _ (by intro h; have := congrArg List.length h; rw [List.length_map, List.length_nil] at this; omega) (by
                intro p hp
                obtain ⟨x, _, rfl⟩ := List.mem_map.1 hp
                exact Spl.filt_no x)
              have hjl := Nat.le_trans (Spl.join_len (lss.map Spl.filt)) (Nat.add_le_add_right (Spl.total_filt lss) _)
              generalize lss.map Spl.filt = mss at *
              obtain ⟨aom, capm, hvm, _, _⟩ := hrw.shape
              subst hvm
              have hne : ¬ mss.length = 0 := by omega
              have hne2 : ((mss.length : Int) == 0) = false := beq_eq_false_iff_ne.2 (by omega)
              have hjl2 : (Spl.join mss).length ≤ 1000000000 := by omega
              clear hmr hml hjl
              go_wp2_with fail
              refine (unhide HJ2).mono ?_
              rintro e q1 ⟨vj, rfl, okj, hbj⟩
              have HS2 := hide (unhide KS vj _ q1 okj.sk (by omega))
              rw [hsj] at HS2
              have hb1 := hbel.trans (hbj.mono hbel.size)
              have hrw1 := hrw.below hbj
              clear HJ2 okj hbel hbj hrw
              go_wp2_with fail
              refine (unhide HS2).mono ?_
              rintro e q2 ⟨vs, rfl, hrs, hbs⟩
              have hb2 := hb1.trans (hbs.mono hb1.size)
              have HA := hide (sameAll_any vs _ mss mss q2 hrs (hrw1.below hbs))
              simp only [decide_true] at HA
              clear HS2 hrs hrw1 hb1 hbs
              go_wp2_with fail
              refine (unhide HA).mono ?_
              rintro e q3 ⟨rfl, hb3⟩
              have hb := hb2.trans (hb3.mono hb2.size)
              clear HA
              go_wp2
              go_ret
              exact ⟨rfl, hb⟩
      · subst h2
        go_wp2_with (first
          | (at_builtin; refine wpList_append_own_w _ rfl (.tmp 56) (.tmp 57) 22 rfl w.heap.size 21 i0 (.int .i32 0) 1 4 Try.underlying22 hi hz0 hz1 hz2 rfl (by decide) _ _ _ rfl ok1.row ad a2.length cp (a2.map (Value.int .i32)) rfl (by simp) hsrc (ints_one .i32 a2) (by unfold maxLen; omega) (by omega) (by omega) ?_)
          | go_in)
        intro v5 w5 hrow5 hg5 _
        have ok5 : Ok .i32 21 w5 w.heap.size v5 (a1 ++ a2) := Ok.of (ok1.1.app ok2.1) (by simp; omega) hrow5 (by simp) (by simp)
        have ok35 := ok3.kept0 hg5 (fun k hk => Nat.lt_of_lt_of_le ((unhide hlt1) k hk).2 hs12)
        have hbP := below_append0 hszP ok1.row hbP hg5
        have HSm := hide (same_any v3 v5 _ _ w5 ok35.sk ok5.sk)
        simp only [decide_true] at HSm
        clear ok1 ok2 ok3 ok5 ok35 hrow5 hg5 hsrc
        go_wp2_with fail
        refine (unhide HSm).mono ?_
        rintro e w6 ⟨rfl, hb6⟩
        have hbP := hbP.trans (hb6.mono hbP.size)
        clear HSm hb6
        have HSp := hide (unhide KS vx xs w6 ((unhide hx).below hbP) (by omega))
        go_wp2_with fail
        refine (unhide HSp).mono ?_
        rintro e p1 ⟨vs, rfl, hrs, hbs⟩
        have HJn := hide (unhide KJ vs _ p1 hrs (by
          have h1 := Spl.total_split [] xs
          have h2 := Spl.splitA_len [] xs
          simp only [List.length_nil, Nat.zero_add] at h1
          simp only [Spl.split]
          omega))
        rw [Spl.join_split] at HJn
        have hbs2 := bthen hbP hbs
        clear HSp hrs hbs hbP
        go_wp2_with fail
        refine (unhide HJn).mono ?_
        rintro e p2 ⟨vj, rfl, okj, hbj⟩
        have hbQ := bthen hbs2 hbj
        have HSm := hide (same_any vj vx xs xs p2 okj.sk ((unhide hx).below hbQ))
        simp only [decide_true] at HSm
        clear HJn okj hbs2 hbj
        go_wp2_with fail
        refine (unhide HSm).mono ?_
        rintro e p3 ⟨rfl, hbS⟩
        have hbR := bthen hbQ hbS
        clear HSm hbQ hbS
        rcases Nat.eq_zero_or_pos lss.length with hl0 | hl0
        · obtain ⟨aol, capl, hvl, _, _⟩ := (unhide hl).shape
          subst hvl
          rw [hl0]
          go_wp2
          refine wp_loop_rounds 1 ?_
          rw [rounds_succ]
          go_wp2
          go_ret
          exact ⟨rfl, hbR⟩
        · obtain ⟨b, off, cap, us, hvl, hc1, hc2, hcl, hsl⟩ := (unhide hl).place hl0
          have HCL := hide hcl
          have HSL := hide hsl
          subst hvl
          clear hcl hsl
          go_wp2
          go_loopw [18, 19] (fun vm i wr => ∃ (k : Nat), i = .int .i64 k ∧ k ≤ lss.length ∧ Mr wr w.heap.size vm ((lss.take k).map Spl.filt) ∧ Below w.heap.size w wr) (fun _ i _ => lss.length - (intOf i).toNat)
          case atStart => exact ⟨0, rfl, by omega, Mr.nil _ _, hbR⟩
          case round =>
            obtain ⟨k, rfl, hk, hmr, hbel⟩ := hrel
            obtain ⟨wo, hwo⟩ : ∃ wo, wo = wr := ⟨_, rfl⟩
            subst hwo
            clear hbR
            by_cases hlt : k < lss.length
            · have hck : ∀ wx, Below wo.heap.size wo wx → wx.cell? ⟨b, off + k, none⟩ = some (us.getD k undef) := by
                intro wx hb
                have h0 := (unhide HCL) k hlt
                have hb' := hbel.trans (hb.mono hbel.size)
                rw [hb'.cell (lt_of_cell? h0)]; exact h0
              have hsk := ((unhide HSL) k hlt).below hbel
              have hmp : (lss.take (k + 1)).map Spl.filt = (lss.take k).map Spl.filt ++ [Spl.filt (lss.getD k [])] := by rw [take_snoc lss k [] hlt]; simp
              have hrl : (lss.getD k []).length ≤ 1048576 := Nat.le_trans (Spl.row_le lss k) hlb
              have HMP := hide hmp
              have hlen : ((lss.take k).map Spl.filt).length ≤ 1048576 := by rw [List.length_map, List.length_take]; omega
              generalize hm0 : (lss.take k).map Spl.filt = ms0 at *
              clear hm0
              generalize lss.getD k [] = row at *
              have hcl0 := hck wo (Below.refl _ _)
              have HCK := hide hck
              obtain ⟨aor, capr, hvr, _, _⟩ := hsk.shape
              have HVR := hide hvr
              clear hmp hck hvr
              rcases Nat.eq_zero_or_pos row.length with hr0 | hr0
              · have hrow0 : row = [] := List.eq_nil_of_length_eq_zero hr0
                subst hrow0
                rw [unhide HVR] at hcl0
                obtain ⟨ms, hms1, hms2, hms3⟩ := hmr.open
                have hszw := hbel.size
                have hnil : Ok .i32 21 wo w.heap.size (.slice none 0 0) [] := Ok.nil _ _ _ _
                clear hmr hsk
                go_wp2
                refine wp_loop_rounds 1 ?_
                rw [rounds_succ]
                go_wp2_with (first
                  | (at_builtin; refine wpList_append_own _ rfl (.tmp 103) (.tmp 105) 23 rfl w.heap.size 22 j0 (.slice none 0 0) 1 24 Try.underlying23 hj hj0 hj1 hj2 rfl (by decide) _ _ _ rfl (hms2.alloc _) ⟨wo.heap.size, 0, none⟩ 1 1 [.slice none 0 0] rfl rfl (cell_one_new _ _ _) (slice_one _ _ _) (by unfold maxLen; omega) (by omega) (by simp; omega) ?_)
                  | go_in)
                intro v9 w9 hrow9 hg9 _
                have hm9 := Mr.snoc (by omega) hms1 hms2 hms3 hnil hrow9 hg9
                have hb9 : Below w.heap.size w w9 := below_append hszw hms2 hbel hg9
                clear hrow9 hg9 hms2 hms3 hnil hbel
                go_wp2
                go_roundw
                case rel => exact ⟨k + 1, by go_num, by omega, by rw [unhide HMP]; exact hm9, hb9⟩
                case measure => simp [intOf]; omega
              · obtain ⟨br, offr, capr2, hvr2, hcr1, hcr2, hcr⟩ := hsk.place hr0
                rw [hvr2] at hcl0
                have HCR : Hid (∀ wx, Below wo.heap.size wo wx → (∀ i, i < row.length → wx.cell? ⟨br, offr + i, none⟩ = some (.int .i32 (row.getD i 0))) ∧ wx.cell? ⟨b, off + k, none⟩ = some (.slice (some ⟨br, offr, none⟩) row.length capr2)) := by
                  intro wx hb
                  refine ⟨fun i hi => ?_, by rw [(unhide HCK) wx hb, hvr2]⟩
                  rw [hb.cell (lt_of_cell? (hcr i hi))]; exact hcr i hi
                have hfr := hide hsk.1
                have HMR := hide hmr
                clear hsk hcr hvr2 hmr HCK HVR
                go_wp2
                go_loopw [20, 21] (fun vy j wq => ∃ (q : Nat), j = .int .i64 q ∧ q ≤ row.length ∧ Ok .i32 21 wq wo.heap.size vy (Spl.filt (row.take q)) ∧ Below wo.heap.size wo wq) (fun _ j _ => row.length - (intOf j).toNat)
                case atStart => exact ⟨0, rfl, by omega, Ok.nil _ _ _ _, Below.refl _ _⟩
                case round =>
                  obtain ⟨q, rfl, hq, hoy, hbq⟩ := hrel
                  obtain ⟨hcq, hcc⟩ := (unhide HCR) _ hbq
                  have hszq := hbq.size
                  by_cases hlq : q < row.length
                  · have hcell := hcq q hlq
                    have hfs := Spl.filt_snoc (row.take q) (row.getD q 0)
                    rw [← take_snoc row q 0 hlq] at hfs
                    have hrg := (unhide hfr).i32at q
                    have hfl := Nat.le_trans (Spl.filt_len (row.take q)) (show (row.take q).length ≤ 1048576 by rw [List.length_take]; omega)
                    have HFS := hide hfs
                    generalize row.getD q 0 = c at *
                    generalize Spl.filt (row.take q) = fy at *
                    clear hcq hfs
                    by_cases h46 : c = 46
                    · have e46 : (c != 46) = false := by simp [h46]
                      have HF2 : Hid (Spl.filt (row.take (q + 1)) = fy) := by have := unhide HFS; rw [if_pos h46, List.append_nil] at this; exact this
                      clear h46 HFS
                      go_wp2
                      go_roundw
                      case rel => exact ⟨q + 1, by go_num, by omega, by rw [unhide HF2]; exact hoy, hbq⟩
                      case measure => simp [intOf]; omega
                    · have e46 : (c != 46) = true := by simp [h46]
                      have HF2 : Hid (Spl.filt (row.take (q + 1)) = fy ++ [c]) := by have := unhide HFS; rw [if_neg h46] at this; exact this
                      clear h46 HFS
                      go_wp2_with (first
                        | (at_builtin; refine wpList_append_own _ rfl (.tmp 93) (.tmp 101) 22 rfl wo.heap.size 21 i0 (.int .i32 0) 1 4 Try.underlying22 hi hz0 hz1 hz2 rfl (by decide) _ _ _ rfl (hoy.row.alloc _) ⟨wr.heap.size, 0, none⟩ 1 1 [.int .i32 c] rfl rfl (cell_one_new _ _ _) (int_one .i32 c) (by unfold maxLen; omega) (by omega) (by simp; omega) ?_)
                        | go_in)
                      intro v8 w8 hrow8 hg8 _
                      have hb8 : Below wo.heap.size wo w8 := below_append hszq hoy.row hbq hg8
                      have ok8 : Ok .i32 21 w8 wo.heap.size v8 (fy ++ [c]) := Ok.of (hoy.1.snoc (i32_fit hrg)) (by simp; omega) hrow8 (by simp) (by simp)
                      clear hrow8 hg8 hoy hbq
                      go_wp2
                      go_roundw
                      case rel => exact ⟨q + 1, by go_num, by omega, by rw [unhide HF2]; exact ok8, hb8⟩
                      case measure => simp [intOf]; omega
                  · obtain rfl : q = row.length := by omega
                    rw [List.take_length] at hoy
                    obtain ⟨ms, hms1, hms2, hms3⟩ := ((unhide HMR).below hbq).open
                    have hszw := hbel.size
                    have hoy2 := hoy.lower hszw
                    have hbw := hbel.trans (hbq.mono hszw)
                    obtain ⟨aoy, cpy, hvy, _, _⟩ := hoy.sk.shape
                    subst hvy
                    clear hoy HCR hbq hbel hcq HMR
                    go_wp2_with (first
                      | (at_builtin; refine wpList_append_own _ rfl (.tmp 103) (.tmp 105) 23 rfl w.heap.size 22 j0 (.slice none 0 0) 1 24 Try.underlying23 hj hj0 hj1 hj2 rfl (by decide) _ _ _ rfl (hms2.alloc _) ⟨wr.heap.size, 0, none⟩ 1 1 [.slice aoy (Spl.filt row).length cpy] rfl rfl (cell_one_new _ _ _) (slice_one _ _ _) (by unfold maxLen; omega) (by omega) (by simp; omega) ?_)
                      | go_in)
                    intro v9 w9 hrow9 hg9 _
                    have hm9 := Mr.snoc (by omega) hms1 hms2 hms3 hoy2 hrow9 hg9
                    have hb9 : Below w.heap.size w w9 := below_append (by omega) hms2 hbw hg9
                    clear hrow9 hg9 hms2 hms3 hoy2 hbw
                    go_wp2
                    go_roundw
                    case rel => exact ⟨k + 1, by go_num, by omega, by rw [unhide HMP]; exact hm9, hb9⟩
                    case measure => simp [intOf]; omega
            · obtain rfl : k = lss.length := by omega
              rw [List.take_length] at hmr
              have hml : (lss.map Spl.filt).length = lss.length := by simp
              have hrw := hmr.rws
              have HJ2 := hide (unhide KJ _ _ wo hrw (by
                have := Spl.total_filt lss
                omega))
              have hsj : Spl.split (Spl.join (lss.map Spl.filt)) = lss.map Spl.filt := Spl.split_join _ (by intro h; have := congrArg List.length h; rw [List.length_map, List.length_nil] at this; omega) (by
                intro p hp
                obtain ⟨x, _, rfl⟩ := List.mem_map.1 hp
                exact Spl.filt_no x)
              have hjl := Nat.le_trans (Spl.join_len (lss.map Spl.filt)) (Nat.add_le_add_right (Spl.total_filt lss) _)
              generalize lss.map Spl.filt = mss at *
              obtain ⟨aom, capm, hvm, _, _⟩ := hrw.shape
              subst hvm
              have hne : ¬ mss.length = 0 := by omega
              have hne2 : ((mss.length : Int) == 0) = false := beq_eq_false_iff_ne.2 (by omega)
              have hjl2 : (Spl.join mss).length ≤ 1000000000 := by omega
              clear hmr hml hjl
              go_wp2_with fail
              refine (unhide HJ2).mono ?_
              rintro e q1 ⟨vj, rfl, okj, hbj⟩
              have HS2 := hide (unhide KS vj _ q1 okj.sk (by omega))
              rw [hsj] at HS2
              have hb1 := hbel.trans (hbj.mono hbel.size)
              have hrw1 := hrw.below hbj
              clear HJ2 okj hbel hbj hrw
              go_wp2_with fail
              refine (unhide HS2).mono ?_
              rintro e q2 ⟨vs, rfl, hrs, hbs⟩
              have hb2 := hb1.trans (hbs.mono hb1.size)
              have HA := hide (sameAll_any vs _ mss mss q2 hrs (hrw1.below hbs))
              simp only [decide_true] at HA
              clear HS2 hrs hrw1 hb1 hbs
              go_wp2_with fail
              refine (unhide HA).mono ?_
              rintro e q3 ⟨rfl, hb3⟩
              have hb := hb2.trans (hb3.mono hb2.size)
              clear HA
              go_wp2
              go_ret
              exact ⟨rfl, hb⟩
end Go.Proofs.Ytchjnplceelgoab
