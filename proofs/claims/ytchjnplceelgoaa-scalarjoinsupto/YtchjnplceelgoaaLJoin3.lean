/- The law ScalarJoins, out of the contracts. -/
import Derived.Test.YtchjnplceelgoaaTold3
import Derived.Test.YtchjnplceelgoaaParts3
import Derived.Test.YtchjnplceelgoaaRefJ3
namespace Go.Proofs.Ytchjnplceelgoaa
open Go.RowKit

set_option maxHeartbeats 8000000 in
theorem scalarJoins_any (HD : DecC) (HE : EncC) (HV : ValC) (HS : SplC) (HJ : JoinC) (vl : Value) (lss : List (List Int)) (w : World) (hl : Rws w vl lss) (hlb : Spl.total lss ≤ 1048576) (hln : lss.length ≤ 1048576) :
    Calls Try.prog 6 #[vl] w (Tells w true) := by
  obtain ⟨i0, hi, hz0, hz1, hz2⟩ := info_parts Try.info21
  obtain ⟨j0, hj, hj0, hj1, hj2⟩ := info_parts Try.info22
  have HT := fun w => hide (told_any HD HE HV HS w)
  have KJ := hide HJ
  have hls := hide hl
  clear HD HE HV HS HJ
  rcases Nat.eq_zero_or_pos lss.length with h0 | h0
  · obtain ⟨ao, cap, rfl, _, _⟩ := hl.shape
    have hle : lss = [] := List.eq_nil_of_length_eq_zero h0
    subst hle
    have H1 := fun w => hide (unhide KJ (.slice none 0 0) [] w (Rws.nil w) (by simp [Spl.total]))
    clear KJ hl
    go_enter Try.func6, Try.ntmps6
    go_wp2
    refine wp_loop_rounds 1 ?_
    rw [rounds_succ]
    go_wp2_with fail
    refine (unhide (H1 _)).mono ?_
    rintro e w1 ⟨v1, rfl, ok1, hb1⟩
    clear H1
    go_wp2_with fail
    refine (unhide (HT _)).mono ?_
    rintro e w2 ⟨rfl, hb2⟩
    have ok1 := ok1.below hb2
    have hb02 := bthen hb1 hb2
    have H2 := hide (refJoin_any _ [] w2 ((unhide hls).below hb02) (by simp [Spl.total]))
    clear HT hb1 hb2
    go_wp2_with fail
    refine (unhide H2).mono ?_
    rintro e w3 ⟨v3, rfl, ok3, hb3⟩
    have ok1 := ok1.below hb3
    have hb03 := bthen hb02 hb3
    have HSm := hide (same_any v1 v3 _ _ w3 ok1.sk ok3.sk)
    simp only [decide_true] at HSm
    obtain ⟨ao1, cap1, hv1, _, _⟩ := ok1.sk.shape
    subst hv1
    clear H2 ok1 ok3 hb02 hb3
    go_wp2_with fail
    refine (unhide HSm).mono ?_
    rintro e w4 ⟨rfl, hb4⟩
    have hb04 := bthen hb03 hb4
    clear HSm hb03 hb4
    go_wp2
    refine wp_loop_rounds 1 ?_
    rw [rounds_succ]
    go_wp2
    refine wp_loop_rounds 1 ?_
    rw [rounds_succ]
    go_wp2
    go_ret
    exact ⟨rfl, hb04⟩
  · obtain ⟨b, off, cap, us, rfl, hc1, hc2, hc, hs⟩ := hl.place h0
    have HC : Hid (∀ wx, Below w.heap.size w wx → ∀ i, i < lss.length → wx.cell? ⟨b, off + i, none⟩ = some (us.getD i undef) ∧ Sk .i32 wx (us.getD i undef) (lss.getD i [])) := by
      intro wx hb i hi
      exact ⟨by rw [hb.cell (lt_of_cell? (hc i hi))]; exact hc i hi, (hs i hi).below hb⟩
    clear hl hc hs
    go_enter Try.func6, Try.ntmps6
    go_wp2
    go_loopw [3, 4] (fun vi i wr => ∃ (k : Nat), i = .int .i64 k ∧ k ≤ lss.length ∧ Ps wr w.heap.size vi (lss.take k) ∧ Below w.heap.size w wr) (fun _ i _ => lss.length - (intOf i).toNat)
    case atStart => exact ⟨0, rfl, by omega, Ps.nil _ _, Below.refl _ _⟩
    case round =>
      obtain ⟨k, rfl, hk, hps, hbel⟩ := hrel
      by_cases hlt : k < lss.length
      · obtain ⟨c1, s1⟩ := (unhide HC) _ hbel k hlt
        have hrl := Spl.row_le lss k
        have hts := hide (take_snoc lss k [] hlt)
        have HR := hide (roomy_any _ _ wr s1 (by omega))
        have hszw := hbel.size
        obtain ⟨aor, capr, hvr, _, _⟩ := s1.shape
        rw [hvr] at c1 HR
        generalize lss.getD k [] = row at *
        clear s1 hvr
        go_wp2_with fail
        refine (unhide HR).mono ?_
        rintro e w1 ⟨g, cp, rfl, hok, hcp1, hcp2, hb1⟩
        have hps1 := hps.below hb1
        have hbw := hbel.trans (hb1.mono hszw)
        have hsz1 := hb1.size
        have hrm : Rm w1 w.heap.size (.slice (some ⟨g, 0, none⟩) row.length cp) row := ⟨g, cp, rfl, hok.lower hszw, hcp1, hcp2⟩
        obtain ⟨ms, hms1, hms2, hms3⟩ := hps1
        have hlen : (lss.take k).length ≤ 1048576 := by rw [List.length_take]; omega
        clear HR hps hok hb1 hbel
        generalize lss.take k = ls0 at *
        go_wp2_with (first
          | (at_builtin; refine wpList_append_own _ rfl (.tmp 14) (.tmp 20) 40 rfl w.heap.size 22 j0 (.slice none 0 0) 1 24 Try.underlying40 hj hj0 hj1 hj2 rfl (by decide) _ _ _ rfl (hms2.alloc _) ⟨w1.heap.size, 0, none⟩ 1 1 [.slice (some ⟨g, 0, none⟩) row.length cp] rfl rfl (cell_one_new _ _ _) (slice_one _ _ _) (by unfold maxLen; omega) (by omega) (by simp; omega) ?_)
          | go_in)
        intro v9 w9 hrow9 hg9 _
        have hm9 := Ps.snoc hms1 hms2 hms3 hrm hrow9 hg9
        have hb9 : Below w.heap.size w w9 := below_append (by omega) hms2 hbw hg9
        clear hrow9 hg9 hms2 hms3 hrm hbw
        go_wp2
        go_roundw
        case rel => exact ⟨k + 1, by go_num, by omega, by rw [unhide hts]; exact hm9, hb9⟩
        case measure => simp [intOf]; omega
      · obtain rfl : k = lss.length := by omega
        rw [List.take_length] at hps
        obtain ⟨wi, hwi⟩ : ∃ wi, wi = wr := ⟨_, rfl⟩
        subst hwi
        have H1 := hide (unhide KJ _ lss wi (hps.rws (by omega)) (by omega))
        clear KJ
        go_wp2_with fail
        refine (unhide H1).mono ?_
        rintro e w1 ⟨v1, rfl, ok1, hb1⟩
        have hlt1 := hide (fun k hk => ok1.row.lt k hk)
        clear H1
        go_wp2_with fail
        refine (unhide (HT _)).mono ?_
        rintro e w2 ⟨rfl, hb2⟩
        have ok1 := ok1.below hb2
        have hb02 := bthen hb1 hb2
        have hbw2 := hbel.trans (hb02.mono hbel.size)
        have H2 := hide (refJoin_any _ lss w2 ((unhide hls).below hbw2) (by omega))
        clear HT hb1 hb2
        go_wp2_with fail
        refine (unhide H2).mono ?_
        rintro e w3 ⟨v3, rfl, ok3, hb3⟩
        have ok1 := ok1.below hb3
        have hb03 := bthen hb02 hb3
        have HSm := hide (same_any v1 v3 _ _ w3 ok1.sk ok3.sk)
        simp only [decide_true] at HSm
        clear H2 ok3 hb02 hb3 hbw2
        go_wp2_with fail
        refine (unhide HSm).mono ?_
        rintro e w4 ⟨rfl, hb4⟩
        have ok1 := ok1.below hb4
        have hb04 := bthen hb03 hb4
        clear HSm hb03 hb4
        have hjl := Spl.join_len lss
        have row1 := ok1.row
        obtain ⟨ao1, cap1, hv1, _, _⟩ := ok1.sk.shape
        subst hv1
        clear ok1
        have hml : ((Spl.join lss).map (Value.int .i32)).length = (Spl.join lss).length := by simp
        generalize (Spl.join lss).map (Value.int .i32) = us0 at *
        generalize Spl.join lss = jn at *
        go_wp2
        go_loopw [6] (fun i wr => ∃ (k : Nat) (xs : List Value), i = .int .i64 k ∧ k ≤ jn.length ∧ xs.length = jn.length ∧ wr.ownsRow wi.heap.size 21 1 (.slice ao1 jn.length cap1) jn.length xs ∧ Below wi.heap.size wi wr) (fun i _ => jn.length - (intOf i).toNat)
        case atStart => exact ⟨0, us0, rfl, by omega, hml, row1, hb04⟩
        case round =>
          obtain ⟨q, xs, rfl, hq, hxl, hrow, hbq⟩ := hrel
          by_cases hlq : q < jn.length
          · obtain ⟨g1, c1', hv1, _, _⟩ := own_shape hrow (by omega)
            simp only [Value.slice.injEq, true_and] at hv1
            obtain ⟨rfl, rfl⟩ := hv1
            have hg1 := (unhide hlt1) g1 rfl
            have hcell : wr.cell? ⟨g1, q, none⟩ = some (xs.getD q undef) := by
              rw [hrow.cellAt q (by omega)]
              simp [List.getD, show q < xs.length by omega]
            have hfz := hrow.frozenAt q
            have ST := hrow.stored q (.int .i32 (-9))
            have R1 := ST.1
            have R4 : Below wi.heap.size wi (wr.setCell ⟨g1, q, none⟩ (.int .i32 (-9))) := hbq.setCell (by exact hg1.1) _
            clear ST hrow hbq row1
            generalize xs.getD q undef = uu at *
            go_wp2
            go_roundw
            case rel => exact ⟨q + 1, _, by go_num, by omega, by rw [List.length_set]; exact hxl, R1, R4⟩
            case measure => simp [intOf]; omega
          · have hps2 := hps.below hbq
            have hbw := hbel.trans (hbq.mono hbel.size)
            clear hps hbq hrow row1 hb04 hxl
            obtain ⟨gi, ci, ui, hvi, hci, hcel⟩ := hps2.cell h0
            have HI : Hid (∀ wx, Below wr.heap.size wr wx → ∀ i, i < lss.length → wx.cell? ⟨gi, i, none⟩ = some (ui.getD i undef) ∧ Rm wx w.heap.size (ui.getD i undef) (lss.getD i [])) := by
              intro wx hb i hi
              exact ⟨by rw [hb.cell (lt_of_cell? (hcel i hi).1)]; exact (hcel i hi).1, (hcel i hi).2.below hb⟩
            subst hvi
            obtain ⟨wj, hwj⟩ : ∃ wj, wj = wr := ⟨_, rfl⟩
            subst hwj
            clear hcel hps2
            go_wp2
            go_loopw [7] (fun i wr => ∃ (k : Nat), i = .int .i64 k ∧ k ≤ lss.length ∧ Below wj.heap.size wj wr) (fun i _ => lss.length - (intOf i).toNat)
            case atStart => exact ⟨0, rfl, by omega, Below.refl _ _⟩
            case round =>
              obtain ⟨k, rfl, hk, hbk⟩ := hrel
              have hbk2 := hbw.trans (hbk.mono hbw.size)
              by_cases hlk : k < lss.length
              · obtain ⟨c1, r1⟩ := (unhide HI) _ hbk k hlk
                obtain ⟨c2, s2⟩ := (unhide HC) _ hbk2 k hlk
                have hrl := Spl.row_le lss k
                generalize lss.getD k [] = row at *
                obtain ⟨g5, cp5, hu5, ok5, h51, h52⟩ := r1
                rw [hu5] at c1
                have HW := fun n => hide (whole_q g5 cp5 _ row (wr.drewN n) (s2.below (below_drewN (Below.refl _ _) n)) (by omega) h51 h52 (ok5.sk.below (below_drewN (Below.refl _ _) n)))
                obtain ⟨ao6, cp6, hu6, _, _⟩ := s2.shape
                rw [hu6] at c2 HW
                clear ok5 s2 hu5 hu6
                go_wp2
                go_quiet (first | (go_at_call 24; exact Calls.quiet_of (unhide (HW _))))
                go_wp2
                go_roundw
                case rel => exact ⟨k + 1, by go_num, by omega, below_drewN hbk nq⟩
                case measure => simp [intOf]; omega
              · go_wp2
                go_ret
                exact ⟨rfl, hbk2⟩
end Go.Proofs.Ytchjnplceelgoaa
