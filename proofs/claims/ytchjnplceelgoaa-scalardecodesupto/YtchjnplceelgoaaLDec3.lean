/- The law ScalarDecodes, out of the contracts. -/
import Derived.Test.YtchjnplceelgoaaTold3
import Derived.Test.YtchjnplceelgoaaRefD2
import Derived.Test.YtchjnplceelgoaaOwnW
namespace Go.Proofs.Ytchjnplceelgoaa
open Go.RowKit

set_option maxHeartbeats 4000000 in
theorem scalarDecodes_any (HD : DecC) (HE : EncC) (HV : ValC) (HS : SplC) (s : ByteArray) (w : World) (hs : s.size ≤ 1048576) :
    Calls Try.prog 3 #[.string s] w (Tells w true) := by
  obtain ⟨i0, hi, hz0, hz1, hz2⟩ := info_parts Try.info21
  have HT := fun w => hide (told_any HD HE HV HS w)
  have H1 := fun w => hide (HD s w (by omega))
  have H2 := fun w => hide (refDecode_any s w (by omega))
  have hsh := Utf.dec_shape _ 0 (nums s) (Nat.le_refl _)
  rw [nums_length] at hsh
  have hln : (Utf.dec 0 (nums s)).1.length ≤ 1048576 := by
    rcases hsh with h | ⟨q, h, _⟩
    · omega
    · rw [h]; simp
  clear hsh HD HE HV HS
  generalize Utf.dec 0 (nums s) = r at *
  obtain ⟨a, p, er⟩ := r
  simp only at hln
  go_enter Try.func3, Try.ntmps3
  go_wp2_with fail
  refine (unhide (H1 _)).mono ?_
  rintro e w1 ⟨v1, rfl, ok1, hb1⟩
  have hlt1 := hide (fun k hk => ok1.row.lt k hk)
  have hs01 := hb1.size
  go_wp2_with fail
  refine (unhide (H2 _)).mono ?_
  rintro e w2 ⟨v2, rfl, ok2, hb2⟩
  have ok1 := ok1.below hb2
  have hb02 := bthen hb1 hb2
  go_wp2_with fail
  refine (unhide (H1 _)).mono ?_
  rintro e w3 ⟨v3, rfl, ok3, hb3⟩
  have ok1 := ok1.below hb3
  have ok2 := ok2.below hb3
  have hb03 := bthen hb02 hb3
  have hs12 : w1.heap.size ≤ w2.heap.size := hb2.size
  clear H1 H2 hb02 hb3 hb2
  go_wp2_with fail
  refine (unhide (HT _)).mono ?_
  rintro e w4 ⟨rfl, hb4⟩
  have ok1 := ok1.below hb4
  have ok2 := ok2.below hb4
  have ok3 := ok3.below hb4
  have hb04 := bthen hb03 hb4
  clear HT hb03 hb4
  have HSm := hide (same_any v1 v2 a a w4 ok1.sk ok2.sk)
  simp only [decide_true] at HSm
  go_wp2_with fail
  refine (unhide HSm).mono ?_
  rintro e w5 ⟨rfl, hb5⟩
  have ok1 := ok1.below hb5
  have ok2 := ok2.below hb5
  have ok3 := ok3.below hb5
  have hb05 := bthen hb04 hb5
  clear HSm hb04 hb5
  have hfin : ∀ (wr : World) (us : List Value), wr.ownsRow w.heap.size 21 1 v1 a.length us → Ok .i32 21 wr w1.heap.size v2 a → Ok .i32 21 wr w2.heap.size v3 a → Below w.heap.size w wr →
      ∀ (v9 : Value) (w9 : World) (o : Obj), (wr.alloc o).grownBy w9 v1.ownBlock → Calls Try.prog 12 #[v3, v2] w9 (Tells w9 true) ∧ Below w.heap.size w w9 := by
    intro wr us h1 h2 h3 hb v9 w9 o hg
    have k2 := h2.kept hg (fun k hk => ((unhide hlt1) k hk).2)
    have k3 := h3.kept hg (fun k hk => Nat.lt_of_lt_of_le ((unhide hlt1) k hk).2 hs12)
    refine ⟨?_, below_append hb.size h1 hb hg⟩
    have := same_any v3 v2 a a w9 k3.sk k2.sk
    simpa using this
  obtain ⟨ao2, cap2, hv2, _, _⟩ := ok2.sk.shape
  have row1 := ok1.row
  have hml : (a.map (Value.int .i32)).length = a.length := by simp
  generalize a.map (Value.int .i32) = us0 at *
  rcases Nat.eq_zero_or_pos a.length with h0 | h0
  · have hfn := hide (hfin w5 us0 row1 ok2 ok3 hb05)
    have hsz := hb05.size
    obtain ⟨ao1, cap1, hv1, _, _⟩ := ok1.sk.shape
    have ha : a = [] := List.eq_nil_of_length_eq_zero h0
    subst ha; subst hv1; subst hv2
    clear hfin ok1 ok2 ok3 hb05
    go_wp2
    refine wp_loop_rounds 1 ?_
    rw [rounds_succ]
    go_wp2_with (first
      | (at_builtin; refine wpList_append_own_w _ rfl (.tmp 59) (.tmp 60) 22 rfl w.heap.size 21 i0 (.int .i32 0) 1 4 Try.underlying22 hi hz0 hz1 hz2 rfl (by decide) _ _ _ rfl (row1.alloc _) ⟨w5.heap.size, 0, none⟩ 1 1 [.int .i32 (-1)] rfl rfl (cell_one_new _ _ _) (int_one .i32 _) (by unfold maxLen; omega) (by omega) (by simp; omega) ?_)
      | go_in)
    intro v9 w9 hrow9 hg9 _
    obtain ⟨g9, c9, hv9, _, _⟩ := own_shape hrow9 (by omega)
    obtain ⟨hS, hb9⟩ := (unhide hfn) v9 w9 _ hg9
    have HSm := hide hS
    subst hv9
    clear hS hfn hrow9 hg9 row1
    go_wp2_with fail
    refine (unhide HSm).mono ?_
    rintro e w10 ⟨rfl, hb10⟩
    have hb := hb9.trans (hb10.mono hb9.size)
    clear HSm
    go_wp2
    go_ret
    exact ⟨rfl, hb⟩
  · obtain ⟨g, cap1, hv1, hc1, hc2⟩ := own_shape row1 h0
    have hfin := hide hfin
    subst hv1
    have hg1 := (unhide hlt1) g rfl
    have HV2 := hide hv2
    clear hv2 ok1
    go_wp2
    go_loopw [13] (fun i wr => ∃ (k : Nat) (us : List Value), i = .int .i64 k ∧ k ≤ a.length ∧ us.length = a.length ∧ wr.ownsRow w.heap.size 21 1 (.slice (some ⟨g, 0, none⟩) a.length cap1) a.length us ∧ Ok .i32 21 wr w1.heap.size v2 a ∧ Ok .i32 21 wr w2.heap.size v3 a ∧ Below w.heap.size w wr) (fun i _ => a.length - (intOf i).toNat)
    case atStart => exact ⟨0, us0, rfl, by omega, hml, row1, ok2, ok3, hb05⟩
    case round =>
      obtain ⟨k, us, rfl, hk, hul, hrow, hy, hz, hbel⟩ := hrel
      by_cases hlt : k < a.length
      · have hcell : wr.cell? ⟨g, k, none⟩ = some (us.getD k undef) := by
          rw [hrow.cellAt k (by omega)]
          simp [List.getD, show k < us.length by omega]
        have hfz := hrow.frozenAt k
        have ST := hrow.stored k (.int .i32 (-1))
        have R1 := ST.1
        have R2 := hy.set (a := ⟨g, k, none⟩) (show g < w1.heap.size from hg1.2) (.int .i32 (-1))
        have R3 := hz.set (a := ⟨g, k, none⟩) (show g < w2.heap.size by omega) (.int .i32 (-1))
        have R4 : Below w.heap.size w (wr.setCell ⟨g, k, none⟩ (.int .i32 (-1))) := hbel.setCell (by exact hg1.1) _
        clear ST hrow hy hz hbel row1 ok2 ok3 hb05
        generalize us.getD k undef = uu at *
        go_wp2
        go_roundw
        case rel => exact ⟨k + 1, _, by go_num, by omega, by rw [List.length_set]; exact hul, R1, R2, R3, R4⟩
        case measure => simp [intOf]; omega
      · have hsz := hbel.size
        have hfn := hide ((unhide hfin) wr us hrow hy hz hbel)
        clear hfin row1 ok2 ok3 hb05
        obtain rfl := unhide HV2
        clear HV2
        go_wp2_with (first
          | (at_builtin; refine wpList_append_own_w _ rfl (.tmp 59) (.tmp 60) 22 rfl w.heap.size 21 i0 (.int .i32 0) 1 4 Try.underlying22 hi hz0 hz1 hz2 rfl (by decide) _ _ _ rfl (hrow.alloc _) ⟨wr.heap.size, 0, none⟩ 1 1 [.int .i32 (-1)] rfl rfl (cell_one_new _ _ _) (int_one .i32 _) (by unfold maxLen; omega) (by omega) (by simp; omega) ?_)
          | go_in)
        intro v9 w9 hrow9 hg9 _
        obtain ⟨g9, c9, hv9, _, _⟩ := own_shape hrow9 (by omega)
        obtain ⟨hS, hb9⟩ := (unhide hfn) v9 w9 _ hg9
        have HSm := hide hS
        subst hv9
        clear hS hfn hrow9 hg9 hrow hy hz hbel
        go_wp2_with fail
        refine (unhide HSm).mono ?_
        rintro e w10 ⟨rfl, hb10⟩
        have hb := hb9.trans (hb10.mono hb9.size)
        clear HSm
        go_wp2
        go_ret
        exact ⟨rfl, hb⟩
end Go.Proofs.Ytchjnplceelgoaa
