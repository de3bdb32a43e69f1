/- The contract of scalar's Join. -/
import Derived.Test.YtchjnplceelgoaaRows3
import Derived.Test.YtchjnplceelgoaaSameA
import Derived.Test.YtchjnplceelgoaaOwnW
namespace Go.Proofs.Ytchjnplceelgoaa
open Go.RowKit

set_option maxHeartbeats 2000000 in
theorem joinC : JoinC := by
  intro v lss w hv hl
  obtain ⟨i0, hi, hz0, hz1, hz2⟩ := info_parts Try.info21
  rcases Nat.eq_zero_or_pos lss.length with h0 | h0
  · have hj : Spl.join lss = [] := by rw [List.eq_nil_of_length_eq_zero h0]; rfl
    obtain ⟨ao, cap, rfl, _, _⟩ := hv.shape
    rw [hj, h0]
    go_enter Try.func28, Try.ntmps28
    go_wp2
    refine wp_loop_rounds 1 ?_
    rw [rounds_succ]
    go_wp2
    go_ret
    exact ⟨_, rfl, Ok.nil _ _ _ _, Below.refl _ _⟩
  · obtain ⟨b, off, cap, us, rfl, hc1, hc2, hc, hs⟩ := hv.place h0
    have HC := hide hc
    have HS := hide hs
    clear hv hc hs
    go_enter Try.func28, Try.ntmps28
    go_wp2
    go_loopw [3, 8] (fun vx i wr => ∃ (k : Nat), i = .int .i64 k ∧ k ≤ lss.length ∧ Ok .i32 21 wr w.heap.size vx (Spl.join (lss.take k)) ∧ Below w.heap.size w wr) (fun _ i _ => lss.length - (intOf i).toNat)
    case atStart => exact ⟨0, rfl, by omega, Ok.nil _ _ _ _, Below.refl _ _⟩
    case round =>
      obtain ⟨k, rfl, hk, hok, hbel⟩ := hrel
      by_cases hlt : k < lss.length
      · have hjt := hide (Spl.join_take lss k hlt)
        have hjl := Spl.join_take_len lss k
        have hjl2 := Spl.join_take_len lss (k + 1)
        have hrow := Spl.row_le lss k
        have hcell : ∀ wx, Below w.heap.size w wx → wx.cell? ⟨b, off + k, none⟩ = some (us.getD k undef) ∧ Sk .i32 wx (us.getD k undef) (lss.getD k []) := by
          intro wx hb
          have h1 := (unhide HC) k hlt
          exact ⟨by rw [hb.cell (lt_of_cell? h1)]; exact h1, ((unhide HS) k hlt).below hb⟩
        have HCell := hide hcell
        have hszw := hbel.size
        clear hcell
        rcases Nat.eq_zero_or_pos k with hk0 | hk0
        · subst hk0
          obtain ⟨c1, s1⟩ := (unhide HCell) wr hbel
          rw [Nat.add_zero] at c1
          have hjt' : Hid (Spl.join (lss.take 1) = lss.getD 0 []) := by have := unhide hjt; rw [if_pos rfl, List.nil_append] at this; exact this
          have hfit := hide s1.1
          have hnilj : Spl.join (lss.take 0) = [] := by simp [Spl.join]
          rw [hnilj] at hok
          generalize lss.getD 0 [] = row at *
          rcases s1.src with ⟨h1, h2⟩ | ⟨ad, cp, h2, hsrc⟩
          · rw [h2] at c1
            subst h1
            clear hjt HCell s1
            go_wp2_with (at_builtin; refine wpList_append_own_none rfl (.tmp 18) (.tmp 19) 22 rfl w.heap.size 21 i0 1 Try.underlying22 hi _ _ _ rfl hok.row rfl ?_)
            go_roundw
            case rel => exact ⟨1, by go_num, by omega, by rw [unhide hjt']; exact hok, hbel⟩
            case measure => simp [intOf]; omega
          · rw [h2] at c1
            clear hjt HCell s1
            go_wp2_with (at_builtin; refine wpList_append_own _ rfl (.tmp 18) (.tmp 19) 22 rfl w.heap.size 21 i0 (.int .i32 0) 1 4 Try.underlying22 hi hz0 hz1 hz2 rfl (by decide) _ _ _ rfl hok.row ad row.length cp (row.map (Value.int .i32)) rfl (by simp) hsrc (ints_one .i32 row) (by unfold maxLen; simp; omega) (by simp; omega) (by omega) ?_)
            intro v2 w2 hrow2 hg2 _
            have hb2 : Below w.heap.size w w2 := below_append0 hszw hok.row hbel hg2
            have ok2 : Ok .i32 21 w2 w.heap.size v2 row := Ok.of (unhide hfit) (by omega) hrow2 (by simp) (by simp)
            clear hok hrow2 hg2 hsrc hbel
            go_wp2
            go_roundw
            case rel => exact ⟨1, by go_num, by omega, by rw [unhide hjt']; exact ok2, hb2⟩
            case measure => simp [intOf]; omega
        · have hjt' : Hid (Spl.join (lss.take (k + 1)) = (Spl.join (lss.take k) ++ [46]) ++ lss.getD k []) := by have := unhide hjt; rw [if_neg (by omega)] at this; exact this
          have hlj : (Spl.join (lss.take k)).length + 1 + (lss.getD k []).length ≤ 1000000000 := by
            have h1 := unhide hjt'
            rw [h1] at hjl2
            simp only [List.length_append, List.length_cons, List.length_nil] at hjl2
            omega
          clear hjt
          generalize Spl.join (lss.take k) = acc at *
          have hcw := ((unhide HCell) wr hbel).1
          generalize us.getD k undef = rv at *
          go_wp2_with (at_builtin; refine wpList_append_own _ rfl (.tmp 15) (.tmp 16) 22 rfl w.heap.size 21 i0 (.int .i32 0) 1 4 Try.underlying22 hi hz0 hz1 hz2 rfl (by decide) _ _ _ rfl (hok.row.alloc _) ⟨wr.heap.size, 0, none⟩ 1 1 [.int .i32 46] rfl rfl (cell_one_new _ _ _) (int_one .i32 46) (by unfold maxLen; omega) (by omega) (by simp; omega) ?_)
          intro v2 w2 hrow2 hg2 _
          have hb2 : Below w.heap.size w w2 := below_append hszw hok.row hbel hg2
          have ok2 : Ok .i32 21 w2 w.heap.size v2 (acc ++ [46]) := Ok.of (hok.1.snoc (i32_fit (by omega))) (by simp; omega) hrow2 (by simp) (by simp)
          clear hok hrow2 hg2 hbel hcw
          obtain ⟨c1, s1⟩ := (unhide HCell) w2 hb2
          have hfit := hide s1.1
          have hsz2 := hb2.size
          generalize lss.getD k [] = row at *
          clear c1
          rcases s1.src with ⟨h1, h2⟩ | ⟨ad, cp, h2, hsrc⟩
          · subst h2
            subst h1
            clear HCell s1
            go_wp2_with (at_builtin; refine wpList_append_own_none rfl (.tmp 18) (.tmp 19) 22 rfl w.heap.size 21 i0 1 Try.underlying22 hi _ _ _ rfl ok2.row rfl ?_)
            go_roundw
            case rel => exact ⟨k + 1, by go_num, by omega, by rw [unhide hjt', List.append_nil]; exact ok2, hb2⟩
            case measure => simp [intOf]; omega
          · subst h2
            clear HCell s1
            have r2 := ok2.row
            have hl2 : (acc ++ [46]).length = acc.length + 1 := by simp
            generalize hag : acc ++ [46] = acc2 at *
            clear hag
            go_wp2_with (at_builtin; refine wpList_append_own _ rfl (.tmp 18) (.tmp 19) 22 rfl w.heap.size 21 i0 (.int .i32 0) 1 4 Try.underlying22 hi hz0 hz1 hz2 rfl (by decide) _ _ _ rfl r2 ad row.length cp (row.map (Value.int .i32)) rfl (by simp) hsrc (ints_one .i32 row) (by unfold maxLen; omega) (by omega) (by omega) ?_)
            intro v3 w3 hrow3 hg3 _
            have hb3 : Below w.heap.size w w3 := below_append0 hsz2 r2 hb2 hg3
            have ok3 : Ok .i32 21 w3 w.heap.size v3 (acc2 ++ row) := Ok.of (ok2.1.app (unhide hfit)) (by simp; omega) hrow3 (by rw [List.length_append]; omega) (by simp)
            clear ok2 hrow3 hg3 hsrc hb2 r2 hl2
            go_wp2
            go_roundw
            case rel => exact ⟨k + 1, by go_num, by omega, by rw [unhide hjt']; exact ok3, hb3⟩
            case measure => simp [intOf]; omega
      · obtain rfl : k = lss.length := by omega
        rw [List.take_length] at hok
        clear HC HS
        go_wp2
        go_ret
        exact ⟨_, rfl, hok, hbel⟩
end Go.Proofs.Ytchjnplceelgoaa
