/- The contract of the document's own Lines. -/
import Derived.Test.YtkdkmnohnhhojaaDoorRefW5
import Derived.Test.YtkdkmnohnhhojaaDoorScl
import Derived.Laws.AppendOwnNone
namespace Go.Proofs.YtkdkmnohnhhojaaDoor
open Go.RowKit

theorem Tryd.info9 : (Tryd.prog.info? 9).map (fun i => (i.zero, i.size, i.bytes)) = some (some (.string ⟨#[]⟩), 1, 16) := by kernel_rfl
theorem strOf_nums (s : ByteArray) : strOfNums (nums s) = s := nums_inj (nums_strOf (nums_byt s))
/-- The texts as values. -/
def txts (ls : List (List Int)) : List Value := ls.map fun l => Value.string (strOfNums l)
theorem txts_snoc (ls : List (List Int)) (s : ByteArray) {l : List Int} (h : nums s = l) : txts ls ++ [.string s] = txts (ls ++ [l]) := by
  rw [txts, txts, List.map_append, ← h, List.map_singleton, strOf_nums]
theorem string_one (s : ByteArray) : ∀ u ∈ [Value.string s], u.oneCell' = true := by intro u hu; simp at hu; subst hu; rfl
/-- Texts in memory of the call's own, what was there stays. -/
def TextsNew (w : World) (ls : List (List Int)) (e : Ending) (w' : World) : Prop := ∃ v, e = .returned v ∧ Ow 9 w' w.heap.size v (txts ls) ∧ Below w.heap.size w w'

set_option maxHeartbeats 1000000 in
theorem refLines_any (s : ByteArray) (w : World) (hs : s.size ≤ 1000000000) : Calls Tryd.prog 9 #[.string s] w (TextsNew w (Scn.lines (nums s))) := by
  obtain ⟨i0, hi, hz0, hz1, hz2⟩ := info_parts Tryd.info9
  have hlen := nums_length s
  have HAt : Hid (∀ k, k < s.size → ∀ w, (Instr.index 9 (.string s) (.int .i64 (k : Int))).run Tryd.prog w = .ok (.int .u8 ((nums s).getD k 0)) w) := fun k hk w => run_at s k k rfl hk w
  have HByt := hide (fun k => (nums_byt s).at k)
  go_enter Tryd.func9, Tryd.ntmps9
  go_wp2
  go_loopw [3, 4, 5] (fun vl fr i wr => ∃ (k a : Nat) (ls : List (List Int)), i = .int .i64 k ∧ fr = .int .i64 a ∧ a ≤ k ∧ k ≤ s.size ∧ wr.ownsRow w.heap.size 9 1 vl ls.length (txts ls) ∧ ls.length ≤ k ∧ Below w.heap.size w wr ∧ Scn.lines (nums s) = ls ++ Scn.linesA (Scn.cut (nums s) a k) ((nums s).drop k)) (fun _ _ i _ => s.size - (intOf i).toNat)
  case atStart => exact ⟨0, 0, [], rfl, rfl, by omega, by omega, World.ownsRow_nil _ _ _ _, by simp, Below.refl _ _, rfl⟩
  case round =>
    obtain ⟨k, a, ls, rfl, rfl, hak, hk, how, hll, hbel, hx⟩ := hrel
    have hB := hbel.size
    by_cases hlt : k < s.size
    · have hc0 := (unhide HAt) k hlt
      obtain ⟨c1, c2⟩ := (unhide HByt) k
      rw [Scn.linesA_step (by omega)] at hx
      by_cases h10 : (nums s).getD k 0 = 10
      · have HX : Hid (Scn.lines (nums s) = (ls ++ [nums (s.extract a k)]) ++ Scn.linesA (Scn.cut (nums s) (k + 1) (k + 1)) ((nums s).drop (k + 1))) := by
          show _ = _
          rw [hx, if_pos h10, Scn.cut_same, nums_cut, List.append_assoc]; rfl
        rw [h10] at hc0
        clear hx h10 c1 c2
        go_wp2_with (at_builtin; refine wpList_append_own _ rfl (.tmp 16) (.tmp 21) 22 rfl w.heap.size 9 i0 (.string ⟨#[]⟩) 1 16 Tryd.underlying22 hi hz0 hz1 hz2 rfl (by decide) _ _ _ rfl (how.alloc _) ⟨wr.heap.size, 0, none⟩ 1 1 [.string (s.extract a k)] rfl rfl (cell_one_new _ _ _) (string_one _) (by unfold maxLen; omega) (by omega) (by simp; omega) ?_)
        intro v9 w9 hrow9 hg9 _
        have hb9 : Below w.heap.size w w9 := below_append hB how hbel hg9
        rw [txts_snoc ls _ rfl] at hrow9
        have HR := hide hrow9
        clear hrow9 hg9 how hbel
        go_wp2
        go_roundw
        case rel => exact ⟨k + 1, k + 1, ls ++ [nums (s.extract a k)], by go_num, by go_num, by omega, by omega, by simpa using unhide HR, by simp; omega, hb9, unhide HX⟩
        case measure => simp [intOf]; omega
      · have HX : Hid (Scn.lines (nums s) = ls ++ Scn.linesA (Scn.cut (nums s) a (k + 1)) ((nums s).drop (k + 1))) := by
          show _ = _
          rw [hx, if_neg h10, Scn.cut_snoc hak (by omega)]
        have he : ((nums s).getD k 0 == 10) = false := beq_eq_false_iff_ne.2 h10
        clear hx h10
        generalize (nums s).getD k 0 = c at *
        go_wp2
        go_roundw
        case rel => exact ⟨k + 1, a, ls, by go_num, rfl, by omega, by omega, how, by omega, hbel, unhide HX⟩
        case measure => simp [intOf]; omega
    · obtain rfl : k = s.size := by omega
      have hd : (nums s).drop s.size = [] := List.drop_eq_nil_of_le (by omega)
      rw [hd, Scn.linesA] at hx
      by_cases ha : a < s.size
      · have hx2 : Scn.lines (nums s) = ls ++ [nums (s.extract a s.size)] := by
          rw [hx, if_neg, nums_cut]; · rfl
          intro h
          have := Scn.cut_length (l := nums s) (a := a) (b := s.size) (by omega) (by omega)
          rw [h] at this
          simp at this
          omega
        have HX := hide hx2
        clear hx hx2 hd
        go_wp2_with (at_builtin; refine wpList_append_own _ rfl (.tmp 29) (.tmp 33) 22 rfl w.heap.size 9 i0 (.string ⟨#[]⟩) 1 16 Tryd.underlying22 hi hz0 hz1 hz2 rfl (by decide) _ _ _ rfl (how.alloc _) ⟨wr.heap.size, 0, none⟩ 1 1 [.string (s.extract a s.size)] rfl rfl (cell_one_new _ _ _) (string_one _) (by unfold maxLen; omega) (by omega) (by simp; omega) ?_)
        intro v9 w9 hrow9 hg9 _
        have hb9 : Below w.heap.size w w9 := below_append hB how hbel hg9
        rw [txts_snoc ls _ rfl] at hrow9
        have HF : TextsNew w (Scn.lines (nums s)) (.returned v9) w9 := by
          rw [unhide HX]
          exact ⟨v9, rfl, ⟨by simp [txts]; omega, by simpa [txts] using hrow9⟩, hb9⟩
        clear hrow9 hg9 how hbel
        go_wp2
        go_ret
        exact HF
      · have hx2 : Scn.lines (nums s) = ls := by
          obtain rfl : a = s.size := by omega
          rw [hx, Scn.cut_same, if_pos rfl, List.append_nil]
        have HF : TextsNew w (Scn.lines (nums s)) (.returned u3) wr := by
          rw [hx2]
          exact ⟨u3, rfl, ⟨by simp [txts]; omega, by simpa [txts] using how⟩, hbel⟩
        clear hx hx2 hd how hbel
        go_wp2
        go_ret
        exact HF
end Go.Proofs.YtkdkmnohnhhojaaDoor
