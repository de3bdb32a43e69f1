/- The contract of the document's own Words. -/
import Derived.Test.YtkdkmnohnhhojaaDoorRefY5
namespace Go.Proofs.YtkdkmnohnhhojaaDoor
open Go.RowKit

set_option maxRecDepth 4000 in
set_option maxHeartbeats 2000000 in
theorem refWords_any (s : ByteArray) (w : World) (hs : s.size ≤ 1000000000) : Calls Tryd.prog 13 #[.string s] w (WordsNew 53 w (Scn.words (nums s)) (Scn.endA (nums s))) := by
  obtain ⟨i0, hi, hz0, hz1, hz2⟩ := info_parts Tryd.info53
  have hlen := nums_length s
  have HAt : Hid (∀ k, k < s.size → ∀ w, (Instr.index 9 (.string s) (.int .i64 (k : Int))).run Tryd.prog w = .ok (.int .u8 ((nums s).getD k 0)) w) := fun k hk w => run_at s k k rfl hk w
  have HByt := hide (fun k => (nums_byt s).at k)
  have HH := fun (c : Int) w h => hide (refBlank_any c w h)
  generalize hws : Scn.words (nums s) = res at *
  have HWS := hide hws
  clear hws
  go_enter Tryd.func13, Tryd.ntmps13
  go_wp2
  go_loop [4] (fun i => ∃ (k : Nat), i = .int .i64 k ∧ k ≤ s.size ∧ Scn.endA (nums s) = k + Scn.endA ((nums s).drop k)) (fun i => s.size - (intOf i).toNat)
  case atStart => exact ⟨0, rfl, by omega, by simp⟩
  case round =>
    obtain ⟨k, rfl, hk, hx⟩ := hrel
    by_cases hlt : k < s.size
    · have hc0 := (unhide HAt) k hlt
      obtain ⟨c1, c2⟩ := (unhide HByt) k
      rw [Scn.endA_step (by omega)] at hx
      by_cases h35 : (nums s).getD k 0 = 35
      · have hend : Scn.endA (nums s) = k := by rw [hx, if_pos h35]; rfl
        rw [h35] at hc0
        clear h35 c1 c2 hx
        have hbl : ((nums s).take k).length = k := by simp; omega
        have HW : Hid (res = Scn.wordsA 0 [] (((nums s).take k).drop 0)) := by
          show _ = _
          rw [← unhide HWS, Scn.words, hend]; rfl
        have HE := hide hend
        clear hend HWS
        go_wp2
        clear hc0
        go_loopw [5, 6] (fun vl i wr => ∃ (j : Nat) (ws : List (List Int × Nat)), i = .int .i64 j ∧ j ≤ k ∧ wr.ownsRow w.heap.size 53 2 vl ws.length (wvals ws) ∧ ws.length ≤ j ∧ Below w.heap.size w wr ∧ res = ws ++ Scn.wordsA j [] (((nums s).take k).drop j)) (fun _ i _ => k - (intOf i).toNat)
        case atStart => exact ⟨0, [], rfl, by omega, World.ownsRow_nil _ _ _ _, by simp, Below.refl _ _, unhide HW⟩
        case round =>
          obtain ⟨j, ws, rfl, hjk, how, hwl, hbel, hx⟩ := hrel
          have hB := hbel.size
          clear HW
          by_cases hlj : j < k
          · have hc0 := (unhide HAt) j (by omega)
            have hb := (unhide HByt) j
            have HK := HH _ wr hb
            obtain ⟨c1, c2⟩ := hb
            have ht := Scn.take_at (l := nums s) hlj
            by_cases hbk : Scn.isBlank ((nums s).getD j 0) = true
            · have HX : Hid (res = ws ++ Scn.wordsA (j + 1) [] (((nums s).take k).drop (j + 1))) := by
                show _ = _
                rw [hx, Scn.wordsA_blank (by rw [hbl]; exact hlj) (by rw [ht]; exact hbk)]
              rw [hbk] at HK
              clear hx ht hbk HH
              generalize (nums s).getD j 0 = c at *
              go_wp2_with fail
              refine (unhide HK).mono ?_
              rintro e' w1 ⟨rfl, hw1⟩
              subst w1
              clear HK hc0
              go_wp2
              go_roundw
              case rel => exact ⟨j + 1, ws, by go_num, by omega, how, by omega, hbel, unhide HX⟩
              case measure => simp [intOf]; omega
            · have hbf : Scn.isBlank ((nums s).getD j 0) = false := by simpa using hbk
              rw [hbf] at HK
              have HX : Hid (res = ws ++ Scn.wordsA j (Scn.cut ((nums s).take k) j j) (((nums s).take k).drop j)) := by
                show _ = _
                rw [hx, Scn.cut_same]
              have HBF := hide hbf
              clear hx ht hbk hbf
              generalize hcg : (nums s).getD j 0 = c at hc0 HK c1 c2
              clear hcg
              go_wp2_with fail
              refine (unhide HK).mono ?_
              rintro e' w1 ⟨rfl, hw1⟩
              subst w1
              clear HK hc0 c1 c2
              go_wp2
              go_loop [6] (fun i => ∃ (m : Nat), i = .int .i64 m ∧ j ≤ m ∧ m ≤ k ∧ res = ws ++ Scn.wordsA m (Scn.cut ((nums s).take k) j m) (((nums s).take k).drop m)) (fun i => k - (intOf i).toNat)
              case atStart => exact ⟨j, rfl, Nat.le_refl _, by omega, unhide HX⟩
              case round =>
                obtain ⟨m, rfl, hjm0, hmk, hm⟩ := hrel
                clear HX
                by_cases hlm : m < k
                · have hc0 := (unhide HAt) m (by omega)
                  have hb := (unhide HByt) m
                  have HK := HH _ wr hb
                  obtain ⟨c1, c2⟩ := hb
                  have ht := Scn.take_at (l := nums s) hlm
                  by_cases hbk : Scn.isBlank ((nums s).getD m 0) = true
                  · have hjm : j < m := by
                      rcases Nat.lt_or_ge j m with h | h
                      · exact h
                      · obtain rfl : m = j := by omega
                        rw [unhide HBF] at hbk; cases hbk
                    have hbk2 : Scn.isBlank (((nums s).take k).getD m 0) = true := by rw [ht]; exact hbk
                    rw [hbk] at HK
                    clear ht hbk HBF HH
                    generalize hcg : (nums s).getD m 0 = c at hc0 HK c1 c2
                    clear hcg
                    go_wp2_with fail
                    refine (unhide HK).mono ?_
                    rintro e' w1 ⟨rfl, hw1⟩
                    subst w1
                    clear HK hc0 c1 c2
                    have HD : Hid (res = (ws ++ [(nums (s.extract j m), j)]) ++ Scn.wordsA m [] (((nums s).take k).drop m)) := by
                      show _ = _
                      rw [hm, Scn.wordsA_done hjm (by rw [hbl]; omega) (fun _ => hbk2), Scn.cut_take hmk, nums_cut, List.append_assoc]; rfl
                    clear hm hbk2
                    go_wp2_with (at_builtin; refine wpList_append_own _ rfl (.tmp 42) (.tmp 49) 29 rfl w.heap.size 53 i0 (.agg #[.string ⟨#[]⟩, .int .i64 0]) 2 24 Tryd.underlying29 hi hz0 hz1 hz2 rfl (by decide) _ _ _ rfl (how.alloc _) ⟨wr.heap.size, 0, none⟩ 1 1 [.string (s.extract j m), .int .i64 (j : Int)] rfl rfl (word_new _ _ _ _) (word_one _ _) (by unfold maxLen; omega) (by omega) (by simp; omega) ?_)
                    intro v9 w9 hrow9 hg9 _
                    have hb9 : Below w.heap.size w w9 := below_append2 hB how hbel hg9
                    rw [wvals_snoc ws _ j rfl] at hrow9
                    have HR := hide hrow9
                    clear hrow9 hg9 how hbel
                    go_wp2
                    go_roundw
                    case rel => exact ⟨m, ws ++ [(nums (s.extract j m), j)], rfl, by omega, by simpa using unhide HR, by simp; omega, hb9, unhide HD⟩
                    case measure => simp [intOf]; omega
                  · have hbf : Scn.isBlank ((nums s).getD m 0) = false := by simpa using hbk
                    have HX : Hid (res = ws ++ Scn.wordsA (m + 1) (Scn.cut ((nums s).take k) j (m + 1)) (((nums s).take k).drop (m + 1))) := by
                      show _ = _
                      rw [hm, Scn.wordsA_go hjm0 (by rw [hbl]; exact hlm) (by rw [ht]; exact hbf)]
                    rw [hbf] at HK
                    clear hm ht hbk hbf HBF HH
                    generalize (nums s).getD m 0 = c at *
                    go_wp2_with fail
                    refine (unhide HK).mono ?_
                    rintro e' w1 ⟨rfl, hw1⟩
                    subst w1
                    clear HK hc0
                    go_wp2
                    go_round
                    case rel => exact ⟨m + 1, by go_num, by omega, by omega, unhide HX⟩
                    case measure => simp [intOf]; omega
                · have hjm : j < m := by omega
                  clear HBF HH
                  have HD : Hid (res = (ws ++ [(nums (s.extract j m), j)]) ++ Scn.wordsA m [] (((nums s).take k).drop m)) := by
                    show _ = _
                    rw [hm, Scn.wordsA_done hjm (by rw [hbl]; omega) (fun h => by rw [hbl] at h; exact absurd h hlm), Scn.cut_take hmk, nums_cut, List.append_assoc]; rfl
                  clear hm 
                  go_wp2_with (at_builtin; refine wpList_append_own _ rfl (.tmp 42) (.tmp 49) 29 rfl w.heap.size 53 i0 (.agg #[.string ⟨#[]⟩, .int .i64 0]) 2 24 Tryd.underlying29 hi hz0 hz1 hz2 rfl (by decide) _ _ _ rfl (how.alloc _) ⟨wr.heap.size, 0, none⟩ 1 1 [.string (s.extract j m), .int .i64 (j : Int)] rfl rfl (word_new _ _ _ _) (word_one _ _) (by unfold maxLen; omega) (by omega) (by simp; omega) ?_)
                  intro v9 w9 hrow9 hg9 _
                  have hb9 : Below w.heap.size w w9 := below_append2 hB how hbel hg9
                  rw [wvals_snoc ws _ j rfl] at hrow9
                  have HR := hide hrow9
                  clear hrow9 hg9 how hbel
                  go_wp2
                  go_roundw
                  case rel => exact ⟨m, ws ++ [(nums (s.extract j m), j)], rfl, by omega, by simpa using unhide HR, by simp; omega, hb9, unhide HD⟩
                  case measure => simp [intOf]; omega
          · obtain rfl : j = k := by omega
            have hfin : res = ws := by
              rw [hx, List.drop_eq_nil_of_le (by rw [hbl]; exact Nat.le_refl _), Scn.wordsA, if_pos rfl, List.append_nil]
            have HF : WordsNew 53 w res (Scn.endA (nums s)) (.returned (.tuple #[u5, .int .i64 (j : Int)])) wr := by
              rw [hfin, unhide HE]
              exact ⟨u5, rfl, how, hbel⟩
            clear hx hfin how hbel HH
            go_wp2
            go_ret2
            exact HF
      · have he : ((nums s).getD k 0 == 35) = false := beq_eq_false_iff_ne.2 h35
        rw [if_neg h35] at hx
        have HX := hide hx
        clear hx h35 HH HWS
        generalize (nums s).getD k 0 = c at *
        go_wp2
        go_round
        case rel => exact ⟨k + 1, by go_num, by omega, by have := unhide HX; omega⟩
        case measure => simp [intOf]; omega
    · have hend : Scn.endA (nums s) = k := by rw [hx, List.drop_eq_nil_of_le (by omega)]; rfl
      clear hx
      have hbl : ((nums s).take k).length = k := by simp; omega
      have HW : Hid (res = Scn.wordsA 0 [] (((nums s).take k).drop 0)) := by
        show _ = _
        rw [← unhide HWS, Scn.words, hend]; rfl
      have HE := hide hend
      clear hend HWS
      go_wp2
      go_loopw [5, 6] (fun vl i wr => ∃ (j : Nat) (ws : List (List Int × Nat)), i = .int .i64 j ∧ j ≤ k ∧ wr.ownsRow w.heap.size 53 2 vl ws.length (wvals ws) ∧ ws.length ≤ j ∧ Below w.heap.size w wr ∧ res = ws ++ Scn.wordsA j [] (((nums s).take k).drop j)) (fun _ i _ => k - (intOf i).toNat)
      case atStart => exact ⟨0, [], rfl, by omega, World.ownsRow_nil _ _ _ _, by simp, Below.refl _ _, unhide HW⟩
      case round =>
        obtain ⟨j, ws, rfl, hjk, how, hwl, hbel, hx⟩ := hrel
        have hB := hbel.size
        clear HW
        by_cases hlj : j < k
        · have hc0 := (unhide HAt) j (by omega)
          have hb := (unhide HByt) j
          have HK := HH _ wr hb
          obtain ⟨c1, c2⟩ := hb
          have ht := Scn.take_at (l := nums s) hlj
          by_cases hbk : Scn.isBlank ((nums s).getD j 0) = true
          · have HX : Hid (res = ws ++ Scn.wordsA (j + 1) [] (((nums s).take k).drop (j + 1))) := by
              show _ = _
              rw [hx, Scn.wordsA_blank (by rw [hbl]; exact hlj) (by rw [ht]; exact hbk)]
            rw [hbk] at HK
            clear hx ht hbk HH
            generalize (nums s).getD j 0 = c at *
            go_wp2_with fail
            refine (unhide HK).mono ?_
            rintro e' w1 ⟨rfl, hw1⟩
            subst w1
            clear HK hc0
            go_wp2
            go_roundw
            case rel => exact ⟨j + 1, ws, by go_num, by omega, how, by omega, hbel, unhide HX⟩
            case measure => simp [intOf]; omega
          · have hbf : Scn.isBlank ((nums s).getD j 0) = false := by simpa using hbk
            rw [hbf] at HK
            have HX : Hid (res = ws ++ Scn.wordsA j (Scn.cut ((nums s).take k) j j) (((nums s).take k).drop j)) := by
              show _ = _
              rw [hx, Scn.cut_same]
            have HBF := hide hbf
            clear hx ht hbk hbf
            generalize hcg : (nums s).getD j 0 = c at hc0 HK c1 c2
            clear hcg
            go_wp2_with fail
            refine (unhide HK).mono ?_
            rintro e' w1 ⟨rfl, hw1⟩
            subst w1
            clear HK hc0 c1 c2
            go_wp2
            go_loop [6] (fun i => ∃ (m : Nat), i = .int .i64 m ∧ j ≤ m ∧ m ≤ k ∧ res = ws ++ Scn.wordsA m (Scn.cut ((nums s).take k) j m) (((nums s).take k).drop m)) (fun i => k - (intOf i).toNat)
            case atStart => exact ⟨j, rfl, Nat.le_refl _, by omega, unhide HX⟩
            case round =>
              obtain ⟨m, rfl, hjm0, hmk, hm⟩ := hrel
              clear HX
              by_cases hlm : m < k
              · have hc0 := (unhide HAt) m (by omega)
                have hb := (unhide HByt) m
                have HK := HH _ wr hb
                obtain ⟨c1, c2⟩ := hb
                have ht := Scn.take_at (l := nums s) hlm
                by_cases hbk : Scn.isBlank ((nums s).getD m 0) = true
                · have hjm : j < m := by
                    rcases Nat.lt_or_ge j m with h | h
                    · exact h
                    · obtain rfl : m = j := by omega
                      rw [unhide HBF] at hbk; cases hbk
                  have hbk2 : Scn.isBlank (((nums s).take k).getD m 0) = true := by rw [ht]; exact hbk
                  rw [hbk] at HK
                  clear ht hbk HBF HH
                  generalize hcg : (nums s).getD m 0 = c at hc0 HK c1 c2
                  clear hcg
                  go_wp2_with fail
                  refine (unhide HK).mono ?_
                  rintro e' w1 ⟨rfl, hw1⟩
                  subst w1
                  clear HK hc0 c1 c2
                  have HD : Hid (res = (ws ++ [(nums (s.extract j m), j)]) ++ Scn.wordsA m [] (((nums s).take k).drop m)) := by
                    show _ = _
                    rw [hm, Scn.wordsA_done hjm (by rw [hbl]; omega) (fun _ => hbk2), Scn.cut_take hmk, nums_cut, List.append_assoc]; rfl
                  clear hm hbk2
                  go_wp2_with (at_builtin; refine wpList_append_own _ rfl (.tmp 42) (.tmp 49) 29 rfl w.heap.size 53 i0 (.agg #[.string ⟨#[]⟩, .int .i64 0]) 2 24 Tryd.underlying29 hi hz0 hz1 hz2 rfl (by decide) _ _ _ rfl (how.alloc _) ⟨wr.heap.size, 0, none⟩ 1 1 [.string (s.extract j m), .int .i64 (j : Int)] rfl rfl (word_new _ _ _ _) (word_one _ _) (by unfold maxLen; omega) (by omega) (by simp; omega) ?_)
                  intro v9 w9 hrow9 hg9 _
                  have hb9 : Below w.heap.size w w9 := below_append2 hB how hbel hg9
                  rw [wvals_snoc ws _ j rfl] at hrow9
                  have HR := hide hrow9
                  clear hrow9 hg9 how hbel
                  go_wp2
                  go_roundw
                  case rel => exact ⟨m, ws ++ [(nums (s.extract j m), j)], rfl, by omega, by simpa using unhide HR, by simp; omega, hb9, unhide HD⟩
                  case measure => simp [intOf]; omega
                · have hbf : Scn.isBlank ((nums s).getD m 0) = false := by simpa using hbk
                  have HX : Hid (res = ws ++ Scn.wordsA (m + 1) (Scn.cut ((nums s).take k) j (m + 1)) (((nums s).take k).drop (m + 1))) := by
                    show _ = _
                    rw [hm, Scn.wordsA_go hjm0 (by rw [hbl]; exact hlm) (by rw [ht]; exact hbf)]
                  rw [hbf] at HK
                  clear hm ht hbk hbf HBF HH
                  generalize (nums s).getD m 0 = c at *
                  go_wp2_with fail
                  refine (unhide HK).mono ?_
                  rintro e' w1 ⟨rfl, hw1⟩
                  subst w1
                  clear HK hc0
                  go_wp2
                  go_round
                  case rel => exact ⟨m + 1, by go_num, by omega, by omega, unhide HX⟩
                  case measure => simp [intOf]; omega
              · have hjm : j < m := by omega
                clear HBF HH
                have HD : Hid (res = (ws ++ [(nums (s.extract j m), j)]) ++ Scn.wordsA m [] (((nums s).take k).drop m)) := by
                  show _ = _
                  rw [hm, Scn.wordsA_done hjm (by rw [hbl]; omega) (fun h => by rw [hbl] at h; exact absurd h hlm), Scn.cut_take hmk, nums_cut, List.append_assoc]; rfl
                clear hm 
                go_wp2_with (at_builtin; refine wpList_append_own _ rfl (.tmp 42) (.tmp 49) 29 rfl w.heap.size 53 i0 (.agg #[.string ⟨#[]⟩, .int .i64 0]) 2 24 Tryd.underlying29 hi hz0 hz1 hz2 rfl (by decide) _ _ _ rfl (how.alloc _) ⟨wr.heap.size, 0, none⟩ 1 1 [.string (s.extract j m), .int .i64 (j : Int)] rfl rfl (word_new _ _ _ _) (word_one _ _) (by unfold maxLen; omega) (by omega) (by simp; omega) ?_)
                intro v9 w9 hrow9 hg9 _
                have hb9 : Below w.heap.size w w9 := below_append2 hB how hbel hg9
                rw [wvals_snoc ws _ j rfl] at hrow9
                have HR := hide hrow9
                clear hrow9 hg9 how hbel
                go_wp2
                go_roundw
                case rel => exact ⟨m, ws ++ [(nums (s.extract j m), j)], rfl, by omega, by simpa using unhide HR, by simp; omega, hb9, unhide HD⟩
                case measure => simp [intOf]; omega
        · obtain rfl : j = k := by omega
          have hfin : res = ws := by
            rw [hx, List.drop_eq_nil_of_le (by rw [hbl]; exact Nat.le_refl _), Scn.wordsA, if_pos rfl, List.append_nil]
          have HF : WordsNew 53 w res (Scn.endA (nums s)) (.returned (.tuple #[u5, .int .i64 (j : Int)])) wr := by
            rw [hfin, unhide HE]
            exact ⟨u5, rfl, how, hbel⟩
          clear hx hfin how hbel HH
          go_wp2
          go_ret2
          exact HF
end Go.Proofs.YtkdkmnohnhhojaaDoor
