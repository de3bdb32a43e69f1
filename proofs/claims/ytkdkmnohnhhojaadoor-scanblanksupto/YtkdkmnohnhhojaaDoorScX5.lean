/- The contract of scan's Words: the loop over the line's runes. -/
import Derived.Test.YtkdkmnohnhhojaaDoorScW5
import Derived.WalkMore
namespace Go.Proofs.YtkdkmnohnhhojaaDoor
open Go.RowKit

theorem owns_iterAt {w : World} {B e sz n k : Nat} {v : Value} {us : List Value} (h : w.ownsRow B e sz v n us) (hk : k < B) (s : ByteArray) (p : Nat) : (w.iterAt k s p).ownsRow B e sz v n us := by
  obtain ⟨h1, h2⟩ := h
  refine ⟨h1, ?_⟩
  rcases h2 with h2 | ⟨g, cap, cur, hv, hb, hg, rest⟩
  · exact .inl h2
  · exact .inr ⟨g, cap, cur, hv, hb, (Lib.iterAt_other w k g s p (by omega)).trans hg, rest⟩
theorem iter_keep {B k : Nat} {w w' : World} {s : ByteArray} {p : Nat} (h : w.heap[k]? = some (.stringIter s p)) (hb : Below B w w') (hk : k < B) : w'.heap[k]? = some (.stringIter s p) := (hb.block k hk).trans h
theorem owns_lower {w : World} {B B' e sz n : Nat} {v : Value} {us : List Value} (h : w.ownsRow B e sz v n us) (hB : B' ≤ B) : w.ownsRow B' e sz v n us := by
  obtain ⟨h1, h2⟩ := h
  refine ⟨h1, ?_⟩
  rcases h2 with h2 | ⟨g, cap, cur, hv, hb, hg, rest⟩
  · exact .inl h2
  · exact .inr ⟨g, cap, cur, hv, Nat.le_trans hB hb, hg, rest⟩
/-- Where the loop stands. -/
def WAt (res : List (List Int × Nat)) (T : List Int) (pos : Nat) (ws : List (List Int × Nat)) (a : Value) : Prop :=
  (a = .int .i64 (-1) ∧ res = ws ++ Scn.wordsA pos [] (T.drop pos)) ∨ ∃ j : Nat, a = .int .i64 (j : Int) ∧ j < pos ∧ res = ws ++ Scn.wordsA pos (Scn.cut T j pos) (T.drop pos)
def WIn (w : World) (s : ByteArray) (res : List (List Int × Nat)) (vl a en : Value) (wr : World) : Prop :=
  ∃ (pos : Nat) (ws : List (List Int × Nat)), en = .int .i64 (s.size : Int) ∧ pos ≤ s.size ∧ wr.heap[w.heap.size]? = some (.stringIter s pos) ∧ wr.ownsRow (w.heap.size + 1) 34 2 vl ws.length (wvals ws) ∧ ws.length ≤ pos ∧ Below w.heap.size w wr ∧
    Scn.endA ((nums s).drop pos) + pos = Scn.endA (nums s) ∧ WAt res ((nums s).take (Scn.endA (nums s))) pos ws a

set_option maxRecDepth 4000 in
set_option maxHeartbeats 4000000 in
theorem words_any (s : ByteArray) (w : World) (hs : s.size ≤ 1000000000) : Calls Tryd.prog 30 #[.string s] w (WordsNew 34 w (Scn.words (nums s)) (Scn.endA (nums s))) := by
  have hlen := nums_length s
  have hEl := Scn.endA_le (nums s)
  have HByt := hide (fun k => (nums_byt s).at k)
  have KN := hide (fun v k w => withWord_none v s k w)
  have KM : Hid (∀ v ws j k wr, World.ownsRow wr (w.heap.size + 1) 34 2 v ws.length (wvals ws) → w.heap.size + 1 ≤ wr.heap.size → j ≤ k → k ≤ s.size → ws.length ≤ 1000000000 → Calls Tryd.prog 41 #[v, .string s, .int .i64 (j : Int), .int .i64 (k : Int)] wr fun e w' => ∃ v', e = .returned v' ∧ w'.ownsRow (w.heap.size + 1) 34 2 v' (ws ++ [(Scn.cut (nums s) j k, j)]).length (wvals (ws ++ [(Scn.cut (nums s) j k, j)])) ∧ Below (w.heap.size + 1) wr w') := fun v ws j k wr how hB hjk hk hwl => withWord_more (w.heap.size + 1) v ws s j k wr how hB hjk hk hwl
  generalize hres : Scn.words (nums s) = res
  have hTl : ((nums s).take (Scn.endA (nums s))).length = Scn.endA (nums s) := by simp; omega
  have HTA : Hid (∀ k, k < Scn.endA (nums s) → ((nums s).take (Scn.endA (nums s))).getD k 0 = (nums s).getD k 0) := fun k hk => Scn.take_at hk
  have HST : Hid (WIn w s res (.slice none 0 0) (.int .i64 (-1)) (.int .i64 (s.size : Int)) (w.iter s 0)) := by
    refine ⟨0, [], rfl, by omega, World.iter_heap w s 0, World.ownsRow_nil _ _ _ _, by simp, (Below.refl _ _).alloc (Nat.le_refl _) _, by simp, .inl ⟨rfl, ?_⟩⟩
    rw [← hres]; rfl
  clear hres
  go_enter Tryd.func30, Tryd.ntmps30
  go_wp2
  go_step3
  go_wp2
  go_step3
  go_wp2
  go_loopw [4, 5, 6, 7, 8] (fun vl a en _ _ wr => WIn w s res vl a en wr) (fun _ _ _ _ _ wr => s.size - wr.iterPos w.heap.size)
  case atStart => exact unhide HST
  case round =>
    clear HST
    obtain ⟨pos, ws, rfl, hps, hit, how, hwl, hbel, hE, hat⟩ := hrel
    have hsz : w.heap.size < wr.heap.size := (Array.getElem?_eq_some_iff.1 hit).1
    by_cases hp : pos < s.size
    · obtain ⟨c1, c2⟩ := (unhide HByt) pos
      have hES := Scn.endA_step (l := nums s) (k := pos) (by omega)
      by_cases hbk : Scn.isBlank ((nums s).getD pos 0) = true
      · have hne35 : ¬ (nums s).getD pos 0 = 35 := fun e => by rw [e] at hbk; cases hbk
        rw [if_neg hne35] at hES
        have hposE : pos < Scn.endA (nums s) := by omega
        have hTb : Scn.isBlank (((nums s).take (Scn.endA (nums s))).getD pos 0) = true := by rw [(unhide HTA) pos hposE]; exact hbk
        have hR : (nums s).getD pos 0 = 32 ∨ (nums s).getD pos 0 = 9 ∨ (nums s).getD pos 0 = 13 := by
          simp only [Scn.isBlank, Bool.or_eq_true, beq_iff_eq] at hbk; omega
        obtain ⟨d1, d2⟩ := dec_low s pos hp (by omega)
        have hnx := fun ty => Lib.run_next_any_at (P := Tryd.prog) wr w.heap.size s pos ty hit hp
        rw [d1, d2] at hnx
        have how2 := owns_iterAt how (k := w.heap.size) (by omega) s (pos + 1)
        have hit2 := Lib.iterAt_heap wr w.heap.size s pos (pos + 1) hit
        have hbel2 := Lib.below_iterAt hbel (k := w.heap.size) (Nat.le_refl _) s (pos + 1)
        have hsz2 : w.heap.size < (wr.iterAt w.heap.size s (pos + 1)).heap.size := by rw [Lib.iterAt_size]; exact hsz
        have hmo : s.size - (pos + 1) < s.size - wr.iterPos w.heap.size := by
          simp only [World.iterPos, hit]; omega
        clear how hbel hit hsz
        generalize wr.iterAt w.heap.size s (pos + 1) = W2 at *
        have HB2 := hide hTb
        have HE2 : Hid (Scn.endA ((nums s).drop (pos + 1)) + (pos + 1) = Scn.endA (nums s)) := by show _ = _; omega
        clear hTb hES hE hbk hne35 d1 d2 c1 c2
        generalize (nums s).getD pos 0 = c at hR hnx
        have HAT := hide hat
        rcases unhide HAT with ⟨rfl, hx⟩ | ⟨j, rfl, hj, hx⟩
        · have HX : Hid (WIn w s res u4 (.int .i64 (-1)) (.int .i64 (s.size : Int)) W2) := by
            refine ⟨pos + 1, ws, rfl, by omega, hit2, how2, by omega, hbel2, unhide HE2, .inl ⟨rfl, ?_⟩⟩
            rw [hx, Scn.wordsA_blank (by rw [hTl]; exact hposE) (unhide HB2)]
          have K1 := hide ((unhide KN) u4 (pos : Int) W2)
          clear hx HAT how2 hbel2
          rcases hR with rfl | rfl | rfl
          all_goals
            go_wp2_with fail
            refine (unhide K1).mono ?_
            rintro e' w1 ⟨rfl, hw1⟩
            subst w1
            clear hnx
            go_wp2
            go_roundw
            case rel => exact unhide HX
            case measure => simp only [World.iterPos, hit2]; exact hmo
        · have K1 := hide ((unhide KM) u4 ws j pos W2 how2 (by omega) (by omega) (by omega) (by omega))
          have HX : Hid (∀ v W3, World.ownsRow W3 (w.heap.size + 1) 34 2 v (ws ++ [(Scn.cut (nums s) j pos, j)]).length (wvals (ws ++ [(Scn.cut (nums s) j pos, j)])) → Below (w.heap.size + 1) W2 W3 → WIn w s res v (.int .i64 (-1)) (.int .i64 (s.size : Int)) W3 ∧ W3.heap[w.heap.size]? = some (.stringIter s (pos + 1))) := by
            intro v W3 ho3 hb3
            refine ⟨⟨pos + 1, ws ++ [(Scn.cut (nums s) j pos, j)], rfl, by omega, iter_keep hit2 hb3 (by omega), ho3, by simp; omega, hbel2.trans (hb3.mono (by omega)), unhide HE2, .inl ⟨rfl, ?_⟩⟩, iter_keep hit2 hb3 (by omega)⟩
            rw [hx, Scn.wordsA_done hj (by rw [hTl]; omega) (fun _ => unhide HB2), Scn.wordsA_blank (by rw [hTl]; exact hposE) (unhide HB2), Scn.cut_take (by omega), List.append_assoc]; rfl
          clear hx HAT how2 hbel2
          rcases hR with rfl | rfl | rfl
          all_goals
            go_wp2_with fail
            refine (unhide K1).mono ?_
            rintro e' w1 ⟨v1, rfl, ho1, hb1⟩
            obtain ⟨HY, hit3⟩ := (unhide HX) v1 w1 ho1 hb1
            have HZ := hide HY
            clear hnx HX HY K1 ho1 hb1 hit2
            go_wp2
            go_roundw
            case rel => exact unhide HZ
            case measure => simp only [World.iterPos, hit3]; exact hmo
      · have hbf : Scn.isBlank ((nums s).getD pos 0) = false := by simpa using hbk
        by_cases h35 : (nums s).getD pos 0 = 35
        · rw [if_pos h35] at hES
          have hposE : pos = Scn.endA (nums s) := by omega
          obtain ⟨d1, d2⟩ := dec_low s pos hp (by omega)
          have hnx := fun ty => Lib.run_next_any_at (P := Tryd.prog) wr w.heap.size s pos ty hit hp
          rw [d1, d2, h35] at hnx
          have how2 := owns_iterAt how (k := w.heap.size) (by omega) s (pos + 1)
          have hit2 := Lib.iterAt_heap wr w.heap.size s pos (pos + 1) hit
          have hbel2 := Lib.below_iterAt hbel (k := w.heap.size) (Nat.le_refl _) s (pos + 1)
          have hsz2 : w.heap.size < (wr.iterAt w.heap.size s (pos + 1)).heap.size := by rw [Lib.iterAt_size]; exact hsz
          have hmo : s.size - (pos + 1) < s.size - wr.iterPos w.heap.size := by
            simp only [World.iterPos, hit]; omega
          clear how hbel hit hsz
          generalize wr.iterAt w.heap.size s (pos + 1) = W2 at *
          rcases hat with ⟨rfl, hx⟩ | ⟨j, rfl, hj, hx⟩
          · have HF : WordsNew 34 w res (Scn.endA (nums s)) (.returned (.tuple #[u4, .int .i64 ((pos : Nat) : Int)])) W2 := by
              rw [← hposE]
              refine ⟨u4, rfl, ?_, hbel2⟩
              have hr : res = ws := by rw [hx, List.drop_eq_nil_of_le (by rw [hTl]; omega), Scn.wordsA, if_pos rfl, List.append_nil]
              rw [hr]
              exact owns_lower how2 (by omega)
            have K1 := hide ((unhide KN) u4 ((pos : Nat) : Int) W2)
            clear hx how2 hbel2 hTl HTA hposE hES hE hbk hbf h35 d1 d2 c1 c2 hmo
            go_wp2_with fail
            refine (unhide K1).mono ?_
            rintro e' w1 ⟨rfl, hw1⟩
            subst w1
            clear hnx
            go_wp2
            rw [Exit.noGoto_ret]
            go_ret2
            exact HF
          · have K1 := hide ((unhide KM) u4 ws j pos W2 how2 (by omega) (by omega) (by omega) (by omega))
            have HX : Hid (∀ v W3, World.ownsRow W3 (w.heap.size + 1) 34 2 v (ws ++ [(Scn.cut (nums s) j pos, j)]).length (wvals (ws ++ [(Scn.cut (nums s) j pos, j)])) → Below (w.heap.size + 1) W2 W3 → WordsNew 34 w res (Scn.endA (nums s)) (.returned (.tuple #[v, .int .i64 ((pos : Nat) : Int)])) W3) := by
              intro v W3 ho3 hb3
              have hr : res = ws ++ [(Scn.cut (nums s) j pos, j)] := by
                rw [hx, Scn.wordsA_done hj (by rw [hTl]; omega) (fun h => by rw [hTl] at h; omega), List.drop_eq_nil_of_le (by rw [hTl]; omega), Scn.wordsA, if_pos rfl, Scn.cut_take (by omega)]
              rw [← hposE, hr]
              exact ⟨v, rfl, owns_lower ho3 (by omega), hbel2.trans (hb3.mono (by omega))⟩
            clear hx how2 hbel2 hTl HTA hposE hES hE hbk hbf h35 d1 d2 c1 c2 hmo
            go_wp2_with fail
            refine (unhide K1).mono ?_
            rintro e' w1 ⟨v1, rfl, ho1, hb1⟩
            have HF := (unhide HX) v1 w1 ho1 hb1
            clear hnx ho1 hb1 HX K1
            go_wp2
            rw [Exit.noGoto_ret]
            go_ret2
            exact HF
        · obtain ⟨R, n, hn1, hnS, hRun, hNB, hR32, hR9, hR13, hR35, hnx⟩ : ∃ (R : Int) (n : Nat), 1 ≤ n ∧ pos + n ≤ s.size ∧ (∀ j, pos ≤ j → j < pos + n → (nums s).getD j 0 ≠ 35) ∧ (∀ j, pos ≤ j → j < pos + n → Scn.isBlank ((nums s).getD j 0) = false) ∧ (R == 32) = false ∧ (R == 9) = false ∧ (R == 13) = false ∧ (R == 35) = false ∧ ∀ ty, (Instr.next (.pointer (some ⟨w.heap.size, 0, none⟩)) true ty).run Tryd.prog wr = .ok (.tuple #[.bool true, .int .i64 (pos : Int), .int .i32 R]) (wr.iterAt w.heap.size s (pos + n)) := by
            have hnx := fun ty => Lib.run_next_any_at (P := Tryd.prog) wr w.heap.size s pos ty hit hp
            rcases Int.lt_or_le ((nums s).getD pos 0) 128 with hlo | hhi
            · obtain ⟨d1, d2⟩ := dec_low s pos hp hlo
              rw [d1, d2] at hnx
              have hb' := hbf
              simp only [Scn.isBlank, Bool.or_eq_false_iff, beq_eq_false_iff_ne] at hb'
              refine ⟨(nums s).getD pos 0, 1, Nat.le_refl _, by omega, fun j j1 j2 => ?_, fun j j1 j2 => ?_, beq_eq_false_iff_ne.2 hb'.1.1, beq_eq_false_iff_ne.2 hb'.1.2, beq_eq_false_iff_ne.2 hb'.2, beq_eq_false_iff_ne.2 h35, hnx⟩
              · obtain rfl : j = pos := by omega
                exact h35
              · obtain rfl : j = pos := by omega
                exact hbf
            · obtain ⟨d1, d2, d3, d4⟩ := dec_high s pos hp hhi
              refine ⟨_, _, d2, d3, fun j j1 j2 => ?_, fun j j1 j2 => Scn.isBlank_high (d4 j j1 j2), beq_eq_false_iff_ne.2 (by omega), beq_eq_false_iff_ne.2 (by omega), beq_eq_false_iff_ne.2 (by omega), beq_eq_false_iff_ne.2 (by omega), hnx⟩
              have := d4 j j1 j2
              omega
          have hER := Scn.endA_run hRun (by omega)
          have hposE : pos + n ≤ Scn.endA (nums s) := by omega
          have how2 := owns_iterAt how (k := w.heap.size) (by omega) s (pos + n)
          have hit2 := Lib.iterAt_heap wr w.heap.size s pos (pos + n) hit
          have hbel2 := Lib.below_iterAt hbel (k := w.heap.size) (Nat.le_refl _) s (pos + n)
          have hsz2 : w.heap.size < (wr.iterAt w.heap.size s (pos + n)).heap.size := by rw [Lib.iterAt_size]; exact hsz
          have hmo : s.size - (pos + n) < s.size - wr.iterPos w.heap.size := by
            simp only [World.iterPos, hit]; omega
          clear how hbel hit hsz
          generalize wr.iterAt w.heap.size s (pos + n) = W2 at *
          have HE2 : Hid (Scn.endA ((nums s).drop (pos + n)) + (pos + n) = Scn.endA (nums s)) := by show _ = _; omega
          have HNB : Hid (∀ j, pos ≤ j → j < pos + n → Scn.isBlank (((nums s).take (Scn.endA (nums s))).getD j 0) = false) := fun j j1 j2 => by rw [(unhide HTA) j (by omega)]; exact hNB j j1 j2
          clear hES hE hbk hbf h35 c1 c2 hRun hNB hER
          have HAT := hide hat
          rcases unhide HAT with ⟨rfl, hx⟩ | ⟨j, rfl, hj, hx⟩
          · have HX : Hid (WIn w s res u4 (.int .i64 (pos : Int)) (.int .i64 (s.size : Int)) W2) := by
              refine ⟨pos + n, ws, rfl, by omega, hit2, how2, by omega, hbel2, unhide HE2, .inr ⟨pos, rfl, by omega, ?_⟩⟩
              rw [hx, ← Scn.wordsA_run (Nat.le_refl _) (unhide HNB) (by rw [hTl]; exact hposE), Scn.cut_same]
            clear hx HAT how2 hbel2
            go_wp2
            go_roundw
            case rel => exact unhide HX
            case measure => simp only [World.iterPos, hit2]; exact hmo
          · have HX : Hid (WIn w s res u4 (.int .i64 (j : Int)) (.int .i64 (s.size : Int)) W2) := by
              refine ⟨pos + n, ws, rfl, by omega, hit2, how2, by omega, hbel2, unhide HE2, .inr ⟨j, rfl, by omega, ?_⟩⟩
              rw [hx, Scn.wordsA_run (by omega) (unhide HNB) (by rw [hTl]; exact hposE)]
            have hne : (((j : Int)) == -1) = false := beq_eq_false_iff_ne.2 (by omega)
            clear hx HAT how2 hbel2
            go_wp2
            go_roundw
            case rel => exact unhide HX
            case measure => simp only [World.iterPos, hit2]; exact hmo
    · obtain rfl : pos = s.size := by omega
      have hposE : s.size = Scn.endA (nums s) := by
        rw [List.drop_eq_nil_of_le (by omega), Scn.endA] at hE; omega
      have hnx := fun ty => Lib.run_next_end_at (P := Tryd.prog) wr w.heap.size s s.size ty hit hp
      have how2 := how
      have hbel2 := hbel
      have hES := hE
      clear how hbel
      rcases hat with ⟨rfl, hx⟩ | ⟨j, rfl, hj, hx⟩
      · have HF : WordsNew 34 w res (Scn.endA (nums s)) (.returned (.tuple #[u4, .int .i64 ((s.size : Nat) : Int)])) wr := by
          rw [← hposE]
          refine ⟨u4, rfl, ?_, hbel2⟩
          have hr : res = ws := by rw [hx, List.drop_eq_nil_of_le (by rw [hTl]; omega), Scn.wordsA, if_pos rfl, List.append_nil]
          rw [hr]
          exact owns_lower how2 (by omega)
        have K1 := hide ((unhide KN) u4 ((s.size : Nat) : Int) wr)
        clear hx how2 hbel2 hTl HTA hposE hES hE 
        go_wp2_with fail
        refine (unhide K1).mono ?_
        rintro e' w1 ⟨rfl, hw1⟩
        subst w1
        clear hnx
        go_wp2
        go_ret2
        exact HF
      · have K1 := hide ((unhide KM) u4 ws j s.size wr how2 (by omega) (by omega) (by omega) (by omega))
        have HX : Hid (∀ v W3, World.ownsRow W3 (w.heap.size + 1) 34 2 v (ws ++ [(Scn.cut (nums s) j s.size, j)]).length (wvals (ws ++ [(Scn.cut (nums s) j s.size, j)])) → Below (w.heap.size + 1) wr W3 → WordsNew 34 w res (Scn.endA (nums s)) (.returned (.tuple #[v, .int .i64 ((s.size : Nat) : Int)])) W3) := by
          intro v W3 ho3 hb3
          have hr : res = ws ++ [(Scn.cut (nums s) j s.size, j)] := by
            rw [hx, Scn.wordsA_done hj (by rw [hTl]; omega) (fun h => by rw [hTl] at h; omega), List.drop_eq_nil_of_le (by rw [hTl]; omega), Scn.wordsA, if_pos rfl, Scn.cut_take (by omega)]
          rw [← hposE, hr]
          exact ⟨v, rfl, owns_lower ho3 (by omega), hbel2.trans (hb3.mono (by omega))⟩
        clear hx how2 hbel2 hTl HTA hposE hES hE 
        go_wp2_with fail
        refine (unhide K1).mono ?_
        rintro e' w1 ⟨v1, rfl, ho1, hb1⟩
        have HF := (unhide HX) v1 w1 ho1 hb1
        clear hnx ho1 hb1 HX K1
        go_wp2
        go_ret2
        exact HF

theorem scanWords_any (s : ByteArray) (w : World) (hs : s.size ≤ 1000000000) : Calls Tryd.prog 12 #[.string s] w (WordsNew 34 w (Scn.words (nums s)) (Scn.endA (nums s))) := by
  have K := hide (words_any s w hs)
  go_enter Tryd.func12, Tryd.ntmps12
  go_wp2_with fail
  refine (unhide K).mono ?_
  rintro e w1 ⟨v, rfl, h1, h2⟩
  have HF : WordsNew 34 w (Scn.words (nums s)) (Scn.endA (nums s)) (.returned (.tuple #[v, .int .i64 (Scn.endA (nums s) : Int)])) w1 := ⟨v, rfl, h1, h2⟩
  clear K h1 h2
  go_wp2
  go_ret2
  exact HF
end Go.Proofs.YtkdkmnohnhhojaaDoor
