/- The contracts of scan's Name, Lines, PrintWhole, Words. -/
import Derived.Test.YtkdkmnohnhhojaaDoorScC5
namespace Go.Proofs.YtkdkmnohnhhojaaDoor
open Go.RowKit

theorem wordsC : WordsC := fun s w _ hs => scanWords_any s w hs

/-- The sign at place k may stand in a name. -/
def okAt (k : Nat) (c : Int) : Prop := if k = 0 then 65 ≤ c ∧ c ≤ 90 else 97 ≤ c ∧ c ≤ 122
theorem name_iff (l : List Int) : Scn.name l = true ↔ (l.length = 4 ∧ ∀ k, k < 4 → okAt k (l.getD k 0)) := by
  unfold Scn.name
  rw [decide_eq_true_iff]
  constructor
  · rintro ⟨h0, h1, h2, h3, h4, h5⟩
    refine ⟨h0, fun k hk => ?_⟩
    unfold okAt
    obtain rfl | rfl | rfl | rfl : k = 0 ∨ k = 1 ∨ k = 2 ∨ k = 3 := by omega
    · exact ⟨h1, h2⟩
    · exact h3
    · exact h4
    · exact h5
  · rintro ⟨h0, h⟩
    exact ⟨h0, (h 0 (by omega)).1, (h 0 (by omega)).2, h 1 (by omega), h 2 (by omega), h 3 (by omega)⟩
set_option maxHeartbeats 2000000 in
theorem nameC : NameC := by
  intro s w _ hs
  have hlen := nums_length s
  by_cases h4 : s.size = 4
  · have HT : Hid ((∀ k, k < 4 → okAt k ((nums s).getD k 0)) → ∀ w', Below w.heap.size w w' → Tells w (Scn.name (nums s)) (.returned (.bool true)) w') := fun h w' hb => ⟨by rw [(name_iff _).2 ⟨by omega, h⟩], hb⟩
    have HFa : Hid (∀ k, k < 4 → ¬ okAt k ((nums s).getD k 0) → ∀ w', Below w.heap.size w w' → Tells w (Scn.name (nums s)) (.returned (.bool false)) w') := fun k hk h w' hb => by
      have : Scn.name (nums s) = false := by
        cases hn : Scn.name (nums s) with
        | false => rfl
        | true => exact absurd (((name_iff _).1 hn).2 k hk) h
      exact ⟨by rw [this], hb⟩
    have HByt := hide (fun k => (nums_byt s).at k)
    have q4 : ((s.size : Int) != 4) = false := by rw [h4]; rfl
    clear hlen
    generalize Scn.name (nums s) = res at *
    go_enter Tryd.func21, Tryd.ntmps21
    go_wp2
    go_loopw [3, 4] (fun _ _ wr => ∃ k : Nat, wr = w.iter s k ∧ k ≤ 4 ∧ ∀ j, j < k → okAt j ((nums s).getD j 0)) (fun _ _ wr => 4 - wr.iterPos w.heap.size)
    case atStart => exact ⟨0, rfl, by omega, fun j hj => absurd hj (Nat.not_lt_zero _)⟩
    case round =>
      obtain ⟨k, rfl, hk, hok⟩ := hrel
      have HOK := hide hok
      clear hok
      by_cases hlt : k < 4
      · have hnx := fun ty => run_next_any (P := Tryd.prog) w s k ty (by omega)
        obtain ⟨c1, c2⟩ := (unhide HByt) k
        rcases Int.lt_or_le ((nums s).getD k 0) 128 with hlo | hhi
        · obtain ⟨d1, d2⟩ := dec_low s k (by omega) hlo
          rw [d1, d2] at hnx
          clear d1 d2
          have HF2 := hide ((unhide HFa) k hlt)
          have HO2 : Hid (okAt k ((nums s).getD k 0) → ∀ j, j < k + 1 → okAt j ((nums s).getD j 0)) := fun h j hj => by
            rcases Nat.lt_or_ge j k with hj2 | hj2
            · exact (unhide HOK) j hj2
            · obtain rfl : j = k := by omega
              exact h
          clear HFa HOK
          have hmo : 4 - (k + 1) < 4 - (w.iter s k).iterPos w.heap.size := by rw [World.iterPos_iter]; omega
          generalize hcg : (nums s).getD k 0 = c at hnx c1 c2 hlo HF2 HO2
          clear hcg h4 q4
          by_cases hk0 : k = 0
          · subst hk0
            by_cases g1 : 65 ≤ c
            · by_cases g2 : c ≤ 90
              · have HX := hide ((unhide HO2) ⟨g1, g2⟩)
                clear HO2 HF2 HT
                go_wp2
                go_roundw
                case rel => exact ⟨0 + 1, rfl, by omega, unhide HX⟩
                case measure => rw [World.iterPos_iter]; exact hmo
              · have HF := (unhide HF2) (fun h => g2 h.2) (w.iter s (0 + 1)) ((Below.refl _ _).alloc (Nat.le_refl _) _)
                clear HO2 HF2 HT
                go_wp2
                go_ret
                exact HF
            · have HF := (unhide HF2) (fun h => g1 h.1) (w.iter s (0 + 1)) ((Below.refl _ _).alloc (Nat.le_refl _) _)
              clear HO2 HF2 HT
              go_wp2
              go_ret
              exact HF
          · have hk1 : ((k : Int) == 0) = false := beq_eq_false_iff_ne.2 (by omega)
            have eok : okAt k c = (97 ≤ c ∧ c ≤ 122) := by unfold okAt; rw [if_neg hk0]
            rw [eok] at HF2 HO2
            clear eok
            by_cases g1 : 97 ≤ c
            · by_cases g2 : c ≤ 122
              · have HX := hide ((unhide HO2) ⟨g1, g2⟩)
                clear HO2 HF2 HT
                go_wp2
                go_roundw
                case rel => exact ⟨k + 1, rfl, by omega, unhide HX⟩
                case measure => rw [World.iterPos_iter]; exact hmo
              · have HF := (unhide HF2) (fun h => g2 h.2) (w.iter s (k + 1)) ((Below.refl _ _).alloc (Nat.le_refl _) _)
                clear HO2 HF2 HT
                go_wp2
                go_ret
                exact HF
            · have HF := (unhide HF2) (fun h => g1 h.1) (w.iter s (k + 1)) ((Below.refl _ _).alloc (Nat.le_refl _) _)
              clear HO2 HF2 HT
              go_wp2
              go_ret
              exact HF
        · obtain ⟨d1, d2, d3, d4⟩ := dec_high s k (by omega) hhi
          have d5 := dec_top s k
          have HF := (unhide HFa) k hlt (fun h => by unfold okAt at h; split at h <;> omega) (w.iter s (k + (Utf8.decode s k).2)) ((Below.refl _ _).alloc (Nat.le_refl _) _)
          clear HFa HT HOK d2 d3 d4 h4 q4
          generalize (Utf8.decode s k).2 = n2 at *
          generalize ((Utf8.decode s k).1 : Int) = c at *
          by_cases hk0 : k = 0
          · subst hk0
            rw [Nat.zero_add] at HF hnx
            go_wp2
            go_ret
            exact HF
          · have hk1 : ((k : Int) == 0) = false := beq_eq_false_iff_ne.2 (by omega)
            go_wp2
            go_ret
            exact HF
      · obtain rfl : k = 4 := by omega
        have hnx := fun ty => run_next_end (P := Tryd.prog) w s 4 ty (by omega)
        have HF := (unhide HT) (unhide HOK) (w.iter s 4) ((Below.refl _ _).alloc (Nat.le_refl _) _)
        clear HFa HT HOK
        go_wp2
        go_ret
        exact HF
  · have HF : Tells w (Scn.name (nums s)) (.returned (.bool false)) w := by
      have : Scn.name (nums s) = false := by
        cases hn : Scn.name (nums s) with
        | false => rfl
        | true => exact absurd ((name_iff _).1 hn).1 (by omega)
      exact ⟨by rw [this], Below.refl _ _⟩
    have q4 : ((s.size : Int) != 4) = true := by simp; omega
    go_enter Tryd.func21, Tryd.ntmps21
    go_wp2
    go_ret
    exact HF

theorem own_strings (w : World) (L : List ByteArray) (n : Nat) (hn : n ≤ L.length) (hL : L.length ≤ 140737488355328) :
    Ow 9 (w.alloc (.cells (L.map Value.string).toArray 9)) w.heap.size (.slice (some ⟨w.heap.size, 0, none⟩) n L.length) ((L.take n).map Value.string) := by
  have hl : ((L.take n).map Value.string).length = n := by simp; omega
  refine ⟨by omega, by rw [hl, Nat.mul_one], .inr ⟨w.heap.size, L.length, (L.map Value.string).toArray, by rw [hl], Nat.le_refl _, ?_, by omega, by unfold maxLen; omega, by simp, by rw [hl]; simp [List.map_take]⟩⟩
  show (w.heap.push _)[w.heap.size]? = _
  simp
theorem txts_of (L : List ByteArray) : L.map Value.string = txts (L.map nums) := by
  rw [txts, List.map_map]
  exact List.map_congr_left fun s _ => by simp [strOf_nums]
set_option maxHeartbeats 1000000 in
theorem linesC : LinesC := by
  intro s w hg hs
  obtain ⟨⟨m, hm⟩, _, _⟩ := hg
  have K := hide (Tryd.strings_Split s ⟨#[10]⟩ m w (by omega) hm (by decide))
  have hall := Lib.splitB_all ⟨#[10]⟩ (by decide) 0 (Lib.countB s ⟨#[10]⟩) s rfl
  have hle := Lib.countB_le ⟨#[10]⟩ (by decide) s.size s (Nat.le_refl _)
  have hsp := split_nums s
  have hcl := Scn.lines_cut (nums s) []
  rw [show Scn.lines (nums s) = Scn.linesA [] (nums s) from rfl, hcl, ← hsp]
  clear hcl hsp hm
  generalize Lib.countB s ⟨#[10]⟩ = C at *
  generalize Lib.splitB ⟨#[10]⟩ 0 C s = L at *
  obtain ⟨I, x, rfl⟩ : ∃ I x, L = I ++ [x] := by
    have hne : L ≠ [] := fun e => by rw [e] at hall; simp at hall
    exact ⟨L.dropLast, L.getLast hne, (List.dropLast_concat_getLast hne).symm⟩
  obtain rfl : C = I.length := by simp at hall; omega
  have hcell : (w.alloc (.cells ((I ++ [x]).map Value.string).toArray 9)).cell? ⟨w.heap.size, I.length, none⟩ = some (.string x) := by
    simp [World.cell?, World.alloc, -World.alloc_eq]
  have hb1 : Below w.heap.size w (w.alloc (.cells ((I ++ [x]).map Value.string).toArray 9)) := (Below.refl _ _).alloc (Nat.le_refl _) _
  have hlast : ((I ++ [x]).map nums).getLastD [] = nums x := by rw [List.map_append]; simp
  by_cases hx : x = ⟨#[]⟩
  · subst hx
    have ho := own_strings w (I ++ [(⟨#[]⟩ : ByteArray)]) I.length (by simp) (by simp; omega)
    rw [List.take_left] at ho
    have hcut : Scn.cutLast ((I ++ [(⟨#[]⟩ : ByteArray)]).map nums) = I.map nums := by
      unfold Scn.cutLast
      rw [hlast, if_pos (show nums (⟨#[]⟩ : ByteArray) = [] from rfl), List.map_append]; simp
    rw [hcut]
    have hle2 : (I ++ [(⟨#[]⟩ : ByteArray)]).length = I.length + 1 := by simp
    rw [hle2, txts_of I] at ho
    have HF : TextsNew w (I.map nums) (.returned (.slice (some ⟨w.heap.size, 0, none⟩) I.length (I.length + 1))) (w.alloc (.cells ((I ++ [(⟨#[]⟩ : ByteArray)]).map Value.string).toArray 9)) := ⟨_, rfl, ho, hb1⟩
    clear ho hb1 hlast hcut hle2 hall
    generalize (w.alloc (.cells ((I ++ [(⟨#[]⟩ : ByteArray)]).map Value.string).toArray 9)) = W1 at *
    go_enter Tryd.func8, Tryd.ntmps8
    go_wp2_with fail
    refine (unhide K).mono ?_
    rintro e w1 ⟨rfl, hw1⟩
    subst hw1
    clear K
    go_wp2
    go_ret
    exact HF
  · have ho := own_strings w (I ++ [x]) (I.length + 1) (by simp) (by simp; omega)
    rw [List.take_of_length_le (by simp)] at ho
    have hcut : Scn.cutLast ((I ++ [x]).map nums) = (I ++ [x]).map nums := by
      unfold Scn.cutLast
      rw [hlast, if_neg (fun e => hx (nums_inj (e.trans rfl)))]
    rw [hcut]
    have hle2 : (I ++ [x]).length = I.length + 1 := by simp
    rw [hle2] at ho
    have HF : TextsNew w ((I ++ [x]).map nums) (.returned (.slice (some ⟨w.heap.size, 0, none⟩) (I.length + 1) (I.length + 1))) (w.alloc (.cells ((I ++ [x]).map Value.string).toArray 9)) := ⟨_, rfl, by rw [← txts_of]; exact ho, hb1⟩
    have hne : x.toList.isEmpty = false := by
      rw [ByteArray.toList_eq, List.isEmpty_eq_false_iff]
      exact fun e => hx (by cases x; simp_all)
    clear ho hb1 hlast hcut hle2 hall hx
    generalize (w.alloc (.cells ((I ++ [x]).map Value.string).toArray 9)) = W1 at *
    go_enter Tryd.func8, Tryd.ntmps8
    go_wp2_with fail
    refine (unhide K).mono ?_
    rintro e w1 ⟨rfl, hw1⟩
    subst hw1
    clear K
    go_wp2
    go_ret
    exact HF
end Go.Proofs.YtkdkmnohnhhojaaDoor
