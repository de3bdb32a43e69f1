import Derived.Test.YtceflkeaenepcaaGreatDoorN9
import Derived.Test.YtceflkeaenepcaaGreatDoorN12
import Derived.Test.YtceflkeaenepcaaGreatDoorN20
namespace Go.Proofs.YtceflkeaenepcaaGreatDoor.Sn
open Go.RowKit
theorem codeC : CodeC := by
  intro s w _ hs
  have K := hide (digits16_any s w hs)
  rw [Scn.code_dig]
  have HG : Hid (∀ n, Scn.digB 16 6 (nums s) = some n → 0 ≤ n) := fun n h => Scn.digB_ge (b := 16) h
  generalize Scn.digB 16 6 (nums s) = o at *
  cases o with
  | none =>
    go_enter Tryz.func142, Tryz.ntmps142
    go_wp2_with fail
    refine (unhide K).mono ?_
    rintro e w1 ⟨rfl, hb⟩
    have HF : CodeB w (Scn.told (Scn.cap none)) (.returned (.tuple #[.int .i32 0, .bool false])) w1 := ⟨rfl, hb⟩
    have e1 : Scn.told none = (0, false) := rfl
    rw [e1]
    clear K hb HG
    go_wp2
    go_ret2
    exact HF
  | some n =>
    have h0 := (unhide HG) n rfl
    have e1 : Scn.told (some n) = (n, true) := rfl
    by_cases hm : 1114111 < n
    · go_enter Tryz.func142, Tryz.ntmps142
      go_wp2_with fail
      refine (unhide K).mono ?_
      rintro e w1 ⟨rfl, hb⟩
      have HF : CodeB w (Scn.told (Scn.cap (some n))) (.returned (.tuple #[.int .i32 0, .bool false])) w1 := ⟨by rw [Scn.cap, if_pos hm]; rfl, hb⟩
      rw [e1]
      clear K hb HG
      go_wp2
      go_ret2
      exact HF
    · go_enter Tryz.func142, Tryz.ntmps142
      go_wp2_with fail
      refine (unhide K).mono ?_
      rintro e w1 ⟨rfl, hb⟩
      have HF : CodeB w (Scn.told (Scn.cap (some n))) (.returned (.tuple #[.int .i32 n, .bool true])) w1 := ⟨by rw [Scn.cap, if_neg (by omega)]; rfl, hb⟩
      rw [e1]
      clear K hb HG
      go_wp2
      go_ret2
      exact HF
theorem prefix_minus (s : ByteArray) : (Lib.hasPrefix s.data.toList [45] = true ↔ (0 < (nums s).length ∧ (nums s).getD 0 0 = 45)) ∧ (Lib.hasPrefix s.data.toList [45] = true → n8 (Lib.trimPrefix s.data.toList [45]) = (nums s).drop 1) ∧ (Lib.hasPrefix s.data.toList [45] = false → Lib.trimPrefix s.data.toList [45] = s.data.toList) := by
  rw [nums_n8]
  generalize s.data.toList = l
  refine ⟨?_, fun h => ?_, fun h => ?_⟩
  · rw [n8_at, show (45 : Int) = ((45 : UInt8).toNat : Int) from rfl, u8_eq]
    cases l with
    | nil => simp [Lib.hasPrefix, n8]
    | cons b r =>
      simp [Lib.hasPrefix, n8, List.isPrefixOf]
      exact ⟨fun e => e.symm, fun e => e.symm⟩
  · unfold Lib.trimPrefix
    rw [if_pos h]
    exact List.map_drop
  · unfold Lib.trimPrefix
    rw [if_neg (by rw [h]; exact Bool.false_ne_true)]
set_option maxHeartbeats 1000000 in
theorem wholeC : WholeC := by
  intro s w _ hs
  rw [Scn.whole_dig]
  have K := hide (fun w => Tryz.strings_CutPrefix s ⟨#[45]⟩ w)
  obtain ⟨p1, p2, p3⟩ := prefix_minus s
  have e45 : (ByteArray.mk #[45]).data.toList = [45] := rfl
  rw [e45] at K
  by_cases hp : Lib.hasPrefix s.data.toList [45] = true
  · have hl : (Lib.trimPrefix s.data.toList [45]).length ≤ s.size := by
      have := congrArg List.length (p2 hp)
      rw [List.length_drop, nums_length] at this
      simp [n8] at this
      omega
    have KD := hide (fun w => digits10_any ⟨(Lib.trimPrefix s.data.toList [45]).toArray⟩ w (by show (Lib.trimPrefix s.data.toList [45]).toArray.size ≤ _; simp; omega))
    have hw : Scn.wholeP (nums s) = Scn.wholeN (Scn.digB 10 9 ((nums s).drop 1)) := by
      unfold Scn.wholeP; rw [if_pos (p1.1 hp)]
    have KD : Hid (∀ w, Calls Tryz.prog 159 #[.string ⟨(Lib.trimPrefix s.data.toList [45]).toArray⟩, .int .i64 10, .int .i64 9] w (NumB w (Scn.digB 10 9 ((nums s).drop 1)))) := fun w => by
      have := (unhide KD) w
      rw [nums_of, p2 hp] at this
      exact this
    rw [hw]
    have HG : Hid (∀ n, Scn.digB 10 9 ((nums s).drop 1) = some n → 0 ≤ n ∧ n < 1000000000) := fun n h => ⟨Scn.digB_ge (b := 10) h, Scn.digB_top h⟩
    rw [hp] at K
    clear p1 p2 p3 hw hp
    generalize Scn.digB 10 9 ((nums s).drop 1) = o at *
    generalize Lib.trimPrefix s.data.toList [45] = l at *
    cases o with
    | none =>
      go_enter Tryz.func145, Tryz.ntmps145
      go_wp2_with fail
      refine ((unhide K) w).mono ?_
      rintro e w1 ⟨rfl, hw1⟩
      subst w1
      clear K
      go_wp2_with fail
      refine ((unhide KD) w).mono ?_
      rintro e w1 ⟨rfl, hb⟩
      have HF : WholeB w (Scn.wholeN none) (.returned (.tuple #[.int .i64 0, .bool false])) w1 := ⟨rfl, hb⟩
      have e1 : Scn.told none = (0, false) := rfl
      rw [e1]
      clear KD hb HG
      go_wp2
      go_ret2
      exact HF
    | some n =>
      obtain ⟨h0, h1⟩ := (unhide HG) n rfl
      have e1 : Scn.told (some n) = (n, true) := rfl
      by_cases hn : n = 0
      · subst hn
        go_enter Tryz.func145, Tryz.ntmps145
        go_wp2_with fail
        refine ((unhide K) w).mono ?_
        rintro e w1 ⟨rfl, hw1⟩
        subst w1
        clear K
        go_wp2_with fail
        refine ((unhide KD) w).mono ?_
        rintro e w1 ⟨rfl, hb⟩
        have HF : WholeB w (Scn.wholeN (some 0)) (.returned (.tuple #[.int .i64 0, .bool false])) w1 := ⟨rfl, hb⟩
        rw [e1]
        clear KD hb HG
        go_wp2
        go_ret2
        exact HF
      · have q : (n == 0) = false := beq_eq_false_iff_ne.2 hn
        have q2 : (n != 0) = true := by simp [hn]
        go_enter Tryz.func145, Tryz.ntmps145
        go_wp2_with fail
        refine ((unhide K) w).mono ?_
        rintro e w1 ⟨rfl, hw1⟩
        subst w1
        clear K
        go_wp2_with fail
        refine ((unhide KD) w).mono ?_
        rintro e w1 ⟨rfl, hb⟩
        have HF : WholeB w (Scn.wholeN (some n)) (.returned (.tuple #[.int .i64 (-n), .bool true])) w1 := ⟨by rw [Scn.wholeN, decide_eq_true hn], hb⟩
        rw [e1]
        clear KD hb HG
        go_wp2
        go_ret2
        exact HF
  · have hp2 : Lib.hasPrefix s.data.toList [45] = false := by simpa using hp
    rw [p3 hp2, hp2] at K
    have KD := hide (fun w => digits10_any s w hs)
    have hw : Scn.wholeP (nums s) = Scn.told (Scn.digB 10 9 (nums s)) := by
      unfold Scn.wholeP; rw [if_neg (fun h => hp (p1.2 h))]
    rw [hw]
    have es : (ByteArray.mk s.data.toList.toArray) = s := by cases s; simp
    rw [es] at K
    clear p1 p2 p3 hw hp hp2 es e45
    have KD : Hid (∀ w, Calls Tryz.prog 159 #[.string s, .int .i64 10, .int .i64 9] w (NumB w (Scn.digB 10 9 (nums s)))) := KD
    generalize hr : Scn.digB 10 9 (nums s) = o at *
    clear hr
    go_enter Tryz.func145, Tryz.ntmps145
    go_wp2_with fail
    refine ((unhide K) w).mono ?_
    rintro e w1 ⟨rfl, hw1⟩
    subst w1
    clear K
    go_wp2_with fail
    refine ((unhide KD) w).mono ?_
    rintro e w1 ⟨rfl, hb⟩
    clear KD
    generalize Scn.told o = r at *
    obtain ⟨n, b⟩ := r
    have HF : WholeB w (n, b) (.returned (.tuple #[.int .i64 n, .bool b])) w1 := ⟨rfl, hb⟩
    clear hb
    go_wp2
    go_ret2
    exact HF
set_option maxHeartbeats 2000000 in
theorem spanC : SpanC := by
  intro s w hg hs
  obtain ⟨⟨m, hm⟩, _, _⟩ := hg
  have K := hide (Tryz.strings_Cut s ⟨#[46, 46]⟩ m w (by omega) hm)
  have e46 : (ByteArray.mk #[46, 46]).data.toList = [46, 46] := rfl
  rw [e46] at K
  have hgl : Glob w := ⟨⟨m, hm⟩, by assumption, by assumption⟩
  rw [nums_n8]
  have hsz : s.data.toList.length = s.size := by rw [Array.length_toList]; rfl
  rcases span_cut s.data.toList with ⟨i, hc, hi, hsp⟩ | ⟨hc, hsp⟩
  · rw [hc] at K
    rw [hsp]
    have KA := hide (fun w hg => codeC ⟨(s.data.toList.take i).toArray⟩ w hg (by show (s.data.toList.take i).toArray.size ≤ _; simp; omega))
    have KB := hide (fun w hg => codeC ⟨(s.data.toList.drop (i + 2)).toArray⟩ w hg (by show (s.data.toList.drop (i + 2)).toArray.size ≤ _; simp; omega))
    rw [nums_of] at KA KB
    have HA : Hid (∀ a, Scn.code (n8 (s.data.toList.take i)) = some a → 0 ≤ a ∧ a ≤ 1114111) := fun a h => (Scn.code_back h).2
    have HB : Hid (∀ a, Scn.code (n8 (s.data.toList.drop (i + 2))) = some a → 0 ≤ a ∧ a ≤ 1114111) := fun a h => (Scn.code_back h).2
    clear hc hsp hi hm
    generalize s.data.toList.take i = l1 at *
    generalize s.data.toList.drop (i + 2) = l2 at *
    generalize Scn.code (n8 l1) = o1 at *
    generalize Scn.code (n8 l2) = o2 at *
    go_enter Tryz.func378, Tryz.ntmps378
    go_wp2_with fail
    refine (unhide K).mono ?_
    rintro e w1 ⟨rfl, n, hw1⟩
    have hb1 : Below w.heap.size w w1 := by rw [hw1]; exact below_drewN w n
    have g1 := hgl.on hb1
    clear K hw1
    go_wp2_with fail
    refine ((unhide KA) w1 g1).mono ?_
    rintro e w2 ⟨rfl, hb2⟩
    have g2 := g1.on hb2
    clear KA
    cases o1 with
    | none =>
      have HF : SpanB w (Scn.both none o2) (.returned (.tuple #[.int .i32 0, .int .i32 0, .bool false])) w2 := ⟨rfl, bthen hb1 hb2⟩
      have e1 : Scn.told none = (0, false) := rfl
      rw [e1]
      clear HA HB KB g1 g2 hgl
      go_wp2
      go_ret3
      exact HF
    | some a =>
      have e1 : Scn.told (some a) = (a, true) := rfl
      rw [e1]
      obtain ⟨a1, a2⟩ := (unhide HA) a rfl
      clear g1 hgl
      go_wp2_with fail
      refine ((unhide KB) w2 g2).mono ?_
      rintro e w3 ⟨rfl, hb3⟩
      clear KB g2
      cases o2 with
      | none =>
        have HF : SpanB w (Scn.both (some a) none) (.returned (.tuple #[.int .i32 0, .int .i32 0, .bool false])) w3 := ⟨rfl, bthen (bthen hb1 hb2) hb3⟩
        have e2 : Scn.told none = (0, false) := rfl
        rw [e2]
        clear HA HB
        go_wp2
        go_ret3
        exact HF
      | some b =>
        have e2 : Scn.told (some b) = (b, true) := rfl
        rw [e2]
        obtain ⟨b1, b2⟩ := (unhide HB) b rfl
        by_cases hab : a < b
        · have HF : SpanB w (Scn.both (some a) (some b)) (.returned (.tuple #[.int .i32 a, .int .i32 b, .bool true])) w3 := ⟨by rw [Scn.both, if_pos hab]; rfl, bthen (bthen hb1 hb2) hb3⟩
          clear HA HB
          go_wp2
          go_ret3
          exact HF
        · have HF : SpanB w (Scn.both (some a) (some b)) (.returned (.tuple #[.int .i32 0, .int .i32 0, .bool false])) w3 := ⟨by rw [Scn.both, if_neg (by omega)]; rfl, bthen (bthen hb1 hb2) hb3⟩
          clear HA HB
          go_wp2
          go_ret3
          exact HF
  · rw [hc] at K
    rw [hsp]
    have es : (ByteArray.mk s.data.toList.toArray) = s := by cases s; simp
    rw [es] at K
    have KA := hide (fun w hg => codeC s w hg hs)
    rw [nums_n8] at KA
    clear hc hsp hm es
    generalize Scn.code (n8 s.data.toList) = o1 at *
    go_enter Tryz.func378, Tryz.ntmps378
    go_wp2_with fail
    refine (unhide K).mono ?_
    rintro e w1 ⟨rfl, n, hw1⟩
    have hb1 : Below w.heap.size w w1 := by rw [hw1]; exact below_drewN w n
    have g1 := hgl.on hb1
    clear K hw1 hgl
    go_wp2_with fail
    refine ((unhide KA) w1 g1).mono ?_
    rintro e w2 ⟨rfl, hb2⟩
    clear KA g1
    cases o1 with
    | none =>
      have HF : SpanB w ((none : Option Int).map fun a => (a, a)) (.returned (.tuple #[.int .i32 0, .int .i32 0, .bool false])) w2 := ⟨rfl, bthen hb1 hb2⟩
      have e1 : Scn.told none = (0, false) := rfl
      rw [e1]
      go_wp2
      go_ret3
      exact HF
    | some a =>
      have HF : SpanB w ((some a).map fun a => (a, a)) (.returned (.tuple #[.int .i32 a, .int .i32 a, .bool true])) w2 := ⟨rfl, bthen hb1 hb2⟩
      have e1 : Scn.told (some a) = (a, true) := rfl
      rw [e1]
      go_wp2
      go_ret3
      exact HF
end Go.Proofs.YtceflkeaenepcaaGreatDoor.Sn
namespace Go.Proofs.YtceflkeaenepcaaGreatDoor.Sn
open Go.RowKit
theorem wordsC : WordsC := fun s w _ hs => scanWords_any s w hs
def okAt (k : Nat) (c : Int) : Prop := if k = 0 then 65 ≤ c ∧ c ≤ 90 else 97 ≤ c ∧ c ≤ 122
theorem name_iff (l : List Int) : Scn.name l = true ↔ (l.length = 4 ∧ ∀ k, k < 4 → okAt k (l.getD k 0)) := by
  unfold Scn.name
  rw [decide_eq_true_iff]
  constructor
  · rintro ⟨h0, h1, h2, h3, h4, h5⟩
    refine ⟨h0, fun k hk => ?_⟩
    unfold okAt
    obtain rfl | rfl | rfl | rfl : k = 0 ∨ k = 1 ∨ k = 2 ∨ k = 3 := by omega
    · exact ⟨h1, h2⟩
    · exact h3
    · exact h4
    · exact h5
  · rintro ⟨h0, h⟩
    exact ⟨h0, (h 0 (by omega)).1, (h 0 (by omega)).2, h 1 (by omega), h 2 (by omega), h 3 (by omega)⟩
set_option maxHeartbeats 2000000 in
theorem nameC : NameC := by
  intro s w _ hs
  have hlen := nums_length s
  by_cases h4 : s.size = 4
  · have HT : Hid ((∀ k, k < 4 → okAt k ((nums s).getD k 0)) → ∀ w', Below w.heap.size w w' → Tells w (Scn.name (nums s)) (.returned (.bool true)) w') := fun h w' hb => ⟨by rw [(name_iff _).2 ⟨by omega, h⟩], hb⟩
    have HFa : Hid (∀ k, k < 4 → ¬ okAt k ((nums s).getD k 0) → ∀ w', Below w.heap.size w w' → Tells w (Scn.name (nums s)) (.returned (.bool false)) w') := fun k hk h w' hb => by
      have : Scn.name (nums s) = false := by
        cases hn : Scn.name (nums s) with
        | false => rfl
        | true => exact absurd (((name_iff _).1 hn).2 k hk) h
      exact ⟨by rw [this], hb⟩
    have HByt := hide (fun k => (nums_byt s).at k)
    have q4 : ((s.size : Int) != 4) = false := by rw [h4]; rfl
    clear hlen
    generalize Scn.name (nums s) = res at *
    go_enter Tryz.func135, Tryz.ntmps135
    go_wp2
    go_loopw [3, 4] (fun _ _ wr => ∃ k : Nat, wr = w.iter s k ∧ k ≤ 4 ∧ ∀ j, j < k → okAt j ((nums s).getD j 0)) (fun _ _ wr => 4 - wr.iterPos w.heap.size)
    case atStart => exact ⟨0, rfl, by omega, fun j hj => absurd hj (Nat.not_lt_zero _)⟩
    case round =>
      obtain ⟨k, rfl, hk, hok⟩ := hrel
      have HOK := hide hok
      clear hok
      by_cases hlt : k < 4
      · have hnx := fun ty => run_next_any (P := Tryz.prog) w s k ty (by omega)
        obtain ⟨c1, c2⟩ := (unhide HByt) k
        rcases Int.lt_or_le ((nums s).getD k 0) 128 with hlo | hhi
        · obtain ⟨d1, d2⟩ := dec_low s k (by omega) hlo
          rw [d1, d2] at hnx
          clear d1 d2
          have HF2 := hide ((unhide HFa) k hlt)
          have HO2 : Hid (okAt k ((nums s).getD k 0) → ∀ j, j < k + 1 → okAt j ((nums s).getD j 0)) := fun h j hj => by
            rcases Nat.lt_or_ge j k with hj2 | hj2
            · exact (unhide HOK) j hj2
            · obtain rfl : j = k := by omega
              exact h
          clear HFa HOK
          have hmo : 4 - (k + 1) < 4 - (w.iter s k).iterPos w.heap.size := by rw [World.iterPos_iter]; omega
          generalize hcg : (nums s).getD k 0 = c at hnx c1 c2 hlo HF2 HO2
          clear hcg h4 q4
          by_cases hk0 : k = 0
          · subst hk0
            by_cases g1 : 65 ≤ c
            · by_cases g2 : c ≤ 90
              · have HX := hide ((unhide HO2) ⟨g1, g2⟩)
                clear HO2 HF2 HT
                go_wp2
                go_roundw
                case rel => exact ⟨0 + 1, rfl, by omega, unhide HX⟩
                case measure => rw [World.iterPos_iter]; exact hmo
              · have HF := (unhide HF2) (fun h => g2 h.2) (w.iter s (0 + 1)) ((Below.refl _ _).alloc (Nat.le_refl _) _)
                clear HO2 HF2 HT
                go_wp2
                go_ret
                exact HF
            · have HF := (unhide HF2) (fun h => g1 h.1) (w.iter s (0 + 1)) ((Below.refl _ _).alloc (Nat.le_refl _) _)
              clear HO2 HF2 HT
              go_wp2
              go_ret
              exact HF
          · have hk1 : ((k : Int) == 0) = false := beq_eq_false_iff_ne.2 (by omega)
            have eok : okAt k c = (97 ≤ c ∧ c ≤ 122) := by unfold okAt; rw [if_neg hk0]
            rw [eok] at HF2 HO2
            clear eok
            by_cases g1 : 97 ≤ c
            · by_cases g2 : c ≤ 122
              · have HX := hide ((unhide HO2) ⟨g1, g2⟩)
                clear HO2 HF2 HT
                go_wp2
                go_roundw
                case rel => exact ⟨k + 1, rfl, by omega, unhide HX⟩
                case measure => rw [World.iterPos_iter]; exact hmo
              · have HF := (unhide HF2) (fun h => g2 h.2) (w.iter s (k + 1)) ((Below.refl _ _).alloc (Nat.le_refl _) _)
                clear HO2 HF2 HT
                go_wp2
                go_ret
                exact HF
            · have HF := (unhide HF2) (fun h => g1 h.1) (w.iter s (k + 1)) ((Below.refl _ _).alloc (Nat.le_refl _) _)
              clear HO2 HF2 HT
              go_wp2
              go_ret
              exact HF
        · obtain ⟨d1, d2, d3, d4⟩ := dec_high s k (by omega) hhi
          have d5 := dec_top s k
          have HF := (unhide HFa) k hlt (fun h => by unfold okAt at h; split at h <;> omega) (w.iter s (k + (Utf8.decode s k).2)) ((Below.refl _ _).alloc (Nat.le_refl _) _)
          clear HFa HT HOK d2 d3 d4 h4 q4
          generalize (Utf8.decode s k).2 = n2 at *
          generalize ((Utf8.decode s k).1 : Int) = c at *
          by_cases hk0 : k = 0
          · subst hk0
            rw [Nat.zero_add] at HF hnx
            go_wp2
            go_ret
            exact HF
          · have hk1 : ((k : Int) == 0) = false := beq_eq_false_iff_ne.2 (by omega)
            go_wp2
            go_ret
            exact HF
      · obtain rfl : k = 4 := by omega
        have hnx := fun ty => run_next_end (P := Tryz.prog) w s 4 ty (by omega)
        have HF := (unhide HT) (unhide HOK) (w.iter s 4) ((Below.refl _ _).alloc (Nat.le_refl _) _)
        clear HFa HT HOK
        go_wp2
        go_ret
        exact HF
  · have HF : Tells w (Scn.name (nums s)) (.returned (.bool false)) w := by
      have : Scn.name (nums s) = false := by
        cases hn : Scn.name (nums s) with
        | false => rfl
        | true => exact absurd ((name_iff _).1 hn).1 (by omega)
      exact ⟨by rw [this], Below.refl _ _⟩
    have q4 : ((s.size : Int) != 4) = true := by simp; omega
    go_enter Tryz.func135, Tryz.ntmps135
    go_wp2
    go_ret
    exact HF
theorem own_strings (w : World) (L : List ByteArray) (n : Nat) (hn : n ≤ L.length) (hL : L.length ≤ 140737488355328) :
    Ow 9 (w.alloc (.cells (L.map Value.string).toArray 9)) w.heap.size (.slice (some ⟨w.heap.size, 0, none⟩) n L.length) ((L.take n).map Value.string) := by
  have hl : ((L.take n).map Value.string).length = n := by simp; omega
  refine ⟨by omega, by rw [hl, Nat.mul_one], .inr ⟨w.heap.size, L.length, (L.map Value.string).toArray, by rw [hl], Nat.le_refl _, ?_, by omega, by unfold maxLen; omega, by simp, by rw [hl]; simp [List.map_take]⟩⟩
  show (w.heap.push _)[w.heap.size]? = _
  simp
theorem txts_of (L : List ByteArray) : L.map Value.string = txts (L.map nums) := by
  rw [txts, List.map_map]
  exact List.map_congr_left fun s _ => by simp [strOf_nums]
set_option maxHeartbeats 1000000 in
theorem linesC : LinesC := by
  intro s w hg hs
  obtain ⟨⟨m, hm⟩, _, _⟩ := hg
  have K := hide (Tryz.strings_Split s ⟨#[10]⟩ m w (by omega) hm (by decide))
  have hall := Lib.splitB_all ⟨#[10]⟩ (by decide) 0 (Lib.countB s ⟨#[10]⟩) s rfl
  have hle := Lib.countB_le ⟨#[10]⟩ (by decide) s.size s (Nat.le_refl _)
  have hsp := split_nums s
  have hcl := Scn.lines_cut (nums s) []
  rw [show Scn.lines (nums s) = Scn.linesA [] (nums s) from rfl, hcl, ← hsp]
  clear hcl hsp hm
  generalize Lib.countB s ⟨#[10]⟩ = C at *
  generalize Lib.splitB ⟨#[10]⟩ 0 C s = L at *
  obtain ⟨I, x, rfl⟩ : ∃ I x, L = I ++ [x] := by
    have hne : L ≠ [] := fun e => by rw [e] at hall; simp at hall
    exact ⟨L.dropLast, L.getLast hne, (List.dropLast_concat_getLast hne).symm⟩
  obtain rfl : C = I.length := by simp at hall; omega
  have hcell : (w.alloc (.cells ((I ++ [x]).map Value.string).toArray 9)).cell? ⟨w.heap.size, I.length, none⟩ = some (.string x) := by
    simp [World.cell?, World.alloc, -World.alloc_eq]
  have hb1 : Below w.heap.size w (w.alloc (.cells ((I ++ [x]).map Value.string).toArray 9)) := (Below.refl _ _).alloc (Nat.le_refl _) _
  have hlast : ((I ++ [x]).map nums).getLastD [] = nums x := by rw [List.map_append]; simp
  by_cases hx : x = ⟨#[]⟩
  · subst hx
    have ho := own_strings w (I ++ [(⟨#[]⟩ : ByteArray)]) I.length (by simp) (by simp; omega)
    rw [List.take_left] at ho
    have hcut : Scn.cutLast ((I ++ [(⟨#[]⟩ : ByteArray)]).map nums) = I.map nums := by
      unfold Scn.cutLast
      rw [hlast, if_pos (show nums (⟨#[]⟩ : ByteArray) = [] from rfl), List.map_append]; simp
    rw [hcut]
    have hle2 : (I ++ [(⟨#[]⟩ : ByteArray)]).length = I.length + 1 := by simp
    rw [hle2, txts_of I] at ho
    have HF : TextsNew w (I.map nums) (.returned (.slice (some ⟨w.heap.size, 0, none⟩) I.length (I.length + 1))) (w.alloc (.cells ((I ++ [(⟨#[]⟩ : ByteArray)]).map Value.string).toArray 9)) := ⟨_, rfl, ho, hb1⟩
    clear ho hb1 hlast hcut hle2 hall
    generalize (w.alloc (.cells ((I ++ [(⟨#[]⟩ : ByteArray)]).map Value.string).toArray 9)) = W1 at *
    go_enter Tryz.func24, Tryz.ntmps24
    go_wp2_with fail
    refine (unhide K).mono ?_
    rintro e w1 ⟨rfl, hw1⟩
    subst hw1
    clear K
    go_wp2
    go_ret
    exact HF
  · have ho := own_strings w (I ++ [x]) (I.length + 1) (by simp) (by simp; omega)
    rw [List.take_of_length_le (by simp)] at ho
    have hcut : Scn.cutLast ((I ++ [x]).map nums) = (I ++ [x]).map nums := by
      unfold Scn.cutLast
      rw [hlast, if_neg (fun e => hx (nums_inj (e.trans rfl)))]
    rw [hcut]
    have hle2 : (I ++ [x]).length = I.length + 1 := by simp
    rw [hle2] at ho
    have HF : TextsNew w ((I ++ [x]).map nums) (.returned (.slice (some ⟨w.heap.size, 0, none⟩) (I.length + 1) (I.length + 1))) (w.alloc (.cells ((I ++ [x]).map Value.string).toArray 9)) := ⟨_, rfl, by rw [← txts_of]; exact ho, hb1⟩
    have hne : x.toList.isEmpty = false := by
      rw [ByteArray.toList_eq, List.isEmpty_eq_false_iff]
      exact fun e => hx (by cases x; simp_all)
    clear ho hb1 hlast hcut hle2 hall hx
    generalize (w.alloc (.cells ((I ++ [x]).map Value.string).toArray 9)) = W1 at *
    go_enter Tryz.func24, Tryz.ntmps24
    go_wp2_with fail
    refine (unhide K).mono ?_
    rintro e w1 ⟨rfl, hw1⟩
    subst hw1
    clear K
    go_wp2
    go_ret
    exact HF
end Go.Proofs.YtceflkeaenepcaaGreatDoor.Sn
namespace Go.Proofs.YtceflkeaenepcaaGreatDoor.Sn
open Go.RowKit
theorem pow16_any (w : World) : Calls Tryz.prog 96 #[.int .i64 16] w fun e w' => e = .returned (.bool true) ∧ w' = w := by
  go_enter Tryz.func96, Tryz.ntmps96
  go_wp2
  go_ret
  exact ⟨by rfl, rfl⟩
theorem tz16_any (w : World) (h : w.cell? ⟨8, 15, none⟩ = some (.int .u8 4)) : Calls Tryz.prog 97 #[.int .u64 16] w fun e w' => e = .returned (.int .i64 4) ∧ w' = w := by
  have hk : bits .and .u64 16 18446744073709551600 = 16 := by decide
  have hw : IntKind.u64.wrap (-16) = 18446744073709551600 := by decide
  have hm : IntKind.u64.wrap 4573923408821661840 = 4573923408821661840 := by decide
  go_enter Tryz.func97, Tryz.ntmps97
  go_wp2
  go_ret
  exact ⟨by rfl, rfl⟩
namespace Scn
open Go.Proofs.YtceflkeaenepcaaGreatDoor.Scn
def lowc (d : Int) : Int := if d < 10 then 48 + d else 87 + d
def hexL : Nat → Int → List Int → List Int
  | 0, _, a => a
  | f + 1, n, a => if 16 ≤ n then hexL f (n / 16) (lowc (n % 16) :: a) else lowc n :: a
end Scn
def digs36 : ByteArray := ⟨#[48, 49, 50, 51, 52, 53, 54, 55, 56, 57, 97, 98, 99, 100, 101, 102, 103, 104, 105, 106, 107, 108, 109, 110, 111, 112, 113, 114, 115, 116, 117, 118, 119, 120, 121, 122]⟩
theorem dig_at (d : Int) (h0 : 0 ≤ d) (h1 : d < 16) (w : World) : (Instr.index 9 (.string digs36) (.int .u64 d)).run Tryz.prog w = .ok (.int .u8 (Scn.lowc d)) w := by
  have h : d = 0 ∨ d = 1 ∨ d = 2 ∨ d = 3 ∨ d = 4 ∨ d = 5 ∨ d = 6 ∨ d = 7 ∨ d = 8 ∨ d = 9 ∨ d = 10 ∨ d = 11 ∨ d = 12 ∨ d = 13 ∨ d = 14 ∨ d = 15 := by omega
  rw [run_index_string w 9 digs36 .u64 d Tryz.underlying9, dif_pos (by have : digs36.size = 36 := rfl; omega)]
  rcases h with rfl | rfl | rfl | rfl | rfl | rfl | rfl | rfl | rfl | rfl | rfl | rfl | rfl | rfl | rfl | rfl <;> rfl
theorem and15 (n : Nat) (h : n < 18446744073709551616) : bits .and .u64 (n : Int) 15 = ((n % 16 : Nat) : Int) := by
  show IntKind.u64.wrap ((BitVec.ofInt 64 (n : Int) &&& BitVec.ofInt 64 15).toNat : Int) = _
  have e : (BitVec.ofInt 64 (n : Int) &&& BitVec.ofInt 64 15).toNat = n % 16 := by
    rw [BitVec.toNat_and, BitVec.ofInt_natCast, BitVec.toNat_ofNat, Nat.mod_eq_of_lt h, show (BitVec.ofInt 64 15).toNat = 2 ^ 4 - 1 from rfl, Nat.and_two_pow_sub_one_eq_mod]
  rw [e]
  exact IntWalk.u64_in _ ⟨by omega, by omega⟩
def Tail (cur : Array Value) (acc : List Int) : Prop := cur.size = 65 ∧ acc.length ≤ 65 ∧ cur.toList.drop (65 - acc.length) = acc.map fun z => Value.int .u8 z
theorem Tail.cell {cur : Array Value} {acc : List Int} (h : Tail cur acc) (i : Nat) (hi : i < acc.length) : cur[65 - acc.length + i]? = some (.int .u8 (acc.getD i 0)) := by
  obtain ⟨h1, h2, h3⟩ := h
  have e := congrArg (fun l => l[i]?) h3
  simp only [List.getElem?_drop, List.getElem?_map] at e
  rw [← Array.getElem?_toList, e, List.getElem?_eq_getElem hi]
  simp [List.getD, hi]
def BitsOut (w : World) (zs : List Int) (e : Ending) (w' : World) : Prop := ∃ t, e = .returned (.tuple #[.slice none 0 0, .string t]) ∧ nums t = zs ∧ Below w.heap.size w w'
theorem lowc_byt {d : Int} (h0 : 0 ≤ d) (h1 : d < 16) : 0 ≤ Scn.lowc d ∧ Scn.lowc d ≤ 255 := by unfold Scn.lowc; split <;> omega
theorem hexL_byt (f : Nat) : ∀ (n : Int) (a : List Int), 0 ≤ n → Byt a → Byt (Scn.hexL f n a) := by
  induction f with
  | zero => intro n a _ h; exact h
  | succ f ih =>
    intro n a h0 h
    rw [Scn.hexL]
    split
    · refine ih _ _ (by omega) fun z hz => ?_
      rcases List.mem_cons.1 hz with rfl | hz
      · exact lowc_byt (by omega) (by omega)
      · exact h z hz
    · intro z hz
      rcases List.mem_cons.1 hz with rfl | hz
      · exact lowc_byt (by omega) (by omega)
      · exact h z hz
theorem slice106 (b k : Nat) (hk : k ≤ 64) (w : World) : (Instr.sliceAt 164 (.pointer (some ⟨b, 0, none⟩)) (some (.int .i64 ((64 - k : Nat) : Int))) none none).run Tryz.prog w = .ok (.slice (some ⟨b, 64 - k, none⟩) (k + 1) (k + 1)) w := by
  have hl : Tryz.prog.arrayLen 164 = 65 := by kernel_rfl
  have he : Tryz.prog.elem 164 = 5 := by kernel_rfl
  rw [run_sliceAt_array_l w 164 ⟨b, 0, none⟩ (by rw [hl, he]; exact Tryz.underlying164) .i64 _ (by omega) (by rw [hl]; omega), hl, he, Tryz.sizeOf5]
  show Result.ok (slicedAt _ _ _ _ _) w = _
  unfold slicedAt
  rw [show ((64 - k : Nat) : Int).toNat = 64 - k by omega, if_neg (by omega), addr_add, show 65 - (64 - k) = k + 1 by omega]
  simp
set_option maxRecDepth 8000 in
set_option maxHeartbeats 4000000 in
theorem formatBits_any (c : Nat) (hc : c ≤ 1114111) (w : World) (h6 : w.cell? ⟨8, 15, none⟩ = some (.int .u8 4)) :
    Calls Tryz.prog 90 #[.slice none 0 0, .int .u64 (c : Int), .int .i64 16, .bool false, .bool false] w (BitsOut w (Scn.hexL 8 c [])) := by
  have K1 := hide (fun w => pow16_any w)
  have K2 := hide (fun w h => tz16_any w h)
  have hlt : 8 < w.heap.size := lt_of_cell? h6
  go_enter Tryz.func90, Tryz.ntmps90
  go_wp2_with fail
  refine ((unhide K1) _).mono ?_
  rintro e w1 ⟨rfl, hw1⟩
  subst w1
  clear K1
  go_wp2_with fail
  refine ((unhide K2) _ (by rw [Below.cell ((Below.refl w.heap.size w).alloc (Nat.le_refl _) _) hlt]; exact h6)).mono ?_
  rintro e w1 ⟨rfl, hw1⟩
  subst w1
  clear K2
  go_wp2
  go_loopw [1, 13] (fun uv iv wr => ∃ (u k : Nat) (cur : Array Value) (acc : List Int), uv = .int .u64 (u : Int) ∧ iv = .int .i64 ((65 - k : Nat) : Int) ∧ acc.length = k ∧ k ≤ 5 ∧ u < 16 ^ (6 - k) ∧ wr = w.alloc (.cells cur 164) ∧ Tail cur acc ∧ Scn.hexL 8 c [] = Scn.hexL (8 - k) u acc) (fun uv _ _ => (intOf uv).toNat)
  case atStart => exact ⟨c, 0, _, [], rfl, rfl, rfl, by omega, by omega, rfl, ⟨rfl, by simp, by rfl⟩, rfl⟩
  case round =>
    obtain ⟨u, k, cur, acc, rfl, rfl, hk, hk5, hu, rfl, htl, hx⟩ := hrel
    have hu2 : u < 16777216 := by
      have : 16 ^ (6 - k) ≤ 16 ^ 6 := Nat.pow_le_pow_right (by omega) (by omega)
      omega
    obtain ⟨t1, t2, t3⟩ := htl
    by_cases hge : 16 ≤ u
    · obtain ⟨d, hde⟩ : ∃ d : Int, ((u % 16 : Nat) : Int) = d := ⟨_, rfl⟩
      have hA := and15 u (by omega)
      rw [hde] at hA
      have d0 : 0 ≤ d := by omega
      have d1 : d < 16 := by omega
      have hd := dig_at d d0 d1
      unfold digs36 at hd
      obtain ⟨x, hcx⟩ : ∃ x, cur[64 - k]? = some x := ⟨_, Array.getElem?_eq_getElem (by omega)⟩
      have hki : ((65 - k : Nat) : Int) - 1 = ((64 - k : Nat) : Int) := by omega
      have HX : Hid (∃ (u1 k1 : Nat) (cur1 : Array Value) (acc1 : List Int), Value.int .u64 ((u : Int) / 16) = .int .u64 (u1 : Int) ∧ Value.int .i64 ((64 - k : Nat) : Int) = .int .i64 ((65 - k1 : Nat) : Int) ∧ acc1.length = k1 ∧ k1 ≤ 5 ∧ u1 < 16 ^ (6 - k1) ∧ w.alloc (.cells (cur.setIfInBounds (64 - k) (.int .u8 (Scn.lowc d))) 164) = w.alloc (.cells cur1 164) ∧ Tail cur1 acc1 ∧ Scn.hexL 8 c [] = Scn.hexL (8 - k1) u1 acc1) := by
        have hk4 : k ≤ 4 := by
          rcases Nat.lt_or_ge k 5 with h | h
          · omega
          · obtain rfl : k = 5 := by omega
            simp at hu; omega
        refine ⟨u / 16, k + 1, _, Scn.lowc d :: acc, rfl, by rw [show 65 - (k + 1) = 64 - k by omega], by simp [hk], by omega, ?_, rfl, ⟨by simp [t1], by simp; omega, ?_⟩, ?_⟩
        · rw [show 6 - k = (6 - (k + 1)) + 1 by omega, Nat.pow_succ] at hu
          omega
        · have e : 65 - (Scn.lowc d :: acc).length = 64 - k := by simp [hk]
          rw [e, Array.toList_setIfInBounds, List.drop_set, if_neg (by omega), Nat.sub_self]
          have hlen : 64 - k < cur.toList.length := by rw [Array.length_toList]; omega
          rw [List.drop_eq_getElem_cons hlen, List.set_cons_zero, List.map_cons, ← t3, hk, show 64 - k + 1 = 65 - k by omega]
        · rw [hx, show 8 - k = (8 - (k + 1)) + 1 by omega, Scn.hexL, if_pos (by omega), ← hde]
          rfl
      clear t3 hx hu
      go_wp2
      go_roundw
      case rel => exact unhide HX
      case measure => simp [intOf]; omega
    · obtain ⟨d, hde⟩ : ∃ d : Int, ((u : Nat) : Int) = d := ⟨_, rfl⟩
      have hd := dig_at d (by omega) (by omega)
      unfold digs36 at hd
      obtain ⟨x, hcx⟩ : ∃ x, cur[64 - k]? = some x := ⟨_, Array.getElem?_eq_getElem (by omega)⟩
      have hki : ((65 - k : Nat) : Int) - 1 = ((64 - k : Nat) : Int) := by omega
      have HX : Hid (Tail (cur.setIfInBounds (64 - k) (.int .u8 (Scn.lowc d))) (Scn.hexL 8 c [])) := by
        have ee : Scn.hexL 8 c [] = Scn.lowc d :: acc := by
          rw [hx, show 8 - k = (7 - k) + 1 by omega, Scn.hexL, if_neg (by omega), hde]
        rw [ee]
        refine ⟨by simp [t1], by simp; omega, ?_⟩
        have e : 65 - (Scn.lowc d :: acc).length = 64 - k := by simp [hk]
        rw [e, Array.toList_setIfInBounds, List.drop_set, if_neg (by omega), Nat.sub_self]
        have hlen : 64 - k < cur.toList.length := by rw [Array.length_toList]; omega
        rw [List.drop_eq_getElem_cons hlen, List.set_cons_zero, List.map_cons, ← t3, hk, show 64 - k + 1 = 65 - k by omega]
      have hel : (Scn.hexL 8 c []).length = k + 1 := by
        rw [hx, show 8 - k = (7 - k) + 1 by omega, Scn.hexL, if_neg (by omega)]; simp [hk]
      have hsl := slice106 w.heap.size k (by omega)
      have hbt := hexL_byt 8 (c : Int) [] (by omega) (fun z hz => by cases hz)
      have hcv : (convert 88 9 (.slice (some ⟨w.heap.size, 64 - k, none⟩) (k + 1) (k + 1))).run Tryz.prog (w.alloc (.cells (cur.setIfInBounds (64 - k) (.int .u8 (Scn.lowc d))) 164)) = .ok (.string (strOfNums (Scn.hexL 8 c []))) (w.alloc (.cells (cur.setIfInBounds (64 - k) (.int .u8 (Scn.lowc d))) 164)) := by
        refine run_convert_bytes_arg _ 88 5 Tryz.underlying88 Tryz.underlying5 w.heap.size (64 - k) (k + 1) (k + 1) (Scn.hexL 8 c []) hel (fun i hi => ?_) 9 Tryz.underlying9
        have hcc := (unhide HX).cell i (by omega)
        rw [hel, show 65 - (k + 1) = 64 - k by omega] at hcc
        simp only [World.cell?, World.alloc]
        simpa using hcc
      have HF : BitsOut w (Scn.hexL 8 c []) (.returned (.tuple #[.slice none 0 0, .string (strOfNums (Scn.hexL 8 c []))])) (w.alloc (.cells (cur.setIfInBounds (64 - k) (.int .u8 (Scn.lowc d))) 164)) := ⟨_, rfl, nums_strOf hbt, (Below.refl _ _).alloc (Nat.le_refl _) _⟩
      rw [hde]
      clear t3 hx hu HX hbt hel
      generalize Scn.hexL 8 c [] = zs at *
      go_wp2
      go_ret2
      exact HF
end Go.Proofs.YtceflkeaenepcaaGreatDoor.Sn
namespace Go.Proofs.YtceflkeaenepcaaGreatDoor.Sn
open Go.RowKit
namespace Scn
open Go.Proofs.YtceflkeaenepcaaGreatDoor.Scn
def up (z : Int) : Int := if 97 ≤ z ∧ z ≤ 122 then z - 32 else z
theorem up_low {d : Int} (h0 : 0 ≤ d) (h1 : d < 16) : up (lowc d) = hexc d := by
  unfold up lowc hexc
  split <;> split <;> omega
theorem hexW_nought (f : Nat) (a : List Int) (h : a ≠ []) : hexW f 0 a = a := by
  cases f with
  | zero => rfl
  | succ f => rw [hexW, if_neg (by simp [h])]
theorem hexL_up (f : Nat) : ∀ (n : Int) (a : List Int), 0 ≤ n → n < ((16 ^ f : Nat) : Int) → (0 < n ∨ a = []) → (hexL f n a).map up = hexW f n (a.map up) := by
  induction f with
  | zero => intro n a _ _ _; rfl
  | succ f ih =>
    intro n a h0 h1 h2
    rw [hexL, hexW, if_pos (h2.imp id fun e => by rw [e]; rfl)]
    rw [Nat.pow_succ] at h1
    split
    · rw [ih (n / 16) _ (by omega) (by omega) (.inl (by omega)), List.map_cons, up_low (by omega) (by omega)]
    · rw [show n / 16 = 0 by omega, show n % 16 = n by omega, hexW_nought f _ (by simp), List.map_cons, up_low h0 (by omega)]
theorem decW_dec (f : Nat) : ∀ (u : Nat) (a : List Int), u < 10 ^ f → 0 < u → decW f u a = n8 (Lib.decDigits u) ++ a := by
  induction f with
  | zero => intro u a h h0; simp at h; omega
  | succ f ih =>
    intro u a h h0
    rw [Nat.pow_succ] at h
    rw [decW, if_pos (by omega), Lib.decDigits]
    by_cases hu : u < 10
    · have e0 : decW f ((u : Int) / 10) ((48 + (u : Int) % 10) :: a) = (48 + (u : Int) % 10) :: a := by
        rw [show (u : Int) / 10 = 0 by omega]
        cases f with
        | zero => rfl
        | succ f => rw [decW, if_neg (by omega)]
      rw [e0, dif_pos hu]
      show _ = [(((UInt8.ofNat (48 + u)).toNat : Nat) : Int)] ++ a
      rw [UInt8.toNat_ofNat', Nat.mod_eq_of_lt (by omega)]
      simp; omega
    · rw [dif_neg hu]
      have e1 : ((u : Int) / 10) = ((u / 10 : Nat) : Int) := by omega
      rw [e1, ih (u / 10) _ (by omega) (by omega)]
      unfold n8
      rw [List.map_append, List.append_assoc]
      congr 1
      show _ = [(((UInt8.ofNat (48 + u % 10)).toNat : Nat) : Int)] ++ a
      rw [UInt8.toNat_ofNat', Nat.mod_eq_of_lt (by omega)]
      simp
theorem pwhole_itoa (n : Int) (h0 : -9223372036854775808 ≤ n) (h1 : n ≤ 9223372036854775807) : n8 (Lib.itoa n) = pwhole n := by
  unfold pwhole Lib.itoa
  by_cases hz : n = 0
  · subst hz
    rw [if_neg (by omega), if_pos rfl, Lib.decDigits, dif_pos (by decide)]; rfl
  · rw [if_neg hz]
    split
    · have e : decW 20 (-n) [] = decW 20 (n.natAbs : Int) [] := by rw [show -n = (n.natAbs : Int) by omega]
      rw [e, decW_dec 20 n.natAbs [] (by omega) (by omega), List.append_nil]; rfl
    · have e : decW 20 n [] = decW 20 (n.toNat : Int) [] := by rw [show (n.toNat : Int) = n by omega]
      rw [e, decW_dec 20 n.toNat [] (by omega) (by omega), List.append_nil]
end Scn
theorem pwholeC : PWholeC := by
  intro n w hg h
  have K := hide (Tryz.strconv_Itoa n h.1 h.2 w hg.2.1)
  have HN := hide (Scn.pwhole_itoa n h.1 h.2)
  obtain ⟨_, _⟩ := h
  go_enter Tryz.func148, Tryz.ntmps148
  go_wp2_with fail
  refine (unhide K).mono ?_
  rintro e w1 ⟨rfl, k, os, hw1⟩
  have HF : TextNew w (Scn.pwhole n) (.returned (.string ⟨(Lib.itoa n).toArray⟩)) w1 := ⟨_, (nums_of _).trans (unhide HN), rfl, by rw [hw1]; exact below_grow w k os⟩
  clear K HN hw1
  generalize Lib.itoa n = l at *
  go_wp2
  go_ret
  exact HF
theorem formatInt_any (c : Nat) (hc : c ≤ 1114111) (w : World) (h6 : w.cell? ⟨8, 15, none⟩ = some (.int .u8 4)) : Calls Tryz.prog 80 #[.int .i64 (c : Int), .int .i64 16] w (TextNew w (Scn.hexL 8 c [])) := by
  have K := hide (formatBits_any c hc w h6)
  have q : decide ((c : Int) < 0) = false := by rw [decide_eq_false_iff_not]; omega
  go_enter Tryz.func80, Tryz.ntmps80
  go_wp2_with fail
  refine (unhide K).mono ?_
  rintro e w1 ⟨t, rfl, ht, hb⟩
  have HF : TextNew w (Scn.hexL 8 c []) (.returned (.string t)) w1 := ⟨t, ht, rfl, hb⟩
  clear K ht hb
  go_wp2
  go_ret
  exact HF
theorem formatInt2_any (c : Nat) (hc : c ≤ 1114111) (w : World) (h6 : w.cell? ⟨8, 15, none⟩ = some (.int .u8 4)) : Calls Tryz.prog 71 #[.int .i64 (c : Int), .int .i64 16] w (TextNew w (Scn.hexL 8 c [])) := by
  have K := hide (formatInt_any c hc w h6)
  go_enter Tryz.func71, Tryz.ntmps71
  go_wp2_with fail
  refine (unhide K).mono ?_
  rintro e w1 ⟨t, ht, rfl, hb⟩
  have HF : TextNew w (Scn.hexL 8 c []) (.returned (.string t)) w1 := ⟨t, ht, rfl, hb⟩
  clear K ht hb
  go_wp2
  go_ret
  exact HF
theorem isCode_any (c : Int) (w : World) (h : -2147483648 ≤ c ∧ c ≤ 2147483647) : Calls Tryz.prog 69 #[.int .i32 c] w fun e w' => e = .returned (.bool (decide (0 ≤ c ∧ c ≤ 1114111))) ∧ w' = w := by
  obtain ⟨h1, h2⟩ := h
  by_cases a1 : 0 ≤ c
  · by_cases a2 : c ≤ 1114111
    · rw [decide_eq_true ⟨a1, a2⟩]
      go_enter Tryz.func69, Tryz.ntmps69
      go_wp2
      go_ret
      exact ⟨rfl, rfl⟩
    · rw [decide_eq_false (fun h => a2 h.2)]
      go_enter Tryz.func69, Tryz.ntmps69
      go_wp2
      go_ret
      exact ⟨rfl, rfl⟩
  · rw [decide_eq_false (fun h => a1 h.1)]
    go_enter Tryz.func69, Tryz.ntmps69
    go_wp2
    go_ret
    exact ⟨rfl, rfl⟩
theorem upper_nums (l : List UInt8) : n8 (Lib.toUpperA l) = (n8 l).map Scn.up := by
  unfold Lib.toUpperA n8
  rw [List.map_map, List.map_map]
  refine List.map_congr_left fun b _ => ?_
  show (((Lib.upperB b).toNat : Nat) : Int) = Scn.up (b.toNat : Int)
  unfold Lib.upperB Scn.up
  by_cases h : Lib.isLowerB b = true
  · have h2 := h
    simp [Lib.isLowerB] at h2
    have h3 : 97 ≤ b.toNat := h2.1
    have h4 : b.toNat ≤ 122 := h2.2
    rw [if_pos h, if_pos (by omega), UInt8.toNat_sub_of_le _ _ (UInt8.le_iff_toNat_le.2 (by show 32 ≤ _; omega))]
    show ((b.toNat - 32 : Nat) : Int) = _
    omega
  · rw [if_neg h, if_neg]
    intro ⟨a, b'⟩
    refine h ?_
    simp [Lib.isLowerB]
    exact ⟨UInt8.le_iff_toNat_le.2 (by show 97 ≤ _; omega), UInt8.le_iff_toNat_le.2 (by show _ ≤ 122; omega)⟩
theorem hexL_low (f : Nat) : ∀ (n : Int) (a : List Int), 0 ≤ n → (∀ z ∈ a, z < 128) → ∀ z ∈ Scn.hexL f n a, z < 128 := by
  have hl : ∀ d : Int, 0 ≤ d → d < 16 → Scn.lowc d < 128 := fun d h0 h1 => by unfold Scn.lowc; split <;> omega
  induction f with
  | zero => intro n a _ h; exact h
  | succ f ih =>
    intro n a h0 h
    rw [Scn.hexL]
    split
    · refine ih _ _ (by omega) fun z hz => ?_
      rcases List.mem_cons.1 hz with rfl | hz
      · exact hl _ (by omega) (by omega)
      · exact h z hz
    · intro z hz
      rcases List.mem_cons.1 hz with rfl | hz
      · exact hl _ (by omega) (by omega)
      · exact h z hz
theorem ascii_of {t : ByteArray} {zs : List Int} (h : nums t = zs) (hz : ∀ z ∈ zs, z < 128) : ∀ (j : Nat) (b : UInt8), t.data.toList[j]? = some b → b.toNat < 128 := by
  intro j b hb
  have h1 : (b.toNat : Int) ∈ nums t := List.mem_map.2 ⟨b, List.mem_of_getElem? hb, rfl⟩
  rw [h] at h1
  have := hz _ h1
  omega
set_option maxHeartbeats 1000000 in
theorem pcodeC : PCodeC := by
  intro c w hg h
  have K0 := hide (isCode_any c w h)
  by_cases hc : 0 ≤ c ∧ c ≤ 1114111
  · rw [decide_eq_true hc] at K0
    obtain ⟨n, rfl⟩ : ∃ n : Nat, c = n := ⟨c.toNat, by omega⟩
    have K1 := hide (formatInt2_any n (by omega) w hg.2.2)
    have hp : Scn.pcode n = (Scn.hexL 8 n []).map Scn.up := by
      rw [Scn.hexL_up 8 n [] (by omega) (by omega) (.inr rfl)]
      unfold Scn.pcode
      rw [if_neg (by omega)]; rfl
    rw [hp]
    have HL := hide (hexL_low 8 n [] (by omega) (fun z hz => by cases hz))
    have HS : Hid ((Scn.hexL 8 n []).length ≤ 8) := by
      have := Scn.pcode_length n
      rw [hp, List.length_map] at this
      exact this
    clear hp hg
    obtain ⟨h1, h2⟩ := h
    generalize Scn.hexL 8 n [] = zs at *
    go_enter Tryz.func63, Tryz.ntmps63
    go_wp2_with fail
    refine (unhide K0).mono ?_
    rintro e w1 ⟨rfl, hw1⟩
    subst w1
    clear K0
    go_wp2_with fail
    refine (unhide K1).mono ?_
    rintro e w1 ⟨t, ht, rfl, hb⟩
    have ha := ascii_of ht (unhide HL)
    have hs8 : t.size ≤ 140737488355328 := by
      have h8 := unhide HS
      rw [← ht, nums_length] at h8
      omega
    have K2 := hide (Tryz.strings_ToUpper_ascii t w1 hs8 ha)
    clear K1 ha hs8
    go_wp2_with fail
    refine (unhide K2).mono ?_
    rintro e w2 ⟨rfl, hb2⟩
    have HF : TextNew w (zs.map Scn.up) (.returned (.string ⟨(Lib.toUpperA t.data.toList).toArray⟩)) w2 := ⟨_, by rw [nums_of, upper_nums, ← nums_n8, ht], rfl, bthen hb hb2⟩
    clear K2 hb hb2 ht HL HS
    generalize Lib.toUpperA t.data.toList = l at *
    go_wp2
    go_ret
    exact HF
  · rw [decide_eq_false hc] at K0
    have HF : TextNew w (Scn.pcode c) (.returned (.string ⟨#[]⟩)) w := ⟨_, by unfold Scn.pcode; rw [if_pos (by omega)]; rfl, rfl, Below.refl _ _⟩
    clear hg hc
    obtain ⟨h1, h2⟩ := h
    go_enter Tryz.func63, Tryz.ntmps63
    go_wp2_with fail
    refine (unhide K0).mono ?_
    rintro e w1 ⟨rfl, hw1⟩
    subst w1
    clear K0
    go_wp2
    go_ret
    exact HF
end Go.Proofs.YtceflkeaenepcaaGreatDoor.Sn
namespace Go.Proofs.YtceflkeaenepcaaGreatDoor.Sn
open Go.RowKit
set_option maxHeartbeats 2000000 in
theorem pspanC : PSpanC := by
  intro a b w hg ha hb
  have K1 := hide (isCode_any a w ha)
  have K2 := hide (isCode_any b w hb)
  by_cases h1 : 0 ≤ a ∧ a ≤ 1114111
  · rw [decide_eq_true h1] at K1
    by_cases h2 : 0 ≤ b ∧ b ≤ 1114111
    · rw [decide_eq_true h2] at K2
      by_cases h3 : b < a
      · have HF : TextNew w (Scn.pspan a b) (.returned (.string ⟨#[]⟩)) w := ⟨_, by unfold Scn.pspan; rw [if_neg (by omega), if_pos (by omega)]; rfl, rfl, Below.refl _ _⟩
        clear hg
        obtain ⟨_, _⟩ := ha
        obtain ⟨_, _⟩ := hb
        obtain ⟨_, _⟩ := h1
        obtain ⟨_, _⟩ := h2
        go_enter Tryz.func134, Tryz.ntmps134
        go_wp2_with fail
        refine (unhide K1).mono ?_
        rintro e w1 ⟨rfl, hw1⟩
        subst w1
        clear K1
        go_wp2_with fail
        refine (unhide K2).mono ?_
        rintro e w1 ⟨rfl, hw1⟩
        subst w1
        clear K2
        go_wp2
        go_ret
        exact HF
      · by_cases h4 : a = b
        · subst h4
          have K3 := hide (pcodeC a w hg ha)
          have hp : Scn.pspan a a = Scn.pcode a := by unfold Scn.pspan; rw [if_pos rfl]
          rw [hp]
          have q := int_beq a
          clear hg hp
          obtain ⟨_, _⟩ := ha
          obtain ⟨_, _⟩ := h1
          go_enter Tryz.func134, Tryz.ntmps134
          go_wp2_with fail
          refine (unhide K1).mono ?_
          rintro e w1 ⟨rfl, hw1⟩
          subst w1
          clear K1
          go_wp2_with fail
          refine (unhide K2).mono ?_
          rintro e w1 ⟨rfl, hw1⟩
          subst w1
          clear K2
          go_wp2_with fail
          refine (unhide K3).mono ?_
          rintro e w1 ⟨t, ht, rfl, hb1⟩
          have HF : TextNew w (Scn.pcode a) (.returned (.string t)) w1 := ⟨t, ht, rfl, hb1⟩
          clear K3 ht hb1
          go_wp2
          go_ret
          exact HF
        · have hp : Scn.pspan a b = Scn.pcode a ++ [46, 46] ++ Scn.pcode b := by unfold Scn.pspan; rw [if_neg h4, if_neg (by omega)]
          rw [hp]
          have K3 := hide (fun w hg => pcodeC a w hg ha)
          have K4 := hide (fun w hg => pcodeC b w hg hb)
          have L1 := Scn.pcode_length a
          have L2 := Scn.pcode_length b
          have q : (a == b) = false := beq_eq_false_iff_ne.2 h4
          clear hp h4
          obtain ⟨_, _⟩ := ha
          obtain ⟨_, _⟩ := hb
          obtain ⟨_, _⟩ := h1
          obtain ⟨_, _⟩ := h2
          generalize Scn.pcode a = za at *
          generalize Scn.pcode b = zb at *
          go_enter Tryz.func134, Tryz.ntmps134
          go_wp2_with fail
          refine (unhide K1).mono ?_
          rintro e w1 ⟨rfl, hw1⟩
          subst w1
          clear K1
          go_wp2_with fail
          refine (unhide K2).mono ?_
          rintro e w1 ⟨rfl, hw1⟩
          subst w1
          clear K2
          go_wp2_with fail
          refine ((unhide K3) w hg).mono ?_
          rintro e w1 ⟨t, ht, rfl, hb1⟩
          have g1 := hg.on hb1
          have lt : t.size ≤ 8 := by rw [← nums_length, ht]; exact L1
          clear K3
          go_wp2_with fail
          refine ((unhide K4) w1 g1).mono ?_
          rintro e w2 ⟨t2, ht2, rfl, hb2⟩
          have lt2 : t2.size ≤ 8 := by rw [← nums_length, ht2]; exact L2
          have HF : TextNew w (za ++ [46, 46] ++ zb) (.returned (.string (t ++ ⟨#[46, 46]⟩ ++ t2))) w2 := ⟨_, by rw [nums_append, nums_append, ht, ht2]; rfl, rfl, bthen hb1 hb2⟩
          clear K4 ht ht2 hb1 hb2 g1 hg
          go_wp2
          go_ret
          exact HF
    · rw [decide_eq_false h2] at K2
      have HF : TextNew w (Scn.pspan a b) (.returned (.string ⟨#[]⟩)) w := ⟨_, by unfold Scn.pspan; rw [if_neg (by omega), if_pos (by omega)]; rfl, rfl, Below.refl _ _⟩
      clear hg h2
      obtain ⟨_, _⟩ := ha
      obtain ⟨_, _⟩ := hb
      obtain ⟨_, _⟩ := h1
      go_enter Tryz.func134, Tryz.ntmps134
      go_wp2_with fail
      refine (unhide K1).mono ?_
      rintro e w1 ⟨rfl, hw1⟩
      subst w1
      clear K1
      go_wp2_with fail
      refine (unhide K2).mono ?_
      rintro e w1 ⟨rfl, hw1⟩
      subst w1
      clear K2
      go_wp2
      go_ret
      exact HF
  · rw [decide_eq_false h1] at K1
    have HF : TextNew w (Scn.pspan a b) (.returned (.string ⟨#[]⟩)) w := by
      refine ⟨_, ?_, rfl, Below.refl _ _⟩
      unfold Scn.pspan
      split
      · unfold Scn.pcode; rw [if_pos (by omega)]; rfl
      · rw [if_pos (by omega)]; rfl
    clear hg h1 K2
    obtain ⟨_, _⟩ := ha
    obtain ⟨_, _⟩ := hb
    go_enter Tryz.func134, Tryz.ntmps134
    go_wp2_with fail
    refine (unhide K1).mono ?_
    rintro e w1 ⟨rfl, hw1⟩
    subst w1
    clear K1
    go_wp2
    go_ret
    exact HF
end Go.Proofs.YtceflkeaenepcaaGreatDoor.Sn
namespace Go.Proofs.YtceflkeaenepcaaGreatDoor
open Go.RowKit
theorem span_a (w : World) (hg : Sn.Glob w) : Calls Tryz.prog 378 #[.string ⟨#[52, 49, 46, 46, 53, 65]⟩] w fun e w' => e = .returned (.tuple #[.int .i32 65, .int .i32 90, .bool true]) ∧ Below w.heap.size w w' := by
  refine (Sn.spanC ⟨#[52, 49, 46, 46, 53, 65]⟩ w hg (by decide)).mono ?_
  rintro e w' ⟨rfl, hb⟩
  exact ⟨by kernel_rfl, hb⟩
theorem span_b (w : World) (hg : Sn.Glob w) : Calls Tryz.prog 378 #[.string ⟨#[52, 49]⟩] w fun e w' => e = .returned (.tuple #[.int .i32 65, .int .i32 65, .bool true]) ∧ Below w.heap.size w w' := by
  refine (Sn.spanC ⟨#[52, 49]⟩ w hg (by decide)).mono ?_
  rintro e w' ⟨rfl, hb⟩
  exact ⟨by kernel_rfl, hb⟩
theorem code_a (w : World) (hg : Sn.Glob w) : Calls Tryz.prog 142 #[.string ⟨#[54, 49]⟩] w fun e w' => e = .returned (.tuple #[.int .i32 97, .bool true]) ∧ Below w.heap.size w w' := by
  refine (Sn.codeC ⟨#[54, 49]⟩ w hg (by decide)).mono ?_
  rintro e w' ⟨rfl, hb⟩
  exact ⟨by kernel_rfl, hb⟩
theorem whole_a (w : World) (hg : Sn.Glob w) : Calls Tryz.prog 145 #[.string ⟨#[49]⟩] w fun e w' => e = .returned (.tuple #[.int .i64 1, .bool true]) ∧ Below w.heap.size w w' := by
  refine (Sn.wholeC ⟨#[49]⟩ w hg (by decide)).mono ?_
  rintro e w' ⟨rfl, hb⟩
  exact ⟨by kernel_rfl, hb⟩
end Go.Proofs.YtceflkeaenepcaaGreatDoor
