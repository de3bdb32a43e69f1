/- The contracts of scan's Code, Whole, Name, Span, Lines, PrintWhole. -/
import Derived.Test.YtkdkmnohnhhojaaDoorCon5
import Derived.Test.YtkdkmnohnhhojaaDoorSch5
import Derived.Test.YtkdkmnohnhhojaaDoorScX5
namespace Go.Proofs.YtkdkmnohnhhojaaDoor
open Go.RowKit

theorem codeC : CodeC := by
  intro s w _ hs
  have K := hide (digits16_any s w hs)
  rw [Scn.code_dig]
  have HG : Hid (∀ n, Scn.digB 16 6 (nums s) = some n → 0 ≤ n) := fun n h => Scn.digB_ge (b := 16) h
  generalize Scn.digB 16 6 (nums s) = o at *
  cases o with
  | none =>
    go_enter Tryd.func15, Tryd.ntmps15
    go_wp2_with fail
    refine (unhide K).mono ?_
    rintro e w1 ⟨rfl, hb⟩
    have HF : CodeB w (Scn.told (Scn.cap none)) (.returned (.tuple #[.int .i32 0, .bool false])) w1 := ⟨rfl, hb⟩
    have e1 : Scn.told none = (0, false) := rfl
    rw [e1]
    clear K hb HG
    go_wp2
    go_ret2
    exact HF
  | some n =>
    have h0 := (unhide HG) n rfl
    have e1 : Scn.told (some n) = (n, true) := rfl
    by_cases hm : 1114111 < n
    · go_enter Tryd.func15, Tryd.ntmps15
      go_wp2_with fail
      refine (unhide K).mono ?_
      rintro e w1 ⟨rfl, hb⟩
      have HF : CodeB w (Scn.told (Scn.cap (some n))) (.returned (.tuple #[.int .i32 0, .bool false])) w1 := ⟨by rw [Scn.cap, if_pos hm]; rfl, hb⟩
      rw [e1]
      clear K hb HG
      go_wp2
      go_ret2
      exact HF
    · go_enter Tryd.func15, Tryd.ntmps15
      go_wp2_with fail
      refine (unhide K).mono ?_
      rintro e w1 ⟨rfl, hb⟩
      have HF : CodeB w (Scn.told (Scn.cap (some n))) (.returned (.tuple #[.int .i32 n, .bool true])) w1 := ⟨by rw [Scn.cap, if_neg (by omega)]; rfl, hb⟩
      rw [e1]
      clear K hb HG
      go_wp2
      go_ret2
      exact HF

theorem prefix_minus (s : ByteArray) : (Lib.hasPrefix s.data.toList [45] = true ↔ (0 < (nums s).length ∧ (nums s).getD 0 0 = 45)) ∧ (Lib.hasPrefix s.data.toList [45] = true → n8 (Lib.trimPrefix s.data.toList [45]) = (nums s).drop 1) ∧ (Lib.hasPrefix s.data.toList [45] = false → Lib.trimPrefix s.data.toList [45] = s.data.toList) := by
  rw [nums_n8]
  generalize s.data.toList = l
  refine ⟨?_, fun h => ?_, fun h => ?_⟩
  · rw [n8_at, show (45 : Int) = ((45 : UInt8).toNat : Int) from rfl, u8_eq]
    cases l with
    | nil => simp [Lib.hasPrefix, n8]
    | cons b r =>
      simp [Lib.hasPrefix, n8, List.isPrefixOf]
      exact ⟨fun e => e.symm, fun e => e.symm⟩
  · unfold Lib.trimPrefix
    rw [if_pos h]
    exact List.map_drop
  · unfold Lib.trimPrefix
    rw [if_neg (by rw [h]; exact Bool.false_ne_true)]
set_option maxHeartbeats 1000000 in
theorem wholeC : WholeC := by
  intro s w _ hs
  rw [Scn.whole_dig]
  have K := hide (fun w => Tryd.strings_CutPrefix s ⟨#[45]⟩ w)
  obtain ⟨p1, p2, p3⟩ := prefix_minus s
  have e45 : (ByteArray.mk #[45]).data.toList = [45] := rfl
  rw [e45] at K
  by_cases hp : Lib.hasPrefix s.data.toList [45] = true
  · have hl : (Lib.trimPrefix s.data.toList [45]).length ≤ s.size := by
      have := congrArg List.length (p2 hp)
      rw [List.length_drop, nums_length] at this
      simp [n8] at this
      omega
    have KD := hide (fun w => digits10_any ⟨(Lib.trimPrefix s.data.toList [45]).toArray⟩ w (by show (Lib.trimPrefix s.data.toList [45]).toArray.size ≤ _; simp; omega))
    have hw : Scn.wholeP (nums s) = Scn.wholeN (Scn.digB 10 9 ((nums s).drop 1)) := by
      unfold Scn.wholeP; rw [if_pos (p1.1 hp)]
    have KD : Hid (∀ w, Calls Tryd.prog 32 #[.string ⟨(Lib.trimPrefix s.data.toList [45]).toArray⟩, .int .i64 10, .int .i64 9] w (NumB w (Scn.digB 10 9 ((nums s).drop 1)))) := fun w => by
      have := (unhide KD) w
      rw [nums_of, p2 hp] at this
      exact this
    rw [hw]
    have HG : Hid (∀ n, Scn.digB 10 9 ((nums s).drop 1) = some n → 0 ≤ n ∧ n < 1000000000) := fun n h => ⟨Scn.digB_ge (b := 10) h, Scn.digB_top h⟩
    rw [hp] at K
    clear p1 p2 p3 hw hp
    generalize Scn.digB 10 9 ((nums s).drop 1) = o at *
    generalize Lib.trimPrefix s.data.toList [45] = l at *
    cases o with
    | none =>
      go_enter Tryd.func19, Tryd.ntmps19
      go_wp2_with fail
      refine ((unhide K) w).mono ?_
      rintro e w1 ⟨rfl, hw1⟩
      subst w1
      clear K
      go_wp2_with fail
      refine ((unhide KD) w).mono ?_
      rintro e w1 ⟨rfl, hb⟩
      have HF : WholeB w (Scn.wholeN none) (.returned (.tuple #[.int .i64 0, .bool false])) w1 := ⟨rfl, hb⟩
      have e1 : Scn.told none = (0, false) := rfl
      rw [e1]
      clear KD hb HG
      go_wp2
      go_ret2
      exact HF
    | some n =>
      obtain ⟨h0, h1⟩ := (unhide HG) n rfl
      have e1 : Scn.told (some n) = (n, true) := rfl
      by_cases hn : n = 0
      · subst hn
        go_enter Tryd.func19, Tryd.ntmps19
        go_wp2_with fail
        refine ((unhide K) w).mono ?_
        rintro e w1 ⟨rfl, hw1⟩
        subst w1
        clear K
        go_wp2_with fail
        refine ((unhide KD) w).mono ?_
        rintro e w1 ⟨rfl, hb⟩
        have HF : WholeB w (Scn.wholeN (some 0)) (.returned (.tuple #[.int .i64 0, .bool false])) w1 := ⟨rfl, hb⟩
        rw [e1]
        clear KD hb HG
        go_wp2
        go_ret2
        exact HF
      · have q : (n == 0) = false := beq_eq_false_iff_ne.2 hn
        have q2 : (n != 0) = true := by simp [hn]
        go_enter Tryd.func19, Tryd.ntmps19
        go_wp2_with fail
        refine ((unhide K) w).mono ?_
        rintro e w1 ⟨rfl, hw1⟩
        subst w1
        clear K
        go_wp2_with fail
        refine ((unhide KD) w).mono ?_
        rintro e w1 ⟨rfl, hb⟩
        have HF : WholeB w (Scn.wholeN (some n)) (.returned (.tuple #[.int .i64 (-n), .bool true])) w1 := ⟨by rw [Scn.wholeN, decide_eq_true hn], hb⟩
        rw [e1]
        clear KD hb HG
        go_wp2
        go_ret2
        exact HF
  · have hp2 : Lib.hasPrefix s.data.toList [45] = false := by simpa using hp
    rw [p3 hp2, hp2] at K
    have KD := hide (fun w => digits10_any s w hs)
    have hw : Scn.wholeP (nums s) = Scn.told (Scn.digB 10 9 (nums s)) := by
      unfold Scn.wholeP; rw [if_neg (fun h => hp (p1.2 h))]
    rw [hw]
    have es : (ByteArray.mk s.data.toList.toArray) = s := by cases s; simp
    rw [es] at K
    clear p1 p2 p3 hw hp hp2 es e45
    have KD : Hid (∀ w, Calls Tryd.prog 32 #[.string s, .int .i64 10, .int .i64 9] w (NumB w (Scn.digB 10 9 (nums s)))) := KD
    generalize hr : Scn.digB 10 9 (nums s) = o at *
    clear hr
    go_enter Tryd.func19, Tryd.ntmps19
    go_wp2_with fail
    refine ((unhide K) w).mono ?_
    rintro e w1 ⟨rfl, hw1⟩
    subst w1
    clear K
    go_wp2_with fail
    refine ((unhide KD) w).mono ?_
    rintro e w1 ⟨rfl, hb⟩
    clear KD
    generalize Scn.told o = r at *
    obtain ⟨n, b⟩ := r
    have HF : WholeB w (n, b) (.returned (.tuple #[.int .i64 n, .bool b])) w1 := ⟨rfl, hb⟩
    clear hb
    go_wp2
    go_ret2
    exact HF

set_option maxHeartbeats 2000000 in
theorem spanC : SpanC := by
  intro s w hg hs
  obtain ⟨⟨m, hm⟩, _, _⟩ := hg
  have K := hide (Tryd.strings_Cut s ⟨#[46, 46]⟩ m w (by omega) hm)
  have e46 : (ByteArray.mk #[46, 46]).data.toList = [46, 46] := rfl
  rw [e46] at K
  have hgl : Glob w := ⟨⟨m, hm⟩, by assumption, by assumption⟩
  rw [nums_n8]
  have hsz : s.data.toList.length = s.size := by rw [Array.length_toList]; rfl
  rcases span_cut s.data.toList with ⟨i, hc, hi, hsp⟩ | ⟨hc, hsp⟩
  · rw [hc] at K
    rw [hsp]
    have KA := hide (fun w hg => codeC ⟨(s.data.toList.take i).toArray⟩ w hg (by show (s.data.toList.take i).toArray.size ≤ _; simp; omega))
    have KB := hide (fun w hg => codeC ⟨(s.data.toList.drop (i + 2)).toArray⟩ w hg (by show (s.data.toList.drop (i + 2)).toArray.size ≤ _; simp; omega))
    rw [nums_of] at KA KB
    have HA : Hid (∀ a, Scn.code (n8 (s.data.toList.take i)) = some a → 0 ≤ a ∧ a ≤ 1114111) := fun a h => (Scn.code_back h).2
    have HB : Hid (∀ a, Scn.code (n8 (s.data.toList.drop (i + 2))) = some a → 0 ≤ a ∧ a ≤ 1114111) := fun a h => (Scn.code_back h).2
    clear hc hsp hi hm
    generalize s.data.toList.take i = l1 at *
    generalize s.data.toList.drop (i + 2) = l2 at *
    generalize Scn.code (n8 l1) = o1 at *
    generalize Scn.code (n8 l2) = o2 at *
    go_enter Tryd.func17, Tryd.ntmps17
    go_wp2_with fail
    refine (unhide K).mono ?_
    rintro e w1 ⟨rfl, n, hw1⟩
    have hb1 : Below w.heap.size w w1 := by rw [hw1]; exact below_drewN w n
    have g1 := hgl.on hb1
    clear K hw1
    go_wp2_with fail
    refine ((unhide KA) w1 g1).mono ?_
    rintro e w2 ⟨rfl, hb2⟩
    have g2 := g1.on hb2
    clear KA
    cases o1 with
    | none =>
      have HF : SpanB w (Scn.both none o2) (.returned (.tuple #[.int .i32 0, .int .i32 0, .bool false])) w2 := ⟨rfl, bthen hb1 hb2⟩
      have e1 : Scn.told none = (0, false) := rfl
      rw [e1]
      clear HA HB KB g1 g2 hgl
      go_wp2
      go_ret3
      exact HF
    | some a =>
      have e1 : Scn.told (some a) = (a, true) := rfl
      rw [e1]
      obtain ⟨a1, a2⟩ := (unhide HA) a rfl
      clear g1 hgl
      go_wp2_with fail
      refine ((unhide KB) w2 g2).mono ?_
      rintro e w3 ⟨rfl, hb3⟩
      clear KB g2
      cases o2 with
      | none =>
        have HF : SpanB w (Scn.both (some a) none) (.returned (.tuple #[.int .i32 0, .int .i32 0, .bool false])) w3 := ⟨rfl, bthen (bthen hb1 hb2) hb3⟩
        have e2 : Scn.told none = (0, false) := rfl
        rw [e2]
        clear HA HB
        go_wp2
        go_ret3
        exact HF
      | some b =>
        have e2 : Scn.told (some b) = (b, true) := rfl
        rw [e2]
        obtain ⟨b1, b2⟩ := (unhide HB) b rfl
        by_cases hab : a < b
        · have HF : SpanB w (Scn.both (some a) (some b)) (.returned (.tuple #[.int .i32 a, .int .i32 b, .bool true])) w3 := ⟨by rw [Scn.both, if_pos hab]; rfl, bthen (bthen hb1 hb2) hb3⟩
          clear HA HB
          go_wp2
          go_ret3
          exact HF
        · have HF : SpanB w (Scn.both (some a) (some b)) (.returned (.tuple #[.int .i32 0, .int .i32 0, .bool false])) w3 := ⟨by rw [Scn.both, if_neg (by omega)]; rfl, bthen (bthen hb1 hb2) hb3⟩
          clear HA HB
          go_wp2
          go_ret3
          exact HF
  · rw [hc] at K
    rw [hsp]
    have es : (ByteArray.mk s.data.toList.toArray) = s := by cases s; simp
    rw [es] at K
    have KA := hide (fun w hg => codeC s w hg hs)
    rw [nums_n8] at KA
    clear hc hsp hm es
    generalize Scn.code (n8 s.data.toList) = o1 at *
    go_enter Tryd.func17, Tryd.ntmps17
    go_wp2_with fail
    refine (unhide K).mono ?_
    rintro e w1 ⟨rfl, n, hw1⟩
    have hb1 : Below w.heap.size w w1 := by rw [hw1]; exact below_drewN w n
    have g1 := hgl.on hb1
    clear K hw1 hgl
    go_wp2_with fail
    refine ((unhide KA) w1 g1).mono ?_
    rintro e w2 ⟨rfl, hb2⟩
    clear KA g1
    cases o1 with
    | none =>
      have HF : SpanB w ((none : Option Int).map fun a => (a, a)) (.returned (.tuple #[.int .i32 0, .int .i32 0, .bool false])) w2 := ⟨rfl, bthen hb1 hb2⟩
      have e1 : Scn.told none = (0, false) := rfl
      rw [e1]
      go_wp2
      go_ret3
      exact HF
    | some a =>
      have HF : SpanB w ((some a).map fun a => (a, a)) (.returned (.tuple #[.int .i32 a, .int .i32 a, .bool true])) w2 := ⟨rfl, bthen hb1 hb2⟩
      have e1 : Scn.told (some a) = (a, true) := rfl
      rw [e1]
      go_wp2
      go_ret3
      exact HF
end Go.Proofs.YtkdkmnohnhhojaaDoor
