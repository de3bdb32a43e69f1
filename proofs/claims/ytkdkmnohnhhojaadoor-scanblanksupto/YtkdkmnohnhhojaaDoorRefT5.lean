/- The contracts of the document's own Name and Span. -/
import Derived.Test.YtkdkmnohnhhojaaDoorRefR5
namespace Go.Proofs.YtkdkmnohnhhojaaDoor
open Go.RowKit

def BoolIs (w : World) (b : Bool) (e : Ending) (w' : World) : Prop := e = .returned (.bool b) ∧ w' = w
theorem BoolIs.mk {w : World} {b c : Bool} (h : c = b) : BoolIs w b (.returned (.bool c)) w := by subst h; exact ⟨rfl, rfl⟩

set_option maxHeartbeats 1000000 in
theorem refName_any (s : ByteArray) (w : World) : Calls Tryd.prog 22 #[.string s] w (BoolIs w (Scn.name (nums s))) := by
  have hlen := nums_length s
  have hat := fun i k hi hk w => run_at s i k hi hk w
  have hbyt := fun k => (nums_byt s).at k
  have HF0 : Hid (¬ s.size = 4 → BoolIs w (Scn.name (nums s)) (.returned (.bool false)) w) := fun h => BoolIs.mk (by unfold Scn.name; rw [decide_eq_false]; omega)
  have HF1 : Hid (¬ (65 ≤ (nums s).getD 0 0 ∧ (nums s).getD 0 0 ≤ 90) → BoolIs w (Scn.name (nums s)) (.returned (.bool false)) w) := fun h => BoolIs.mk (by unfold Scn.name; rw [decide_eq_false]; exact fun x => h ⟨x.2.1, x.2.2.1⟩)
  have HF2 : Hid (∀ k, 1 ≤ k → k < 4 → ¬ (97 ≤ (nums s).getD k 0 ∧ (nums s).getD k 0 ≤ 122) → BoolIs w (Scn.name (nums s)) (.returned (.bool false)) w) := fun k h1 h2 h => BoolIs.mk (by
    unfold Scn.name; rw [decide_eq_false]
    intro x
    obtain ⟨_, _, _, x1, x2, x3⟩ := x
    have : k = 1 ∨ k = 2 ∨ k = 3 := by omega
    rcases this with e | e | e <;> subst e
    · exact h x1
    · exact h x2
    · exact h x3)
  have HT : Hid (s.size = 4 → 65 ≤ (nums s).getD 0 0 → (nums s).getD 0 0 ≤ 90 → (∀ k, 1 ≤ k → k < 4 → 97 ≤ (nums s).getD k 0 ∧ (nums s).getD k 0 ≤ 122) → BoolIs w (Scn.name (nums s)) (.returned (.bool true)) w) := fun h1 h2 h3 h4 => BoolIs.mk (by
    unfold Scn.name; rw [decide_eq_true]
    exact ⟨by omega, h2, h3, h4 1 (by omega) (by omega), h4 2 (by omega) (by omega), h4 3 (by omega) (by omega)⟩)
  by_cases a1 : s.size = 4
  · have h0 := hat 0 0 rfl (by omega)
    obtain ⟨z1, z2⟩ := hbyt 0
    have HAt := hide hat
    have HByt := hide hbyt
    have HT2 := hide ((unhide HT) a1)
    have hne : ((s.size : Int) != 4) = false := by simp [a1]
    clear hat hbyt HF0 HT
    generalize (nums s).getD 0 0 = c0 at *
    by_cases a2 : c0 < 65
    · have HF := (unhide HF1) (by omega)
      clear HF1 HF2 HT2
      go_enter Tryd.func22, Tryd.ntmps22
      go_wp2
      go_ret
      exact HF
    · by_cases a3 : 90 < c0
      · have HF := (unhide HF1) (by omega)
        clear HF1 HF2 HT2
        go_enter Tryd.func22, Tryd.ntmps22
        go_wp2
        go_ret
        exact HF
      · have HT3 := hide ((unhide HT2) (by omega) (by omega))
        clear HF1 HT2
        go_enter Tryd.func22, Tryd.ntmps22
        go_wp2
        go_loop [3] (fun i => ∃ k : Nat, i = .int .i64 k ∧ 1 ≤ k ∧ k ≤ 4 ∧ ∀ j, 1 ≤ j → j < k → 97 ≤ (nums s).getD j 0 ∧ (nums s).getD j 0 ≤ 122) (fun i => 4 - (intOf i).toNat)
        case atStart => exact ⟨1, rfl, by omega, by omega, fun j h1 h2 => by omega⟩
        case round =>
          clear h0 z1 z2
          obtain ⟨k, rfl, k1, k2, hall⟩ := hrel
          by_cases hlt : k < 4
          · have hk := (unhide HAt) (k : Int) k rfl (by omega)
            obtain ⟨b1, b2⟩ := (unhide HByt) k
            have HNx : Hid (97 ≤ (nums s).getD k 0 → (nums s).getD k 0 ≤ 122 → ∀ j, 1 ≤ j → j < k + 1 → 97 ≤ (nums s).getD j 0 ∧ (nums s).getD j 0 ≤ 122) := fun h1 h2 j j1 j2 => by
              by_cases e : j = k
              · subst e; exact ⟨h1, h2⟩
              · exact hall j j1 (by omega)
            have HFk := hide ((unhide HF2) k k1 hlt)
            clear hall
            generalize (nums s).getD k 0 = c at *
            by_cases b3 : c < 97
            · have HF := (unhide HFk) (by omega)
              clear HFk HNx HF2 HT3
              go_wp2
              go_ret
              exact HF
            · by_cases b4 : 122 < c
              · have HF := (unhide HFk) (by omega)
                clear HFk HNx HF2 HT3
                go_wp2
                go_ret
                exact HF
              · have HX := hide ((unhide HNx) (by omega) (by omega))
                clear HFk HNx HF2 HT3
                go_wp2
                go_round
                case rel => exact ⟨k + 1, by go_num, by omega, by omega, unhide HX⟩
                case measure => simp [intOf]; omega
          · obtain rfl : k = 4 := by omega
            have HF := (unhide HT3) hall
            clear HF2 HT3 hall
            go_wp2
            go_ret
            exact HF
  · have HF := (unhide HF0) a1
    have hne : ((s.size : Int) != 4) = true := by simp; omega
    clear HF0 HF1 HF2 HT hat hbyt
    go_enter Tryd.func22, Tryd.ntmps22
    go_wp2
    go_ret
    exact HF

/-- Two numbers of a rune's kind, and whether they were there. -/
def SpanIs (w : World) (r : Option (Int × Int)) (e : Ending) (w' : World) : Prop := e = .returned (.tuple #[.int .i32 ((r.map (·.1)).getD 0), .int .i32 ((r.map (·.2)).getD 0), .bool r.isSome]) ∧ w' = w
theorem SpanIs.no {w : World} {r : Option (Int × Int)} (h : r = none) : SpanIs w r (.returned (.tuple #[.int .i32 0, .int .i32 0, .bool false])) w := by subst h; exact ⟨rfl, rfl⟩
theorem SpanIs.yes {w : World} {r : Option (Int × Int)} {a b : Int} (h : r = some (a, b)) : SpanIs w r (.returned (.tuple #[.int .i32 a, .int .i32 b, .bool true])) w := by subst h; exact ⟨rfl, rfl⟩

set_option maxHeartbeats 2000000 in
theorem refSpan_any (s : ByteArray) (w : World) (hs : s.size ≤ 140737488355328) : Calls Tryd.prog 18 #[.string s] w (SpanIs w (Scn.span (nums s))) := by
  have hlen := nums_length s
  have HAt := hide (fun i k hi hk w => run_at s i k hi hk w)
  have HByt := hide (fun k => (nums_byt s).at k)
  have HC0 := hide (refCode_any s w hs)
  have HC1 : Hid (∀ k, k ≤ s.size → Calls Tryd.prog 16 #[.string (s.extract 0 k)] w (CodeIs w (Scn.told (Scn.code ((nums s).take k))))) := fun k hk => by
    have h := refCode_any (s.extract 0 k) w (by rw [ByteArray.size_extract]; omega)
    rw [nums_cut, List.drop_zero, Nat.sub_zero] at h
    exact h
  have HC2 : Hid (∀ k, k ≤ s.size → Calls Tryd.prog 16 #[.string (s.extract k s.size)] w (CodeIs w (Scn.told (Scn.code ((nums s).drop k))))) := fun k hk => by
    have h := refCode_any (s.extract k s.size) w (by rw [ByteArray.size_extract]; omega)
    rw [nums_cut, List.take_of_length_le (by simp [hlen])] at h
    exact h
  have HSt : Hid (∀ k, k + 1 < s.size → Scn.spanA (nums s) (s.size - k) k = if (nums s).getD k 0 = 46 ∧ (nums s).getD (k + 1) 0 = 46 then Scn.both (Scn.code ((nums s).take k)) (Scn.code ((nums s).drop (k + 2))) else Scn.spanA (nums s) (s.size - (k + 1)) (k + 1)) := fun k hk => by
    rw [show s.size - k = (s.size - (k + 1)) + 1 by omega, Scn.spanA, if_pos (by omega)]
  have HEn : Hid (∀ k, k ≤ s.size → ¬ k + 1 < s.size → Scn.spanA (nums s) (s.size - k) k = (Scn.code (nums s)).map fun a => (a, a)) := fun k hk h => by
    cases e : s.size - k with
    | zero => rfl
    | succ n => rw [Scn.spanA, if_neg (by omega)]
  have H0 : Hid (Scn.span (nums s) = Scn.spanA (nums s) (s.size - 0) 0) := by unfold Scn.span; rw [hlen]; rfl
  generalize Scn.span (nums s) = res at *
  go_enter Tryd.func18, Tryd.ntmps18
  go_wp2
  go_loop [5] (fun i => ∃ k : Nat, i = .int .i64 k ∧ k ≤ s.size ∧ res = Scn.spanA (nums s) (s.size - k) k) (fun i => s.size - (intOf i).toNat)
  case atStart => exact ⟨0, rfl, by omega, unhide H0⟩
  case round =>
    clear H0
    obtain ⟨k, rfl, hk, hr⟩ := hrel
    by_cases hlt : k + 1 < s.size
    · have h1 := (unhide HAt) (k : Int) k rfl (by omega)
      have h2 := (unhide HAt) ((k : Int) + 1) (k + 1) (by omega) hlt
      obtain ⟨b1, b2⟩ := (unhide HByt) k
      obtain ⟨b3, b4⟩ := (unhide HByt) (k + 1)
      have hst := hr.trans ((unhide HSt) k hlt)
      have HR := hide hst
      have K1 := hide ((unhide HC1) k (by omega))
      have K2 := hide ((unhide HC2) (k + 2) (by omega))
      have hi1 : (k : Int) + 1 < (s.size : Int) := by omega
      clear hr hst HSt HEn HC0 HC1 HC2
      generalize (nums s).getD k 0 = c1 at *
      generalize (nums s).getD (k + 1) 0 = c2 at *
      by_cases e1 : c1 = 46
      · by_cases e2 : c2 = 46
        · have HR2 := hide ((unhide HR).trans (if_pos ⟨e1, e2⟩))
          subst e1 e2
          clear HR HAt HByt
          generalize Scn.code ((nums s).take k) = o1 at *
          generalize Scn.code ((nums s).drop (k + 2)) = o2 at *
          go_wp2_with fail
          refine (unhide K1).mono ?_
          rintro e w1 ⟨rfl, rfl⟩
          clear K1
          go_wp2_with fail
          refine (unhide K2).mono ?_
          rintro e w2 ⟨rfl, rfl⟩
          clear K2
          cases o1 with
          | none =>
            have HF := SpanIs.no (w := w2) ((unhide HR2).trans (by cases o2 <;> rfl))
            clear HR2
            simp only [Scn.told]
            go_wp2
            all_goals
              go_ret3
              exact HF
          | some x =>
            cases o2 with
            | none =>
              have HF := SpanIs.no (w := w2) ((unhide HR2).trans rfl)
              clear HR2
              simp only [Scn.told]
              go_wp2
              go_ret3
              exact HF
            | some y =>
              by_cases hxy : x < y
              · have HF := SpanIs.yes (w := w2) ((unhide HR2).trans (if_pos hxy))
                clear HR2
                simp only [Scn.told]
                go_wp2
                go_ret3
                exact HF
              · have HF := SpanIs.no (w := w2) ((unhide HR2).trans (if_neg hxy))
                clear HR2
                simp only [Scn.told]
                go_wp2
                go_ret3
                exact HF
        · have HR2 := hide ((unhide HR).trans (if_neg (fun h => e2 h.2)))
          have e2' : (c2 == 46) = false := beq_eq_false_iff_ne.2 e2
          clear HR K1 K2 HAt HByt
          go_wp2
          go_round
          case rel => exact ⟨k + 1, by go_num, by omega, unhide HR2⟩
          case measure => simp [intOf]; omega
      · have HR2 := hide ((unhide HR).trans (if_neg (fun h => e1 h.1)))
        have e1' : (c1 == 46) = false := beq_eq_false_iff_ne.2 e1
        clear HR K1 K2 HAt HByt
        go_wp2
        go_round
        case rel => exact ⟨k + 1, by go_num, by omega, unhide HR2⟩
        case measure => simp [intOf]; omega
    · have hen := hr.trans ((unhide HEn) k hk hlt)
      have HR := hide hen
      have hi1 : ¬ ((k : Int) + 1 < (s.size : Int)) := by omega
      clear hr hen HSt HEn HC1 HC2 HAt HByt
      generalize Scn.code (nums s) = o1 at *
      go_wp2_with fail
      refine (unhide HC0).mono ?_
      rintro e w1 ⟨rfl, rfl⟩
      clear HC0
      cases o1 with
      | none =>
        have HF := SpanIs.no (w := w1) ((unhide HR).trans rfl)
        clear HR
        simp only [Scn.told]
        go_wp2
        go_ret3
        exact HF
      | some x =>
        have HF := SpanIs.yes (w := w1) ((unhide HR).trans rfl)
        clear HR
        simp only [Scn.told]
        go_wp2
        go_ret3
        exact HF
end Go.Proofs.YtkdkmnohnhhojaaDoor
