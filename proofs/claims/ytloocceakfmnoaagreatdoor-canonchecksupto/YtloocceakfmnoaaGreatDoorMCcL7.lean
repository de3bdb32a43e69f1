/- What is wrong with a pair. -/
import Derived.Test.YtloocceakfmnoaaGreatDoorGh9
namespace Go.Proofs.YtloocceakfmnoaaGreatDoor
open Go.RowKit

/-- Could it not be made of the two again? -/
def Cn.wpair (l : List Rec) (c a b : Int) : Bool := decide (Cn.cls l c ≠ 0) || decide (Cn.cls l a ≠ 0) || decide (Cn.opn l b ≠ []) || (decide (Cn.opn l a ≠ []) && (Cn.prim l a).isNone) || decide (b < 128) || decide (a = 46)
theorem Cn.pair_w (l : List Rec) (i : Nat) (r : Rec) : Cn.pair l i r = (!(Cn.wpair l r.lo (r.to.getD 0 0) (r.to.getD 1 0)) && !((l.take i).any fun k => decide (k.kind = 7 ∧ k.to.getD 0 0 = r.to.getD 0 0 ∧ k.to.getD 1 0 = r.to.getD 1 0))) := rfl
theorem nil_len {zs : List Int} : decide (zs ≠ []) = decide (0 < zs.length) := by
  cases zs <;> simp
theorem OpB.sk {w0 w w1 : World} {v : Value} {zs : List Int} (h : Sk .i32 w0 v zs ∨ Ok .i32 21 w1 w.heap.size v zs) (hw : Below w0.heap.size w0 w) (hb : Below w.heap.size w w1) : Sk .i32 w1 v zs := by
  rcases h with h | h
  · exact (h.below hw).below hb
  · exact h.sk
set_option maxRecDepth 8000 in
set_option maxHeartbeats 8000000 in
theorem wpair_any (l cs os : List Rec) (cv ov : Value) (mr : Nat) (c a b : Int) (w : World) (hg : Glob w) (h : Idx l w cv ov cs os) (hc : Rune c) (ha : Rune a) (hb' : Rune b) : Calls Tryz.prog 81 #[xV cv ov (.map (some mr)), .int .i32 c, .int .i32 a, .int .i32 b] w (BoolB w (Cn.wpair l c a b)) := by
  obtain ⟨cao, ccap, rfl, _, _⟩ := h.rc.shape
  obtain ⟨oao, ocap, rfl, _, _⟩ := h.ro.shape
  have hb : Below w.heap.size w (w.alloc (.cells #[.slice cao cs.length ccap, .slice oao os.length ocap, .map (some mr)] 67)) := (Below.refl _ _).alloc (Nat.le_refl _) _
  have hszb : (w.alloc (.cells #[.slice cao cs.length ccap, .slice oao os.length ocap, .map (some mr)] 67)).heap.size = w.heap.size + 1 := by simp
  have HX : Hid (∀ W, Below (w.heap.size + 1) (w.alloc (.cells #[.slice cao cs.length ccap, .slice oao os.length ocap, .map (some mr)] 67)) W → W.cell? ⟨w.heap.size, 0, none⟩ = some (.slice cao cs.length ccap) ∧ W.cell? ⟨w.heap.size, 1, none⟩ = some (.slice oao os.length ocap) ∧ W.cell? ⟨w.heap.size, 2, none⟩ = some (.map (some mr))) := fun W hW => by
    refine ⟨?_, ?_, ?_⟩
    all_goals
      rw [hW.cell (by show w.heap.size < _; omega)]
      simp
  have HW : Hid (∀ W, Below (w.heap.size + 1) (w.alloc (.cells #[.slice cao cs.length ccap, .slice oao os.length ocap, .map (some mr)] 67)) W → Below w.heap.size w W) := fun W hW => hb.trans (hW.mono (by omega))
  have KC := hide (fun W x (hW : Below w.heap.size w W) (hx : Rune x) => xclass_any l cs os _ _ mr x W (hg.on hW) (h.below hW) hx)
  have KO := hide (fun W x (hW : Below w.heap.size w W) (hx : Rune x) => xopen_any l cs os _ _ mr x w W hg h hW hx)
  have KP := hide (fun W x (hW : Below w.heap.size w W) (hx : Rune x) => xprim_any l cs os _ _ mr x W (hg.on hW) (h.below hW) hx)
  have K1 := hide ((unhide KC) _ c hb hc)
  have KC2 := hide (fun W hW => (unhide KC) W a hW ha)
  have KO3 := hide (fun W hW => (unhide KO) W b hW hb')
  have KO4 := hide (fun W hW => (unhide KO) W a hW ha)
  have KP5 := hide (fun W hW => (unhide KP) W a hW ha)
  have h0 : Cn.wpair l c a b = (decide (Cn.cls l c ≠ 0) || decide (Cn.cls l a ≠ 0) || decide (0 < (Cn.opn l b).length) || (decide (0 < (Cn.opn l a).length) && !(Cn.prim l a).isSome) || decide (b < 128) || decide (a = 46)) := by
    unfold Cn.wpair
    rw [nil_len, nil_len]
    cases Cn.prim l a <;> rfl
  rw [h0]
  have hB0 : Below (w.heap.size + 1) (w.alloc (.cells #[.slice cao cs.length ccap, .slice oao os.length ocap, .map (some mr)] 67)) (w.alloc (.cells #[.slice cao cs.length ccap, .slice oao os.length ocap, .map (some mr)] 67)) := Below.refl _ _
  clear KC KO KP h hg hc ha hb' h0 hb
  generalize Cn.cls l c = n1 at *
  generalize Cn.cls l a = n2 at *
  generalize Cn.opn l b = z3 at *
  generalize Cn.opn l a = z4 at *
  generalize (Cn.prim l a).isSome = p5 at *
  unfold xV at *
  by_cases q1 : n1 ≠ 0
  · rw [decide_eq_true q1]
    simp only [Bool.true_or]
    have d1 : (n1 != 0) = true := by simp [q1]
    clear q1
    go_enter Tryz.func81, Tryz.ntmps81
    go_wp2_with fail
    refine (unhide K1).mono ?_
    rintro e w1 ⟨rfl, hb_w1⟩
    have hB_w1 : Below (w.heap.size + 1) (w.alloc (.cells #[.slice cao cs.length ccap, .slice oao os.length ocap, .map (some mr)] 67)) w1 := hB0.trans (hb_w1.mono (by have := hB0.size; rw [hszb] at this; omega))
    clear K1 hb_w1
    obtain ⟨y0_w1, y1_w1, y2_w1⟩ := (unhide HX) w1 hB_w1
    have HF_w1 : ∀ z, BoolB w z (.returned (.bool z)) w1 := fun z => ⟨rfl, (unhide HW) _ hB_w1⟩
    have HF := HF_w1 true
    clear HX HW KC2 KO3 KO4 KP5 hB0 HF_w1  hB_w1
    go_wp2
    go_ret
    exact HF
  · obtain rfl : n1 = 0 := by omega
    rw [decide_eq_false q1]
    simp only [Bool.false_or]
    clear q1
    by_cases q2 : n2 ≠ 0
    · rw [decide_eq_true q2]
      simp only [Bool.true_or]
      have d2 : (n2 != 0) = true := by simp [q2]
      clear q2
      go_enter Tryz.func81, Tryz.ntmps81
      go_wp2_with fail
      refine (unhide K1).mono ?_
      rintro e w1 ⟨rfl, hb_w1⟩
      have hB_w1 : Below (w.heap.size + 1) (w.alloc (.cells #[.slice cao cs.length ccap, .slice oao os.length ocap, .map (some mr)] 67)) w1 := hB0.trans (hb_w1.mono (by have := hB0.size; rw [hszb] at this; omega))
      clear K1 hb_w1
      obtain ⟨y0_w1, y1_w1, y2_w1⟩ := (unhide HX) w1 hB_w1
      have HF_w1 : ∀ z, BoolB w z (.returned (.bool z)) w1 := fun z => ⟨rfl, (unhide HW) _ hB_w1⟩
      have K2 := hide ((unhide KC2) w1 ((unhide HW) _ hB_w1))
      go_wp2_with fail
      refine (unhide K2).mono ?_
      rintro e w2 ⟨rfl, hb_w2⟩
      have hB_w2 : Below (w.heap.size + 1) (w.alloc (.cells #[.slice cao cs.length ccap, .slice oao os.length ocap, .map (some mr)] 67)) w2 := hB_w1.trans (hb_w2.mono (by have := hB_w1.size; rw [hszb] at this; omega))
      clear K2 hb_w2
      obtain ⟨y0_w2, y1_w2, y2_w2⟩ := (unhide HX) w2 hB_w2
      have HF_w2 : ∀ z, BoolB w z (.returned (.bool z)) w2 := fun z => ⟨rfl, (unhide HW) _ hB_w2⟩
      have HF := HF_w2 true
      clear HX HW KC2 KO3 KO4 KP5 hB0 HF_w2 HF_w1 y0_w1 y1_w1 y2_w1 hB_w1 hB_w2
      go_wp2
      go_ret
      exact HF
    · obtain rfl : n2 = 0 := by omega
      rw [decide_eq_false q2]
      simp only [Bool.false_or]
      clear q2
      by_cases q3 : 0 < z3.length
      · rw [decide_eq_true q3]
        simp only [Bool.true_or]
        have d3 : (0 : Int) < (z3.length : Int) := by omega
        go_enter Tryz.func81, Tryz.ntmps81
        go_wp2_with fail
        refine (unhide K1).mono ?_
        rintro e w1 ⟨rfl, hb_w1⟩
        have hB_w1 : Below (w.heap.size + 1) (w.alloc (.cells #[.slice cao cs.length ccap, .slice oao os.length ocap, .map (some mr)] 67)) w1 := hB0.trans (hb_w1.mono (by have := hB0.size; rw [hszb] at this; omega))
        clear K1 hb_w1
        obtain ⟨y0_w1, y1_w1, y2_w1⟩ := (unhide HX) w1 hB_w1
        have HF_w1 : ∀ z, BoolB w z (.returned (.bool z)) w1 := fun z => ⟨rfl, (unhide HW) _ hB_w1⟩
        have K2 := hide ((unhide KC2) w1 ((unhide HW) _ hB_w1))
        go_wp2_with fail
        refine (unhide K2).mono ?_
        rintro e w2 ⟨rfl, hb_w2⟩
        have hB_w2 : Below (w.heap.size + 1) (w.alloc (.cells #[.slice cao cs.length ccap, .slice oao os.length ocap, .map (some mr)] 67)) w2 := hB_w1.trans (hb_w2.mono (by have := hB_w1.size; rw [hszb] at this; omega))
        clear K2 hb_w2
        obtain ⟨y0_w2, y1_w2, y2_w2⟩ := (unhide HX) w2 hB_w2
        have HF_w2 : ∀ z, BoolB w z (.returned (.bool z)) w2 := fun z => ⟨rfl, (unhide HW) _ hB_w2⟩
        have K3 := hide ((unhide KO3) w2 ((unhide HW) _ hB_w2))
        go_wp2_with fail
        refine (unhide K3).mono ?_
        rintro e w3 ⟨v_w3, rfl, hk_w3, hb_w3⟩
        have hB_w3 : Below (w.heap.size + 1) (w.alloc (.cells #[.slice cao cs.length ccap, .slice oao os.length ocap, .map (some mr)] 67)) w3 := hB_w2.trans (hb_w3.mono (by have := hB_w2.size; rw [hszb] at this; omega))
        obtain ⟨ao_w3, cap_w3, rfl, _, _⟩ := (OpB.sk hk_w3 ((unhide HW) _ hB_w2) hb_w3).shape
        clear hk_w3
        clear K3 hb_w3
        obtain ⟨y0_w3, y1_w3, y2_w3⟩ := (unhide HX) w3 hB_w3
        have HF_w3 : ∀ z, BoolB w z (.returned (.bool z)) w3 := fun z => ⟨rfl, (unhide HW) _ hB_w3⟩
        have HF := HF_w3 true
        clear HX HW KC2 KO3 KO4 KP5 hB0 HF_w3 HF_w1 y0_w1 y1_w1 y2_w1 HF_w2 y0_w2 y1_w2 y2_w2 hB_w1 hB_w2 hB_w3
        go_wp2
        go_ret
        exact HF
      · obtain rfl : z3 = [] := List.eq_nil_of_length_eq_zero (by omega)
        rw [decide_eq_false q3]
        simp only [Bool.false_or]
        clear q3
        by_cases q4 : 0 < z4.length
        · rw [decide_eq_true q4]
          simp only [Bool.true_and]
          have d4 : (0 : Int) < (z4.length : Int) := by omega
          cases p5
          · simp only [Bool.not_false, Bool.true_or]
            go_enter Tryz.func81, Tryz.ntmps81
            go_wp2_with fail
            refine (unhide K1).mono ?_
            rintro e w1 ⟨rfl, hb_w1⟩
            have hB_w1 : Below (w.heap.size + 1) (w.alloc (.cells #[.slice cao cs.length ccap, .slice oao os.length ocap, .map (some mr)] 67)) w1 := hB0.trans (hb_w1.mono (by have := hB0.size; rw [hszb] at this; omega))
            clear K1 hb_w1
            obtain ⟨y0_w1, y1_w1, y2_w1⟩ := (unhide HX) w1 hB_w1
            have HF_w1 : ∀ z, BoolB w z (.returned (.bool z)) w1 := fun z => ⟨rfl, (unhide HW) _ hB_w1⟩
            have K2 := hide ((unhide KC2) w1 ((unhide HW) _ hB_w1))
            go_wp2_with fail
            refine (unhide K2).mono ?_
            rintro e w2 ⟨rfl, hb_w2⟩
            have hB_w2 : Below (w.heap.size + 1) (w.alloc (.cells #[.slice cao cs.length ccap, .slice oao os.length ocap, .map (some mr)] 67)) w2 := hB_w1.trans (hb_w2.mono (by have := hB_w1.size; rw [hszb] at this; omega))
            clear K2 hb_w2
            obtain ⟨y0_w2, y1_w2, y2_w2⟩ := (unhide HX) w2 hB_w2
            have HF_w2 : ∀ z, BoolB w z (.returned (.bool z)) w2 := fun z => ⟨rfl, (unhide HW) _ hB_w2⟩
            have K3 := hide ((unhide KO3) w2 ((unhide HW) _ hB_w2))
            go_wp2_with fail
            refine (unhide K3).mono ?_
            rintro e w3 ⟨v_w3, rfl, hk_w3, hb_w3⟩
            have hB_w3 : Below (w.heap.size + 1) (w.alloc (.cells #[.slice cao cs.length ccap, .slice oao os.length ocap, .map (some mr)] 67)) w3 := hB_w2.trans (hb_w3.mono (by have := hB_w2.size; rw [hszb] at this; omega))
            obtain ⟨ao_w3, cap_w3, rfl, _, _⟩ := (OpB.sk hk_w3 ((unhide HW) _ hB_w2) hb_w3).shape
            clear hk_w3
            clear K3 hb_w3
            obtain ⟨y0_w3, y1_w3, y2_w3⟩ := (unhide HX) w3 hB_w3
            have HF_w3 : ∀ z, BoolB w z (.returned (.bool z)) w3 := fun z => ⟨rfl, (unhide HW) _ hB_w3⟩
            have K4 := hide ((unhide KO4) w3 ((unhide HW) _ hB_w3))
            go_wp2_with fail
            refine (unhide K4).mono ?_
            rintro e w4 ⟨v_w4, rfl, hk_w4, hb_w4⟩
            have hB_w4 : Below (w.heap.size + 1) (w.alloc (.cells #[.slice cao cs.length ccap, .slice oao os.length ocap, .map (some mr)] 67)) w4 := hB_w3.trans (hb_w4.mono (by have := hB_w3.size; rw [hszb] at this; omega))
            obtain ⟨ao_w4, cap_w4, rfl, _, _⟩ := (OpB.sk hk_w4 ((unhide HW) _ hB_w3) hb_w4).shape
            clear hk_w4
            clear K4 hb_w4
            obtain ⟨y0_w4, y1_w4, y2_w4⟩ := (unhide HX) w4 hB_w4
            have HF_w4 : ∀ z, BoolB w z (.returned (.bool z)) w4 := fun z => ⟨rfl, (unhide HW) _ hB_w4⟩
            have K5 := hide ((unhide KP5) w4 ((unhide HW) _ hB_w4))
            go_wp2_with fail
            refine (unhide K5).mono ?_
            rintro e w5 ⟨rfl, hb_w5⟩
            have hB_w5 : Below (w.heap.size + 1) (w.alloc (.cells #[.slice cao cs.length ccap, .slice oao os.length ocap, .map (some mr)] 67)) w5 := hB_w4.trans (hb_w5.mono (by have := hB_w4.size; rw [hszb] at this; omega))
            clear K5 hb_w5
            obtain ⟨y0_w5, y1_w5, y2_w5⟩ := (unhide HX) w5 hB_w5
            have HF_w5 : ∀ z, BoolB w z (.returned (.bool z)) w5 := fun z => ⟨rfl, (unhide HW) _ hB_w5⟩
            have HF := HF_w5 true
            clear HX HW KC2 KO3 KO4 KP5 hB0 HF_w5 HF_w1 y0_w1 y1_w1 y2_w1 HF_w2 y0_w2 y1_w2 y2_w2 HF_w3 y0_w3 y1_w3 y2_w3 HF_w4 y0_w4 y1_w4 y2_w4 hB_w1 hB_w2 hB_w3 hB_w4 hB_w5
            go_wp2
            go_ret
            exact HF
          · simp only [Bool.not_true, Bool.false_or]
            by_cases q6 : b < 128
            · rw [decide_eq_true q6, Bool.true_or]
              go_enter Tryz.func81, Tryz.ntmps81
              go_wp2_with fail
              refine (unhide K1).mono ?_
              rintro e w1 ⟨rfl, hb_w1⟩
              have hB_w1 : Below (w.heap.size + 1) (w.alloc (.cells #[.slice cao cs.length ccap, .slice oao os.length ocap, .map (some mr)] 67)) w1 := hB0.trans (hb_w1.mono (by have := hB0.size; rw [hszb] at this; omega))
              clear K1 hb_w1
              obtain ⟨y0_w1, y1_w1, y2_w1⟩ := (unhide HX) w1 hB_w1
              have HF_w1 : ∀ z, BoolB w z (.returned (.bool z)) w1 := fun z => ⟨rfl, (unhide HW) _ hB_w1⟩
              have K2 := hide ((unhide KC2) w1 ((unhide HW) _ hB_w1))
              go_wp2_with fail
              refine (unhide K2).mono ?_
              rintro e w2 ⟨rfl, hb_w2⟩
              have hB_w2 : Below (w.heap.size + 1) (w.alloc (.cells #[.slice cao cs.length ccap, .slice oao os.length ocap, .map (some mr)] 67)) w2 := hB_w1.trans (hb_w2.mono (by have := hB_w1.size; rw [hszb] at this; omega))
              clear K2 hb_w2
              obtain ⟨y0_w2, y1_w2, y2_w2⟩ := (unhide HX) w2 hB_w2
              have HF_w2 : ∀ z, BoolB w z (.returned (.bool z)) w2 := fun z => ⟨rfl, (unhide HW) _ hB_w2⟩
              have K3 := hide ((unhide KO3) w2 ((unhide HW) _ hB_w2))
              go_wp2_with fail
              refine (unhide K3).mono ?_
              rintro e w3 ⟨v_w3, rfl, hk_w3, hb_w3⟩
              have hB_w3 : Below (w.heap.size + 1) (w.alloc (.cells #[.slice cao cs.length ccap, .slice oao os.length ocap, .map (some mr)] 67)) w3 := hB_w2.trans (hb_w3.mono (by have := hB_w2.size; rw [hszb] at this; omega))
              obtain ⟨ao_w3, cap_w3, rfl, _, _⟩ := (OpB.sk hk_w3 ((unhide HW) _ hB_w2) hb_w3).shape
              clear hk_w3
              clear K3 hb_w3
              obtain ⟨y0_w3, y1_w3, y2_w3⟩ := (unhide HX) w3 hB_w3
              have HF_w3 : ∀ z, BoolB w z (.returned (.bool z)) w3 := fun z => ⟨rfl, (unhide HW) _ hB_w3⟩
              have K4 := hide ((unhide KO4) w3 ((unhide HW) _ hB_w3))
              go_wp2_with fail
              refine (unhide K4).mono ?_
              rintro e w4 ⟨v_w4, rfl, hk_w4, hb_w4⟩
              have hB_w4 : Below (w.heap.size + 1) (w.alloc (.cells #[.slice cao cs.length ccap, .slice oao os.length ocap, .map (some mr)] 67)) w4 := hB_w3.trans (hb_w4.mono (by have := hB_w3.size; rw [hszb] at this; omega))
              obtain ⟨ao_w4, cap_w4, rfl, _, _⟩ := (OpB.sk hk_w4 ((unhide HW) _ hB_w3) hb_w4).shape
              clear hk_w4
              clear K4 hb_w4
              obtain ⟨y0_w4, y1_w4, y2_w4⟩ := (unhide HX) w4 hB_w4
              have HF_w4 : ∀ z, BoolB w z (.returned (.bool z)) w4 := fun z => ⟨rfl, (unhide HW) _ hB_w4⟩
              have K5 := hide ((unhide KP5) w4 ((unhide HW) _ hB_w4))
              go_wp2_with fail
              refine (unhide K5).mono ?_
              rintro e w5 ⟨rfl, hb_w5⟩
              have hB_w5 : Below (w.heap.size + 1) (w.alloc (.cells #[.slice cao cs.length ccap, .slice oao os.length ocap, .map (some mr)] 67)) w5 := hB_w4.trans (hb_w5.mono (by have := hB_w4.size; rw [hszb] at this; omega))
              clear K5 hb_w5
              obtain ⟨y0_w5, y1_w5, y2_w5⟩ := (unhide HX) w5 hB_w5
              have HF_w5 : ∀ z, BoolB w z (.returned (.bool z)) w5 := fun z => ⟨rfl, (unhide HW) _ hB_w5⟩
              have HF := HF_w5 true
              clear HX HW KC2 KO3 KO4 KP5 hB0 HF_w5 HF_w1 y0_w1 y1_w1 y2_w1 HF_w2 y0_w2 y1_w2 y2_w2 HF_w3 y0_w3 y1_w3 y2_w3 HF_w4 y0_w4 y1_w4 y2_w4 hB_w1 hB_w2 hB_w3 hB_w4 hB_w5
              go_wp2
              go_ret
              exact HF
            · have d6 : decide (b < 128) = false := decide_eq_false q6
              rw [d6, Bool.false_or]
              by_cases q7 : a = 46
              · rw [decide_eq_true q7]
                subst q7
                go_enter Tryz.func81, Tryz.ntmps81
                go_wp2_with fail
                refine (unhide K1).mono ?_
                rintro e w1 ⟨rfl, hb_w1⟩
                have hB_w1 : Below (w.heap.size + 1) (w.alloc (.cells #[.slice cao cs.length ccap, .slice oao os.length ocap, .map (some mr)] 67)) w1 := hB0.trans (hb_w1.mono (by have := hB0.size; rw [hszb] at this; omega))
                clear K1 hb_w1
                obtain ⟨y0_w1, y1_w1, y2_w1⟩ := (unhide HX) w1 hB_w1
                have HF_w1 : ∀ z, BoolB w z (.returned (.bool z)) w1 := fun z => ⟨rfl, (unhide HW) _ hB_w1⟩
                have K2 := hide ((unhide KC2) w1 ((unhide HW) _ hB_w1))
                go_wp2_with fail
                refine (unhide K2).mono ?_
                rintro e w2 ⟨rfl, hb_w2⟩
                have hB_w2 : Below (w.heap.size + 1) (w.alloc (.cells #[.slice cao cs.length ccap, .slice oao os.length ocap, .map (some mr)] 67)) w2 := hB_w1.trans (hb_w2.mono (by have := hB_w1.size; rw [hszb] at this; omega))
                clear K2 hb_w2
                obtain ⟨y0_w2, y1_w2, y2_w2⟩ := (unhide HX) w2 hB_w2
                have HF_w2 : ∀ z, BoolB w z (.returned (.bool z)) w2 := fun z => ⟨rfl, (unhide HW) _ hB_w2⟩
                have K3 := hide ((unhide KO3) w2 ((unhide HW) _ hB_w2))
                go_wp2_with fail
                refine (unhide K3).mono ?_
                rintro e w3 ⟨v_w3, rfl, hk_w3, hb_w3⟩
                have hB_w3 : Below (w.heap.size + 1) (w.alloc (.cells #[.slice cao cs.length ccap, .slice oao os.length ocap, .map (some mr)] 67)) w3 := hB_w2.trans (hb_w3.mono (by have := hB_w2.size; rw [hszb] at this; omega))
                obtain ⟨ao_w3, cap_w3, rfl, _, _⟩ := (OpB.sk hk_w3 ((unhide HW) _ hB_w2) hb_w3).shape
                clear hk_w3
                clear K3 hb_w3
                obtain ⟨y0_w3, y1_w3, y2_w3⟩ := (unhide HX) w3 hB_w3
                have HF_w3 : ∀ z, BoolB w z (.returned (.bool z)) w3 := fun z => ⟨rfl, (unhide HW) _ hB_w3⟩
                have K4 := hide ((unhide KO4) w3 ((unhide HW) _ hB_w3))
                go_wp2_with fail
                refine (unhide K4).mono ?_
                rintro e w4 ⟨v_w4, rfl, hk_w4, hb_w4⟩
                have hB_w4 : Below (w.heap.size + 1) (w.alloc (.cells #[.slice cao cs.length ccap, .slice oao os.length ocap, .map (some mr)] 67)) w4 := hB_w3.trans (hb_w4.mono (by have := hB_w3.size; rw [hszb] at this; omega))
                obtain ⟨ao_w4, cap_w4, rfl, _, _⟩ := (OpB.sk hk_w4 ((unhide HW) _ hB_w3) hb_w4).shape
                clear hk_w4
                clear K4 hb_w4
                obtain ⟨y0_w4, y1_w4, y2_w4⟩ := (unhide HX) w4 hB_w4
                have HF_w4 : ∀ z, BoolB w z (.returned (.bool z)) w4 := fun z => ⟨rfl, (unhide HW) _ hB_w4⟩
                have K5 := hide ((unhide KP5) w4 ((unhide HW) _ hB_w4))
                go_wp2_with fail
                refine (unhide K5).mono ?_
                rintro e w5 ⟨rfl, hb_w5⟩
                have hB_w5 : Below (w.heap.size + 1) (w.alloc (.cells #[.slice cao cs.length ccap, .slice oao os.length ocap, .map (some mr)] 67)) w5 := hB_w4.trans (hb_w5.mono (by have := hB_w4.size; rw [hszb] at this; omega))
                clear K5 hb_w5
                obtain ⟨y0_w5, y1_w5, y2_w5⟩ := (unhide HX) w5 hB_w5
                have HF_w5 : ∀ z, BoolB w z (.returned (.bool z)) w5 := fun z => ⟨rfl, (unhide HW) _ hB_w5⟩
                have HF := HF_w5 true
                clear HX HW KC2 KO3 KO4 KP5 hB0 HF_w5 HF_w1 y0_w1 y1_w1 y2_w1 HF_w2 y0_w2 y1_w2 y2_w2 HF_w3 y0_w3 y1_w3 y2_w3 HF_w4 y0_w4 y1_w4 y2_w4 hB_w1 hB_w2 hB_w3 hB_w4 hB_w5
                go_wp2
                go_ret
                exact HF
              · rw [decide_eq_false q7]
                have d7 : (a == 46) = false := beq_eq_false_iff_ne.2 q7
                clear q7
                go_enter Tryz.func81, Tryz.ntmps81
                go_wp2_with fail
                refine (unhide K1).mono ?_
                rintro e w1 ⟨rfl, hb_w1⟩
                have hB_w1 : Below (w.heap.size + 1) (w.alloc (.cells #[.slice cao cs.length ccap, .slice oao os.length ocap, .map (some mr)] 67)) w1 := hB0.trans (hb_w1.mono (by have := hB0.size; rw [hszb] at this; omega))
                clear K1 hb_w1
                obtain ⟨y0_w1, y1_w1, y2_w1⟩ := (unhide HX) w1 hB_w1
                have HF_w1 : ∀ z, BoolB w z (.returned (.bool z)) w1 := fun z => ⟨rfl, (unhide HW) _ hB_w1⟩
                have K2 := hide ((unhide KC2) w1 ((unhide HW) _ hB_w1))
                go_wp2_with fail
                refine (unhide K2).mono ?_
                rintro e w2 ⟨rfl, hb_w2⟩
                have hB_w2 : Below (w.heap.size + 1) (w.alloc (.cells #[.slice cao cs.length ccap, .slice oao os.length ocap, .map (some mr)] 67)) w2 := hB_w1.trans (hb_w2.mono (by have := hB_w1.size; rw [hszb] at this; omega))
                clear K2 hb_w2
                obtain ⟨y0_w2, y1_w2, y2_w2⟩ := (unhide HX) w2 hB_w2
                have HF_w2 : ∀ z, BoolB w z (.returned (.bool z)) w2 := fun z => ⟨rfl, (unhide HW) _ hB_w2⟩
                have K3 := hide ((unhide KO3) w2 ((unhide HW) _ hB_w2))
                go_wp2_with fail
                refine (unhide K3).mono ?_
                rintro e w3 ⟨v_w3, rfl, hk_w3, hb_w3⟩
                have hB_w3 : Below (w.heap.size + 1) (w.alloc (.cells #[.slice cao cs.length ccap, .slice oao os.length ocap, .map (some mr)] 67)) w3 := hB_w2.trans (hb_w3.mono (by have := hB_w2.size; rw [hszb] at this; omega))
                obtain ⟨ao_w3, cap_w3, rfl, _, _⟩ := (OpB.sk hk_w3 ((unhide HW) _ hB_w2) hb_w3).shape
                clear hk_w3
                clear K3 hb_w3
                obtain ⟨y0_w3, y1_w3, y2_w3⟩ := (unhide HX) w3 hB_w3
                have HF_w3 : ∀ z, BoolB w z (.returned (.bool z)) w3 := fun z => ⟨rfl, (unhide HW) _ hB_w3⟩
                have K4 := hide ((unhide KO4) w3 ((unhide HW) _ hB_w3))
                go_wp2_with fail
                refine (unhide K4).mono ?_
                rintro e w4 ⟨v_w4, rfl, hk_w4, hb_w4⟩
                have hB_w4 : Below (w.heap.size + 1) (w.alloc (.cells #[.slice cao cs.length ccap, .slice oao os.length ocap, .map (some mr)] 67)) w4 := hB_w3.trans (hb_w4.mono (by have := hB_w3.size; rw [hszb] at this; omega))
                obtain ⟨ao_w4, cap_w4, rfl, _, _⟩ := (OpB.sk hk_w4 ((unhide HW) _ hB_w3) hb_w4).shape
                clear hk_w4
                clear K4 hb_w4
                obtain ⟨y0_w4, y1_w4, y2_w4⟩ := (unhide HX) w4 hB_w4
                have HF_w4 : ∀ z, BoolB w z (.returned (.bool z)) w4 := fun z => ⟨rfl, (unhide HW) _ hB_w4⟩
                have K5 := hide ((unhide KP5) w4 ((unhide HW) _ hB_w4))
                go_wp2_with fail
                refine (unhide K5).mono ?_
                rintro e w5 ⟨rfl, hb_w5⟩
                have hB_w5 : Below (w.heap.size + 1) (w.alloc (.cells #[.slice cao cs.length ccap, .slice oao os.length ocap, .map (some mr)] 67)) w5 := hB_w4.trans (hb_w5.mono (by have := hB_w4.size; rw [hszb] at this; omega))
                clear K5 hb_w5
                obtain ⟨y0_w5, y1_w5, y2_w5⟩ := (unhide HX) w5 hB_w5
                have HF_w5 : ∀ z, BoolB w z (.returned (.bool z)) w5 := fun z => ⟨rfl, (unhide HW) _ hB_w5⟩
                have HF := HF_w5 false
                clear HX HW KC2 KO3 KO4 KP5 hB0 HF_w5 HF_w1 y0_w1 y1_w1 y2_w1 HF_w2 y0_w2 y1_w2 y2_w2 HF_w3 y0_w3 y1_w3 y2_w3 HF_w4 y0_w4 y1_w4 y2_w4 hB_w1 hB_w2 hB_w3 hB_w4 hB_w5
                go_wp2
                go_ret
                exact HF
        · obtain rfl : z4 = [] := List.eq_nil_of_length_eq_zero (by omega)
          rw [decide_eq_false q4]
          simp only [Bool.false_and, Bool.false_or]
          clear q4
          by_cases q6 : b < 128
          · rw [decide_eq_true q6, Bool.true_or]
            go_enter Tryz.func81, Tryz.ntmps81
            go_wp2_with fail
            refine (unhide K1).mono ?_
            rintro e w1 ⟨rfl, hb_w1⟩
            have hB_w1 : Below (w.heap.size + 1) (w.alloc (.cells #[.slice cao cs.length ccap, .slice oao os.length ocap, .map (some mr)] 67)) w1 := hB0.trans (hb_w1.mono (by have := hB0.size; rw [hszb] at this; omega))
            clear K1 hb_w1
            obtain ⟨y0_w1, y1_w1, y2_w1⟩ := (unhide HX) w1 hB_w1
            have HF_w1 : ∀ z, BoolB w z (.returned (.bool z)) w1 := fun z => ⟨rfl, (unhide HW) _ hB_w1⟩
            have K2 := hide ((unhide KC2) w1 ((unhide HW) _ hB_w1))
            go_wp2_with fail
            refine (unhide K2).mono ?_
            rintro e w2 ⟨rfl, hb_w2⟩
            have hB_w2 : Below (w.heap.size + 1) (w.alloc (.cells #[.slice cao cs.length ccap, .slice oao os.length ocap, .map (some mr)] 67)) w2 := hB_w1.trans (hb_w2.mono (by have := hB_w1.size; rw [hszb] at this; omega))
            clear K2 hb_w2
            obtain ⟨y0_w2, y1_w2, y2_w2⟩ := (unhide HX) w2 hB_w2
            have HF_w2 : ∀ z, BoolB w z (.returned (.bool z)) w2 := fun z => ⟨rfl, (unhide HW) _ hB_w2⟩
            have K3 := hide ((unhide KO3) w2 ((unhide HW) _ hB_w2))
            go_wp2_with fail
            refine (unhide K3).mono ?_
            rintro e w3 ⟨v_w3, rfl, hk_w3, hb_w3⟩
            have hB_w3 : Below (w.heap.size + 1) (w.alloc (.cells #[.slice cao cs.length ccap, .slice oao os.length ocap, .map (some mr)] 67)) w3 := hB_w2.trans (hb_w3.mono (by have := hB_w2.size; rw [hszb] at this; omega))
            obtain ⟨ao_w3, cap_w3, rfl, _, _⟩ := (OpB.sk hk_w3 ((unhide HW) _ hB_w2) hb_w3).shape
            clear hk_w3
            clear K3 hb_w3
            obtain ⟨y0_w3, y1_w3, y2_w3⟩ := (unhide HX) w3 hB_w3
            have HF_w3 : ∀ z, BoolB w z (.returned (.bool z)) w3 := fun z => ⟨rfl, (unhide HW) _ hB_w3⟩
            have K4 := hide ((unhide KO4) w3 ((unhide HW) _ hB_w3))
            go_wp2_with fail
            refine (unhide K4).mono ?_
            rintro e w4 ⟨v_w4, rfl, hk_w4, hb_w4⟩
            have hB_w4 : Below (w.heap.size + 1) (w.alloc (.cells #[.slice cao cs.length ccap, .slice oao os.length ocap, .map (some mr)] 67)) w4 := hB_w3.trans (hb_w4.mono (by have := hB_w3.size; rw [hszb] at this; omega))
            obtain ⟨ao_w4, cap_w4, rfl, _, _⟩ := (OpB.sk hk_w4 ((unhide HW) _ hB_w3) hb_w4).shape
            clear hk_w4
            clear K4 hb_w4
            obtain ⟨y0_w4, y1_w4, y2_w4⟩ := (unhide HX) w4 hB_w4
            have HF_w4 : ∀ z, BoolB w z (.returned (.bool z)) w4 := fun z => ⟨rfl, (unhide HW) _ hB_w4⟩
            have HF := HF_w4 true
            clear HX HW KC2 KO3 KO4 KP5 hB0 HF_w4 HF_w1 y0_w1 y1_w1 y2_w1 HF_w2 y0_w2 y1_w2 y2_w2 HF_w3 y0_w3 y1_w3 y2_w3 hB_w1 hB_w2 hB_w3 hB_w4
            go_wp2
            go_ret
            exact HF
          · have d6 : decide (b < 128) = false := decide_eq_false q6
            rw [d6, Bool.false_or]
            by_cases q7 : a = 46
            · rw [decide_eq_true q7]
              subst q7
              go_enter Tryz.func81, Tryz.ntmps81
              go_wp2_with fail
              refine (unhide K1).mono ?_
              rintro e w1 ⟨rfl, hb_w1⟩
              have hB_w1 : Below (w.heap.size + 1) (w.alloc (.cells #[.slice cao cs.length ccap, .slice oao os.length ocap, .map (some mr)] 67)) w1 := hB0.trans (hb_w1.mono (by have := hB0.size; rw [hszb] at this; omega))
              clear K1 hb_w1
              obtain ⟨y0_w1, y1_w1, y2_w1⟩ := (unhide HX) w1 hB_w1
              have HF_w1 : ∀ z, BoolB w z (.returned (.bool z)) w1 := fun z => ⟨rfl, (unhide HW) _ hB_w1⟩
              have K2 := hide ((unhide KC2) w1 ((unhide HW) _ hB_w1))
              go_wp2_with fail
              refine (unhide K2).mono ?_
              rintro e w2 ⟨rfl, hb_w2⟩
              have hB_w2 : Below (w.heap.size + 1) (w.alloc (.cells #[.slice cao cs.length ccap, .slice oao os.length ocap, .map (some mr)] 67)) w2 := hB_w1.trans (hb_w2.mono (by have := hB_w1.size; rw [hszb] at this; omega))
              clear K2 hb_w2
              obtain ⟨y0_w2, y1_w2, y2_w2⟩ := (unhide HX) w2 hB_w2
              have HF_w2 : ∀ z, BoolB w z (.returned (.bool z)) w2 := fun z => ⟨rfl, (unhide HW) _ hB_w2⟩
              have K3 := hide ((unhide KO3) w2 ((unhide HW) _ hB_w2))
              go_wp2_with fail
              refine (unhide K3).mono ?_
              rintro e w3 ⟨v_w3, rfl, hk_w3, hb_w3⟩
              have hB_w3 : Below (w.heap.size + 1) (w.alloc (.cells #[.slice cao cs.length ccap, .slice oao os.length ocap, .map (some mr)] 67)) w3 := hB_w2.trans (hb_w3.mono (by have := hB_w2.size; rw [hszb] at this; omega))
              obtain ⟨ao_w3, cap_w3, rfl, _, _⟩ := (OpB.sk hk_w3 ((unhide HW) _ hB_w2) hb_w3).shape
              clear hk_w3
              clear K3 hb_w3
              obtain ⟨y0_w3, y1_w3, y2_w3⟩ := (unhide HX) w3 hB_w3
              have HF_w3 : ∀ z, BoolB w z (.returned (.bool z)) w3 := fun z => ⟨rfl, (unhide HW) _ hB_w3⟩
              have K4 := hide ((unhide KO4) w3 ((unhide HW) _ hB_w3))
              go_wp2_with fail
              refine (unhide K4).mono ?_
              rintro e w4 ⟨v_w4, rfl, hk_w4, hb_w4⟩
              have hB_w4 : Below (w.heap.size + 1) (w.alloc (.cells #[.slice cao cs.length ccap, .slice oao os.length ocap, .map (some mr)] 67)) w4 := hB_w3.trans (hb_w4.mono (by have := hB_w3.size; rw [hszb] at this; omega))
              obtain ⟨ao_w4, cap_w4, rfl, _, _⟩ := (OpB.sk hk_w4 ((unhide HW) _ hB_w3) hb_w4).shape
              clear hk_w4
              clear K4 hb_w4
              obtain ⟨y0_w4, y1_w4, y2_w4⟩ := (unhide HX) w4 hB_w4
              have HF_w4 : ∀ z, BoolB w z (.returned (.bool z)) w4 := fun z => ⟨rfl, (unhide HW) _ hB_w4⟩
              have HF := HF_w4 true
              clear HX HW KC2 KO3 KO4 KP5 hB0 HF_w4 HF_w1 y0_w1 y1_w1 y2_w1 HF_w2 y0_w2 y1_w2 y2_w2 HF_w3 y0_w3 y1_w3 y2_w3 hB_w1 hB_w2 hB_w3 hB_w4
              go_wp2
              go_ret
              exact HF
            · rw [decide_eq_false q7]
              have d7 : (a == 46) = false := beq_eq_false_iff_ne.2 q7
              clear q7
              go_enter Tryz.func81, Tryz.ntmps81
              go_wp2_with fail
              refine (unhide K1).mono ?_
              rintro e w1 ⟨rfl, hb_w1⟩
              have hB_w1 : Below (w.heap.size + 1) (w.alloc (.cells #[.slice cao cs.length ccap, .slice oao os.length ocap, .map (some mr)] 67)) w1 := hB0.trans (hb_w1.mono (by have := hB0.size; rw [hszb] at this; omega))
              clear K1 hb_w1
              obtain ⟨y0_w1, y1_w1, y2_w1⟩ := (unhide HX) w1 hB_w1
              have HF_w1 : ∀ z, BoolB w z (.returned (.bool z)) w1 := fun z => ⟨rfl, (unhide HW) _ hB_w1⟩
              have K2 := hide ((unhide KC2) w1 ((unhide HW) _ hB_w1))
              go_wp2_with fail
              refine (unhide K2).mono ?_
              rintro e w2 ⟨rfl, hb_w2⟩
              have hB_w2 : Below (w.heap.size + 1) (w.alloc (.cells #[.slice cao cs.length ccap, .slice oao os.length ocap, .map (some mr)] 67)) w2 := hB_w1.trans (hb_w2.mono (by have := hB_w1.size; rw [hszb] at this; omega))
              clear K2 hb_w2
              obtain ⟨y0_w2, y1_w2, y2_w2⟩ := (unhide HX) w2 hB_w2
              have HF_w2 : ∀ z, BoolB w z (.returned (.bool z)) w2 := fun z => ⟨rfl, (unhide HW) _ hB_w2⟩
              have K3 := hide ((unhide KO3) w2 ((unhide HW) _ hB_w2))
              go_wp2_with fail
              refine (unhide K3).mono ?_
              rintro e w3 ⟨v_w3, rfl, hk_w3, hb_w3⟩
              have hB_w3 : Below (w.heap.size + 1) (w.alloc (.cells #[.slice cao cs.length ccap, .slice oao os.length ocap, .map (some mr)] 67)) w3 := hB_w2.trans (hb_w3.mono (by have := hB_w2.size; rw [hszb] at this; omega))
              obtain ⟨ao_w3, cap_w3, rfl, _, _⟩ := (OpB.sk hk_w3 ((unhide HW) _ hB_w2) hb_w3).shape
              clear hk_w3
              clear K3 hb_w3
              obtain ⟨y0_w3, y1_w3, y2_w3⟩ := (unhide HX) w3 hB_w3
              have HF_w3 : ∀ z, BoolB w z (.returned (.bool z)) w3 := fun z => ⟨rfl, (unhide HW) _ hB_w3⟩
              have K4 := hide ((unhide KO4) w3 ((unhide HW) _ hB_w3))
              go_wp2_with fail
              refine (unhide K4).mono ?_
              rintro e w4 ⟨v_w4, rfl, hk_w4, hb_w4⟩
              have hB_w4 : Below (w.heap.size + 1) (w.alloc (.cells #[.slice cao cs.length ccap, .slice oao os.length ocap, .map (some mr)] 67)) w4 := hB_w3.trans (hb_w4.mono (by have := hB_w3.size; rw [hszb] at this; omega))
              obtain ⟨ao_w4, cap_w4, rfl, _, _⟩ := (OpB.sk hk_w4 ((unhide HW) _ hB_w3) hb_w4).shape
              clear hk_w4
              clear K4 hb_w4
              obtain ⟨y0_w4, y1_w4, y2_w4⟩ := (unhide HX) w4 hB_w4
              have HF_w4 : ∀ z, BoolB w z (.returned (.bool z)) w4 := fun z => ⟨rfl, (unhide HW) _ hB_w4⟩
              have HF := HF_w4 false
              clear HX HW KC2 KO3 KO4 KP5 hB0 HF_w4 HF_w1 y0_w1 y1_w1 y2_w1 HF_w2 y0_w2 y1_w2 y2_w2 HF_w3 y0_w3 y1_w3 y2_w3 hB_w1 hB_w2 hB_w3 hB_w4
              go_wp2
              go_ret
              exact HF
end Go.Proofs.YtloocceakfmnoaaGreatDoor
