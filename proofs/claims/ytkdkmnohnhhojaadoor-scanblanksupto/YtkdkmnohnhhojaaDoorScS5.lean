/- The contract of scan's PrintSpan. -/
import Derived.Test.YtkdkmnohnhhojaaDoorScP5
import Derived.Test.YtkdkmnohnhhojaaDoorLReads5
namespace Go.Proofs.YtkdkmnohnhhojaaDoor
open Go.RowKit

set_option maxHeartbeats 2000000 in
theorem pspanC : PSpanC := by
  intro a b w hg ha hb
  have K1 := hide (isCode_any a w ha)
  have K2 := hide (isCode_any b w hb)
  by_cases h1 : 0 ≤ a ∧ a ≤ 1114111
  · rw [decide_eq_true h1] at K1
    by_cases h2 : 0 ≤ b ∧ b ≤ 1114111
    · rw [decide_eq_true h2] at K2
      by_cases h3 : b < a
      · have HF : TextNew w (Scn.pspan a b) (.returned (.string ⟨#[]⟩)) w := ⟨_, by unfold Scn.pspan; rw [if_neg (by omega), if_pos (by omega)]; rfl, rfl, Below.refl _ _⟩
        clear hg
        obtain ⟨_, _⟩ := ha
        obtain ⟨_, _⟩ := hb
        obtain ⟨_, _⟩ := h1
        obtain ⟨_, _⟩ := h2
        go_enter Tryd.func25, Tryd.ntmps25
        go_wp2_with fail
        refine (unhide K1).mono ?_
        rintro e w1 ⟨rfl, hw1⟩
        subst w1
        clear K1
        go_wp2_with fail
        refine (unhide K2).mono ?_
        rintro e w1 ⟨rfl, hw1⟩
        subst w1
        clear K2
        go_wp2
        go_ret
        exact HF
      · by_cases h4 : a = b
        · subst h4
          have K3 := hide (pcodeC a w hg ha)
          have hp : Scn.pspan a a = Scn.pcode a := by unfold Scn.pspan; rw [if_pos rfl]
          rw [hp]
          have q := int_beq a
          clear hg hp
          obtain ⟨_, _⟩ := ha
          obtain ⟨_, _⟩ := h1
          go_enter Tryd.func25, Tryd.ntmps25
          go_wp2_with fail
          refine (unhide K1).mono ?_
          rintro e w1 ⟨rfl, hw1⟩
          subst w1
          clear K1
          go_wp2_with fail
          refine (unhide K2).mono ?_
          rintro e w1 ⟨rfl, hw1⟩
          subst w1
          clear K2
          go_wp2_with fail
          refine (unhide K3).mono ?_
          rintro e w1 ⟨t, ht, rfl, hb1⟩
          have HF : TextNew w (Scn.pcode a) (.returned (.string t)) w1 := ⟨t, ht, rfl, hb1⟩
          clear K3 ht hb1
          go_wp2
          go_ret
          exact HF
        · have hp : Scn.pspan a b = Scn.pcode a ++ [46, 46] ++ Scn.pcode b := by unfold Scn.pspan; rw [if_neg h4, if_neg (by omega)]
          rw [hp]
          have K3 := hide (fun w hg => pcodeC a w hg ha)
          have K4 := hide (fun w hg => pcodeC b w hg hb)
          have L1 := Scn.pcode_length a
          have L2 := Scn.pcode_length b
          have q : (a == b) = false := beq_eq_false_iff_ne.2 h4
          clear hp h4
          obtain ⟨_, _⟩ := ha
          obtain ⟨_, _⟩ := hb
          obtain ⟨_, _⟩ := h1
          obtain ⟨_, _⟩ := h2
          generalize Scn.pcode a = za at *
          generalize Scn.pcode b = zb at *
          go_enter Tryd.func25, Tryd.ntmps25
          go_wp2_with fail
          refine (unhide K1).mono ?_
          rintro e w1 ⟨rfl, hw1⟩
          subst w1
          clear K1
          go_wp2_with fail
          refine (unhide K2).mono ?_
          rintro e w1 ⟨rfl, hw1⟩
          subst w1
          clear K2
          go_wp2_with fail
          refine ((unhide K3) w hg).mono ?_
          rintro e w1 ⟨t, ht, rfl, hb1⟩
          have g1 := hg.on hb1
          have lt : t.size ≤ 8 := by rw [← nums_length, ht]; exact L1
          clear K3
          go_wp2_with fail
          refine ((unhide K4) w1 g1).mono ?_
          rintro e w2 ⟨t2, ht2, rfl, hb2⟩
          have lt2 : t2.size ≤ 8 := by rw [← nums_length, ht2]; exact L2
          have HF : TextNew w (za ++ [46, 46] ++ zb) (.returned (.string (t ++ ⟨#[46, 46]⟩ ++ t2))) w2 := ⟨_, by rw [nums_append, nums_append, ht, ht2]; rfl, rfl, bthen hb1 hb2⟩
          clear K4 ht ht2 hb1 hb2 g1 hg
          go_wp2
          go_ret
          exact HF
    · rw [decide_eq_false h2] at K2
      have HF : TextNew w (Scn.pspan a b) (.returned (.string ⟨#[]⟩)) w := ⟨_, by unfold Scn.pspan; rw [if_neg (by omega), if_pos (by omega)]; rfl, rfl, Below.refl _ _⟩
      clear hg h2
      obtain ⟨_, _⟩ := ha
      obtain ⟨_, _⟩ := hb
      obtain ⟨_, _⟩ := h1
      go_enter Tryd.func25, Tryd.ntmps25
      go_wp2_with fail
      refine (unhide K1).mono ?_
      rintro e w1 ⟨rfl, hw1⟩
      subst w1
      clear K1
      go_wp2_with fail
      refine (unhide K2).mono ?_
      rintro e w1 ⟨rfl, hw1⟩
      subst w1
      clear K2
      go_wp2
      go_ret
      exact HF
  · rw [decide_eq_false h1] at K1
    have HF : TextNew w (Scn.pspan a b) (.returned (.string ⟨#[]⟩)) w := by
      refine ⟨_, ?_, rfl, Below.refl _ _⟩
      unfold Scn.pspan
      split
      · unfold Scn.pcode; rw [if_pos (by omega)]; rfl
      · rw [if_pos (by omega)]; rfl
    clear hg h1 K2
    obtain ⟨_, _⟩ := ha
    obtain ⟨_, _⟩ := hb
    go_enter Tryd.func25, Tryd.ntmps25
    go_wp2_with fail
    refine (unhide K1).mono ?_
    rintro e w1 ⟨rfl, hw1⟩
    subst w1
    clear K1
    go_wp2
    go_ret
    exact HF
end Go.Proofs.YtkdkmnohnhhojaaDoor
