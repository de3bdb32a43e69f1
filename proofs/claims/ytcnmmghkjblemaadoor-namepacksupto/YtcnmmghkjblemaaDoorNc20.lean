/- The order of names, one step up; plain. -/
import Derived.Test.YtcnmmghkjblemaaDoorNb20
namespace Go.Proofs.YtcnmmghkjblemaaDoor
namespace Na
theorem cmp_neg (a b : List Int) : cmp b a = - cmp a b := cmpL_ord.neg _ _
theorem cmp_self (a : List Int) : cmp a a = 0 := cmpL_ord.refl _
theorem cmp_rng (a b : List Int) : cmp a b = -1 ∨ cmp a b = 0 ∨ cmp a b = 1 := cmpL_ord.rng _ _
theorem cmp_le {a b c : List Int} (h1 : cmp a b ≤ 0) (h2 : cmp b c ≤ 0) : cmp a c ≤ 0 := cmpL_ord.le_le _ _ _ h1 h2
theorem cmp_lt {a b c : List Int} (h1 : cmp a b < 0) (h2 : cmp b c ≤ 0) : cmp a c < 0 := cmpL_ord.lt_le _ _ _ h1 h2
theorem cmp_lt2 {a b c : List Int} (h1 : cmp a b ≤ 0) (h2 : cmp b c < 0) : cmp a c < 0 := cmpL_ord.le_lt _ _ _ h1 h2
theorem cmp_eq {a b : List Int} (c : List Int) (h : cmp a b = 0) : cmp c a = cmp c b := cmpL_ord.eqv2 _ _ _ h
theorem bel_eq {a b : List Int} (h : cmp a b = 0) : bel a b = true := pre_eq lbl_ord _ _ h
theorem bel_eq2 {a b : List Int} (h : cmp a b = 0) : bel b a = true := bel_eq (by rw [cmp_neg, h]; rfl)
theorem bel_self (a : List Int) : bel a a = true := pre_refl lbl_ord _
theorem bel_root (a : List Int) : bel a [] = true := pre_nil _
theorem bel_mid {a b c d : List Int} (h1 : cmp a b ≤ 0) (h2 : cmp b c ≤ 0) (p1 : bel a d = true) (p2 : bel c d = true) : bel b d = true := pre_mid lbl_ord _ _ _ _ h1 h2 p1 p2
/-- 20.7: one step up. -/
theorem up_one {s : List Int} {n : Nat} (hn : (lab s).length = n + 1) (h : par s = [] → n = 0) : s ≠ [] ∧ cmp (par s) s = -1 ∧ bel s (par s) = true ∧ (lab (par s)).length = n := by
  have hs : s ≠ [] := fun e => by subst e; simp [lab] at hn
  have h2 : par s ≠ [] ∨ (lab s).length ≠ 2 := by
    by_cases hp : par s = []
    · exact .inr (by have := h hp; omega)
    · exact .inl hp
  obtain ⟨g1, g2⟩ := par_up hs h2
  refine ⟨hs, g1, g2, ?_⟩
  rw [lab_par h2, List.length_tail, hn]
  rfl
theorem lab_none {s : List Int} (h : (lab s).length = 0) : s = [] := by
  have := joi_lab s
  rw [List.eq_nil_of_length_eq_zero h] at this
  exact this.symm
/-- In any case: what stands below the parent, or the parent is the root's text. -/
theorem up_any {s : List Int} (hs : s ≠ []) : (par s = [] ∧ (lab s).length = 2) ∨ (cmp (par s) s < 0 ∧ bel s (par s) = true) := by
  by_cases h : par s = [] ∧ (lab s).length = 2
  · exact .inl h
  · right
    have h2 : par s ≠ [] ∨ (lab s).length ≠ 2 := by
      by_cases hp : par s = []
      · exact .inr fun e => h ⟨hp, e⟩
      · exact .inl hp
    obtain ⟨g1, g2⟩ := par_up hs h2
    exact ⟨by rw [g1]; decide, g2⟩
end Na
end Go.Proofs.YtcnmmghkjblemaaDoor
