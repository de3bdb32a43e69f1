/- 7.4: what a full decomposition in a right table is like. 7.3: a record of another family turns nothing. -/
import Derived.Test.YteigibncdbgpmaaGreatDoorGg7
namespace Go.Proofs.YteigibncdbgpmaaGreatDoor.Cn

/-- Of what comes on the way down nothing opens. -/
theorem walk_leaves (l : List Rec) : ∀ (f : Nat) (way : List Int) (c : Int) (out : List Int), (∀ x ∈ out, opn l x = []) → ∀ x ∈ (walk l f way c out).1, opn l x = [] := by
  intro f
  induction f with
  | zero =>
    intro way c out h
    rw [walk]
    split
    · next hc =>
      split
      · intro x hx; cases hx
      · intro x hx
        rcases List.mem_append.1 hx with hx | hx
        · exact h x hx
        · rw [List.mem_singleton.1 hx]; exact hc
    · split <;> (intro x hx; cases hx)
  | succ f ih =>
    intro way c out h
    rw [walk]
    split
    · next hc =>
      split
      · intro x hx; cases hx
      · intro x hx
        rcases List.mem_append.1 hx with hx | hx
        · exact h x hx
        · rw [List.mem_singleton.1 hx]; exact hc
    · split
      · intro x hx; cases hx
      · have key : ∀ (xs : List Int) (s : List Int × Int), (∀ x ∈ s.1, opn l x = []) → ∀ x ∈ (xs.foldl (stepW l f (way ++ [c])) s).1, opn l x = [] := by
          intro xs
          induction xs with
          | nil => intro s hs; exact hs
          | cons x xs ihx =>
            intro s hs
            rw [List.foldl_cons]
            refine ihx _ ?_
            unfold stepW
            split
            · exact ih _ _ _ hs
            · exact hs
        exact key _ _ h
/-- The way down without an error is longer. -/
theorem walk_more (l : List Rec) : ∀ (f : Nat) (way : List Int) (c : Int) (out : List Int), (walk l f way c out).2 = 0 → out.length < (walk l f way c out).1.length := by
  intro f
  induction f with
  | zero =>
    intro way c out
    rw [walk]
    split
    · split
      · intro h; exact absurd h (by decide)
      · intro _; simp
    · split <;> (intro h; exact absurd h (by decide))
  | succ f ih =>
    intro way c out
    rw [walk]
    split
    · split
      · intro h; exact absurd h (by decide)
      · intro _; simp
    · next hc =>
      split
      · intro h; exact absurd h (by decide)
      · have key : ∀ (xs : List Int) (s : List Int × Int), (xs.foldl (stepW l f (way ++ [c])) s).2 = 0 → s.1.length + xs.length ≤ (xs.foldl (stepW l f (way ++ [c])) s).1.length := by
          intro xs
          induction xs with
          | nil => intro s _; simp
          | cons x xs ihx =>
            intro s hs
            rw [List.foldl_cons] at hs ⊢
            have h1 := ihx _ hs
            have h0 : s.2 = 0 := by
              refine Decidable.byContradiction fun hn => ?_
              rw [stepW, if_neg hn, fold_stuck _ _ _ _ _ hn] at hs
              exact hn hs
            have h2 : (stepW l f (way ++ [c]) s x).2 = 0 := by
              refine Decidable.byContradiction fun hn => ?_
              rw [fold_stuck _ _ _ _ _ hn] at hs
              exact hn hs
            unfold stepW at h1 h2 hs ⊢
            rw [if_pos h0] at h1 h2
            have h3 := ih _ _ _ h2
            simp only [List.length_cons]
            simp only [if_pos h0] at *
            omega
        intro h
        have := key _ _ h
        have hne : 0 < (opn l c).length := List.length_pos_iff.2 hc
        simp only at this
        exact Nat.lt_of_lt_of_le (by omega) this
/-- A jamo. -/
def jamo (c : Int) : Prop := (4352 ≤ c ∧ c ≤ 4370) ∨ (4449 ≤ c ∧ c ≤ 4469) ∨ (4520 ≤ c ∧ c ≤ 4546)
theorem speaks_span {r : Rec} {c : Int} (h : speaks r c = true) : r.lo ≤ c ∧ c ≤ r.hi := by
  unfold speaks at h
  obtain ⟨_, _, _, _, h5, h6, _⟩ := of_decide_eq_true h
  exact ⟨h5, h6⟩
theorem jamo_hit {l : List Rec} (h : (check l).2 = 0) {c : Int} (hc : jamo c) {f : Int} (hf : f = 2 ∨ f = 3) : hit l f c = Option.none := by
  obtain ⟨h6, hr, _, _⟩ := check_iff.1 h
  cases e : hit l f c with
  | none => rfl
  | some r =>
    obtain ⟨h1, h2, h3⟩ := hit_some e
    have hs := speaks_span h3
    have h0 := hr r h1
    unfold record at h0
    rw [if_neg (by omega)] at h0
    split at h0
    · exact absurd h0 (by decide)
    · split at h0
      · exact absurd h0 (by decide)
      · next hn =>
        refine absurd ?_ hn
        simp only [Bool.or_eq_true, covers, decide_eq_true_eq]
        rcases hc with hc | hc | hc
        · exact .inl (.inl (.inl (by omega)))
        · exact .inl (.inl (.inr (by omega)))
        · exact .inl (.inr (by omega))
theorem jamo_opn {l : List Rec} (h : (check l).2 = 0) {c : Int} (hc : jamo c) : opn l c = [] := by
  unfold opn
  have : syl c = false := by
    unfold syl
    unfold jamo at hc
    exact decide_eq_false (by omega)
  rw [this, jamo_hit h hc (.inr rfl)]
  rfl
theorem jamo_cls {l : List Rec} (h : (check l).2 = 0) {c : Int} (hc : jamo c) : cls l c = 0 := by
  unfold cls
  rw [jamo_hit h hc (.inl rfl)]
theorem opn_lv {l : List Rec} {c : Int} (hs : syl c = true) (hm : (c - 44032) % 28 = 0) : opn l c = [4352 + (c - 44032) / 588, 4449 + (c - 44032) / 28 % 21] := by
  unfold opn
  rw [if_pos hs, if_pos hm]
theorem opn_lvt {l : List Rec} {c : Int} (hs : syl c = true) (hm : ¬ (c - 44032) % 28 = 0) : opn l c = [c - (c - 44032) % 28, 4519 + (c - 44032) % 28] := by
  unfold opn
  rw [if_pos hs, if_neg hm]
theorem falls_none {l : List Rec} : ∀ (x : List Int), (∀ c ∈ x, cls l c = 0) → fallsA l x = false
  | [], _ => rfl
  | [_], _ => rfl
  | a :: b :: r, h => by
    rw [fallsA, falls_none (b :: r) fun c hc => h c (List.mem_cons_of_mem _ hc)]
    simp [h b (by simp)]
theorem syl_full {l : List Rec} (h : (check l).2 = 0) {c : Int} (hs : syl c = true) : (full l c).2 = 0 ∧ ∀ x ∈ (full l c).1, jamo x := by
  have hb : 44032 ≤ c ∧ c ≤ 55203 := of_decide_eq_true hs
  have lv : ∀ (d : Int), syl d = true → (d - 44032) % 28 = 0 → ∀ (f : Nat) (way out : List Int), ¬ d ∈ way → out.length < 30 → walk l (f + 1) way d out = (out ++ [4352 + (d - 44032) / 588, 4449 + (d - 44032) / 28 % 21], 0) ∧ jamo (4352 + (d - 44032) / 588) ∧ jamo (4449 + (d - 44032) / 28 % 21) := by
    intro d hd hm f way out hw ho
    have hdb : 44032 ≤ d ∧ d ≤ 55203 := of_decide_eq_true hd
    have j1 : jamo (4352 + (d - 44032) / 588) := .inl (by omega)
    have j2 : jamo (4449 + (d - 44032) / 28 % 21) := .inr (.inl (by omega))
    refine ⟨?_, j1, j2⟩
    rw [walk_go (by rw [opn_lv hd hm]; simp) f hw, opn_lv hd hm]
    simp only [List.foldl_cons, List.foldl_nil, stepW]
    rw [if_pos trivial, walk_leaf (jamo_opn h j1), if_neg (c := 32 ≤ out.length) (by omega)]
    simp only [if_true]
    rw [walk_leaf (jamo_opn h j2), if_neg (by simp; omega)]
    simp
  unfold full
  by_cases hm : (c - 44032) % 28 = 0
  · obtain ⟨e, j1, j2⟩ := lv c hs hm 15 [] [] (by simp) (by simp)
    rw [e]
    refine ⟨rfl, fun x hx => ?_⟩
    simp at hx
    rcases hx with rfl | rfl
    · exact j1
    · exact j2
  · have hd : syl (c - (c - 44032) % 28) = true := decide_eq_true (by omega)
    have hdm : (c - (c - 44032) % 28 - 44032) % 28 = 0 := by omega
    have j3 : jamo (4519 + (c - 44032) % 28) := .inr (.inr (by omega))
    rw [walk_go (by rw [opn_lvt hs hm]; simp) 15 (by simp), opn_lvt hs hm]
    obtain ⟨e, j1, j2⟩ := lv _ hd hdm 14 ([] ++ [c]) [] (by simp; omega) (by simp)
    simp only [List.foldl_cons, List.foldl_nil, stepW]
    rw [if_pos trivial, e]
    simp only [if_true]
    rw [walk_leaf (jamo_opn h j3), if_neg (by simp)]
    refine ⟨rfl, fun x hx => ?_⟩
    simp at hx
    rcases hx with rfl | rfl | rfl
    · exact j1
    · exact j2
    · exact j3
theorem fam_three {k : Int} (h : fam k = 3) : k = 7 ∨ k = 8 := by
  unfold fam at h
  split at h
  · omega
  · split at h
    · omega
    · split at h
      · omega
      · split at h <;> omega
/-- 7.4. -/
theorem leaves {l : List Rec} (h : (check l).2 = 0) (c : Int) : (full l c).2 = 0 ∧ 0 < (full l c).1.length ∧ (full l c).1.length ≤ 32 ∧ (∀ x ∈ (full l c).1, opn l x = []) ∧ fallsA l (full l c).1 = false := by
  have h0 : (full l c).2 = 0 ∧ fallsA l (full l c).1 = false := by
    by_cases hs : syl c = true
    · obtain ⟨h1, h2⟩ := syl_full h hs
      exact ⟨h1, falls_none _ fun x hx => jamo_cls h (h2 x hx)⟩
    · by_cases ho : opn l c = []
      · unfold full
        rw [walk_leaf ho, if_neg (by simp)]
        exact ⟨rfl, rfl⟩
      · have he : ∃ r, hit l 3 c = some r := by
          unfold opn at ho
          rw [if_neg hs] at ho
          cases e : hit l 3 c with
          | none => rw [e] at ho; exact absurd rfl ho
          | some r => exact ⟨r, rfl⟩
        obtain ⟨r, hr⟩ := he
        obtain ⟨h1, h2, h3⟩ := hit_some hr
        obtain ⟨h6, hrec, _, _⟩ := check_iff.1 h
        have hsp := speaks_span h3
        have hlo : r.lo = r.hi := by
          rcases fam_three h2 with hk | hk
          · exact (right_decomp ((check6_iff.1 h6).2.1 r h1) hk).1
          · exact (right_opens ((check6_iff.1 h6).2.1 r h1) hk).1
        have hc : r.lo = c := by omega
        have hz := hrec r h1
        rw [record_F] at hz
        unfold recF at hz
        rw [if_neg (by omega)] at hz
        split at hz
        · exact absurd hz (by decide)
        · split at hz
          · exact absurd hz (by decide)
          · split at hz
            · exact absurd hz (by decide)
            · rw [if_neg (by omega), hc] at hz
              split at hz
              · next hn => exact absurd hz hn
              · next hn =>
                split at hz
                · exact absurd hz (by decide)
                · next hfa => exact ⟨Decidable.not_not.1 hn, Bool.eq_false_iff.2 hfa⟩
  exact ⟨h0.1, walk_more l 16 [] c [] h0.1, full_len l c, walk_leaves l 16 [] c [] (fun x hx => absurd hx (by simp)), h0.2⟩
theorem falls_at {l : List Rec} : ∀ (x : List Int), fallsA l x = false → ∀ k, k + 1 < x.length → cls l (x.getD (k + 1) 0) = 0 ∨ cls l (x.getD k 0) ≤ cls l (x.getD (k + 1) 0)
  | [], _, k, hk => absurd hk (by simp)
  | [_], _, k, hk => absurd hk (by simp)
  | a :: b :: r, h, k, hk => by
    rw [fallsA, Bool.or_eq_false_iff] at h
    cases k with
    | zero =>
      have := of_decide_eq_false h.1
      show cls l b = 0 ∨ cls l a ≤ cls l b
      omega
    | succ k => exact falls_at (b :: r) h.2 k (by simpa using hk)
end Go.Proofs.YteigibncdbgpmaaGreatDoor.Cn
