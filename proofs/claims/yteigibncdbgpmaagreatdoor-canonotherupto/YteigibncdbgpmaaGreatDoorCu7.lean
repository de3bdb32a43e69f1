/- 7.3: a record of another family turns nothing. -/
import Derived.Test.YteigibncdbgpmaaGreatDoorGg7
namespace Go.Proofs.YteigibncdbgpmaaGreatDoor.Cn

theorem findA_app {f c : Int} {r : Rec} (hf : fam r.kind ≠ f) : ∀ (l : List Rec) (i : Nat), findA f c i (l ++ [r]) = findA f c i l
  | [], i => by
    show (if fam r.kind = f ∧ speaks r c = true then (i : Int) else findA f c (i + 1) []) = -1
    rw [if_neg (fun a => hf a.1), findA]
  | x :: l, i => by
    show findA f c i (x :: (l ++ [r])) = findA f c i (x :: l)
    rw [findA, findA, findA_app hf l]
theorem hit_app {l : List Rec} {f c : Int} {r : Rec} (hf : fam r.kind ≠ f) : hit (l ++ [r]) f c = hit l f c := by
  have he : find (l ++ [r]) f c = find l f c := by
    unfold find
    rw [findA_app hf]
  unfold hit
  rw [he]
  split
  · rfl
  · next hn =>
    rcases find_bound l f c with h | ⟨h1, h2⟩
    · omega
    · congr 1
      rw [List.getD, List.getD, List.getElem?_append_left (by omega)]
theorem recordA_app {l : List Rec} {r : Rec} (hf : 4 ≤ fam r.kind) : ∀ (m : List Rec) (i : Nat), i + m.length = l.length → recordA (l ++ [r]) i (m ++ [r]) = recordA l i m
  | [], i, hi => by
    show (if record (l ++ [r]) i r = 0 then recordA (l ++ [r]) (i + 1) [] else some (i, record (l ++ [r]) i r)) = Option.none
    rw [if_pos, recordA]
    unfold record
    rw [if_pos ⟨by omega, by omega⟩]
  | x :: m, i, hi => by
    have e : record (l ++ [r]) i x = record l i x := record_congr (fun c => hit_app (by omega)) (fun c => hit_app (by omega)) (List.take_append_of_le_length (by simp at hi; omega)) x
    show recordA (l ++ [r]) i (x :: (m ++ [r])) = recordA l i (x :: m)
    rw [recordA, recordA, e, recordA_app hf m (i + 1) (by simp at hi; omega)]
theorem recordA_bound {l : List Rec} : ∀ (m : List Rec) (i : Nat) (x : Nat × Int), recordA l i m = some x → x.1 < i + m.length
  | [], _, _, h => by rw [recordA] at h; cases h
  | y :: m, i, x, h => by
    rw [recordA] at h
    split at h
    · have := recordA_bound m (i + 1) x h
      simp only [List.length_cons]; omega
    · cases h; simp
/-- A record more of another family, that may stand in the table. -/
theorem other {l : List Rec} {r : Rec} (hf : 4 ≤ fam r.kind) (h1 : (check6 l).2 = 0) (h2 : (check6 (l ++ [r])).2 = 0) :
    (check (l ++ [r])).2 = (check l).2 ∧ ((check l).2 = 0 ∨ (check (l ++ [r])).1 = if (check l).1 = l.length then (check l).1 + 1 else (check l).1) := by
  have hr := recordA_app (l := l) hf l 0 (by omega)
  have hb : baseA (l ++ [r]) 78 45 = baseA l 78 45 := base_congr (fun c => hit_app (by omega)) 78 45
  unfold check
  rw [if_neg (c := (check6 l).2 ≠ 0) (by simpa using h1), if_neg (c := (check6 (l ++ [r])).2 ≠ 0) (by simpa using h2), hr, hb]
  cases e : recordA l 0 l with
  | some x =>
    have := recordA_bound l 0 x e
    refine ⟨rfl, .inr ?_⟩
    show x.1 = if x.1 = l.length then x.1 + 1 else x.1
    rw [if_neg (by omega)]
  | none =>
    simp only
    split
    · exact ⟨rfl, .inl rfl⟩
    · refine ⟨rfl, .inr ?_⟩
      simp
theorem other_no {l : List Rec} {r : Rec} (h : (check6 l).2 ≠ 0) : (check6 (l ++ [r])).2 ≠ 0 := fun h2 => h (by
  obtain ⟨a, b, c⟩ := check6_iff.1 h2
  exact check6_iff.2 ⟨by simp at a; omega, fun x hx => b x (List.mem_append_left _ hx), (List.pairwise_append.1 c).1⟩)
theorem mark_fam : fam 11 = 6 := by decide
end Go.Proofs.YteigibncdbgpmaaGreatDoor.Cn
