/- The document's Encode, plainly: where it stands at the head of a pass, and within a pass. -/
import Derived.Test.YtgccindoinhphaaPfC11
namespace Go.Proofs.Ytgccindoinhphaa
open Go.RowKit

namespace Pu
/-- Within a pass over the number m, at the place j. -/
structure Dw (xs : List Int) (R : List Int × Int) (m : Int) (j : Nat) (r : List Nat) (T : List Int) (q : Nat → Bool) (p nw iw bias : Int) (first : Bool) (out : List Int) (delta : Int) : Prop where
  wv : Wv xs r T q p nw iw
  all : ∀ k, k < xs.length → q k = true ∨ k ∈ r
  qq : ∀ k, k < xs.length → (q k = true ↔ (xs.getD k 0 < m ∨ (xs.getD k 0 = m ∧ k < j)))
  wr : wr2 xs r T p nw iw bias first out = R
  dl : delta = (m - nw) * (p + 1) + (cnt q j : Int) - iw
  nm : nw ≤ m
section
variable {xs : List Int} {R : List Int × Int} {m : Int} {j : Nat} {r : List Nat} {T : List Int} {q : Nat → Bool} {p nw iw bias : Int} {first : Bool} {out : List Int} {delta : Int}
theorem Dw.below (h : Dw xs R m j r T q p nw iw bias first out delta) (hj : j < xs.length) (hx : xs.getD j 0 < m) : Dw xs R m (j + 1) r T q p nw iw bias first out (delta + 1) := by
  have hq : q j = true := (h.qq j hj).2 (.inl hx)
  refine ⟨h.wv, h.all, fun k hk => ?_, h.wr, ?_, h.nm⟩
  · rw [h.qq k hk]
    constructor
    · rintro (h1 | ⟨h1, h2⟩)
      · exact .inl h1
      · exact .inr ⟨h1, by omega⟩
    · rintro (h1 | ⟨h1, h2⟩)
      · exact .inl h1
      · by_cases hkj : k = j
        · subst hkj; omega
        · exact .inr ⟨h1, by omega⟩
  · rw [h.dl, cnt_succ, hq, if_pos rfl]; omega
theorem Dw.above (h : Dw xs R m j r T q p nw iw bias first out delta) (hj : j < xs.length) (hx : m < xs.getD j 0) : Dw xs R m (j + 1) r T q p nw iw bias first out delta := by
  have hq : q j = false := by
    cases hh : q j with
    | false => rfl
    | true => have := (h.qq j hj).1 hh; omega
  refine ⟨h.wv, h.all, fun k hk => ?_, h.wr, ?_, h.nm⟩
  · rw [h.qq k hk]
    constructor
    · rintro (h1 | ⟨h1, h2⟩)
      · exact .inl h1
      · exact .inr ⟨h1, by omega⟩
    · rintro (h1 | ⟨h1, h2⟩)
      · exact .inl h1
      · by_cases hkj : k = j
        · subst hkj; omega
        · exact .inr ⟨h1, by omega⟩
  · rw [h.dl, cnt_succ, hq, if_neg (by simp)]; omega
/-- A place with the number m is the next in order. -/
theorem Dw.head (h : Dw xs R m j r T q p nw iw bias first out delta) (hj : j < xs.length) (hx : xs.getD j 0 = m) : ∃ r', r = j :: r' := by
  have hq : q j ≠ true := fun hh => by have := (h.qq j hj).1 hh; omega
  have hin : j ∈ r := (h.all j hj).resolve_left hq
  match hr : r, hin with
  | c :: r', hin =>
    rcases List.mem_cons.1 hin with hc | hc
    · subst hc; exact ⟨r', rfl⟩
    · have ho := (List.pairwise_cons.1 h.wv.ord).1 j hc
      obtain ⟨c1, c2, _, _⟩ := h.wv.nx c (by simp)
      have hnc : ¬ (xs.getD c 0 < m ∨ (xs.getD c 0 = m ∧ c < j)) := fun hh => by
        have := (h.qq c c1).2 hh; rw [c2] at this; cases this
      unfold lx at ho
      omega
theorem Dw.delta_eq {r' : List Nat} (h : Dw xs R m j (j :: r') T q p nw iw bias first out delta) (hx : xs.getD j 0 = m) : delta = dlt xs j T p nw iw := by
  have := h.wv.sum
  rw [hx] at this
  rw [h.dl]; omega
theorem Dw.over {r' : List Nat} (h : Dw xs R m j (j :: r') T q p nw iw bias first out delta) (hx : xs.getD j 0 = m) (hd : 2147483647 < delta) : R = ([], 113) := by
  rw [← h.wr]; exact wr2_over (by rw [← h.delta_eq hx]; exact hd)
theorem Dw.put {r' : List Nat} (h : Dw xs R m j (j :: r') T q p nw iw bias first out delta) (hj : j < xs.length) (hx : xs.getD j 0 = m) (hd : ¬ 2147483647 < delta) :
    Dw xs R m (j + 1) r' (add T j) (addp q j) (p + 1) m ((cnt q j : Int) + 1) (adapt delta (p + 1) first) false (out ++ wrNum delta bias) 0 := by
  have hde := h.delta_eq hx
  have hqj : q j = false := (h.wv.nx j (by simp)).2.1
  have hnx := h.wv.next
  rw [hx] at hnx
  refine ⟨hnx, fun k hk => ?_, fun k hk => ?_, ?_, ?_, Int.le_refl _⟩
  · rcases h.all k hk with h1 | h1
    · exact .inl (by simp [addp, h1])
    · rcases List.mem_cons.1 h1 with h1 | h1
      · exact .inl (by simp [addp, h1])
      · exact .inr h1
  · unfold addp
    by_cases hkj : k = j
    · subst hkj; exact ⟨fun _ => .inr ⟨hx, by omega⟩, fun _ => by simp⟩
    · have hne : (k == j) = false := by simpa using hkj
      rw [hne, Bool.false_or, h.qq k hk]
      constructor
      · rintro (h1 | ⟨h1, h2⟩)
        · exact .inl h1
        · exact .inr ⟨h1, by omega⟩
      · rintro (h1 | ⟨h1, h2⟩)
        · exact .inl h1
        · exact .inr ⟨h1, by omega⟩
  · have hw := h.wr
    rw [wr2_step (by rw [← hde]; exact hd), h.wv.div, h.wv.mod, ← hde, hx, show nw + (m - nw) = m by omega] at hw
    exact hw
  · rw [cnt_addp hqj, cnt_succ, hqj]; simp
/-- From one pass to the next. -/
theorem Dw.pass (h : Dw xs R m xs.length r T q p nw iw bias first out delta) {m' : Int} (hm : m < m') (hno : ∀ k, k < xs.length → m < xs.getD k 0 → m' ≤ xs.getD k 0) :
    Dw xs R m' 0 r T q p nw iw bias first out (delta + 1 + (m' - (m + 1)) * (p + 1)) := by
  refine ⟨h.wv, h.all, fun k hk => ?_, h.wr, ?_, by have := h.nm; omega⟩
  · rw [h.qq k hk]
    have := hno k hk
    constructor
    · rintro (h1 | ⟨h1, h2⟩)
      · exact .inl (by omega)
      · exact .inl (by omega)
    · rintro (h1 | ⟨h1, h2⟩)
      · by_cases h2 : m < xs.getD k 0
        · have := this h2; omega
        · by_cases h3 : xs.getD k 0 = m
          · exact .inr ⟨h3, hk⟩
          · exact .inl (by omega)
      · omega
  · rw [h.dl, cnt_zero, ← h.wv.hp, show m' - nw = (m - nw) + (m' - (m + 1)) + 1 by omega, Int.add_mul, Int.add_mul]; omega
theorem Dw.done (h : Dw xs R m j r T q p nw iw bias first out delta) (hp : p = (xs.length : Int)) : R = (out, 0) := by
  have hr : r = [] := by
    match hr : r, h.wv.nx with
    | [], _ => rfl
    | c :: r', hnx =>
      exfalso
      obtain ⟨c1, c2, _, _⟩ := hnx c (by simp)
      have h1 := h.wv.hp
      have h2 := cnt_addp c2 xs.length
      rw [if_pos c1] at h2
      have h3 := cnt_le (addp q c) xs.length
      omega
  subst hr
  rw [← h.wr, wr2]
/-- At the head of a pass. -/
structure Dh (xs : List Int) (R : List Int × Int) (n : Int) (r : List Nat) (T : List Int) (q : Nat → Bool) (p nw iw bias : Int) (first : Bool) (out : List Int) (delta : Int) : Prop where
  wv : Wv xs r T q p nw iw
  all : ∀ k, k < xs.length → q k = true ∨ k ∈ r
  qq : ∀ k, k < xs.length → (q k = true ↔ xs.getD k 0 < n)
  wr : wr2 xs r T p nw iw bias first out = R
  dl : delta = (n - nw) * (p + 1) - iw
  nm : nw ≤ n
theorem Dh.go {n : Int} (h : Dh xs R n r T q p nw iw bias first out delta) {m' : Int} (hm : n ≤ m') (hno : ∀ k, k < xs.length → n ≤ xs.getD k 0 → m' ≤ xs.getD k 0) : Dw xs R m' 0 r T q p nw iw bias first out (delta + (m' - n) * (p + 1)) := by
  refine ⟨h.wv, h.all, fun k hk => ?_, h.wr, ?_, by have := h.nm; omega⟩
  · rw [h.qq k hk]
    have := hno k hk
    constructor
    · intro h1; exact .inl (by omega)
    · rintro (h1 | ⟨_, h2⟩)
      · by_cases h2 : n ≤ xs.getD k 0
        · have := this h2; omega
        · omega
      · omega
  · rw [h.dl, cnt_zero, show m' - nw = (n - nw) + (m' - n) by omega, Int.add_mul]; omega
theorem Dw.fin (h : Dw xs R m xs.length r T q p nw iw bias first out delta) : Dh xs R (m + 1) r T q p nw iw bias first out (delta + 1) := by
  refine ⟨h.wv, h.all, fun k hk => ?_, h.wr, ?_, by have := h.nm; omega⟩
  · rw [h.qq k hk]
    constructor
    · rintro (h1 | ⟨h1, _⟩) <;> omega
    · intro h1
      by_cases h3 : xs.getD k 0 = m
      · exact .inr ⟨h3, hk⟩
      · exact .inl (by omega)
  · rw [h.dl, ← h.wv.hp, show m + 1 - nw = (m - nw) + 1 by omega, Int.add_mul]; omega
theorem Dh.done {n : Int} (h : Dh xs R n r T q p nw iw bias first out delta) (hp : p = (xs.length : Int)) : R = (out, 0) := by
  refine Dw.done (j := 0) (m := n) (delta := delta) ⟨h.wv, h.all, fun k hk => ?_, h.wr, ?_, h.nm⟩ hp
  · rw [h.qq k hk]
    constructor
    · intro h1; exact .inl h1
    · rintro (h1 | ⟨_, h2⟩)
      · exact h1
      · omega
  · rw [cnt_zero, h.dl]; omega
theorem Dh.more {n : Int} (h : Dh xs R n r T q p nw iw bias first out delta) (hp : p < (xs.length : Int)) : ∃ k, k < xs.length ∧ n ≤ xs.getD k 0 := by
  by_cases he : ∃ k, k < xs.length ∧ n ≤ xs.getD k 0
  · exact he
  · exfalso
    have hall : ∀ k, k < xs.length → q k = (fun _ => true) k := fun k hk => (h.qq k hk).2 (by
      by_cases h1 : xs.getD k 0 < n
      · exact h1
      · exact absurd ⟨k, hk, by omega⟩ he)
    have h1 := h.wv.hp
    rw [cnt_congr hall (Nat.le_refl _)] at h1
    have h2 : cnt (fun _ => true) xs.length = xs.length := by unfold cnt; rw [List.filter_eq_self.2 fun _ _ => rfl, List.length_range]
    omega
theorem Dh.start {xs : List Int} (hl : xs.length ≤ 2000) (hs : allb okb xs = true) : Dh xs (encode xs) 128 (ordOf xs) (t1Of xs) (fun k => lowq (xs.getD k 0)) ((idx xs lowq).length : Int) 128 0 72 true ((wr1 xs (idx xs lowq) (List.replicate (xs.length + 1) 0) []).2 ++ if (idx xs lowq).length = 0 then [] else [45]) 0 := by
  refine ⟨begin_Wv hl, fun k hk => ?_, fun k _ => ?_, ?_, by omega, Int.le_refl _⟩
  · cases hq : lowq (xs.getD k 0) with
    | true => exact .inl rfl
    | false => exact .inr ((sortF_perm xs _).symm.subset (idx_mem.2 ⟨hk, by unfold highq; rw [hq]; rfl⟩))
  · show decide (xs.getD k 0 < 128) = true ↔ _
    rw [decide_eq_true_eq]
  · have he : encode xs = write xs (ordOf xs) := by unfold encode; rw [if_neg (by rw [hs]; simp)]
    rw [he]; rfl
end
end Pu
end Go.Proofs.Ytgccindoinhphaa
