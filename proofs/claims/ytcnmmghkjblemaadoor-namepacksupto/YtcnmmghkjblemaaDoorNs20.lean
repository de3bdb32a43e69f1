/- Names in order, plainly: ranks; the one sorted list of places. -/
import Derived.Test.YtcnmmghkjblemaaDoorQsD20
namespace Go.Proofs.YtcnmmghkjblemaaDoor
open Go.RowKit

namespace Pu
def sortF (xs : List Int) (l : List Nat) : List Nat := l.mergeSort fun a b => decide (xs.getD a 0 ≤ xs.getD b 0)
theorem two_sub {α : Type} {a b : α} : ∀ {s : List α}, s.Nodup → List.Sublist [a, b] s → List.Sublist [b, a] s → False
  | [], _, h, _ => by cases h
  | x :: t, hn, h1, h2 => by
    obtain ⟨hx, ht⟩ := List.nodup_cons.1 hn
    cases h1 with
    | cons _ h1 =>
      cases h2 with
      | cons _ h2 => exact two_sub ht h1 h2
      | cons_cons _ h2 => exact hx (h1.subset (by simp))
    | cons_cons _ h1 =>
      cases h2 with
      | cons _ h2 => exact hx (h2.subset (by simp))
      | cons_cons _ h2 => exact hx (h1.subset (by simp))
theorem sub_inc {a b : Nat} (hab : a < b) : ∀ {l : List Nat}, l.Pairwise (· < ·) → a ∈ l → b ∈ l → List.Sublist [a, b] l
  | [], _, h, _ => by cases h
  | x :: t, hp, ha, hb => by
    obtain ⟨hx, ht⟩ := List.pairwise_cons.1 hp
    rcases List.mem_cons.1 ha with ha | ha
    · subst ha
      rcases List.mem_cons.1 hb with hb | hb
      · omega
      · exact (List.singleton_sublist.2 hb).cons_cons _
    · rcases List.mem_cons.1 hb with hb | hb
      · have := hx a ha; omega
      · exact (sub_inc hab ht ha hb).cons _
theorem inc_nodup {l : List Nat} (h : l.Pairwise (· < ·)) : l.Nodup := h.imp fun h => Nat.ne_of_lt h
theorem sortF_perm (xs : List Int) (l : List Nat) : (sortF xs l).Perm l := List.mergeSort_perm _ _
theorem sortF_lx {xs : List Int} {l : List Nat} (h : l.Pairwise (· < ·)) : (sortF xs l).Pairwise (lx xs) := by
  have htr : ∀ a b c : Nat, decide (xs.getD a 0 ≤ xs.getD b 0) = true → decide (xs.getD b 0 ≤ xs.getD c 0) = true → decide (xs.getD a 0 ≤ xs.getD c 0) = true := fun a b c h1 h2 => by
    rw [decide_eq_true_eq] at *; omega
  have hto : ∀ a b : Nat, (decide (xs.getD a 0 ≤ xs.getD b 0) || decide (xs.getD b 0 ≤ xs.getD a 0)) = true := fun a b => by
    rw [Bool.or_eq_true, decide_eq_true_eq, decide_eq_true_eq]; omega
  have hs := List.pairwise_mergeSort htr hto l
  have hn : (sortF xs l).Nodup := (sortF_perm xs l).symm.nodup (inc_nodup h)
  refine List.pairwise_iff_forall_sublist.2 fun {a b} hab => ?_
  have h1 := List.pairwise_iff_forall_sublist.1 hs hab
  rw [decide_eq_true_eq] at h1
  unfold lx
  by_cases he : xs.getD a 0 = xs.getD b 0
  · refine .inr ⟨he, ?_⟩
    by_cases hlt : a < b
    · exact hlt
    · by_cases hab2 : a = b
      · subst hab2
        exact (two_sub hn hab hab).elim
      · have hb : b ∈ l := (sortF_perm xs l).subset (hab.subset (by simp))
        have ha : a ∈ l := (sortF_perm xs l).subset (hab.subset (by simp))
        have := List.pair_sublist_mergeSort htr hto (a := b) (b := a) (by rw [decide_eq_true_eq]; omega) (sub_inc (by omega) h hb ha)
        exact (two_sub hn hab this).elim
  · exact .inl (by omega)
theorem sortF_uniq {xs : List Int} {l l' : List Nat} (h : l.Pairwise (· < ·)) (hp : l'.Perm l) (hs : SR xs l' 0 l.length) : l' = sortF xs l := by
  refine List.Perm.eq_of_pairwise (le := lx xs) (fun a b _ _ h1 h2 => by unfold lx at h1 h2; omega) ?_ (sortF_lx h) (hp.trans (sortF_perm xs l).symm)
  refine List.pairwise_iff_getElem.2 fun i j hi hj hij => ?_
  have := hs i j (Nat.zero_le _) hij (by rw [← hp.length_eq]; exact hj)
  simpa [List.getD, hi, hj] using this
theorem inc_at {l : List Nat} (h : l.Pairwise (· < ·)) {p q : Nat} (hpq : p < q) (hq : q < l.length) : l.getD p 0 < l.getD q 0 := by
  have hp : p < l.length := by omega
  have := List.pairwise_iff_getElem.1 h p q hp hq hpq
  simpa [List.getD, hp, hq] using this
end Pu
namespace Na
theorem countP_lt {α : Type} {p q : α → Bool} : ∀ {l : List α}, (∀ y ∈ l, p y = true → q y = true) → (∃ a ∈ l, q a = true ∧ p a = false) → l.countP p < l.countP q
  | [], _, h => by obtain ⟨a, h, _⟩ := h; cases h
  | x :: l, h1, h2 => by
    have hle : l.countP p ≤ l.countP q := List.countP_mono_left fun y hy => h1 y (List.mem_cons_of_mem _ hy)
    rw [List.countP_cons, List.countP_cons]
    by_cases hx : q x = true ∧ p x = false
    · rw [hx.1, hx.2]; simp; omega
    · have h3 : ∃ a ∈ l, q a = true ∧ p a = false := by
        obtain ⟨a, ha, h⟩ := h2
        rcases List.mem_cons.1 ha with rfl | ha
        · exact absurd h hx
        · exact ⟨a, ha, h⟩
      have := countP_lt (fun y hy => h1 y (List.mem_cons_of_mem _ hy)) h3
      have h4 := h1 x List.mem_cons_self
      cases hp : p x with
      | false => simp; omega
      | true => rw [h4 hp]; simp; omega
/-- How many are before it. -/
def rnk (X : List (List Int)) (p : Nat) : Int := (X.countP fun y => decide (cmp y (X.getD p []) < 0) : Nat)
def rnks (X : List (List Int)) : List Int := (List.range X.length).map (rnk X)
theorem rnks_len (X : List (List Int)) : (rnks X).length = X.length := by simp [rnks]
theorem rnks_at {X : List (List Int)} {p : Nat} (h : p < X.length) : (rnks X).getD p 0 = rnk X p := by simp [rnks, List.getD, h]
theorem rnk_lt {X : List (List Int)} {p q : Nat} (hp : p < X.length) (h : cmp (X.getD p []) (X.getD q []) = -1) : rnk X p < rnk X q := by
  have := countP_lt (l := X) (p := fun y => decide (cmp y (X.getD p []) < 0)) (q := fun y => decide (cmp y (X.getD q []) < 0)) (fun y _ hy => by
    rw [decide_eq_true_eq] at hy ⊢
    exact cmp_lt hy (by omega)) ⟨X.getD p [], by simp [List.getD, hp], by rw [h]; rfl, by rw [cmp_self]; rfl⟩
  unfold rnk
  omega
theorem rnk_eq {X : List (List Int)} {p q : Nat} (h : cmp (X.getD p []) (X.getD q []) = 0) : rnk X p = rnk X q := by
  unfold rnk
  congr 1
  apply List.countP_congr
  intro y _
  rw [cmp_eq y h]
theorem rnk_cmp {X : List (List Int)} {p q : Nat} (hp : p < X.length) (hq : q < X.length) : cmp (X.getD p []) (X.getD q []) = Pu.cmpI ((rnks X).getD p 0) ((rnks X).getD q 0) := by
  rw [rnks_at hp, rnks_at hq]
  unfold Pu.cmpI
  rcases cmp_rng (X.getD p []) (X.getD q []) with h | h | h
  · rw [h, if_pos (rnk_lt hp h)]
  · have := rnk_eq h
    rw [h, if_neg (by omega), if_neg (by omega)]
  · have h2 : cmp (X.getD q []) (X.getD p []) = -1 := by rw [cmp_neg, h]
    have := rnk_lt hq h2
    rw [h, if_neg (by omega), if_pos this]
/-- 20.4: the places in order. -/
def plc (X : List (List Int)) : List Nat := Pu.sortF (rnks X) (List.range X.length)
def srt (X : List (List Int)) : List (List Int) := (plc X).map fun p => X.getD p []
theorem range_inc (n : Nat) : (List.range n).Pairwise (· < ·) := List.pairwise_lt_range
theorem plc_uniq {X : List (List Int)} {l : List Nat} (hp : l.Perm (List.range X.length)) (hs : Pu.SR (rnks X) l 0 X.length) : l = plc X := Pu.sortF_uniq (range_inc _) hp (by simpa using hs)
theorem plc_perm (X : List (List Int)) : (plc X).Perm (List.range X.length) := Pu.sortF_perm _ _
theorem plc_len (X : List (List Int)) : (plc X).length = X.length := by rw [(plc_perm X).length_eq]; simp
theorem srt_len (X : List (List Int)) : (srt X).length = X.length := by simp [srt, plc_len]
/-- One more place put in. -/
theorem ins_step {X : List (List Int)} {L : List Nat} {i k : Nat} (hp : L.Perm (List.range i)) (hs : Pu.SR (rnks X) L 0 i) (hk : k ≤ i) (h1 : k = 0 ∨ (rnks X).getD (L.getD (k - 1) 0) 0 ≤ (rnks X).getD i 0) (h2 : ∀ j, k ≤ j → j < i → (rnks X).getD i 0 < (rnks X).getD (L.getD j 0) 0) :
    (L.take k ++ i :: L.drop k).Perm (List.range (i + 1)) ∧ Pu.SR (rnks X) (L.take k ++ i :: L.drop k) 0 (i + 1) := by
  have hl : L.length = i := by rw [hp.length_eq]; simp
  have hlt : ∀ j, j < i → L.getD j 0 < i := fun j hj => by
    have : L.getD j 0 ∈ L := by simp [List.getD, hl, hj]
    exact List.mem_range.1 (hp.subset this)
  constructor
  · refine (List.perm_middle).trans ?_
    rw [List.take_append_drop, List.range_succ]
    exact (List.Perm.cons i hp).trans (List.perm_append_singleton i (List.range i)).symm
  · have e1 : ∀ j, j < k → (L.take k ++ i :: L.drop k).getD j 0 = L.getD j 0 := fun j hj => by
      rw [List.getD, List.getD, List.getElem?_append_left (by rw [List.length_take]; omega), List.getElem?_take_of_lt hj]
    have e2 : (L.take k ++ i :: L.drop k).getD k 0 = i := by
      have hlk : (L.take k).length = k := by rw [List.length_take]; omega
      rw [List.getD, List.getElem?_append_right (by omega), hlk, Nat.sub_self]; rfl
    have e3 : ∀ j, k < j → (L.take k ++ i :: L.drop k).getD j 0 = L.getD (j - 1) 0 := fun j hj => by
      have hlk : (L.take k).length = k := by rw [List.length_take]; omega
      rw [List.getD, List.getElem?_append_right (by omega), hlk, show j - k = (j - 1 - k) + 1 by omega, List.getElem?_cons_succ, List.getElem?_drop, show k + (j - 1 - k) = j - 1 by omega, List.getD]
    have hle : ∀ j, j < k → (rnks X).getD (L.getD j 0) 0 ≤ (rnks X).getD i 0 := fun j hj => by
      rcases h1 with h1 | h1
      · omega
      · rcases Nat.lt_or_ge j (k - 1) with h | h
        · have := hs j (k - 1) (Nat.zero_le _) h (by omega)
          unfold Pu.lx at this
          omega
        · rw [show j = k - 1 by omega]; exact h1
    intro a b _ hab hb
    rcases Nat.lt_trichotomy b k with hbk | hbk | hbk
    · rw [e1 a (by omega), e1 b hbk]
      exact hs a b (Nat.zero_le _) hab (by omega)
    · subst hbk
      rw [e1 a hab, e2]
      have := hle a hab
      have h3 := hlt a (by omega)
      unfold Pu.lx
      omega
    · rw [e3 b hbk]
      rcases Nat.lt_trichotomy a k with hak | hak | hak
      · rw [e1 a hak]
        exact hs a (b - 1) (Nat.zero_le _) (by omega) (by omega)
      · subst hak
        rw [e2]
        exact .inl (h2 (b - 1) (by omega) (by omega))
      · rw [e3 a hak]
        exact hs (a - 1) (b - 1) (Nat.zero_le _) (by omega) (by omega)
end Na
end Go.Proofs.YtcnmmghkjblemaaDoor
