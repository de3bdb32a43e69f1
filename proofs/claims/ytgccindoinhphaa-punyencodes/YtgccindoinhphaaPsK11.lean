/- The sort's contract: the places in the order of their numbers, those that are alike as they stood. -/
import Derived.Test.YtgccindoinhphaaPsJ11
namespace Go.Proofs.Ytgccindoinhphaa
open Go.RowKit

namespace Pu
theorem two_sub {α : Type} {a b : α} : ∀ {s : List α}, s.Nodup → List.Sublist [a, b] s → List.Sublist [b, a] s → False
  | [], _, h, _ => by cases h
  | x :: t, hn, h1, h2 => by
    obtain ⟨hx, ht⟩ := List.nodup_cons.1 hn
    cases h1 with
    | cons _ h1 =>
      cases h2 with
      | cons _ h2 => exact two_sub ht h1 h2
      | cons_cons _ h2 => exact hx (h1.subset (by simp))
    | cons_cons _ h1 =>
      cases h2 with
      | cons _ h2 => exact hx (h2.subset (by simp))
      | cons_cons _ h2 => exact hx (h1.subset (by simp))
theorem sub_inc {a b : Nat} (hab : a < b) : ∀ {l : List Nat}, l.Pairwise (· < ·) → a ∈ l → b ∈ l → List.Sublist [a, b] l
  | [], _, h, _ => by cases h
  | x :: t, hp, ha, hb => by
    obtain ⟨hx, ht⟩ := List.pairwise_cons.1 hp
    rcases List.mem_cons.1 ha with ha | ha
    · subst ha
      rcases List.mem_cons.1 hb with hb | hb
      · omega
      · exact (List.singleton_sublist.2 hb).cons_cons _
    · rcases List.mem_cons.1 hb with hb | hb
      · have := hx a ha; omega
      · exact (sub_inc hab ht ha hb).cons _
theorem inc_nodup {l : List Nat} (h : l.Pairwise (· < ·)) : l.Nodup := h.imp fun h => Nat.ne_of_lt h
theorem sortF_perm (xs : List Int) (l : List Nat) : (sortF xs l).Perm l := List.mergeSort_perm _ _
theorem sortF_lx {xs : List Int} {l : List Nat} (h : l.Pairwise (· < ·)) : (sortF xs l).Pairwise (lx xs) := by
  have htr : ∀ a b c : Nat, decide (xs.getD a 0 ≤ xs.getD b 0) = true → decide (xs.getD b 0 ≤ xs.getD c 0) = true → decide (xs.getD a 0 ≤ xs.getD c 0) = true := fun a b c h1 h2 => by
    rw [decide_eq_true_eq] at *; omega
  have hto : ∀ a b : Nat, (decide (xs.getD a 0 ≤ xs.getD b 0) || decide (xs.getD b 0 ≤ xs.getD a 0)) = true := fun a b => by
    rw [Bool.or_eq_true, decide_eq_true_eq, decide_eq_true_eq]; omega
  have hs := List.pairwise_mergeSort htr hto l
  have hn : (sortF xs l).Nodup := (sortF_perm xs l).symm.nodup (inc_nodup h)
  refine List.pairwise_iff_forall_sublist.2 fun {a b} hab => ?_
  have h1 := List.pairwise_iff_forall_sublist.1 hs hab
  rw [decide_eq_true_eq] at h1
  unfold lx
  by_cases he : xs.getD a 0 = xs.getD b 0
  · refine .inr ⟨he, ?_⟩
    by_cases hlt : a < b
    · exact hlt
    · by_cases hab2 : a = b
      · subst hab2
        exact (two_sub hn hab hab).elim
      · have hb : b ∈ l := (sortF_perm xs l).subset (hab.subset (by simp))
        have ha : a ∈ l := (sortF_perm xs l).subset (hab.subset (by simp))
        have := List.pair_sublist_mergeSort htr hto (a := b) (b := a) (by rw [decide_eq_true_eq]; omega) (sub_inc (by omega) h hb ha)
        exact (two_sub hn hab this).elim
  · exact .inl (by omega)
theorem sortF_uniq {xs : List Int} {l l' : List Nat} (h : l.Pairwise (· < ·)) (hp : l'.Perm l) (hs : SR xs l' 0 l.length) : l' = sortF xs l := by
  refine List.Perm.eq_of_pairwise (le := lx xs) (fun a b _ _ h1 h2 => by unfold lx at h1 h2; omega) ?_ (sortF_lx h) (hp.trans (sortF_perm xs l).symm)
  refine List.pairwise_iff_getElem.2 fun i j hi hj hij => ?_
  have := hs i j (Nat.zero_le _) hij (by rw [← hp.length_eq]; exact hj)
  simpa [List.getD, hi, hj] using this
theorem inc_at {l : List Nat} (h : l.Pairwise (· < ·)) {p q : Nat} (hpq : p < q) (hq : q < l.length) : l.getD p 0 < l.getD q 0 := by
  have hp : p < l.length := by omega
  have := List.pairwise_iff_getElem.1 h p q hp hq hpq
  simpa [List.getD, hp, hq] using this
end Pu

set_option maxHeartbeats 1000000 in
theorem sortC : SortC 100000 := by
  intro xs b B xv v l w0 w hx hsx hbel hB hxl hl hlt hpw hv hne
  by_cases h1 : l.length ≤ 1
  · exact sort1C xs b B xv v l w0 w hx hsx hbel hB hxl h1 hlt hpw hv hne
  · have hv' := hv
    obtain ⟨_, hcase⟩ := hv.2.2
    rcases hcase with ⟨_, h0⟩ | ⟨g, cap, cur, he, _⟩
    · rw [List.length_map, nints_len] at h0; omega
    · subst he
      have hn : ((nints l).map (Value.int .i64)).length = l.length := by rw [List.length_map, nints_len]
      rw [hn] at hv' hne ⊢
      have hS : Sr b B g l.length cap xv xs w0 w l w := ⟨hx, hsx, hbel, hv', hB, fun hh => hne (by rw [hh]; rfl), grown_refl _ _, rfl, hlt, hxl⟩
      have HS := hide (stable_any hS hl fun p q k1 k2 => Pu.inc_at hpw k1 k2)
      have HF : Hid (∀ l' w', Sr b B g l.length cap xv xs w0 w l' w' → l'.Perm l → Pu.SR xs l' 0 l.length → Ok .i64 3 w' B (.slice (some ⟨g, 0, none⟩) l.length cap) (nints (Pu.sortF xs l)) ∧ w.grownBy w' (some g)) := fun l' w' k1 k2 k3 => by
        have := Pu.sortF_uniq hpw k2 k3
        subst this
        exact ⟨k1.row, k1.gr⟩
      have hcap := hS.caps
      clear hS hv hv' hn hx hsx hbel hne hlt hpw
      generalize l.length = n at *
      go_enter Try.func47, Try.ntmps47
      go_wp2_with (go_at_call 55; refine (unhide HS).mono ?_; rintro e wq ⟨rfl, l', hv1, hv2, hv3⟩; have HR := hide (unhide HF l' _ hv1 hv2 hv3); clear hv1 hv2 hv3 HS HF)
      go_end0
      exact ⟨rfl, unhide HR⟩
end Go.Proofs.Ytgccindoinhphaa
