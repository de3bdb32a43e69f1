/- The merge of two parts, plainly: what the halves are when the middle was turned about. -/
import Derived.Test.YtcnmmghkjblemaaDoorQsF20
namespace Go.Proofs.YtcnmmghkjblemaaDoor
open Go.RowKit

namespace Pu
/-- Two parts, cut and turned about. -/
structure Mid (xs : List Int) (l l1 : List Nat) (a m c mid t E : Nat) : Prop where
  sA : SR xs l a m
  sB : SR xs l m c
  ix : ∀ i j, a ≤ i → i < m → m ≤ j → j < c → l.getD i 0 < l.getD j 0
  at' : a ≤ t
  tm : t ≤ m
  mE : m ≤ E
  Ec : E ≤ c
  hm : t + (E - m) = mid
  hE : mid + (m - t) = E
  x1 : a < t → E < c → xs.getD (l.getD (t - 1) 0) 0 ≤ xs.getD (l.getD E 0) 0
  x2 : t < m → m < E → xs.getD (l.getD (E - 1) 0) 0 < xs.getD (l.getD t 0) 0
  rot : ∀ k, l1.getD k 0 = rotAt l t m E k
section
variable {xs : List Int} {l l1 : List Nat} {a m c mid t E : Nat}
theorem Mid.e1 (h : Mid xs l l1 a m c mid t E) {k : Nat} (hk : k < t ∨ E ≤ k) : l1.getD k 0 = l.getD k 0 := by rw [h.rot k]; unfold rotAt; rw [if_neg (by omega)]
theorem Mid.e2 (h : Mid xs l l1 a m c mid t E) {k : Nat} (h1 : t ≤ k) (h2 : k < mid) : l1.getD k 0 = l.getD (k + (m - t)) 0 := by
  have := h.hm; have := h.hE; have := h.tm; have := h.mE
  rw [h.rot k]; unfold rotAt; rw [if_pos (by omega), if_pos (by omega)]
theorem Mid.e3 (h : Mid xs l l1 a m c mid t E) {k : Nat} (h1 : mid ≤ k) (h2 : k < E) : l1.getD k 0 = l.getD (k - (E - m)) 0 := by
  have := h.hm; have := h.hE; have := h.tm; have := h.mE
  rw [h.rot k]; unfold rotAt; rw [if_pos (by omega), if_neg (by omega)]
theorem Mid.cross (h : Mid xs l l1 a m c mid t E) {i j : Nat} (h1 : a ≤ i) (h2 : i < mid) (h3 : mid ≤ j) (h4 : j < c) : lx xs (l1.getD i 0) (l1.getD j 0) := by
  have q1 := h.hm; have q2 := h.hE; have q3 := h.tm; have q4 := h.mE; have q5 := h.at'; have q6 := h.Ec
  by_cases hi : i < t
  · rw [h.e1 (.inl hi)]
    by_cases hj : j < E
    · rw [h.e3 h3 hj]; exact h.sA _ _ h1 (by omega) (by omega)
    · rw [h.e1 (.inr (by omega))]
      have v1 := SR_val h.sA (p := i) (q := t - 1) h1 (by omega) (by omega)
      have v2 := SR_val h.sB (p := E) (q := j) (by omega) (by omega) h4
      have v3 := h.x1 (by omega) (by omega)
      have v4 := h.ix i j h1 (by omega) (by omega) h4
      unfold lx; omega
  · rw [h.e2 (by omega) h2]
    by_cases hj : j < E
    · rw [h.e3 h3 hj]
      have v1 := SR_val h.sB (p := i + (m - t)) (q := E - 1) (by omega) (by omega) (by omega)
      have v2 := SR_val h.sA (p := t) (q := j - (E - m)) (by omega) (by omega) (by omega)
      have v3 := h.x2 (by omega) (by omega)
      unfold lx; omega
    · rw [h.e1 (.inr (by omega))]; exact h.sB _ _ (by omega) (by omega) h4
theorem Mid.s1 (h : Mid xs l l1 a m c mid t E) : SR xs l1 a t := fun i j h1 h2 h3 => by
  have q3 := h.tm
  rw [h.e1 (.inl (by omega)), h.e1 (.inl h3)]; exact h.sA _ _ h1 h2 (by omega)
theorem Mid.s2 (h : Mid xs l l1 a m c mid t E) : SR xs l1 t mid := fun i j h1 h2 h3 => by
  have q1 := h.hm; have q2 := h.hE; have q3 := h.tm; have q4 := h.mE; have q6 := h.Ec
  rw [h.e2 h1 (by omega), h.e2 (by omega) h3]; exact h.sB _ _ (by omega) (by omega) (by omega)
theorem Mid.i1 (h : Mid xs l l1 a m c mid t E) : ∀ i j, a ≤ i → i < t → t ≤ j → j < mid → l1.getD i 0 < l1.getD j 0 := fun i j h1 h2 h3 h4 => by
  have q1 := h.hm; have q2 := h.hE; have q3 := h.tm; have q4 := h.mE; have q6 := h.Ec
  rw [h.e1 (.inl h2), h.e2 h3 h4]; exact h.ix _ _ h1 (by omega) (by omega) (by omega)
theorem Mid.s3 (h : Mid xs l l1 a m c mid t E) : SR xs l1 mid E := fun i j h1 h2 h3 => by
  have q1 := h.hm; have q2 := h.hE; have q3 := h.tm; have q4 := h.mE; have q5 := h.at'
  rw [h.e3 h1 (by omega), h.e3 (by omega) h3]; exact h.sA _ _ (by omega) (by omega) (by omega)
theorem Mid.s4 (h : Mid xs l l1 a m c mid t E) : SR xs l1 E c := fun i j h1 h2 h3 => by
  have q4 := h.mE
  rw [h.e1 (.inr h1), h.e1 (.inr (by omega))]; exact h.sB _ _ (by omega) h2 h3
theorem Mid.i2 (h : Mid xs l l1 a m c mid t E) : ∀ i j, mid ≤ i → i < E → E ≤ j → j < c → l1.getD i 0 < l1.getD j 0 := fun i j h1 h2 h3 h4 => by
  have q1 := h.hm; have q2 := h.hE; have q3 := h.tm; have q4 := h.mE; have q5 := h.at'
  rw [h.e3 h1 h2, h.e1 (.inr h3)]; exact h.ix _ _ (by omega) (by omega) (by omega) h4
theorem Mid.org (h : Mid xs l l1 a m c mid t E) : Org l l1 a c := fun i h1 h2 => by
  have q1 := h.hm; have q2 := h.hE; have q3 := h.tm; have q4 := h.mE; have q5 := h.at'; have q6 := h.Ec
  by_cases hi : i < t ∨ E ≤ i
  · exact ⟨i, h1, h2, h.e1 hi⟩
  · by_cases hj : i < mid
    · exact ⟨_, by omega, by omega, h.e2 (by omega) hj⟩
    · exact ⟨_, by omega, by omega, h.e3 (by omega) (by omega)⟩
theorem Mid.out (h : Mid xs l l1 a m c mid t E) : Out l l1 a c := fun k hk => by
  have q5 := h.at'; have q6 := h.Ec
  exact h.e1 (by omega)
/-- The halves merged: the whole. -/
theorem Mid.done {l2 l3 : List Nat} (h : Mid xs l l1 a m c mid t E) (s2 : SR xs l2 a mid) (o2 : Org l1 l2 a mid) (u2 : Out l1 l2 a mid) (s3 : SR xs l3 mid c) (o3 : Org l2 l3 mid c) (u3 : Out l2 l3 mid c) : SR xs l3 a c ∧ Org l l3 a c ∧ Out l l3 a c := by
  have q1 := h.hm; have q2 := h.hE; have q3 := h.tm; have q4 := h.mE; have q5 := h.at'; have q6 := h.Ec
  refine ⟨fun i j h1 h2 h3 => ?_, (h.org.trans (o2.wide u2 (Nat.le_refl _) (by omega))).trans (o3.wide u3 (by omega) (Nat.le_refl _)), (h.out.trans (u2.wide (Nat.le_refl _) (by omega))).trans (u3.wide (by omega) (Nat.le_refl _))⟩
  by_cases hj : j < mid
  · rw [u3 i (by omega), u3 j (by omega)]; exact s2 _ _ h1 h2 hj
  · by_cases hi : mid ≤ i
    · exact s3 _ _ hi h2 h3
    · obtain ⟨i', k1, k2, k3⟩ := o2 i h1 (by omega)
      obtain ⟨j', k4, k5, k6⟩ := o3 j (by omega) h3
      rw [u3 i (by omega), k3, k6, u2 j' (by omega)]
      exact h.cross k1 k2 k4 k5
theorem rot_id {l : List Nat} {t m E : Nat} (h : t = m ∨ m = E) (k : Nat) : l.getD k 0 = rotAt l t m E k := by
  unfold rotAt
  by_cases h1 : t ≤ k ∧ k < E
  · rw [if_pos h1]
    rcases h with h | h
    · subst h; rw [if_pos (by omega), Nat.sub_self, Nat.add_zero]
    · subst h; rw [if_neg (by omega), Nat.sub_self, Nat.sub_zero]
  · rw [if_neg h1]
theorem SR_empty {xs : List Int} {l : List Nat} {a t mid : Nat} (h1 : SR xs l a t) (h2 : SR xs l t mid) (h : ¬ (a < t ∧ t < mid)) (ht : a ≤ t ∧ t ≤ mid) : SR xs l a mid := fun i j k1 k2 k3 => by
  by_cases h4 : t = mid
  · subst h4; exact h1 _ _ k1 k2 k3
  · have : a = t := by omega
    subst this; exact h2 _ _ k1 k2 k3
end
end Pu
end Go.Proofs.YtcnmmghkjblemaaDoor
