/- The sort by blocks, plainly. -/
import Derived.Test.YtcnmmghkjblemaaDoorQsH20
namespace Go.Proofs.YtcnmmghkjblemaaDoor
open Go.RowKit

namespace Pu
/-- In order within each block of z places, from u to below v. -/
def SRB (xs : List Int) (l : List Nat) (z u v : Nat) : Prop := ∀ k i j, u ≤ i → k * z ≤ i → i < j → j < k * z + z → j < v → lx xs (l.getD i 0) (l.getD j 0)
/-- Out of the same block. -/
def OrgB (l0 l : List Nat) (z u n : Nat) : Prop := ∀ k i, u ≤ i → k * z ≤ i → i < k * z + z → i < n → ∃ i', k * z ≤ i' ∧ i' < k * z + z ∧ i' < n ∧ l.getD i 0 = l0.getD i' 0
theorem blk_lt {K k z : Nat} (h : K < k) : K * z + z ≤ k * z := by
  have := Nat.mul_le_mul_right z (show K + 1 ≤ k from h)
  rw [Nat.add_mul, Nat.one_mul] at this; exact this
theorem blk_eq {K k z i : Nat} (h1 : K * z ≤ i) (h2 : i < K * z + z) (h3 : k * z ≤ i) (h4 : i < k * z + z) : K = k := by
  rcases Nat.lt_trichotomy K k with h | h | h
  · have := blk_lt (z := z) h; omega
  · exact h
  · have := blk_lt (z := z) h; omega
section
variable {xs : List Int} {l0 l l2 : List Nat} {k z a b n : Nat}
theorem SRB_step (h : SRB xs l z 0 a) (ha : a = k * z) (hb : b ≤ a + z) (s : SR xs l2 a b) (u : Out l l2 a b) : SRB xs l2 z 0 b := by
  intro K i j _ h1 h2 h3 h4
  rcases Nat.lt_trichotomy K k with hk | hk | hk
  · have hh := blk_lt (z := z) hk
    rw [u i (by omega), u j (by omega)]; exact h K i j (Nat.zero_le _) h1 h2 h3 (by omega)
  · subst hk; exact s i j (by omega) h2 h4
  · have hh := blk_lt (z := z) hk; omega
theorem OrgB_step (h : OrgB l0 l z 0 n) (ha : a = k * z) (hb : b ≤ a + z) (hn : b ≤ n) (o : Org l l2 a b) (u : Out l l2 a b) : OrgB l0 l2 z 0 n := by
  intro K i _ h1 h2 h3
  by_cases hi : a ≤ i ∧ i < b
  · have hk : K = k := blk_eq h1 h2 (by omega) (by omega)
    subst hk
    obtain ⟨i', q1, q2, q3⟩ := o i hi.1 hi.2
    obtain ⟨j, r1, r2, r3, r4⟩ := h K i' (Nat.zero_le _) (by omega) (by omega) (by omega)
    exact ⟨j, r1, r2, r3, q3.trans r4⟩
  · obtain ⟨j, r1, r2, r3, r4⟩ := h K i (Nat.zero_le _) h1 h2 h3
    exact ⟨j, r1, r2, r3, (u i (by omega)).trans r4⟩
theorem OrgB_refl (l0 : List Nat) (z u n : Nat) : OrgB l0 l0 z u n := fun _ i _ h1 h2 h3 => ⟨i, h1, h2, h3, rfl⟩
theorem OrgB_up {u v : Nat} (h : OrgB l0 l z u n) (huv : u ≤ v) : OrgB l0 l z v n := fun K i h0 h1 h2 h3 => h K i (by omega) h1 h2 h3
theorem SRB_up {u v m : Nat} (h : SRB xs l z u m) (huv : u ≤ v) : SRB xs l z v m := fun K i j h0 h1 h2 h3 h4 => h K i j (by omega) h1 h2 h3 h4
theorem OrgB_out {u : Nat} (h : OrgB l0 l z u n) (o : Out l l2 a b) (hb : b ≤ u) : OrgB l0 l2 z u n := fun K i h0 h1 h2 h3 => by
  obtain ⟨j, r1, r2, r3, r4⟩ := h K i h0 h1 h2 h3
  exact ⟨j, r1, r2, r3, (o i (by omega)).trans r4⟩
theorem SRB_out {u m : Nat} (h : SRB xs l z u m) (o : Out l l2 a b) (hb : b ≤ u) : SRB xs l2 z u m := fun K i j h0 h1 h2 h3 h4 => by
  rw [o i (by omega), o j (by omega)]; exact h K i j h0 h1 h2 h3 h4
/-- Twice as wide. -/
theorem OrgB_wide (h : OrgB l0 l z 0 n) : OrgB l0 l (2 * z) 0 n := fun K i _ h1 h2 h3 => by
  have e1 : K * (2 * z) = 2 * K * z := by rw [Nat.mul_left_comm, Nat.mul_assoc]
  have e2 : (2 * K + 1) * z = 2 * K * z + z := by rw [Nat.add_mul, Nat.one_mul]
  by_cases hi : i < 2 * K * z + z
  · obtain ⟨j, r1, r2, r3, r4⟩ := h (2 * K) i (Nat.zero_le _) (by omega) hi h3
    exact ⟨j, by omega, by omega, r3, r4⟩
  · obtain ⟨j, r1, r2, r3, r4⟩ := h (2 * K + 1) i (Nat.zero_le _) (by omega) (by omega) h3
    exact ⟨j, by omega, by omega, r3, r4⟩
end

/-- Merged up to a. -/
structure Sm (xs : List Int) (l0 l : List Nat) (z n a : Nat) : Prop where
  s2 : SRB xs l (2 * z) 0 a
  s1 : SRB xs l z a n
  o2 : OrgB l0 l (2 * z) 0 n
  o1 : OrgB l0 l z a n
  k : ∃ k, a = k * (2 * z)
/-- All blocks of z in order. -/
structure Bs (xs : List Int) (l0 l : List Nat) (z n : Nat) : Prop where
  s : SRB xs l z 0 n
  o : OrgB l0 l z 0 n
section
variable {xs : List Int} {l0 l l2 : List Nat} {z a b n : Nat}
theorem Bs.st (h : Bs xs l0 l z n) : Sm xs l0 l z n 0 := ⟨fun _ _ _ _ _ _ _ h => absurd h (Nat.not_lt_zero _), h.s, OrgB_wide h.o, h.o, ⟨0, by omega⟩⟩
theorem Sm.pre (h : Sm xs l0 l z n a) (h1 : a + z ≤ n) (h2 : b ≤ n) (h3 : b ≤ a + 2 * z) (hinc : ∀ p q, p < q → q < n → l0.getD p 0 < l0.getD q 0) :
    SR xs l a (a + z) ∧ SR xs l (a + z) b ∧ ∀ i j, a ≤ i → i < a + z → a + z ≤ j → j < b → l.getD i 0 < l.getD j 0 := by
  obtain ⟨K, hk⟩ := h.k
  have e1 : K * (2 * z) = 2 * K * z := by rw [Nat.mul_left_comm, Nat.mul_assoc]
  have e2 : (2 * K + 1) * z = 2 * K * z + z := by rw [Nat.add_mul, Nat.one_mul]
  refine ⟨fun i j k1 k2 k3 => h.s1 (2 * K) i j k1 (by omega) k2 (by omega) (by omega), fun i j k1 k2 k3 => h.s1 (2 * K + 1) i j (by omega) (by omega) k2 (by omega) (by omega), fun i j k1 k2 k3 k4 => ?_⟩
  obtain ⟨i', r1, r2, r3, r4⟩ := h.o1 (2 * K) i k1 (by omega) (by omega) (by omega)
  obtain ⟨j', t1, t2, t3, t4⟩ := h.o1 (2 * K + 1) j (by omega) (by omega) (by omega) (by omega)
  rw [r4, t4]; exact hinc _ _ (by omega) t3
theorem Sm.next (h : Sm xs l0 l z n a) (h1 : a + 2 * z ≤ n) (s : SR xs l2 a (a + 2 * z)) (o : Org l l2 a (a + 2 * z)) (u : Out l l2 a (a + 2 * z)) : Sm xs l0 l2 z n (a + 2 * z) := by
  obtain ⟨K, hk⟩ := h.k
  exact ⟨SRB_step h.s2 hk (Nat.le_refl _) s u, SRB_out (SRB_up h.s1 (by omega)) u (Nat.le_refl _), OrgB_step h.o2 hk (Nat.le_refl _) h1 o u, OrgB_out (OrgB_up h.o1 (by omega)) u (Nat.le_refl _), ⟨K + 1, by rw [Nat.add_mul, Nat.one_mul]; omega⟩⟩
theorem Sm.last (h : Sm xs l0 l z n a) (h1 : n ≤ a + 2 * z) (s : SR xs l2 a n) (o : Org l l2 a n) (u : Out l l2 a n) : Bs xs l0 l2 (2 * z) n := by
  obtain ⟨K, hk⟩ := h.k
  exact ⟨SRB_step h.s2 hk h1 s u, OrgB_step h.o2 hk h1 (Nat.le_refl _) o u⟩
theorem Sm.stop (h : Sm xs l0 l z n a) (h1 : n ≤ a + z) : Bs xs l0 l (2 * z) n := by
  obtain ⟨K, hk⟩ := h.k
  have e1 : K * (2 * z) = 2 * K * z := by rw [Nat.mul_left_comm, Nat.mul_assoc]
  exact h.last (by omega) (fun i j k1 k2 k3 => h.s1 (2 * K) i j k1 (by omega) k2 (by omega) k3) (Org.refl _ _ _) (Out.refl _ _ _)
theorem Bs.whole (h : Bs xs l0 l z n) (hz : n ≤ z) : SR xs l 0 n := fun i j _ h2 h3 => h.s 0 i j (Nat.zero_le _) (by omega) h2 (by omega) h3
/-- Inserted up to a. -/
structure Is (xs : List Int) (l0 l : List Nat) (n a : Nat) : Prop where
  s : SRB xs l 20 0 a
  o : OrgB l0 l 20 0 n
  e : ∀ k, a ≤ k → l.getD k 0 = l0.getD k 0
  k : ∃ k, a = k * 20
theorem Is.start (xs : List Int) (l0 : List Nat) (n : Nat) : Is xs l0 l0 n 0 := ⟨fun _ _ _ _ _ _ _ h => absurd h (Nat.not_lt_zero _), OrgB_refl _ _ _ _, fun _ _ => rfl, ⟨0, rfl⟩⟩
theorem Is.next (h : Is xs l0 l n a) (h1 : a + 20 ≤ n) (s : SR xs l2 a (a + 20)) (o : Org l l2 a (a + 20)) (u : Out l l2 a (a + 20)) : Is xs l0 l2 n (a + 20) := by
  obtain ⟨K, hk⟩ := h.k
  exact ⟨SRB_step h.s hk (Nat.le_refl _) s u, OrgB_step h.o hk (Nat.le_refl _) h1 o u, fun k hk => (u k (.inr hk)).trans (h.e k (by omega)), ⟨K + 1, by omega⟩⟩
theorem Is.last (h : Is xs l0 l n a) (h1 : n ≤ a + 20) (s : SR xs l2 a n) (o : Org l l2 a n) (u : Out l l2 a n) : Bs xs l0 l2 20 n := by
  obtain ⟨K, hk⟩ := h.k
  exact ⟨SRB_step h.s hk h1 s u, OrgB_step h.o hk h1 (Nat.le_refl _) o u⟩
theorem Is.inc (h : Is xs l0 l n a) (hinc : ∀ p q, p < q → q < n → l0.getD p 0 < l0.getD q 0) {c : Nat} (hc : c ≤ n) : ∀ p q, a ≤ p → p < q → q < c → l.getD p 0 < l.getD q 0 := fun p q h1 h2 h3 => by
  rw [h.e p h1, h.e q (by omega)]; exact hinc p q h2 (by omega)
end
end Pu
end Go.Proofs.YtcnmmghkjblemaaDoor
