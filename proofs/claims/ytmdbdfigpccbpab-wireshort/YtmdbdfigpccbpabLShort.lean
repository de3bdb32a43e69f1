/- The law WireShort, out of the contracts. -/
import Derived.Test.YtmdbdfigpccbpabTold
import Derived.Test.YtmdbdfigpccbpabShortM
import Derived.Test.YtmdbdfigpccbpabMask
import Derived.Deep.QuietTactic
import Derived.BigQuiet
import Derived.Lib.Strings
import Derived.WideShapes
namespace Go.Proofs.Ytmdbdfigpccbpab
open Go.RowKit

theorem uint_pos (n : Int) (h0 : 0 ≤ n) : 1 ≤ (Ref.uint n).length := by
  rw [uint_eq n h0]
  have : Ref.ub 8 n ≠ [] := by
    simp only [Ref.ub]
    split <;> simp
  have := List.length_pos_iff.2 this
  omega

theorem str_ne {a b : ByteArray} (h : a ≠ b) : (a.toList == b.toList) = false := by
  rw [Lib.toList_data, Lib.toList_data]
  exact beq_eq_false_iff_ne.2 (fun e => h (WideShapes.bytes_inj e))

theorem mod_nat (c : Int) (l : Nat) (hl : 1 ≤ l) : ∃ k : Nat, c % (l : Int) = k ∧ k < l := by
  have h1 := Int.emod_nonneg c (show (l : Int) ≠ 0 by omega)
  have h2 := Int.emod_lt_of_pos c (show (0 : Int) < l by omega)
  obtain ⟨k, hk⟩ := Int.eq_ofNat_of_zero_le h1
  exact ⟨k, hk, by omega⟩

set_option maxHeartbeats 1000000 in
theorem wireShort_any (n m cut : Int) (s : ByteArray) (w : World) (hs : s.size ≤ 140737488351232) :
    Calls Try.prog 3 #[.int .i64 n, .int .i64 m, .string s, .int .i64 cut] w fun e w' => e = .returned (.bool true) ∧ Below w.heap.size w w' := by
  obtain ⟨N, hN, hN0, hN1⟩ := and_max63 n
  obtain ⟨M, hM, hM0, hM1⟩ := and_max63 m
  obtain ⟨c1, hc1, hc10, hc11⟩ := and_seven cut
  obtain ⟨c2, hc2, hc20, hc21⟩ := and_forty (cut / 8)
  have H1 := fun w => hide (uint_any N w hN1)
  have H2 := fun w => hide (uint_any M w hM1)
  have H3 := fun w => hide (text_any s w hs)
  have p1 := uint_pos N hN0
  have p2 := uint_pos M hM0
  have p3 : 1 ≤ (Ref.uint s.size ++ nums s).length := by
    have := uint_pos s.size (by omega)
    rw [List.length_append]; omega
  have q1 := uint_len N
  have q2 := uint_len M
  have q3 : (Ref.uint s.size ++ nums s).length ≤ 140737488355000 := by
    have := uint_len s.size
    rw [List.length_append, nums_length]; omega
  have R1 := fun k hk => hide (rd_short N k hN0 hk)
  have R2 := fun j hj => hide (rt_short s j hs hj)
  have R3 := fun h => hide (uint_prefix N M hN0 hN1 hM0 hM1 h)
  generalize Ref.uint N = un at *
  generalize Ref.uint M = um at *
  generalize Ref.uint s.size ++ nums s = tx at *
  go_enter Try.func3, Try.ntmps3
  go_wp2_with fail
  refine (unhide (H1 _)).mono ?_
  rintro e w1 ⟨v1, rfl, o1, b1⟩
  have s1 := o1.sl
  obtain ⟨ao1, cap1, hv1, k1, k1'⟩ := s1.shape
  rw [hv1] at s1 ⊢
  clear o1 hv1
  go_wp2_with fail
  refine (unhide (H2 _)).mono ?_
  rintro e w2 ⟨v2, rfl, o2, b2⟩
  have s2 := o2.sl
  obtain ⟨ao2, cap2, hv2, k2, k2'⟩ := s2.shape
  rw [hv2] at s2 ⊢
  clear o2 hv2
  go_wp2_with fail
  refine (unhide (H3 _)).mono ?_
  rintro e w3 ⟨v3, rfl, o3, b3⟩
  have s3 := o3.sl
  obtain ⟨ao3, cap3, hv3, k3, k3'⟩ := s3.shape
  rw [hv3] at s3 ⊢
  clear o3 hv3 H1 H2 H3
  have e1 : ((un.length : Int) == 0) = false := beq_eq_false_iff_ne.2 (by omega)
  have e2 : ((um.length : Int) == 0) = false := beq_eq_false_iff_ne.2 (by omega)
  have e3 : ((tx.length : Int) == 0) = false := beq_eq_false_iff_ne.2 (by omega)
  go_wp2_with fail
  refine (told_any _).mono ?_
  rintro e w4 ⟨rfl, b4⟩
  have B := bthen (bthen (bthen b1 b2) b3) b4
  have t1 := ((s1.below b2).below b3).below b4
  have t2 := (s2.below b3).below b4
  have t3 := s3.below b4
  clear s1 s2 s3 b1 b2 b3 b4
  obtain ⟨k, hk, hkl⟩ := mod_nat c1 un.length p1
  obtain ⟨j, hj, hjl⟩ := mod_nat c2 tx.length p3
  have x1 := t1.head (k := k) (by omega) (by omega)
  have x3 := t3.head (k := j) (by omega) (by omega)
  have G1 := hide (readUint_any _ _ 0 w4 x1)
  have G3 := hide (readText_any _ _ 0 s.size w4 x3)
  rw [unhide (R1 k hkl)] at G1
  rw [unhide (R2 j hjl)] at G3
  clear R1 R2
  go_wp2_with fail
  refine (unhide G1).mono ?_
  rintro e w5 ⟨rfl, rfl⟩
  go_wp2_with fail
  refine (unhide G3).mono ?_
  rintro e w6 ⟨rfl, rfl⟩
  clear G1 G3
  by_cases hnm : N = M
  · have hnm' : (N == M) = true := beq_iff_eq.2 hnm
    have HNM := hide hnm
    clear hnm
    go_wp2
    go_quiet (fail)
    go_wp2
    go_ret
    exact ⟨rfl, below_drewN B _⟩
  · have hnm' : (N == M) = false := beq_eq_false_iff_ne.2 hnm
    have HNM := hide hnm
    clear hnm
    by_cases hlen : um.length < un.length
    · go_wp2
      go_quiet (fail)
      go_wp2
      go_ret
      exact ⟨rfl, below_drewN B _⟩
    · have hlen' : decide ((um.length : Int) < un.length) = false := by simp; omega
      have y2 := t2.head (k := un.length) (by omega) (by omega)
      have hcv2 := fun nq => (y2.below (below_drewN (Below.refl _ _) nq)).conv
      have hcv1 := fun nq => (t1.below (below_drewN (Below.refl _ _) nq)).conv
      have hne : strOfNums (um.take un.length) ≠ strOfNums un := fun h => unhide HNM (unhide (R3 (str_inj y2.1 t1.1 h)))
      generalize strOfNums (um.take un.length) = sa at *
      generalize strOfNums un = sb at *
      have hne' : (sa.toList == sb.toList) = false := str_ne hne
      clear hne
      go_wp2
      go_quiet (fail)
      go_wp2
      go_ret
      exact ⟨rfl, below_drewN B _⟩
end Go.Proofs.Ytmdbdfigpccbpab
