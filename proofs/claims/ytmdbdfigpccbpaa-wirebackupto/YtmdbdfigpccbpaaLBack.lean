/- The law WireBack, out of the contracts. -/
import Derived.Test.YtmdbdfigpccbpaaTold
import Derived.Test.YtmdbdfigpccbpaaFloat
import Derived.Test.YtmdbdfigpccbpaaJoin
import Derived.Test.YtmdbdfigpccbpaaBackM
import Derived.Test.YtmdbdfigpccbpaaRefT
namespace Go.Proofs.Ytmdbdfigpccbpaa
open Go.RowKit

set_option maxRecDepth 100000 in
theorem fval_fl (u : Nat) (hu : u < 18446744073709551616) : Ref.fval (Ref.fl u) = u := by
  simp only [Ref.fl, List.range, List.range.loop, List.map_cons, List.map_nil, Ref.fval, Ref.byteAt]
  omega

theorem rf_at (pre rest : List Int) (u : Nat) (hu : u < 18446744073709551616) : Ref.rf (pre ++ (Ref.fl u ++ rest)) pre.length = ((u : Int), (pre.length : Int) + 8, 0) := by
  have e : (pre ++ (Ref.fl u ++ rest)).drop pre.length = Ref.fl u ++ rest := by simp
  rw [Ref.rf, if_neg (by simp; omega), if_neg (by simp [Ref.fl_length]; omega), Int.toNat_natCast, e, List.take_left' (Ref.fl_length u), fval_fl u hu]

theorem and_max (n : Int) : ∃ m : Int, bits .and .i64 n 9223372036854775807 = m ∧ 0 ≤ m ∧ m ≤ 9223372036854775807 := by
  refine ⟨_, rfl, ?_⟩
  have h : (BitVec.ofInt 64 n &&& BitVec.ofInt 64 9223372036854775807).toNat ≤ 9223372036854775807 := by
    rw [BitVec.toNat_and]
    exact Nat.le_trans Nat.and_le_right (by decide)
  show 0 ≤ IntKind.i64.wrap ((BitVec.ofInt 64 n &&& BitVec.ofInt 64 9223372036854775807).toNat : Int) ∧ IntKind.i64.wrap ((BitVec.ofInt 64 n &&& BitVec.ofInt 64 9223372036854775807).toNat : Int) ≤ 9223372036854775807
  generalize (BitVec.ofInt 64 n &&& BitVec.ofInt 64 9223372036854775807).toNat = m at *
  rw [wraps_i64 _ (by omega) (by omega)]
  omega

/-- Five parts, in a new row. -/
theorem pa_five (w : World) (v0 v1 v2 v3 v4 : Value) (l0 l1 l2 l3 l4 : List Int) (h0 : Sl w v0 l0) (h1 : Sl w v1 l1) (h2 : Sl w v2 l2) (h3 : Sl w v3 l3) (h4 : Sl w v4 l4) :
    Pa (w.alloc (.cells #[v0, v1, v2, v3, v4] 22)) (.slice (some ⟨w.heap.size, 0, none⟩) 5 5) [l0, l1, l2, l3, l4] := by
  have hb : Below w.heap.size w (w.alloc (.cells #[v0, v1, v2, v3, v4] 22)) := (Below.refl _ _).alloc (Nat.le_refl _) _
  refine ⟨by simp, .inr ⟨w.heap.size, 0, 5, rfl, by simp, fun i hi => ?_⟩⟩
  match i, hi with
  | 0, _ => exact ⟨v0, by rw [World.cell?_alloc_at _ _ _ _ rfl]; rfl, h0.below hb⟩
  | 1, _ => exact ⟨v1, by rw [World.cell?_alloc_at _ _ _ _ rfl]; rfl, h1.below hb⟩
  | 2, _ => exact ⟨v2, by rw [World.cell?_alloc_at _ _ _ _ rfl]; rfl, h2.below hb⟩
  | 3, _ => exact ⟨v3, by rw [World.cell?_alloc_at _ _ _ _ rfl]; rfl, h3.below hb⟩
  | 4, _ => exact ⟨v4, by rw [World.cell?_alloc_at _ _ _ _ rfl]; rfl, h4.below hb⟩

theorem back_facts (pa pb : List Int) (N : Int) (hN0 : 0 ≤ N) (hN1 : N ≤ 9223372036854775807) (s : ByteArray) (hs : s.size ≤ 140737488351232) (u : Nat) (hu : u < 18446744073709551616) :
    Ref.rd [pa, Ref.uint N, Ref.uint s.size ++ nums s, Ref.fl u, pb].flatten pa.length = (N, (pa.length : Int) + (Ref.uint N).length, 0) ∧
    Ref.rt [pa, Ref.uint N, Ref.uint s.size ++ nums s, Ref.fl u, pb].flatten ((pa.length : Int) + (Ref.uint N).length) s.size = (nums s, (pa.length : Int) + (Ref.uint N).length + (Ref.uint s.size ++ nums s).length, 0) ∧
    Ref.rf [pa, Ref.uint N, Ref.uint s.size ++ nums s, Ref.fl u, pb].flatten ((pa.length : Int) + (Ref.uint N).length + (Ref.uint s.size ++ nums s).length) = ((u : Int), (pa.length : Int) + (Ref.uint N).length + (Ref.uint s.size ++ nums s).length + 8, 0) := by
  have hr1 := rd_at pa ((Ref.uint s.size ++ nums s) ++ (Ref.fl u ++ pb)) N hN0 hN1
  have hr2 := rt_at (pa ++ Ref.uint N) (Ref.fl u ++ pb) s hs
  have hr3 := rf_at (pa ++ Ref.uint N ++ (Ref.uint s.size ++ nums s)) pb u hu
  have e : [pa, Ref.uint N, Ref.uint s.size ++ nums s, Ref.fl u, pb].flatten = pa ++ (Ref.uint N ++ ((Ref.uint s.size ++ nums s) ++ (Ref.fl u ++ pb))) := by simp
  have c2 : (((pa ++ Ref.uint N).length : Nat) : Int) = (pa.length : Int) + (Ref.uint N).length := by rw [List.length_append]; omega
  have c3 : (((pa ++ Ref.uint N ++ (Ref.uint s.size ++ nums s)).length : Nat) : Int) = (pa.length : Int) + (Ref.uint N).length + (Ref.uint s.size ++ nums s).length := by rw [List.length_append, List.length_append]; omega
  rw [c2] at hr2
  rw [c3] at hr3
  rw [e]
  refine ⟨hr1, ?_, ?_⟩
  · rw [← List.append_assoc]; exact hr2
  · rw [← List.append_assoc, ← List.append_assoc]; exact hr3

set_option maxHeartbeats 1000000 in
theorem wireBack_any (n : Int) (s : ByteArray) (u : Nat) (hu : u < 18446744073709551616) (va vb : Value) (pa pb : List Int) (w : World) (ha : Sl w va pa) (hb : Sl w vb pb)
    (hl : pa.length + pb.length + s.size ≤ 1048576) :
    Calls Try.prog 7 #[.int .i64 n, .string s, .int .u64 (u : Int), va, vb] w fun e w' => e = .returned (.bool true) ∧ Below w.heap.size w w' := by
  obtain ⟨N, hN, hN0, hN1⟩ := and_max n
  have hln := uint_len N
  have htl : (Ref.uint s.size ++ nums s).length ≤ 9 + s.size := by have := uint_len s.size; simp [nums_length]; omega
  have hfl : (Ref.fl u).length ≤ 8 := by rw [Ref.fl_length]; omega
  obtain ⟨aoa, capa, rfl, _, _⟩ := ha.shape
  obtain ⟨aob, capb, rfl, _, _⟩ := hb.shape
  have H1 := fun w => hide (uint_any N w hN1)
  have H2 := fun w => hide (text_any s w (by omega))
  have H3 := fun w => hide (float_any u w)
  obtain ⟨f1, f2, f3⟩ := back_facts pa pb N hN0 hN1 s (by omega) u hu
  have F1 := hide f1
  have F2 := hide f2
  have F3 := hide f3
  have hbu := uint_byt' N hN0 hN1
  have hbt := (uint_byt' s.size (by omega) (by omega)).append (nums_byt s)
  have hbf := fl_byt u
  clear f1 f2 f3
  generalize Ref.uint N = un at *
  generalize Ref.uint s.size ++ nums s = tx at *
  generalize Ref.fl u = fx at *
  go_enter Try.func7, Try.ntmps7
  go_wp2_with fail
  refine (unhide (H1 _)).mono ?_
  rintro e w1 ⟨v1, rfl, o1, b1⟩
  have s1 := o1.sl
  obtain ⟨ao1, cap1, hv1, _, _⟩ := s1.shape
  rw [hv1] at s1 ⊢
  clear o1
  go_wp2_with fail
  refine (unhide (H2 _)).mono ?_
  rintro e w2 ⟨v2, rfl, o2, b2⟩
  have s2 := o2.sl
  obtain ⟨ao2, cap2, hv2, _, _⟩ := s2.shape
  rw [hv2] at s2 ⊢
  clear o2
  go_wp2_with fail
  refine (apiFloat_any _ _).mono ?_
  rintro e w3 ⟨rfl, rfl⟩
  simp only [Int.toNat_natCast]
  go_wp2_with fail
  refine (unhide (H3 _)).mono ?_
  rintro e w4 ⟨v4, rfl, o4, b4⟩
  have s4 := o4.sl
  obtain ⟨ao4, cap4, hv4, _, _⟩ := s4.shape
  rw [hv4] at s4 ⊢
  clear o4 H1 H2 H3
  have p0 := ((ha.below b1).below b2).below b4
  have p1 := (s1.below b2).below b4
  have p2 := s2.below b4
  have p4 := ((hb.below b1).below b2).below b4
  have hpa := pa_five w4 _ _ _ _ _ _ _ _ _ _ p0 p1 p2 s4 p4
  have HJ := hide (joined_any _ _ _ hpa (by
    intro l hl
    simp at hl
    rcases hl with rfl | rfl | rfl | rfl | rfl
    · exact ha.1
    · exact hbu
    · exact hbt
    · exact hbf
    · exact hb.1) (by simp; omega))
  have b5 := bthen (bthen (bthen b1 b2) b4) ((Below.refl w4.heap.size w4).alloc (Nat.le_refl _) (.cells #[.slice aoa pa.length capa, .slice ao1 un.length cap1, .slice ao2 tx.length cap2, .slice ao4 fx.length cap4, .slice aob pb.length capb] 22))
  clear hpa
  generalize [pa, un, tx, fx, pb].flatten = zs at *
  go_wp2_with fail
  refine (unhide HJ).mono ?_
  rintro e w6 ⟨v6, rfl, o6, b6⟩
  have s6 := o6.sl
  obtain ⟨ao6, cap6, hv6, _, _⟩ := s6.shape
  rw [hv6] at s6 ⊢
  have b7 := bthen b5 b6
  clear o6 HJ
  have G1 := hide (readUint_any _ zs pa.length w6 s6)
  have G2 := hide (readText_any _ zs ((pa.length : Int) + un.length) s.size w6 s6)
  have G3 := hide (readFloat_any _ zs ((pa.length : Int) + un.length + tx.length) w6 s6)
  rw [unhide F1] at G1
  rw [unhide F2] at G2
  rw [unhide F3] at G3
  have hstr := strOf_nums s
  clear F1 F2 F3 b1 b2 b4 b5 b6 p0 p1 p2 p4 s1 s2 s4 ha hb
  go_wp2_with fail
  refine (unhide G1).mono ?_
  rintro e w7 ⟨rfl, rfl⟩
  go_wp2_with fail
  refine (unhide G2).mono ?_
  rintro e w8 ⟨rfl, rfl⟩
  go_wp2_with fail
  refine (unhide G3).mono ?_
  rintro e w9 ⟨rfl, rfl⟩
  simp only [Int.toNat_natCast]
  go_wp2_with fail
  refine (told_any _).mono ?_
  rintro e w10 ⟨rfl, b10⟩
  go_wp2_with fail
  refine (apiBits_any u _).mono ?_
  rintro e w11 ⟨rfl, rfl⟩
  go_wp2_with fail
  refine (apiFloat_any _ _).mono ?_
  rintro e w12 ⟨rfl, rfl⟩
  simp only [Int.toNat_natCast]
  go_wp2_with fail
  refine (apiBits_any u _).mono ?_
  rintro e w13 ⟨rfl, rfl⟩
  go_wp2
  go_ret
  exact ⟨rfl, bthen b7 b10⟩
end Go.Proofs.Ytmdbdfigpccbpaa
