/- The law WireBits, out of the contracts: one theorem a way through its two tests. -/
import Derived.Test.YtmdbdfigpccbpabBitsS
namespace Go.Proofs.Ytmdbdfigpccbpab
open Go.RowKit

theorem own_shape' {w : World} {base n : Nat} {v : Value} {xs : List Value} (h : w.ownsRow base 5 1 v n xs) (hn : 0 < n) : ∃ g cap, v = .slice (some ⟨g, 0, none⟩) n cap ∧ n ≤ cap ∧ cap ≤ 9223372036854775807 := by
  rcases h.2 with ⟨_, h0⟩ | ⟨g, cap, cur, hv, hg, hh, hn', hcap, hsz, htake⟩
  · omega
  · exact ⟨g, cap, hv, hn', by unfold maxLen at hcap; omega⟩

set_option maxHeartbeats 2000000 in
theorem bits_three (i j k : Int) (pat : Nat) (hpat : pat < 4294967296) (v : Value) (zs : List Int) (w : World) (hs : Sl w v zs) (h1 : 1 ≤ zs.length) (h4 : zs.length ≤ 4096)
    (ci cj ck : Int) (hci : bits .and .i64 i 1099511627775 = ci) (hcj : bits .and .i64 j 1099511627775 = cj) (hck : bits .and .i64 k 1099511627775 = ck) (pi : 0 ≤ ci) (pj : 0 ≤ cj) (pk : 0 ≤ ck) (qi : ci ≤ 1099511627775) (qj : cj ≤ 1099511627775) (qk : ck ≤ 1099511627775)
    (I J K : Nat) (hI : ci % (8 * (zs.length : Int)) = I) (hJ : cj % (8 * (zs.length : Int)) = J) (hK : ck % (8 * (zs.length : Int)) = K) (lI : I < 8 * zs.length) (lJ : J < 8 * zs.length) (lK : K < 8 * zs.length)
    (nJI : ((J : Int) != (I : Int)) = true) (nKI : ((K : Int) != (I : Int)) = true) (nKJ : ((K : Int) != (J : Int)) = true) :
    Calls Try.prog 4 #[v, .int .i64 i, .int .i64 j, .int .i64 k, .int .u32 (pat : Int)] w fun e w' => e = .returned (.bool true) ∧ Below w.heap.size w w' := by
  have HT := hide (Crc.three_flips zs I J K lI lJ lK)
  obtain ⟨i0, hi, hz0, hz1, hz2⟩ := info_parts Try.info5
  have hbt := hs.1
  have HP0 := hide (Crc.Pat.zero zs K pat)
  have e0 : ((zs.length : Int) == 0) = false := beq_eq_false_iff_ne.2 (by omega)
  have hsrc := hs.src
  rcases hsrc with ⟨hz, _⟩ | ⟨ad, cap, rfl, hc⟩
  · rw [hz] at h1; simp at h1
  generalize hlen : zs.length = len at *
  have HL := hide hlen
  clear hlen
  go_enter Try.func4, Try.ntmps4
  go_wp2_with (at_builtin; refine wpList_append_own _ rfl (.tmp 26) (.tmp 27) 22 rfl w.heap.size 5 i0 (.int .u8 0) 1 1 Try.underlying22 hi hz0 hz1 hz2 rfl (by decide) _ _ _ rfl (World.ownsRow_nil _ _ _ _) ad len cap (zs.map (Value.int .u8)) rfl (by have := unhide HL; simp; omega) hc (ints_one zs) (by unfold maxLen; omega) (by omega) (Nat.le_refl _) ?_)
  intro v1 w1 o1 gr1 _
  have b1 : Below w.heap.size w w1 := (Below.refl _ _).grown gr1 (Nat.le_refl _) (fun k hk => by simp [Value.ownBlock] at hk)
  obtain ⟨g1, cap1, hv1, kc1, _⟩ := own_shape' o1 (by omega)
  rw [hv1] at o1 ⊢
  have hcw1 : ∀ jj u, (zs.map (Value.int .u8))[jj]? = some u → w1.cell? (ad.add jj) = some u := fun jj u hj => gr1.cell (hc jj u hj) (by simp [Value.ownBlock])
  clear hv1
  go_wp2_with (at_builtin; refine wpList_append_own _ rfl (.tmp 29) (.tmp 30) 22 rfl w1.heap.size 5 i0 (.int .u8 0) 1 1 Try.underlying22 hi hz0 hz1 hz2 rfl (by decide) _ _ _ rfl (World.ownsRow_nil _ _ _ _) ad len cap (zs.map (Value.int .u8)) rfl (by have := unhide HL; simp; omega) hcw1 (ints_one zs) (by unfold maxLen; omega) (by omega) (Nat.le_refl _) ?_)
  intro v2 w2 o2 gr2 _
  obtain ⟨g2, cap2, hv2, kc2, _⟩ := own_shape' o2 (by omega)
  rw [hv2] at o2 ⊢
  have lt1 := o1.lt g1 rfl
  have lt2 := o2.lt g2 rfl
  have S2 : St w w2 g1 cap1 g2 cap2 len zs zs := by
    have hl := unhide HL
    exact ⟨o1.kept gr2 (.inr (by simp [Value.ownBlock])), own_lower o2 b1.size, by omega, b1.grown gr2 b1.size (fun k hk => by simp [Value.ownBlock] at hk), hbt, hbt, hl, hl⟩
  clear hv2 o1 o2 gr1 gr2 hcw1 hc lt1 lt2 b1
  have F1 := hide (S2.flip1 I lI h4)
  go_wp2_with fail
  refine (unhide F1).mono ?_
  rintro e w3 ⟨rfl, S3⟩
  clear F1 S2
  go_wp2
  go_quiet (fail)
  have S3 := S3.drew nq
  generalize w3.drewN nq = w3' at *
  have F3 := hide (S3.flip1 J lJ h4)
  go_wp2_with fail
  refine (unhide F3).mono ?_
  rintro e w4 ⟨rfl, S4⟩
  clear F3 S3
  have F4 := hide (S4.flip1 K lK h4)
  go_wp2_with fail
  refine (unhide F4).mono ?_
  rintro e w5 ⟨rfl, S5⟩
  clear F4 S4
  generalize Crc.flipL (Crc.flipL (Crc.flipL zs I) J) K = xs at *
  go_wp2
  try rw [hK]
  try rw [hJ]
  try rw [hI]
  go_loopw [15] (fun m wr => ∃ (t : Nat) (ys : List Int), t ≤ 32 ∧ m = .int .i64 t ∧ St w wr g1 cap1 g2 cap2 len xs ys ∧ Crc.Pat zs ys K t pat) (fun m _ => 32 - (intOf m).toNat)
  case atStart => exact ⟨0, zs, by omega, rfl, S5, unhide HP0⟩
  case round =>
    clear S5 HP0
    obtain ⟨t, ys, ht, rfl, SR, hp⟩ := hrel
    have HPT := hide hp
    clear hp
    by_cases hgo : t < 32 ∧ K + t < 8 * len
    · obtain ⟨ht2, ht3⟩ := hgo
      have hpb := pat_bit pat t hpat
      rcases Nat.mod_two_eq_zero_or_one (pat / 2 ^ t) with hb | hb
      · have NP := (unhide HPT).skip hb
        rw [hb] at hpb
        have hpb' : bits .and .u32 ((pat : Int) / 2 ^ t) 1 = 0 := hpb
        clear hpb hb
        go_wp2
        go_roundw
        case rel => exact ⟨t + 1, ys, by omega, by go_num, SR, NP⟩
        case measure => simp [intOf]; omega
      · have NP := (unhide HPT).turn hb (by rw [unhide HL]; exact ht3)
        rw [hb] at hpb
        have hpb' : bits .and .u32 ((pat : Int) / 2 ^ t) 1 = 1 := hpb
        have FR := hide (SR.flip2 (K + t) ht3 h4)
        clear hpb hb
        go_wp2_with fail
        refine (unhide FR).mono ?_
        rintro e w9 ⟨rfl, S9⟩
        go_wp2
        go_roundw
        case rel => exact ⟨t + 1, _, by omega, by go_num, S9, NP⟩
        case measure => simp [intOf]; omega
    · have hds := (unhide HPT).tells hpat
      have sb := hs.below SR.2.2.2.1
      have sc := SR.sl1 h4
      have sd := SR.sl2 h4
      have B0 := SR.2.2.2.1
      have nx := nat_ne (unhide HT)
      rw [← unhide HL] at sb sc sd
      have A1 := hide (sum_one wr wr.heap.size rfl _ zs sb)
      have B1 := (Below.refl wr.heap.size wr).alloc (Nat.le_refl _) (.cells #[.slice (some ad) zs.length cap] 22)
      rw [unhide HL] at *
      clear HPT HT SR
      by_cases ht2 : t < 32
      · have ht3 : 8 * len ≤ K + t := by omega
        clear hgo
        go_wp2_with fail
        refine (unhide A1).mono ?_
        rintro e w5 ⟨rfl, rfl⟩
        go_wp2_with fail
        refine (told_any _).mono ?_
        rintro e w6 ⟨rfl, b6⟩
        have B6 := bthen B1 b6
        have sc6 := sc.below B6
        have sb6 := sb.below B6
        have sd6 := sd.below B6
        have A2 := hide (sum_one w6 w6.heap.size rfl _ xs sc6)
        go_wp2_with fail
        refine (unhide A2).mono ?_
        rintro e w7 ⟨rfl, rfl⟩
        have B7 := (Below.refl w6.heap.size w6).alloc (Nat.le_refl _) (.cells #[.slice (some ⟨g1, 0, none⟩) len cap1] 22)
        have cb := (sb6.below B7).conv
        have cd := (sd6.below B7).conv
        have sd7 := sd6.below B7
        have BF := bthen B0 (bthen B6 B7)
        clear A1 A2 B1 b6 sc sb sc6 B0 B6 B7 sd
        rcases hds with heq | hne
        · subst heq
          generalize strOfNums ys = sy at *
          go_wp2
          go_ret
          exact ⟨rfl, BF⟩
        · have nd := nat_ne hne
          have hstr : strOfNums ys ≠ strOfNums zs := fun h => hne (by rw [str_inj sd7.1 sb6.1 h])
          have hstr' := str_ne' hstr
          have A3 := hide (sum_one (w6.alloc (.cells #[.slice (some ⟨g1, 0, none⟩) len cap1] 22)) (w6.heap.size + 1) (by simp) _ ys sd7)
          clear hstr hne sb6
          generalize strOfNums ys = sy at *
          generalize strOfNums zs = sz at *
          go_wp2_with fail
          refine (unhide A3).mono ?_
          rintro e w8 ⟨rfl, rfl⟩
          go_wp2
          go_ret
          exact ⟨rfl, BF.alloc (by have := BF.size; simp at this ⊢; omega) _⟩
      · clear hgo
        go_wp2_with fail
        refine (unhide A1).mono ?_
        rintro e w5 ⟨rfl, rfl⟩
        go_wp2_with fail
        refine (told_any _).mono ?_
        rintro e w6 ⟨rfl, b6⟩
        have B6 := bthen B1 b6
        have sc6 := sc.below B6
        have sb6 := sb.below B6
        have sd6 := sd.below B6
        have A2 := hide (sum_one w6 w6.heap.size rfl _ xs sc6)
        go_wp2_with fail
        refine (unhide A2).mono ?_
        rintro e w7 ⟨rfl, rfl⟩
        have B7 := (Below.refl w6.heap.size w6).alloc (Nat.le_refl _) (.cells #[.slice (some ⟨g1, 0, none⟩) len cap1] 22)
        have cb := (sb6.below B7).conv
        have cd := (sd6.below B7).conv
        have sd7 := sd6.below B7
        have BF := bthen B0 (bthen B6 B7)
        clear A1 A2 B1 b6 sc sb sc6 B0 B6 B7 sd
        rcases hds with heq | hne
        · subst heq
          generalize strOfNums ys = sy at *
          go_wp2
          go_ret
          exact ⟨rfl, BF⟩
        · have nd := nat_ne hne
          have hstr : strOfNums ys ≠ strOfNums zs := fun h => hne (by rw [str_inj sd7.1 sb6.1 h])
          have hstr' := str_ne' hstr
          have A3 := hide (sum_one (w6.alloc (.cells #[.slice (some ⟨g1, 0, none⟩) len cap1] 22)) (w6.heap.size + 1) (by simp) _ ys sd7)
          clear hstr hne sb6
          generalize strOfNums ys = sy at *
          generalize strOfNums zs = sz at *
          go_wp2_with fail
          refine (unhide A3).mono ?_
          rintro e w8 ⟨rfl, rfl⟩
          go_wp2
          go_ret
          exact ⟨rfl, BF.alloc (by have := BF.size; simp at this ⊢; omega) _⟩

set_option maxHeartbeats 2000000 in
theorem bits_ki (i j k : Int) (pat : Nat) (hpat : pat < 4294967296) (v : Value) (zs : List Int) (w : World) (hs : Sl w v zs) (h1 : 1 ≤ zs.length) (h4 : zs.length ≤ 4096)
    (ci cj ck : Int) (hci : bits .and .i64 i 1099511627775 = ci) (hcj : bits .and .i64 j 1099511627775 = cj) (hck : bits .and .i64 k 1099511627775 = ck) (pi : 0 ≤ ci) (pj : 0 ≤ cj) (pk : 0 ≤ ck) (qi : ci ≤ 1099511627775) (qj : cj ≤ 1099511627775) (qk : ck ≤ 1099511627775)
    (I J : Nat) (hI : ci % (8 * (zs.length : Int)) = I) (hJ : cj % (8 * (zs.length : Int)) = J) (hK : ck % (8 * (zs.length : Int)) = I) (lI : I < 8 * zs.length) (lJ : J < 8 * zs.length)
    (d : I ≠ J) (nJI : ((J : Int) != (I : Int)) = true) :
    Calls Try.prog 4 #[v, .int .i64 i, .int .i64 j, .int .i64 k, .int .u32 (pat : Int)] w fun e w' => e = .returned (.bool true) ∧ Below w.heap.size w w' := by
  have HT := hide (Crc.two_flips zs I J (by omega) lI lJ d)
  obtain ⟨i0, hi, hz0, hz1, hz2⟩ := info_parts Try.info5
  have hbt := hs.1
  have HP0 := hide (Crc.Pat.zero zs I pat)
  have e0 : ((zs.length : Int) == 0) = false := beq_eq_false_iff_ne.2 (by omega)
  have hsrc := hs.src
  rcases hsrc with ⟨hz, _⟩ | ⟨ad, cap, rfl, hc⟩
  · rw [hz] at h1; simp at h1
  generalize hlen : zs.length = len at *
  have HL := hide hlen
  clear hlen
  go_enter Try.func4, Try.ntmps4
  go_wp2_with (at_builtin; refine wpList_append_own _ rfl (.tmp 26) (.tmp 27) 22 rfl w.heap.size 5 i0 (.int .u8 0) 1 1 Try.underlying22 hi hz0 hz1 hz2 rfl (by decide) _ _ _ rfl (World.ownsRow_nil _ _ _ _) ad len cap (zs.map (Value.int .u8)) rfl (by have := unhide HL; simp; omega) hc (ints_one zs) (by unfold maxLen; omega) (by omega) (Nat.le_refl _) ?_)
  intro v1 w1 o1 gr1 _
  have b1 : Below w.heap.size w w1 := (Below.refl _ _).grown gr1 (Nat.le_refl _) (fun k hk => by simp [Value.ownBlock] at hk)
  obtain ⟨g1, cap1, hv1, kc1, _⟩ := own_shape' o1 (by omega)
  rw [hv1] at o1 ⊢
  have hcw1 : ∀ jj u, (zs.map (Value.int .u8))[jj]? = some u → w1.cell? (ad.add jj) = some u := fun jj u hj => gr1.cell (hc jj u hj) (by simp [Value.ownBlock])
  clear hv1
  go_wp2_with (at_builtin; refine wpList_append_own _ rfl (.tmp 29) (.tmp 30) 22 rfl w1.heap.size 5 i0 (.int .u8 0) 1 1 Try.underlying22 hi hz0 hz1 hz2 rfl (by decide) _ _ _ rfl (World.ownsRow_nil _ _ _ _) ad len cap (zs.map (Value.int .u8)) rfl (by have := unhide HL; simp; omega) hcw1 (ints_one zs) (by unfold maxLen; omega) (by omega) (Nat.le_refl _) ?_)
  intro v2 w2 o2 gr2 _
  obtain ⟨g2, cap2, hv2, kc2, _⟩ := own_shape' o2 (by omega)
  rw [hv2] at o2 ⊢
  have lt1 := o1.lt g1 rfl
  have lt2 := o2.lt g2 rfl
  have S2 : St w w2 g1 cap1 g2 cap2 len zs zs := by
    have hl := unhide HL
    exact ⟨o1.kept gr2 (.inr (by simp [Value.ownBlock])), own_lower o2 b1.size, by omega, b1.grown gr2 b1.size (fun k hk => by simp [Value.ownBlock] at hk), hbt, hbt, hl, hl⟩
  clear hv2 o1 o2 gr1 gr2 hcw1 hc lt1 lt2 b1
  have F1 := hide (S2.flip1 I lI h4)
  go_wp2_with fail
  refine (unhide F1).mono ?_
  rintro e w3 ⟨rfl, S3⟩
  clear F1 S2
  go_wp2
  go_quiet (fail)
  have S3 := S3.drew nq
  generalize w3.drewN nq = w3' at *
  have F3 := hide (S3.flip1 J lJ h4)
  go_wp2_with fail
  refine (unhide F3).mono ?_
  rintro e w4 ⟨rfl, S4⟩
  clear F3 S3
  generalize Crc.flipL (Crc.flipL zs I) J = xs at *
  go_wp2
  try rw [hK]
  try rw [hJ]
  try rw [hI]
  go_loopw [15] (fun m wr => ∃ (t : Nat) (ys : List Int), t ≤ 32 ∧ m = .int .i64 t ∧ St w wr g1 cap1 g2 cap2 len xs ys ∧ Crc.Pat zs ys I t pat) (fun m _ => 32 - (intOf m).toNat)
  case atStart => exact ⟨0, zs, by omega, rfl, S4, unhide HP0⟩
  case round =>
    clear S4 HP0
    obtain ⟨t, ys, ht, rfl, SR, hp⟩ := hrel
    have HPT := hide hp
    clear hp
    by_cases hgo : t < 32 ∧ I + t < 8 * len
    · obtain ⟨ht2, ht3⟩ := hgo
      have hpb := pat_bit pat t hpat
      rcases Nat.mod_two_eq_zero_or_one (pat / 2 ^ t) with hb | hb
      · have NP := (unhide HPT).skip hb
        rw [hb] at hpb
        have hpb' : bits .and .u32 ((pat : Int) / 2 ^ t) 1 = 0 := hpb
        clear hpb hb
        go_wp2
        go_roundw
        case rel => exact ⟨t + 1, ys, by omega, by go_num, SR, NP⟩
        case measure => simp [intOf]; omega
      · have NP := (unhide HPT).turn hb (by rw [unhide HL]; exact ht3)
        rw [hb] at hpb
        have hpb' : bits .and .u32 ((pat : Int) / 2 ^ t) 1 = 1 := hpb
        have FR := hide (SR.flip2 (I + t) ht3 h4)
        clear hpb hb
        go_wp2_with fail
        refine (unhide FR).mono ?_
        rintro e w9 ⟨rfl, S9⟩
        go_wp2
        go_roundw
        case rel => exact ⟨t + 1, _, by omega, by go_num, S9, NP⟩
        case measure => simp [intOf]; omega
    · have hds := (unhide HPT).tells hpat
      have sb := hs.below SR.2.2.2.1
      have sc := SR.sl1 h4
      have sd := SR.sl2 h4
      have B0 := SR.2.2.2.1
      have nx := nat_ne (unhide HT)
      rw [← unhide HL] at sb sc sd
      have A1 := hide (sum_one wr wr.heap.size rfl _ zs sb)
      have B1 := (Below.refl wr.heap.size wr).alloc (Nat.le_refl _) (.cells #[.slice (some ad) zs.length cap] 22)
      rw [unhide HL] at *
      clear HPT HT SR
      by_cases ht2 : t < 32
      · have ht3 : 8 * len ≤ I + t := by omega
        clear hgo
        go_wp2_with fail
        refine (unhide A1).mono ?_
        rintro e w5 ⟨rfl, rfl⟩
        go_wp2_with fail
        refine (told_any _).mono ?_
        rintro e w6 ⟨rfl, b6⟩
        have B6 := bthen B1 b6
        have sc6 := sc.below B6
        have sb6 := sb.below B6
        have sd6 := sd.below B6
        have A2 := hide (sum_one w6 w6.heap.size rfl _ xs sc6)
        go_wp2_with fail
        refine (unhide A2).mono ?_
        rintro e w7 ⟨rfl, rfl⟩
        have B7 := (Below.refl w6.heap.size w6).alloc (Nat.le_refl _) (.cells #[.slice (some ⟨g1, 0, none⟩) len cap1] 22)
        have cb := (sb6.below B7).conv
        have cd := (sd6.below B7).conv
        have sd7 := sd6.below B7
        have BF := bthen B0 (bthen B6 B7)
        clear A1 A2 B1 b6 sc sb sc6 B0 B6 B7 sd
        rcases hds with heq | hne
        · subst heq
          generalize strOfNums ys = sy at *
          go_wp2
          go_ret
          exact ⟨rfl, BF⟩
        · have nd := nat_ne hne
          have hstr : strOfNums ys ≠ strOfNums zs := fun h => hne (by rw [str_inj sd7.1 sb6.1 h])
          have hstr' := str_ne' hstr
          have A3 := hide (sum_one (w6.alloc (.cells #[.slice (some ⟨g1, 0, none⟩) len cap1] 22)) (w6.heap.size + 1) (by simp) _ ys sd7)
          clear hstr hne sb6
          generalize strOfNums ys = sy at *
          generalize strOfNums zs = sz at *
          go_wp2_with fail
          refine (unhide A3).mono ?_
          rintro e w8 ⟨rfl, rfl⟩
          go_wp2
          go_ret
          exact ⟨rfl, BF.alloc (by have := BF.size; simp at this ⊢; omega) _⟩
      · clear hgo
        go_wp2_with fail
        refine (unhide A1).mono ?_
        rintro e w5 ⟨rfl, rfl⟩
        go_wp2_with fail
        refine (told_any _).mono ?_
        rintro e w6 ⟨rfl, b6⟩
        have B6 := bthen B1 b6
        have sc6 := sc.below B6
        have sb6 := sb.below B6
        have sd6 := sd.below B6
        have A2 := hide (sum_one w6 w6.heap.size rfl _ xs sc6)
        go_wp2_with fail
        refine (unhide A2).mono ?_
        rintro e w7 ⟨rfl, rfl⟩
        have B7 := (Below.refl w6.heap.size w6).alloc (Nat.le_refl _) (.cells #[.slice (some ⟨g1, 0, none⟩) len cap1] 22)
        have cb := (sb6.below B7).conv
        have cd := (sd6.below B7).conv
        have sd7 := sd6.below B7
        have BF := bthen B0 (bthen B6 B7)
        clear A1 A2 B1 b6 sc sb sc6 B0 B6 B7 sd
        rcases hds with heq | hne
        · subst heq
          generalize strOfNums ys = sy at *
          go_wp2
          go_ret
          exact ⟨rfl, BF⟩
        · have nd := nat_ne hne
          have hstr : strOfNums ys ≠ strOfNums zs := fun h => hne (by rw [str_inj sd7.1 sb6.1 h])
          have hstr' := str_ne' hstr
          have A3 := hide (sum_one (w6.alloc (.cells #[.slice (some ⟨g1, 0, none⟩) len cap1] 22)) (w6.heap.size + 1) (by simp) _ ys sd7)
          clear hstr hne sb6
          generalize strOfNums ys = sy at *
          generalize strOfNums zs = sz at *
          go_wp2_with fail
          refine (unhide A3).mono ?_
          rintro e w8 ⟨rfl, rfl⟩
          go_wp2
          go_ret
          exact ⟨rfl, BF.alloc (by have := BF.size; simp at this ⊢; omega) _⟩

set_option maxHeartbeats 2000000 in
theorem bits_kj (i j k : Int) (pat : Nat) (hpat : pat < 4294967296) (v : Value) (zs : List Int) (w : World) (hs : Sl w v zs) (h1 : 1 ≤ zs.length) (h4 : zs.length ≤ 4096)
    (ci cj ck : Int) (hci : bits .and .i64 i 1099511627775 = ci) (hcj : bits .and .i64 j 1099511627775 = cj) (hck : bits .and .i64 k 1099511627775 = ck) (pi : 0 ≤ ci) (pj : 0 ≤ cj) (pk : 0 ≤ ck) (qi : ci ≤ 1099511627775) (qj : cj ≤ 1099511627775) (qk : ck ≤ 1099511627775)
    (I J : Nat) (hI : ci % (8 * (zs.length : Int)) = I) (hJ : cj % (8 * (zs.length : Int)) = J) (hK : ck % (8 * (zs.length : Int)) = J) (lI : I < 8 * zs.length) (lJ : J < 8 * zs.length)
    (d : I ≠ J) (nJI : ((J : Int) != (I : Int)) = true) :
    Calls Try.prog 4 #[v, .int .i64 i, .int .i64 j, .int .i64 k, .int .u32 (pat : Int)] w fun e w' => e = .returned (.bool true) ∧ Below w.heap.size w w' := by
  have HT := hide (Crc.two_flips zs I J (by omega) lI lJ d)
  obtain ⟨i0, hi, hz0, hz1, hz2⟩ := info_parts Try.info5
  have hbt := hs.1
  have HP0 := hide (Crc.Pat.zero zs J pat)
  have e0 : ((zs.length : Int) == 0) = false := beq_eq_false_iff_ne.2 (by omega)
  have hsrc := hs.src
  rcases hsrc with ⟨hz, _⟩ | ⟨ad, cap, rfl, hc⟩
  · rw [hz] at h1; simp at h1
  generalize hlen : zs.length = len at *
  have HL := hide hlen
  clear hlen
  go_enter Try.func4, Try.ntmps4
  go_wp2_with (at_builtin; refine wpList_append_own _ rfl (.tmp 26) (.tmp 27) 22 rfl w.heap.size 5 i0 (.int .u8 0) 1 1 Try.underlying22 hi hz0 hz1 hz2 rfl (by decide) _ _ _ rfl (World.ownsRow_nil _ _ _ _) ad len cap (zs.map (Value.int .u8)) rfl (by have := unhide HL; simp; omega) hc (ints_one zs) (by unfold maxLen; omega) (by omega) (Nat.le_refl _) ?_)
  intro v1 w1 o1 gr1 _
  have b1 : Below w.heap.size w w1 := (Below.refl _ _).grown gr1 (Nat.le_refl _) (fun k hk => by simp [Value.ownBlock] at hk)
  obtain ⟨g1, cap1, hv1, kc1, _⟩ := own_shape' o1 (by omega)
  rw [hv1] at o1 ⊢
  have hcw1 : ∀ jj u, (zs.map (Value.int .u8))[jj]? = some u → w1.cell? (ad.add jj) = some u := fun jj u hj => gr1.cell (hc jj u hj) (by simp [Value.ownBlock])
  clear hv1
  go_wp2_with (at_builtin; refine wpList_append_own _ rfl (.tmp 29) (.tmp 30) 22 rfl w1.heap.size 5 i0 (.int .u8 0) 1 1 Try.underlying22 hi hz0 hz1 hz2 rfl (by decide) _ _ _ rfl (World.ownsRow_nil _ _ _ _) ad len cap (zs.map (Value.int .u8)) rfl (by have := unhide HL; simp; omega) hcw1 (ints_one zs) (by unfold maxLen; omega) (by omega) (Nat.le_refl _) ?_)
  intro v2 w2 o2 gr2 _
  obtain ⟨g2, cap2, hv2, kc2, _⟩ := own_shape' o2 (by omega)
  rw [hv2] at o2 ⊢
  have lt1 := o1.lt g1 rfl
  have lt2 := o2.lt g2 rfl
  have S2 : St w w2 g1 cap1 g2 cap2 len zs zs := by
    have hl := unhide HL
    exact ⟨o1.kept gr2 (.inr (by simp [Value.ownBlock])), own_lower o2 b1.size, by omega, b1.grown gr2 b1.size (fun k hk => by simp [Value.ownBlock] at hk), hbt, hbt, hl, hl⟩
  clear hv2 o1 o2 gr1 gr2 hcw1 hc lt1 lt2 b1
  have F1 := hide (S2.flip1 I lI h4)
  go_wp2_with fail
  refine (unhide F1).mono ?_
  rintro e w3 ⟨rfl, S3⟩
  clear F1 S2
  go_wp2
  go_quiet (fail)
  have S3 := S3.drew nq
  generalize w3.drewN nq = w3' at *
  have F3 := hide (S3.flip1 J lJ h4)
  go_wp2_with fail
  refine (unhide F3).mono ?_
  rintro e w4 ⟨rfl, S4⟩
  clear F3 S3
  generalize Crc.flipL (Crc.flipL zs I) J = xs at *
  go_wp2
  try rw [hK]
  try rw [hJ]
  try rw [hI]
  go_loopw [15] (fun m wr => ∃ (t : Nat) (ys : List Int), t ≤ 32 ∧ m = .int .i64 t ∧ St w wr g1 cap1 g2 cap2 len xs ys ∧ Crc.Pat zs ys J t pat) (fun m _ => 32 - (intOf m).toNat)
  case atStart => exact ⟨0, zs, by omega, rfl, S4, unhide HP0⟩
  case round =>
    clear S4 HP0
    obtain ⟨t, ys, ht, rfl, SR, hp⟩ := hrel
    have HPT := hide hp
    clear hp
    by_cases hgo : t < 32 ∧ J + t < 8 * len
    · obtain ⟨ht2, ht3⟩ := hgo
      have hpb := pat_bit pat t hpat
      rcases Nat.mod_two_eq_zero_or_one (pat / 2 ^ t) with hb | hb
      · have NP := (unhide HPT).skip hb
        rw [hb] at hpb
        have hpb' : bits .and .u32 ((pat : Int) / 2 ^ t) 1 = 0 := hpb
        clear hpb hb
        go_wp2
        go_roundw
        case rel => exact ⟨t + 1, ys, by omega, by go_num, SR, NP⟩
        case measure => simp [intOf]; omega
      · have NP := (unhide HPT).turn hb (by rw [unhide HL]; exact ht3)
        rw [hb] at hpb
        have hpb' : bits .and .u32 ((pat : Int) / 2 ^ t) 1 = 1 := hpb
        have FR := hide (SR.flip2 (J + t) ht3 h4)
        clear hpb hb
        go_wp2_with fail
        refine (unhide FR).mono ?_
        rintro e w9 ⟨rfl, S9⟩
        go_wp2
        go_roundw
        case rel => exact ⟨t + 1, _, by omega, by go_num, S9, NP⟩
        case measure => simp [intOf]; omega
    · have hds := (unhide HPT).tells hpat
      have sb := hs.below SR.2.2.2.1
      have sc := SR.sl1 h4
      have sd := SR.sl2 h4
      have B0 := SR.2.2.2.1
      have nx := nat_ne (unhide HT)
      rw [← unhide HL] at sb sc sd
      have A1 := hide (sum_one wr wr.heap.size rfl _ zs sb)
      have B1 := (Below.refl wr.heap.size wr).alloc (Nat.le_refl _) (.cells #[.slice (some ad) zs.length cap] 22)
      rw [unhide HL] at *
      clear HPT HT SR
      by_cases ht2 : t < 32
      · have ht3 : 8 * len ≤ J + t := by omega
        clear hgo
        go_wp2_with fail
        refine (unhide A1).mono ?_
        rintro e w5 ⟨rfl, rfl⟩
        go_wp2_with fail
        refine (told_any _).mono ?_
        rintro e w6 ⟨rfl, b6⟩
        have B6 := bthen B1 b6
        have sc6 := sc.below B6
        have sb6 := sb.below B6
        have sd6 := sd.below B6
        have A2 := hide (sum_one w6 w6.heap.size rfl _ xs sc6)
        go_wp2_with fail
        refine (unhide A2).mono ?_
        rintro e w7 ⟨rfl, rfl⟩
        have B7 := (Below.refl w6.heap.size w6).alloc (Nat.le_refl _) (.cells #[.slice (some ⟨g1, 0, none⟩) len cap1] 22)
        have cb := (sb6.below B7).conv
        have cd := (sd6.below B7).conv
        have sd7 := sd6.below B7
        have BF := bthen B0 (bthen B6 B7)
        clear A1 A2 B1 b6 sc sb sc6 B0 B6 B7 sd
        rcases hds with heq | hne
        · subst heq
          generalize strOfNums ys = sy at *
          go_wp2
          go_ret
          exact ⟨rfl, BF⟩
        · have nd := nat_ne hne
          have hstr : strOfNums ys ≠ strOfNums zs := fun h => hne (by rw [str_inj sd7.1 sb6.1 h])
          have hstr' := str_ne' hstr
          have A3 := hide (sum_one (w6.alloc (.cells #[.slice (some ⟨g1, 0, none⟩) len cap1] 22)) (w6.heap.size + 1) (by simp) _ ys sd7)
          clear hstr hne sb6
          generalize strOfNums ys = sy at *
          generalize strOfNums zs = sz at *
          go_wp2_with fail
          refine (unhide A3).mono ?_
          rintro e w8 ⟨rfl, rfl⟩
          go_wp2
          go_ret
          exact ⟨rfl, BF.alloc (by have := BF.size; simp at this ⊢; omega) _⟩
      · clear hgo
        go_wp2_with fail
        refine (unhide A1).mono ?_
        rintro e w5 ⟨rfl, rfl⟩
        go_wp2_with fail
        refine (told_any _).mono ?_
        rintro e w6 ⟨rfl, b6⟩
        have B6 := bthen B1 b6
        have sc6 := sc.below B6
        have sb6 := sb.below B6
        have sd6 := sd.below B6
        have A2 := hide (sum_one w6 w6.heap.size rfl _ xs sc6)
        go_wp2_with fail
        refine (unhide A2).mono ?_
        rintro e w7 ⟨rfl, rfl⟩
        have B7 := (Below.refl w6.heap.size w6).alloc (Nat.le_refl _) (.cells #[.slice (some ⟨g1, 0, none⟩) len cap1] 22)
        have cb := (sb6.below B7).conv
        have cd := (sd6.below B7).conv
        have sd7 := sd6.below B7
        have BF := bthen B0 (bthen B6 B7)
        clear A1 A2 B1 b6 sc sb sc6 B0 B6 B7 sd
        rcases hds with heq | hne
        · subst heq
          generalize strOfNums ys = sy at *
          go_wp2
          go_ret
          exact ⟨rfl, BF⟩
        · have nd := nat_ne hne
          have hstr : strOfNums ys ≠ strOfNums zs := fun h => hne (by rw [str_inj sd7.1 sb6.1 h])
          have hstr' := str_ne' hstr
          have A3 := hide (sum_one (w6.alloc (.cells #[.slice (some ⟨g1, 0, none⟩) len cap1] 22)) (w6.heap.size + 1) (by simp) _ ys sd7)
          clear hstr hne sb6
          generalize strOfNums ys = sy at *
          generalize strOfNums zs = sz at *
          go_wp2_with fail
          refine (unhide A3).mono ?_
          rintro e w8 ⟨rfl, rfl⟩
          go_wp2
          go_ret
          exact ⟨rfl, BF.alloc (by have := BF.size; simp at this ⊢; omega) _⟩

set_option maxHeartbeats 2000000 in
theorem bits_ji (i j k : Int) (pat : Nat) (hpat : pat < 4294967296) (v : Value) (zs : List Int) (w : World) (hs : Sl w v zs) (h1 : 1 ≤ zs.length) (h4 : zs.length ≤ 4096)
    (ci cj ck : Int) (hci : bits .and .i64 i 1099511627775 = ci) (hcj : bits .and .i64 j 1099511627775 = cj) (hck : bits .and .i64 k 1099511627775 = ck) (pi : 0 ≤ ci) (pj : 0 ≤ cj) (pk : 0 ≤ ck) (qi : ci ≤ 1099511627775) (qj : cj ≤ 1099511627775) (qk : ck ≤ 1099511627775)
    (I J K : Nat) (hI : ci % (8 * (zs.length : Int)) = I) (hJ : cj % (8 * (zs.length : Int)) = J) (hK : ck % (8 * (zs.length : Int)) = K) (lI : I < 8 * zs.length) (lK : K < 8 * zs.length)
    (d : I ≠ K) (nJI : ((J : Int) != (I : Int)) = false) (nKI : ((K : Int) != (I : Int)) = true) (nKJ : ((K : Int) != (J : Int)) = true) :
    Calls Try.prog 4 #[v, .int .i64 i, .int .i64 j, .int .i64 k, .int .u32 (pat : Int)] w fun e w' => e = .returned (.bool true) ∧ Below w.heap.size w w' := by
  have HT := hide (Crc.two_flips zs I K (by omega) lI lK d)
  obtain ⟨i0, hi, hz0, hz1, hz2⟩ := info_parts Try.info5
  have hbt := hs.1
  have HP0 := hide (Crc.Pat.zero zs K pat)
  have e0 : ((zs.length : Int) == 0) = false := beq_eq_false_iff_ne.2 (by omega)
  have hsrc := hs.src
  rcases hsrc with ⟨hz, _⟩ | ⟨ad, cap, rfl, hc⟩
  · rw [hz] at h1; simp at h1
  generalize hlen : zs.length = len at *
  have HL := hide hlen
  clear hlen
  go_enter Try.func4, Try.ntmps4
  go_wp2_with (at_builtin; refine wpList_append_own _ rfl (.tmp 26) (.tmp 27) 22 rfl w.heap.size 5 i0 (.int .u8 0) 1 1 Try.underlying22 hi hz0 hz1 hz2 rfl (by decide) _ _ _ rfl (World.ownsRow_nil _ _ _ _) ad len cap (zs.map (Value.int .u8)) rfl (by have := unhide HL; simp; omega) hc (ints_one zs) (by unfold maxLen; omega) (by omega) (Nat.le_refl _) ?_)
  intro v1 w1 o1 gr1 _
  have b1 : Below w.heap.size w w1 := (Below.refl _ _).grown gr1 (Nat.le_refl _) (fun k hk => by simp [Value.ownBlock] at hk)
  obtain ⟨g1, cap1, hv1, kc1, _⟩ := own_shape' o1 (by omega)
  rw [hv1] at o1 ⊢
  have hcw1 : ∀ jj u, (zs.map (Value.int .u8))[jj]? = some u → w1.cell? (ad.add jj) = some u := fun jj u hj => gr1.cell (hc jj u hj) (by simp [Value.ownBlock])
  clear hv1
  go_wp2_with (at_builtin; refine wpList_append_own _ rfl (.tmp 29) (.tmp 30) 22 rfl w1.heap.size 5 i0 (.int .u8 0) 1 1 Try.underlying22 hi hz0 hz1 hz2 rfl (by decide) _ _ _ rfl (World.ownsRow_nil _ _ _ _) ad len cap (zs.map (Value.int .u8)) rfl (by have := unhide HL; simp; omega) hcw1 (ints_one zs) (by unfold maxLen; omega) (by omega) (Nat.le_refl _) ?_)
  intro v2 w2 o2 gr2 _
  obtain ⟨g2, cap2, hv2, kc2, _⟩ := own_shape' o2 (by omega)
  rw [hv2] at o2 ⊢
  have lt1 := o1.lt g1 rfl
  have lt2 := o2.lt g2 rfl
  have S2 : St w w2 g1 cap1 g2 cap2 len zs zs := by
    have hl := unhide HL
    exact ⟨o1.kept gr2 (.inr (by simp [Value.ownBlock])), own_lower o2 b1.size, by omega, b1.grown gr2 b1.size (fun k hk => by simp [Value.ownBlock] at hk), hbt, hbt, hl, hl⟩
  clear hv2 o1 o2 gr1 gr2 hcw1 hc lt1 lt2 b1
  have F1 := hide (S2.flip1 I lI h4)
  go_wp2_with fail
  refine (unhide F1).mono ?_
  rintro e w3 ⟨rfl, S3⟩
  clear F1 S2
  go_wp2
  go_quiet (fail)
  have S3 := S3.drew nq
  generalize w3.drewN nq = w3' at *
  have F3 := hide (S3.flip1 K lK h4)
  go_wp2_with fail
  refine (unhide F3).mono ?_
  rintro e w4 ⟨rfl, S4⟩
  clear F3 S3
  generalize Crc.flipL (Crc.flipL zs I) K = xs at *
  go_wp2
  try rw [hK]
  try rw [hJ]
  try rw [hI]
  go_loopw [15] (fun m wr => ∃ (t : Nat) (ys : List Int), t ≤ 32 ∧ m = .int .i64 t ∧ St w wr g1 cap1 g2 cap2 len xs ys ∧ Crc.Pat zs ys K t pat) (fun m _ => 32 - (intOf m).toNat)
  case atStart => exact ⟨0, zs, by omega, rfl, S4, unhide HP0⟩
  case round =>
    clear S4 HP0
    obtain ⟨t, ys, ht, rfl, SR, hp⟩ := hrel
    have HPT := hide hp
    clear hp
    by_cases hgo : t < 32 ∧ K + t < 8 * len
    · obtain ⟨ht2, ht3⟩ := hgo
      have hpb := pat_bit pat t hpat
      rcases Nat.mod_two_eq_zero_or_one (pat / 2 ^ t) with hb | hb
      · have NP := (unhide HPT).skip hb
        rw [hb] at hpb
        have hpb' : bits .and .u32 ((pat : Int) / 2 ^ t) 1 = 0 := hpb
        clear hpb hb
        go_wp2
        go_roundw
        case rel => exact ⟨t + 1, ys, by omega, by go_num, SR, NP⟩
        case measure => simp [intOf]; omega
      · have NP := (unhide HPT).turn hb (by rw [unhide HL]; exact ht3)
        rw [hb] at hpb
        have hpb' : bits .and .u32 ((pat : Int) / 2 ^ t) 1 = 1 := hpb
        have FR := hide (SR.flip2 (K + t) ht3 h4)
        clear hpb hb
        go_wp2_with fail
        refine (unhide FR).mono ?_
        rintro e w9 ⟨rfl, S9⟩
        go_wp2
        go_roundw
        case rel => exact ⟨t + 1, _, by omega, by go_num, S9, NP⟩
        case measure => simp [intOf]; omega
    · have hds := (unhide HPT).tells hpat
      have sb := hs.below SR.2.2.2.1
      have sc := SR.sl1 h4
      have sd := SR.sl2 h4
      have B0 := SR.2.2.2.1
      have nx := nat_ne (unhide HT)
      rw [← unhide HL] at sb sc sd
      have A1 := hide (sum_one wr wr.heap.size rfl _ zs sb)
      have B1 := (Below.refl wr.heap.size wr).alloc (Nat.le_refl _) (.cells #[.slice (some ad) zs.length cap] 22)
      rw [unhide HL] at *
      clear HPT HT SR
      by_cases ht2 : t < 32
      · have ht3 : 8 * len ≤ K + t := by omega
        clear hgo
        go_wp2_with fail
        refine (unhide A1).mono ?_
        rintro e w5 ⟨rfl, rfl⟩
        go_wp2_with fail
        refine (told_any _).mono ?_
        rintro e w6 ⟨rfl, b6⟩
        have B6 := bthen B1 b6
        have sc6 := sc.below B6
        have sb6 := sb.below B6
        have sd6 := sd.below B6
        have A2 := hide (sum_one w6 w6.heap.size rfl _ xs sc6)
        go_wp2_with fail
        refine (unhide A2).mono ?_
        rintro e w7 ⟨rfl, rfl⟩
        have B7 := (Below.refl w6.heap.size w6).alloc (Nat.le_refl _) (.cells #[.slice (some ⟨g1, 0, none⟩) len cap1] 22)
        have cb := (sb6.below B7).conv
        have cd := (sd6.below B7).conv
        have sd7 := sd6.below B7
        have BF := bthen B0 (bthen B6 B7)
        clear A1 A2 B1 b6 sc sb sc6 B0 B6 B7 sd
        rcases hds with heq | hne
        · subst heq
          generalize strOfNums ys = sy at *
          go_wp2
          go_ret
          exact ⟨rfl, BF⟩
        · have nd := nat_ne hne
          have hstr : strOfNums ys ≠ strOfNums zs := fun h => hne (by rw [str_inj sd7.1 sb6.1 h])
          have hstr' := str_ne' hstr
          have A3 := hide (sum_one (w6.alloc (.cells #[.slice (some ⟨g1, 0, none⟩) len cap1] 22)) (w6.heap.size + 1) (by simp) _ ys sd7)
          clear hstr hne sb6
          generalize strOfNums ys = sy at *
          generalize strOfNums zs = sz at *
          go_wp2_with fail
          refine (unhide A3).mono ?_
          rintro e w8 ⟨rfl, rfl⟩
          go_wp2
          go_ret
          exact ⟨rfl, BF.alloc (by have := BF.size; simp at this ⊢; omega) _⟩
      · clear hgo
        go_wp2_with fail
        refine (unhide A1).mono ?_
        rintro e w5 ⟨rfl, rfl⟩
        go_wp2_with fail
        refine (told_any _).mono ?_
        rintro e w6 ⟨rfl, b6⟩
        have B6 := bthen B1 b6
        have sc6 := sc.below B6
        have sb6 := sb.below B6
        have sd6 := sd.below B6
        have A2 := hide (sum_one w6 w6.heap.size rfl _ xs sc6)
        go_wp2_with fail
        refine (unhide A2).mono ?_
        rintro e w7 ⟨rfl, rfl⟩
        have B7 := (Below.refl w6.heap.size w6).alloc (Nat.le_refl _) (.cells #[.slice (some ⟨g1, 0, none⟩) len cap1] 22)
        have cb := (sb6.below B7).conv
        have cd := (sd6.below B7).conv
        have sd7 := sd6.below B7
        have BF := bthen B0 (bthen B6 B7)
        clear A1 A2 B1 b6 sc sb sc6 B0 B6 B7 sd
        rcases hds with heq | hne
        · subst heq
          generalize strOfNums ys = sy at *
          go_wp2
          go_ret
          exact ⟨rfl, BF⟩
        · have nd := nat_ne hne
          have hstr : strOfNums ys ≠ strOfNums zs := fun h => hne (by rw [str_inj sd7.1 sb6.1 h])
          have hstr' := str_ne' hstr
          have A3 := hide (sum_one (w6.alloc (.cells #[.slice (some ⟨g1, 0, none⟩) len cap1] 22)) (w6.heap.size + 1) (by simp) _ ys sd7)
          clear hstr hne sb6
          generalize strOfNums ys = sy at *
          generalize strOfNums zs = sz at *
          go_wp2_with fail
          refine (unhide A3).mono ?_
          rintro e w8 ⟨rfl, rfl⟩
          go_wp2
          go_ret
          exact ⟨rfl, BF.alloc (by have := BF.size; simp at this ⊢; omega) _⟩

set_option maxHeartbeats 2000000 in
theorem bits_one (i j k : Int) (pat : Nat) (hpat : pat < 4294967296) (v : Value) (zs : List Int) (w : World) (hs : Sl w v zs) (h1 : 1 ≤ zs.length) (h4 : zs.length ≤ 4096)
    (ci cj ck : Int) (hci : bits .and .i64 i 1099511627775 = ci) (hcj : bits .and .i64 j 1099511627775 = cj) (hck : bits .and .i64 k 1099511627775 = ck) (pi : 0 ≤ ci) (pj : 0 ≤ cj) (pk : 0 ≤ ck) (qi : ci ≤ 1099511627775) (qj : cj ≤ 1099511627775) (qk : ck ≤ 1099511627775)
    (I : Nat) (hI : ci % (8 * (zs.length : Int)) = I) (hJ : cj % (8 * (zs.length : Int)) = I) (hK : ck % (8 * (zs.length : Int)) = I) (lI : I < 8 * zs.length)
    :
    Calls Try.prog 4 #[v, .int .i64 i, .int .i64 j, .int .i64 k, .int .u32 (pat : Int)] w fun e w' => e = .returned (.bool true) ∧ Below w.heap.size w w' := by
  have HT := hide (Crc.one_flip zs I lI)
  obtain ⟨i0, hi, hz0, hz1, hz2⟩ := info_parts Try.info5
  have hbt := hs.1
  have HP0 := hide (Crc.Pat.zero zs I pat)
  have e0 : ((zs.length : Int) == 0) = false := beq_eq_false_iff_ne.2 (by omega)
  have hsrc := hs.src
  rcases hsrc with ⟨hz, _⟩ | ⟨ad, cap, rfl, hc⟩
  · rw [hz] at h1; simp at h1
  generalize hlen : zs.length = len at *
  have HL := hide hlen
  clear hlen
  go_enter Try.func4, Try.ntmps4
  go_wp2_with (at_builtin; refine wpList_append_own _ rfl (.tmp 26) (.tmp 27) 22 rfl w.heap.size 5 i0 (.int .u8 0) 1 1 Try.underlying22 hi hz0 hz1 hz2 rfl (by decide) _ _ _ rfl (World.ownsRow_nil _ _ _ _) ad len cap (zs.map (Value.int .u8)) rfl (by have := unhide HL; simp; omega) hc (ints_one zs) (by unfold maxLen; omega) (by omega) (Nat.le_refl _) ?_)
  intro v1 w1 o1 gr1 _
  have b1 : Below w.heap.size w w1 := (Below.refl _ _).grown gr1 (Nat.le_refl _) (fun k hk => by simp [Value.ownBlock] at hk)
  obtain ⟨g1, cap1, hv1, kc1, _⟩ := own_shape' o1 (by omega)
  rw [hv1] at o1 ⊢
  have hcw1 : ∀ jj u, (zs.map (Value.int .u8))[jj]? = some u → w1.cell? (ad.add jj) = some u := fun jj u hj => gr1.cell (hc jj u hj) (by simp [Value.ownBlock])
  clear hv1
  go_wp2_with (at_builtin; refine wpList_append_own _ rfl (.tmp 29) (.tmp 30) 22 rfl w1.heap.size 5 i0 (.int .u8 0) 1 1 Try.underlying22 hi hz0 hz1 hz2 rfl (by decide) _ _ _ rfl (World.ownsRow_nil _ _ _ _) ad len cap (zs.map (Value.int .u8)) rfl (by have := unhide HL; simp; omega) hcw1 (ints_one zs) (by unfold maxLen; omega) (by omega) (Nat.le_refl _) ?_)
  intro v2 w2 o2 gr2 _
  obtain ⟨g2, cap2, hv2, kc2, _⟩ := own_shape' o2 (by omega)
  rw [hv2] at o2 ⊢
  have lt1 := o1.lt g1 rfl
  have lt2 := o2.lt g2 rfl
  have S2 : St w w2 g1 cap1 g2 cap2 len zs zs := by
    have hl := unhide HL
    exact ⟨o1.kept gr2 (.inr (by simp [Value.ownBlock])), own_lower o2 b1.size, by omega, b1.grown gr2 b1.size (fun k hk => by simp [Value.ownBlock] at hk), hbt, hbt, hl, hl⟩
  clear hv2 o1 o2 gr1 gr2 hcw1 hc lt1 lt2 b1
  have F1 := hide (S2.flip1 I lI h4)
  go_wp2_with fail
  refine (unhide F1).mono ?_
  rintro e w3 ⟨rfl, S3⟩
  clear F1 S2
  go_wp2
  go_quiet (fail)
  have S3 := S3.drew nq
  generalize w3.drewN nq = w3' at *
  generalize Crc.flipL zs I = xs at *
  go_wp2
  try rw [hK]
  try rw [hJ]
  try rw [hI]
  go_loopw [15] (fun m wr => ∃ (t : Nat) (ys : List Int), t ≤ 32 ∧ m = .int .i64 t ∧ St w wr g1 cap1 g2 cap2 len xs ys ∧ Crc.Pat zs ys I t pat) (fun m _ => 32 - (intOf m).toNat)
  case atStart => exact ⟨0, zs, by omega, rfl, S3, unhide HP0⟩
  case round =>
    clear S3 HP0
    obtain ⟨t, ys, ht, rfl, SR, hp⟩ := hrel
    have HPT := hide hp
    clear hp
    by_cases hgo : t < 32 ∧ I + t < 8 * len
    · obtain ⟨ht2, ht3⟩ := hgo
      have hpb := pat_bit pat t hpat
      rcases Nat.mod_two_eq_zero_or_one (pat / 2 ^ t) with hb | hb
      · have NP := (unhide HPT).skip hb
        rw [hb] at hpb
        have hpb' : bits .and .u32 ((pat : Int) / 2 ^ t) 1 = 0 := hpb
        clear hpb hb
        go_wp2
        go_roundw
        case rel => exact ⟨t + 1, ys, by omega, by go_num, SR, NP⟩
        case measure => simp [intOf]; omega
      · have NP := (unhide HPT).turn hb (by rw [unhide HL]; exact ht3)
        rw [hb] at hpb
        have hpb' : bits .and .u32 ((pat : Int) / 2 ^ t) 1 = 1 := hpb
        have FR := hide (SR.flip2 (I + t) ht3 h4)
        clear hpb hb
        go_wp2_with fail
        refine (unhide FR).mono ?_
        rintro e w9 ⟨rfl, S9⟩
        go_wp2
        go_roundw
        case rel => exact ⟨t + 1, _, by omega, by go_num, S9, NP⟩
        case measure => simp [intOf]; omega
    · have hds := (unhide HPT).tells hpat
      have sb := hs.below SR.2.2.2.1
      have sc := SR.sl1 h4
      have sd := SR.sl2 h4
      have B0 := SR.2.2.2.1
      have nx := nat_ne (unhide HT)
      rw [← unhide HL] at sb sc sd
      have A1 := hide (sum_one wr wr.heap.size rfl _ zs sb)
      have B1 := (Below.refl wr.heap.size wr).alloc (Nat.le_refl _) (.cells #[.slice (some ad) zs.length cap] 22)
      rw [unhide HL] at *
      clear HPT HT SR
      by_cases ht2 : t < 32
      · have ht3 : 8 * len ≤ I + t := by omega
        clear hgo
        go_wp2_with fail
        refine (unhide A1).mono ?_
        rintro e w5 ⟨rfl, rfl⟩
        go_wp2_with fail
        refine (told_any _).mono ?_
        rintro e w6 ⟨rfl, b6⟩
        have B6 := bthen B1 b6
        have sc6 := sc.below B6
        have sb6 := sb.below B6
        have sd6 := sd.below B6
        have A2 := hide (sum_one w6 w6.heap.size rfl _ xs sc6)
        go_wp2_with fail
        refine (unhide A2).mono ?_
        rintro e w7 ⟨rfl, rfl⟩
        have B7 := (Below.refl w6.heap.size w6).alloc (Nat.le_refl _) (.cells #[.slice (some ⟨g1, 0, none⟩) len cap1] 22)
        have cb := (sb6.below B7).conv
        have cd := (sd6.below B7).conv
        have sd7 := sd6.below B7
        have BF := bthen B0 (bthen B6 B7)
        clear A1 A2 B1 b6 sc sb sc6 B0 B6 B7 sd
        rcases hds with heq | hne
        · subst heq
          generalize strOfNums ys = sy at *
          go_wp2
          go_ret
          exact ⟨rfl, BF⟩
        · have nd := nat_ne hne
          have hstr : strOfNums ys ≠ strOfNums zs := fun h => hne (by rw [str_inj sd7.1 sb6.1 h])
          have hstr' := str_ne' hstr
          have A3 := hide (sum_one (w6.alloc (.cells #[.slice (some ⟨g1, 0, none⟩) len cap1] 22)) (w6.heap.size + 1) (by simp) _ ys sd7)
          clear hstr hne sb6
          generalize strOfNums ys = sy at *
          generalize strOfNums zs = sz at *
          go_wp2_with fail
          refine (unhide A3).mono ?_
          rintro e w8 ⟨rfl, rfl⟩
          go_wp2
          go_ret
          exact ⟨rfl, BF.alloc (by have := BF.size; simp at this ⊢; omega) _⟩
      · clear hgo
        go_wp2_with fail
        refine (unhide A1).mono ?_
        rintro e w5 ⟨rfl, rfl⟩
        go_wp2_with fail
        refine (told_any _).mono ?_
        rintro e w6 ⟨rfl, b6⟩
        have B6 := bthen B1 b6
        have sc6 := sc.below B6
        have sb6 := sb.below B6
        have sd6 := sd.below B6
        have A2 := hide (sum_one w6 w6.heap.size rfl _ xs sc6)
        go_wp2_with fail
        refine (unhide A2).mono ?_
        rintro e w7 ⟨rfl, rfl⟩
        have B7 := (Below.refl w6.heap.size w6).alloc (Nat.le_refl _) (.cells #[.slice (some ⟨g1, 0, none⟩) len cap1] 22)
        have cb := (sb6.below B7).conv
        have cd := (sd6.below B7).conv
        have sd7 := sd6.below B7
        have BF := bthen B0 (bthen B6 B7)
        clear A1 A2 B1 b6 sc sb sc6 B0 B6 B7 sd
        rcases hds with heq | hne
        · subst heq
          generalize strOfNums ys = sy at *
          go_wp2
          go_ret
          exact ⟨rfl, BF⟩
        · have nd := nat_ne hne
          have hstr : strOfNums ys ≠ strOfNums zs := fun h => hne (by rw [str_inj sd7.1 sb6.1 h])
          have hstr' := str_ne' hstr
          have A3 := hide (sum_one (w6.alloc (.cells #[.slice (some ⟨g1, 0, none⟩) len cap1] 22)) (w6.heap.size + 1) (by simp) _ ys sd7)
          clear hstr hne sb6
          generalize strOfNums ys = sy at *
          generalize strOfNums zs = sz at *
          go_wp2_with fail
          refine (unhide A3).mono ?_
          rintro e w8 ⟨rfl, rfl⟩
          go_wp2
          go_ret
          exact ⟨rfl, BF.alloc (by have := BF.size; simp at this ⊢; omega) _⟩

theorem bne_t {a b : Nat} (h : a ≠ b) : (((a : Nat) : Int) != ((b : Nat) : Int)) = true := by rw [bne_iff_ne]; omega
theorem bne_f {a b : Nat} (h : a = b) : (((a : Nat) : Int) != ((b : Nat) : Int)) = false := by subst h; simp

set_option maxHeartbeats 400000 in
theorem wireBits_any (i j k : Int) (pat : Nat) (hpat : pat < 4294967296) (v : Value) (zs : List Int) (w : World) (hs : Sl w v zs) :
    Calls Try.prog 4 #[v, .int .i64 i, .int .i64 j, .int .i64 k, .int .u32 (pat : Int)] w fun e w' => e = .returned (.bool true) ∧ Below w.heap.size w w' := by
  have hl := hs.len
  by_cases h0 : zs.length = 0
  · obtain ⟨ao, cap, rfl, _, _⟩ := hs.shape
    have h0' : ((zs.length : Int) == 0) = true := beq_iff_eq.2 (by omega)
    clear h0
    go_enter Try.func4, Try.ntmps4
    go_wp2_with fail
    refine (told_any _).mono ?_
    rintro e w1 ⟨rfl, b1⟩
    go_wp2
    go_ret
    exact ⟨rfl, b1⟩
  by_cases h4 : 4096 < zs.length
  · obtain ⟨ao, cap, rfl, _, _⟩ := hs.shape
    have h0' : ((zs.length : Int) == 0) = false := beq_eq_false_iff_ne.2 (by omega)
    clear h0
    go_enter Try.func4, Try.ntmps4
    go_wp2_with fail
    refine (told_any _).mono ?_
    rintro e w1 ⟨rfl, b1⟩
    go_wp2
    go_ret
    exact ⟨rfl, b1⟩
  obtain ⟨ci, hci, pi, qi⟩ := and_forty i
  obtain ⟨cj, hcj, pj, qj⟩ := and_forty j
  obtain ⟨ck, hck, pk, qk⟩ := and_forty k
  obtain ⟨I, hI, lI⟩ := mod_bits ci zs.length (by omega)
  obtain ⟨J, hJ, lJ⟩ := mod_bits cj zs.length (by omega)
  obtain ⟨K, hK, lK⟩ := mod_bits ck zs.length (by omega)
  by_cases hJI : J = I
  · by_cases hKI : K = I
    · subst hJI
      subst hKI
      exact bits_one i j k pat hpat v zs w hs (by omega) (by omega) ci cj ck hci hcj hck pi pj pk qi qj qk _ hI hJ hK lI
    · exact bits_ji i j k pat hpat v zs w hs (by omega) (by omega) ci cj ck hci hcj hck pi pj pk qi qj qk I J K hI hJ hK lI lK (by omega) (bne_f hJI) (bne_t hKI) (bne_t (by omega))
  · by_cases hKI : K = I
    · subst hKI
      exact bits_ki i j k pat hpat v zs w hs (by omega) (by omega) ci cj ck hci hcj hck pi pj pk qi qj qk _ J hI hJ hK lI lJ (by omega) (bne_t hJI)
    · by_cases hKJ : K = J
      · subst hKJ
        exact bits_kj i j k pat hpat v zs w hs (by omega) (by omega) ci cj ck hci hcj hck pi pj pk qi qj qk I _ hI hJ hK lI lJ (by omega) (bne_t hJI)
      · exact bits_three i j k pat hpat v zs w hs (by omega) (by omega) ci cj ck hci hcj hck pi pj pk qi qj qk I J K hI hJ hK lI lJ lK (bne_t hJI) (bne_t hKI) (bne_t hKJ)
end Go.Proofs.Ytmdbdfigpccbpab
