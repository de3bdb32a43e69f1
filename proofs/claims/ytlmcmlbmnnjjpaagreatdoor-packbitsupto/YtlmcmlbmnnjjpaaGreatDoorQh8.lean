/- PackBits. -/
import Derived.Test.YtlmcmlbmnnjjpaaGreatDoorQg8
import Derived.Test.YtlmcmlbmnnjjpaaGreatDoorFlip8
namespace Go.Proofs.YtlmcmlbmnnjjpaaGreatDoor
open Go.RowKit
open Wi

set_option maxRecDepth 8000 in
set_option maxHeartbeats 8000000 in
theorem bits_a (v : Value) (rs : List Rec) (i j k : Int) (pat : Nat) (hpat : pat < 4294967296) (w : World) (hgl : Glob w) (hv : Rcs w v rs) (he : (Pk.pack (rs.take 60)).2.2 = 0) (bs : List Int) (hbs : (Pk.pack (rs.take 60)).1 = bs)
    (ci cj ck : Int) (hci : bits .and .i64 i 1099511627775 = ci) (hcj : bits .and .i64 j 1099511627775 = cj) (hck : bits .and .i64 k 1099511627775 = ck) (pi : 0 ≤ ci) (pj : 0 ≤ cj) (pk : 0 ≤ ck)
    (I J K : Nat) (hI : ci % (8 * (bs.length : Int)) = I) (hJ : cj % (8 * (bs.length : Int)) = J) (hK : ck % (8 * (bs.length : Int)) = K) (lI : I < 8 * bs.length) (lJ : J < 8 * bs.length) (lK : K < 8 * bs.length)
    (eJ : ((J : Int) != (I : Int)) = true) (eK : ((K : Int) != (I : Int)) = true) (eL : ((K : Int) != (J : Int)) = true) : Calls Tryz.prog 6 #[v, .int .i64 i, .int .i64 j, .int .i64 k, .int .u32 (pat : Int)] w (Tells8 w true) := by
  have HGL : Hid (∀ W, Below w.heap.size w W → Glob W) := fun W h => hgl.on h
  have K1 := hide (few8_any v rs 60 w hv (by omega))
  have HFIT : Hid (∀ r ∈ rs.take 60, RecFit r) := fun r hr => hv.2.1 r (List.mem_of_mem_take hr)
  have KT : Hid (∀ W, Below w.heap.size w W → Calls Tryz.prog 11 #[] W (Tells8 W true)) := fun W h => told8_any W (hgl.on h)
  obtain ⟨ao0, cap0, rfl, _, _⟩ := hv.shape
  have hl60 : (rs.take 60).length ≤ 60 := List.length_take_le _ _
  have h5000 := pack_len he hl60
  have hsealed := pack_sealed he
  have hok := pack_ok he
  have h10 : 10 ≤ (Pk.pack (rs.take 60)).1.length := by rw [hok.1]; exact hok.2.2.1
  rw [hbs] at h5000 hsealed h10
  clear hok
  have KP : Hid (∀ W v1 ps, Below w.heap.size w W → Rown W w.heap.size v1 ps → ps.map (·.1) = rs.take 60 → Calls Tryz.prog 9 #[v1] W (PackB W (Pk.pack (rs.take 60)))) := fun W v1 ps hW hR hm => by
    refine pack_any v1 _ W ((unhide HGL) W hW) ?_
    rw [← hm]
    have hpl : ps.length = (rs.take 60).length := by rw [← hm, List.length_map]
    refine hR.rcs (by omega) (fun p hp => (unhide HFIT) _ ?_)
    rw [← hm]
    exact List.mem_map.2 ⟨p, hp, rfl⟩
  have KU : Hid (∀ W v zs, Below w.heap.size w W → Sl W v zs → Calls Tryz.prog 15 #[v] W (UnpB W (Pk.unpack zs))) := fun W v zs hW hs => unpack_any v zs W ((unhide HGL) W hW) hs
  have hx : Pk.pack (rs.take 60) = (bs, (Pk.pack (rs.take 60)).2.1, 0) := by rw [← hbs, ← he]
  rw [hx] at KP
  have HT := hide (Crc.three_flips bs I J K lI lJ lK)
  have HP0 := hide (Crc.Pat.zero bs K pat)
  clear hgl hv HGL HFIT he hx hbs
  generalize (Pk.pack (rs.take 60)).2.1 = qa at *
  obtain ⟨i0, hi, hz0, hz1, hz2⟩ := info_parts Tryz.info5
  have hzl : ((bs.length : Int) == 0) = false := by rw [beq_eq_false_iff_ne]; omega
  have h8n : ¬ (8 * (bs.length : Int) = 0) := by omega
  have hw8 : IntKind.i64.wrap (8 * (bs.length : Int)) = 8 * (bs.length : Int) := by rw [IntKind.wrap_i64]; omega
  have htI : ci.tmod (8 * (bs.length : Int)) = (I : Int) := by rw [Int.tmod_eq_emod_of_nonneg pi]; exact hI
  have htJ : cj.tmod (8 * (bs.length : Int)) = (J : Int) := by rw [Int.tmod_eq_emod_of_nonneg pj]; exact hJ
  have htK : ck.tmod (8 * (bs.length : Int)) = (K : Int) := by rw [Int.tmod_eq_emod_of_nonneg pk]; exact hK
  go_enter Tryz.func6, Tryz.ntmps6
  go_wp2_with fail
  refine (unhide K1).mono ?_
  rintro e1 w1 ⟨v1, ps, rfl, hps, hR, hb1⟩
  have K2 := hide ((unhide KP) w1 v1 ps hb1 hR hps)
  obtain ⟨lao, lcap, hvl, _⟩ := hR.shape
  subst hvl
  clear K1 KP hR hps
  go_wp2_with fail
  refine (unhide K2).mono ?_
  rintro e2 w2 ⟨v2, rfl, hown, hb2⟩
  have hB2 := bthen hb1 hb2
  clear K2 hb1 hb2
  have hs := hown.sl
  have hbt := hs.1
  have hcap2 := hs.shape
  rcases hs.src with ⟨hz, _⟩ | ⟨ad, cap, hve, hc⟩
  · have hz9 : bs = [] := hz
    rw [hz9] at h10; simp at h10
  subst hve
  have HSL := hide hs
  generalize hlen : bs.length = len at *
  have HL := hide hlen
  clear hlen hown hs hcap2
  go_wp2_with (at_builtin; refine wpList_append_own _ rfl (.tmp 43) (.tmp 44) 24 rfl w2.heap.size 5 i0 (.int .u8 0) 1 1 Tryz.underlying24 hi hz0 hz1 hz2 rfl (by decide) _ _ _ rfl (World.ownsRow_nil _ _ _ _) ad len cap (bs.map (Value.int .u8)) rfl (by rw [List.length_map, unhide HL]; simp) hc (ints_one .u8 _) (by unfold maxLen; omega) (by omega) (by omega) ?_)
  intro v3 w3 o3 gr3 _
  have b3 : Below w2.heap.size w2 w3 := (Below.refl _ _).grown gr3 (Nat.le_refl _) (fun k hk => by simp [Value.ownBlock] at hk)
  have o3' : w3.ownsRow w2.heap.size 5 1 v3 len (bs.map (Value.int .u8)) := by simpa using o3
  obtain ⟨g1, cap1, hv3, kc1, _⟩ := own_shape o3' (by omega)
  subst hv3
  have hcw : ∀ jj u, (bs.map (Value.int .u8))[jj]? = some u → w3.cell? (ad.add jj) = some u := fun jj u hj => gr3.cell (hc jj u hj) (by simp [Value.ownBlock])
  clear o3
  try simp only [Nat.zero_add]
  go_wp2_with (at_builtin; refine wpList_append_own _ rfl (.tmp 46) (.tmp 47) 24 rfl w3.heap.size 5 i0 (.int .u8 0) 1 1 Tryz.underlying24 hi hz0 hz1 hz2 rfl (by decide) _ _ _ rfl (World.ownsRow_nil _ _ _ _) ad len cap (bs.map (Value.int .u8)) rfl (by rw [List.length_map, unhide HL]; simp) hcw (ints_one .u8 _) (by unfold maxLen; omega) (by omega) (by omega) ?_)
  intro v4 w4 o4 gr4 _
  have o4' : w4.ownsRow w3.heap.size 5 1 v4 len (bs.map (Value.int .u8)) := by simpa using o4
  obtain ⟨g2, cap2, hv4, kc2, _⟩ := own_shape o4' (by omega)
  subst hv4
  have lt1 := o3'.lt g1 rfl
  have lt2 := o4'.lt g2 rfl
  have S4 : St w2 w4 g1 cap1 g2 cap2 len bs bs := by
    have hl := unhide HL
    exact ⟨o3'.kept gr4 (.inr (by simp [Value.ownBlock])), own_lower o4' b3.size, by omega, b3.grown gr4 b3.size (fun k hk => by simp [Value.ownBlock] at hk), hbt, hbt, hl, hl⟩
  clear o4 o3' o4' gr3 gr4 hcw hc lt1 lt2 b3
  try simp only [Nat.zero_add]
  go_wp2
  go_quiet (fail)
  have S4 := S4.drew nq
  generalize w4.drewN nq = w5 at *
  have F4 := hide (S4.flip1 I lI h5000)
  go_wp2_with fail
  refine (unhide F4).mono ?_
  rintro e w6 ⟨rfl, S6⟩
  clear F4 S4
  have F6 := hide (S6.flip1 J lJ h5000)
  go_wp2_with fail
  refine (unhide F6).mono ?_
  rintro e w7 ⟨rfl, S7⟩
  clear F6 S6
  have F7 := hide (S7.flip1 K lK h5000)
  go_wp2_with fail
  refine (unhide F7).mono ?_
  rintro e w8 ⟨rfl, S8⟩
  clear F7 S7
  generalize Crc.flipL (Crc.flipL (Crc.flipL bs I) J) K = xs at *
  go_wp2
  go_loopw [20] (fun m wr => ∃ (t : Nat) (ys : List Int), t ≤ 32 ∧ m = .int .i64 t ∧ St w2 wr g1 cap1 g2 cap2 len xs ys ∧ Crc.Pat bs ys K t pat) (fun m _ => 32 - (intOf m).toNat)
  case atStart => exact ⟨0, bs, by omega, rfl, S8, unhide HP0⟩
  case round =>
    clear S8 HP0
    obtain ⟨t, ys, ht, rfl, SR, hp⟩ := hrel
    have HPT := hide hp
    clear hp
    by_cases hgo : t < 32 ∧ K + t < 8 * len
    · obtain ⟨ht2, ht3⟩ := hgo
      have hpb := pat_bit pat t hpat
      rcases Nat.mod_two_eq_zero_or_one (pat / 2 ^ t) with hb | hb
      · have NP := (unhide HPT).skip hb
        rw [hb] at hpb
        have hpb' : bits .and .u32 ((pat : Int) / 2 ^ t) 1 = 0 := hpb
        clear hpb hb
        go_wp2
        go_roundw
        case rel => exact ⟨t + 1, ys, by omega, by go_num, SR, NP⟩
        case measure => simp [intOf]; omega
      · have NP := (unhide HPT).turn hb (by rw [unhide HL]; exact ht3)
        rw [hb] at hpb
        have hpb' : bits .and .u32 ((pat : Int) / 2 ^ t) 1 = 1 := hpb
        have FR := hide (SR.flip2 (K + t) ht3 h5000)
        clear hpb hb
        go_wp2_with fail
        refine (unhide FR).mono ?_
        rintro e w9 ⟨rfl, S9⟩
        go_wp2
        go_roundw
        case rel => exact ⟨t + 1, _, by omega, by go_num, S9, NP⟩
        case measure => simp [intOf]; omega
    · have hds := (unhide HPT).tells hpat
      have sc := SR.sl1 h5000
      have sd := SR.sl2 h5000
      have B0 := SR.2.2.2.1
      have hBr := bthen hB2 B0
      have HSB : Hid (∀ W, Below wr.heap.size wr W → Sl W (.slice (some ad) len cap) bs) := fun W h => ((unhide HSL).below B0).below h
      obtain ⟨ua, uf, hne, huc⟩ := turned_no hbt sc.1 (by rw [unhide HL]; exact hsealed) (unhide HT)
      have A1 := (unhide KU) wr _ xs hBr sc
      rw [huc] at A1
      have A1 := hide A1
      have hnf : (uf != 0) = true := by simpa using hne
      have HD : Hid (∀ W, Below w.heap.size w W → Sl W (.slice (some ⟨g2, 0, none⟩) len cap2) ys → Calls Tryz.prog 15 #[.slice (some ⟨g2, 0, none⟩) len cap2] W (fun e w' => ∃ (ao : Option Addr) (cp : Nat × Nat) (a f : Int), (ys = bs ∨ (f != 0) = true) ∧ e = .returned (.tuple #[.slice ao cp.1 cp.2, .int .i64 a, .int .i64 f]) ∧ Below W.heap.size W w')) := fun W hW hsW => by
        refine ((unhide KU) W _ ys hW hsW).mono ?_
        rintro e w' ⟨vl, pl, rfl, hR, hps, hb⟩
        obtain ⟨lo, lc, rfl, _⟩ := hR.shape
        refine ⟨lo, (pl.length, lc), _, _, ?_, rfl, hb⟩
        rcases hds with heq | hns
        · exact .inl heq
        · obtain ⟨a2, f2, hf2, hu2⟩ := turned_no hbt sd.1 (by rw [unhide HL]; exact hsealed) hns
          right
          rw [hu2]
          simpa using hf2
      clear HPT HT SR hds hne huc KU
      by_cases ht2 : t < 32
      · have ht3 : 8 * len ≤ K + t := by omega
        clear hgo
        go_wp2_with fail
        refine (unhide A1).mono ?_
        rintro e7 w7 ⟨vl, pl, rfl, hR7, hps7, hb7⟩
        obtain ⟨lo7, lc7, hv7, _⟩ := hR7.shape
        subst hv7
        have hB7 := bthen hBr hb7
        have A2 := hide ((unhide HD) w7 hB7 (sd.below hb7))
        clear A1 hR7 hps7
        go_wp2_with fail
        refine (unhide A2).mono ?_
        rintro e8 w8 ⟨lo8, cp8, a8, f8, hor, rfl, hb8⟩
        have hB8 := bthen hB7 hb8
        have A3 := hide ((unhide KT) w8 hB8)
        clear A2
        go_wp2_with fail
        refine (unhide A3).mono ?_
        rintro e9 w9 ⟨rfl, hb9⟩
        have h79 := bthen (bthen hb7 hb8) hb9
        have cb := ((unhide HSB) w9 h79).conv
        have cd := (sd.below h79).conv
        have HF : Tells8 w true (.returned (.bool true)) w9 := ⟨rfl, bthen hB8 hb9⟩
        clear A3 HD HSB sc sd hb7 hb8 hb9 hB7 hB8 h79 KT
        rcases hor with heq | hf8
        · subst heq
          generalize strOfNums ys = sy at *
          by_cases hf8 : f8 = 0
          · have hq8 : (f8 != 0) = false := by simp [hf8]
            clear hf8
            go_wp2
            go_ret
            exact HF
          · have hq8 : (f8 != 0) = true := by simpa using hf8
            clear hf8
            go_wp2
            go_ret
            exact HF
        · go_wp2
          go_ret
          exact HF
      · have ht32 : t = 32 := by omega
        subst ht32
        clear hgo
        go_wp2_with fail
        refine (unhide A1).mono ?_
        rintro e7 w7 ⟨vl, pl, rfl, hR7, hps7, hb7⟩
        obtain ⟨lo7, lc7, hv7, _⟩ := hR7.shape
        subst hv7
        have hB7 := bthen hBr hb7
        have A2 := hide ((unhide HD) w7 hB7 (sd.below hb7))
        clear A1 hR7 hps7
        go_wp2_with fail
        refine (unhide A2).mono ?_
        rintro e8 w8 ⟨lo8, cp8, a8, f8, hor, rfl, hb8⟩
        have hB8 := bthen hB7 hb8
        have A3 := hide ((unhide KT) w8 hB8)
        clear A2
        go_wp2_with fail
        refine (unhide A3).mono ?_
        rintro e9 w9 ⟨rfl, hb9⟩
        have h79 := bthen (bthen hb7 hb8) hb9
        have cb := ((unhide HSB) w9 h79).conv
        have cd := (sd.below h79).conv
        have HF : Tells8 w true (.returned (.bool true)) w9 := ⟨rfl, bthen hB8 hb9⟩
        clear A3 HD HSB sc sd hb7 hb8 hb9 hB7 hB8 h79 KT
        rcases hor with heq | hf8
        · subst heq
          generalize strOfNums ys = sy at *
          by_cases hf8 : f8 = 0
          · have hq8 : (f8 != 0) = false := by simp [hf8]
            clear hf8
            go_wp2
            go_ret
            exact HF
          · have hq8 : (f8 != 0) = true := by simpa using hf8
            clear hf8
            go_wp2
            go_ret
            exact HF
        · go_wp2
          go_ret
          exact HF
set_option maxRecDepth 8000 in
set_option maxHeartbeats 8000000 in
theorem bits_b (v : Value) (rs : List Rec) (i j k : Int) (pat : Nat) (hpat : pat < 4294967296) (w : World) (hgl : Glob w) (hv : Rcs w v rs) (he : (Pk.pack (rs.take 60)).2.2 = 0) (bs : List Int) (hbs : (Pk.pack (rs.take 60)).1 = bs)
    (ci cj ck : Int) (hci : bits .and .i64 i 1099511627775 = ci) (hcj : bits .and .i64 j 1099511627775 = cj) (hck : bits .and .i64 k 1099511627775 = ck) (pi : 0 ≤ ci) (pj : 0 ≤ cj) (pk : 0 ≤ ck)
    (I J K : Nat) (hI : ci % (8 * (bs.length : Int)) = I) (hJ : cj % (8 * (bs.length : Int)) = J) (hK : ck % (8 * (bs.length : Int)) = K) (lI : I < 8 * bs.length) (lJ : J < 8 * bs.length) (lK : K < 8 * bs.length)
    (nJ : I ≠ J) (eJ : ((J : Int) != (I : Int)) = true) (eK : ((K : Int) != (I : Int)) = false) : Calls Tryz.prog 6 #[v, .int .i64 i, .int .i64 j, .int .i64 k, .int .u32 (pat : Int)] w (Tells8 w true) := by
  have HGL : Hid (∀ W, Below w.heap.size w W → Glob W) := fun W h => hgl.on h
  have K1 := hide (few8_any v rs 60 w hv (by omega))
  have HFIT : Hid (∀ r ∈ rs.take 60, RecFit r) := fun r hr => hv.2.1 r (List.mem_of_mem_take hr)
  have KT : Hid (∀ W, Below w.heap.size w W → Calls Tryz.prog 11 #[] W (Tells8 W true)) := fun W h => told8_any W (hgl.on h)
  obtain ⟨ao0, cap0, rfl, _, _⟩ := hv.shape
  have hl60 : (rs.take 60).length ≤ 60 := List.length_take_le _ _
  have h5000 := pack_len he hl60
  have hsealed := pack_sealed he
  have hok := pack_ok he
  have h10 : 10 ≤ (Pk.pack (rs.take 60)).1.length := by rw [hok.1]; exact hok.2.2.1
  rw [hbs] at h5000 hsealed h10
  clear hok
  have KP : Hid (∀ W v1 ps, Below w.heap.size w W → Rown W w.heap.size v1 ps → ps.map (·.1) = rs.take 60 → Calls Tryz.prog 9 #[v1] W (PackB W (Pk.pack (rs.take 60)))) := fun W v1 ps hW hR hm => by
    refine pack_any v1 _ W ((unhide HGL) W hW) ?_
    rw [← hm]
    have hpl : ps.length = (rs.take 60).length := by rw [← hm, List.length_map]
    refine hR.rcs (by omega) (fun p hp => (unhide HFIT) _ ?_)
    rw [← hm]
    exact List.mem_map.2 ⟨p, hp, rfl⟩
  have KU : Hid (∀ W v zs, Below w.heap.size w W → Sl W v zs → Calls Tryz.prog 15 #[v] W (UnpB W (Pk.unpack zs))) := fun W v zs hW hs => unpack_any v zs W ((unhide HGL) W hW) hs
  have hx : Pk.pack (rs.take 60) = (bs, (Pk.pack (rs.take 60)).2.1, 0) := by rw [← hbs, ← he]
  rw [hx] at KP
  have HT := hide (Crc.two_flips bs I J (by omega) lI lJ nJ)
  have HP0 := hide (Crc.Pat.zero bs K pat)
  clear hgl hv HGL HFIT he hx hbs
  generalize (Pk.pack (rs.take 60)).2.1 = qa at *
  obtain ⟨i0, hi, hz0, hz1, hz2⟩ := info_parts Tryz.info5
  have hzl : ((bs.length : Int) == 0) = false := by rw [beq_eq_false_iff_ne]; omega
  have h8n : ¬ (8 * (bs.length : Int) = 0) := by omega
  have hw8 : IntKind.i64.wrap (8 * (bs.length : Int)) = 8 * (bs.length : Int) := by rw [IntKind.wrap_i64]; omega
  have htI : ci.tmod (8 * (bs.length : Int)) = (I : Int) := by rw [Int.tmod_eq_emod_of_nonneg pi]; exact hI
  have htJ : cj.tmod (8 * (bs.length : Int)) = (J : Int) := by rw [Int.tmod_eq_emod_of_nonneg pj]; exact hJ
  have htK : ck.tmod (8 * (bs.length : Int)) = (K : Int) := by rw [Int.tmod_eq_emod_of_nonneg pk]; exact hK
  go_enter Tryz.func6, Tryz.ntmps6
  go_wp2_with fail
  refine (unhide K1).mono ?_
  rintro e1 w1 ⟨v1, ps, rfl, hps, hR, hb1⟩
  have K2 := hide ((unhide KP) w1 v1 ps hb1 hR hps)
  obtain ⟨lao, lcap, hvl, _⟩ := hR.shape
  subst hvl
  clear K1 KP hR hps
  go_wp2_with fail
  refine (unhide K2).mono ?_
  rintro e2 w2 ⟨v2, rfl, hown, hb2⟩
  have hB2 := bthen hb1 hb2
  clear K2 hb1 hb2
  have hs := hown.sl
  have hbt := hs.1
  have hcap2 := hs.shape
  rcases hs.src with ⟨hz, _⟩ | ⟨ad, cap, hve, hc⟩
  · have hz9 : bs = [] := hz
    rw [hz9] at h10; simp at h10
  subst hve
  have HSL := hide hs
  generalize hlen : bs.length = len at *
  have HL := hide hlen
  clear hlen hown hs hcap2
  go_wp2_with (at_builtin; refine wpList_append_own _ rfl (.tmp 43) (.tmp 44) 24 rfl w2.heap.size 5 i0 (.int .u8 0) 1 1 Tryz.underlying24 hi hz0 hz1 hz2 rfl (by decide) _ _ _ rfl (World.ownsRow_nil _ _ _ _) ad len cap (bs.map (Value.int .u8)) rfl (by rw [List.length_map, unhide HL]; simp) hc (ints_one .u8 _) (by unfold maxLen; omega) (by omega) (by omega) ?_)
  intro v3 w3 o3 gr3 _
  have b3 : Below w2.heap.size w2 w3 := (Below.refl _ _).grown gr3 (Nat.le_refl _) (fun k hk => by simp [Value.ownBlock] at hk)
  have o3' : w3.ownsRow w2.heap.size 5 1 v3 len (bs.map (Value.int .u8)) := by simpa using o3
  obtain ⟨g1, cap1, hv3, kc1, _⟩ := own_shape o3' (by omega)
  subst hv3
  have hcw : ∀ jj u, (bs.map (Value.int .u8))[jj]? = some u → w3.cell? (ad.add jj) = some u := fun jj u hj => gr3.cell (hc jj u hj) (by simp [Value.ownBlock])
  clear o3
  try simp only [Nat.zero_add]
  go_wp2_with (at_builtin; refine wpList_append_own _ rfl (.tmp 46) (.tmp 47) 24 rfl w3.heap.size 5 i0 (.int .u8 0) 1 1 Tryz.underlying24 hi hz0 hz1 hz2 rfl (by decide) _ _ _ rfl (World.ownsRow_nil _ _ _ _) ad len cap (bs.map (Value.int .u8)) rfl (by rw [List.length_map, unhide HL]; simp) hcw (ints_one .u8 _) (by unfold maxLen; omega) (by omega) (by omega) ?_)
  intro v4 w4 o4 gr4 _
  have o4' : w4.ownsRow w3.heap.size 5 1 v4 len (bs.map (Value.int .u8)) := by simpa using o4
  obtain ⟨g2, cap2, hv4, kc2, _⟩ := own_shape o4' (by omega)
  subst hv4
  have lt1 := o3'.lt g1 rfl
  have lt2 := o4'.lt g2 rfl
  have S4 : St w2 w4 g1 cap1 g2 cap2 len bs bs := by
    have hl := unhide HL
    exact ⟨o3'.kept gr4 (.inr (by simp [Value.ownBlock])), own_lower o4' b3.size, by omega, b3.grown gr4 b3.size (fun k hk => by simp [Value.ownBlock] at hk), hbt, hbt, hl, hl⟩
  clear o4 o3' o4' gr3 gr4 hcw hc lt1 lt2 b3
  try simp only [Nat.zero_add]
  go_wp2
  go_quiet (fail)
  have S4 := S4.drew nq
  generalize w4.drewN nq = w5 at *
  have F4 := hide (S4.flip1 I lI h5000)
  go_wp2_with fail
  refine (unhide F4).mono ?_
  rintro e w6 ⟨rfl, S6⟩
  clear F4 S4
  have F6 := hide (S6.flip1 J lJ h5000)
  go_wp2_with fail
  refine (unhide F6).mono ?_
  rintro e w7 ⟨rfl, S7⟩
  clear F6 S6
  generalize Crc.flipL (Crc.flipL bs I) J = xs at *
  go_wp2
  go_loopw [20] (fun m wr => ∃ (t : Nat) (ys : List Int), t ≤ 32 ∧ m = .int .i64 t ∧ St w2 wr g1 cap1 g2 cap2 len xs ys ∧ Crc.Pat bs ys K t pat) (fun m _ => 32 - (intOf m).toNat)
  case atStart => exact ⟨0, bs, by omega, rfl, S7, unhide HP0⟩
  case round =>
    clear S7 HP0
    obtain ⟨t, ys, ht, rfl, SR, hp⟩ := hrel
    have HPT := hide hp
    clear hp
    by_cases hgo : t < 32 ∧ K + t < 8 * len
    · obtain ⟨ht2, ht3⟩ := hgo
      have hpb := pat_bit pat t hpat
      rcases Nat.mod_two_eq_zero_or_one (pat / 2 ^ t) with hb | hb
      · have NP := (unhide HPT).skip hb
        rw [hb] at hpb
        have hpb' : bits .and .u32 ((pat : Int) / 2 ^ t) 1 = 0 := hpb
        clear hpb hb
        go_wp2
        go_roundw
        case rel => exact ⟨t + 1, ys, by omega, by go_num, SR, NP⟩
        case measure => simp [intOf]; omega
      · have NP := (unhide HPT).turn hb (by rw [unhide HL]; exact ht3)
        rw [hb] at hpb
        have hpb' : bits .and .u32 ((pat : Int) / 2 ^ t) 1 = 1 := hpb
        have FR := hide (SR.flip2 (K + t) ht3 h5000)
        clear hpb hb
        go_wp2_with fail
        refine (unhide FR).mono ?_
        rintro e w9 ⟨rfl, S9⟩
        go_wp2
        go_roundw
        case rel => exact ⟨t + 1, _, by omega, by go_num, S9, NP⟩
        case measure => simp [intOf]; omega
    · have hds := (unhide HPT).tells hpat
      have sc := SR.sl1 h5000
      have sd := SR.sl2 h5000
      have B0 := SR.2.2.2.1
      have hBr := bthen hB2 B0
      have HSB : Hid (∀ W, Below wr.heap.size wr W → Sl W (.slice (some ad) len cap) bs) := fun W h => ((unhide HSL).below B0).below h
      obtain ⟨ua, uf, hne, huc⟩ := turned_no hbt sc.1 (by rw [unhide HL]; exact hsealed) (unhide HT)
      have A1 := (unhide KU) wr _ xs hBr sc
      rw [huc] at A1
      have A1 := hide A1
      have hnf : (uf != 0) = true := by simpa using hne
      have HD : Hid (∀ W, Below w.heap.size w W → Sl W (.slice (some ⟨g2, 0, none⟩) len cap2) ys → Calls Tryz.prog 15 #[.slice (some ⟨g2, 0, none⟩) len cap2] W (fun e w' => ∃ (ao : Option Addr) (cp : Nat × Nat) (a f : Int), (ys = bs ∨ (f != 0) = true) ∧ e = .returned (.tuple #[.slice ao cp.1 cp.2, .int .i64 a, .int .i64 f]) ∧ Below W.heap.size W w')) := fun W hW hsW => by
        refine ((unhide KU) W _ ys hW hsW).mono ?_
        rintro e w' ⟨vl, pl, rfl, hR, hps, hb⟩
        obtain ⟨lo, lc, rfl, _⟩ := hR.shape
        refine ⟨lo, (pl.length, lc), _, _, ?_, rfl, hb⟩
        rcases hds with heq | hns
        · exact .inl heq
        · obtain ⟨a2, f2, hf2, hu2⟩ := turned_no hbt sd.1 (by rw [unhide HL]; exact hsealed) hns
          right
          rw [hu2]
          simpa using hf2
      clear HPT HT SR hds hne huc KU
      by_cases ht2 : t < 32
      · have ht3 : 8 * len ≤ K + t := by omega
        clear hgo
        go_wp2_with fail
        refine (unhide A1).mono ?_
        rintro e7 w7 ⟨vl, pl, rfl, hR7, hps7, hb7⟩
        obtain ⟨lo7, lc7, hv7, _⟩ := hR7.shape
        subst hv7
        have hB7 := bthen hBr hb7
        have A2 := hide ((unhide HD) w7 hB7 (sd.below hb7))
        clear A1 hR7 hps7
        go_wp2_with fail
        refine (unhide A2).mono ?_
        rintro e8 w8 ⟨lo8, cp8, a8, f8, hor, rfl, hb8⟩
        have hB8 := bthen hB7 hb8
        have A3 := hide ((unhide KT) w8 hB8)
        clear A2
        go_wp2_with fail
        refine (unhide A3).mono ?_
        rintro e9 w9 ⟨rfl, hb9⟩
        have h79 := bthen (bthen hb7 hb8) hb9
        have cb := ((unhide HSB) w9 h79).conv
        have cd := (sd.below h79).conv
        have HF : Tells8 w true (.returned (.bool true)) w9 := ⟨rfl, bthen hB8 hb9⟩
        clear A3 HD HSB sc sd hb7 hb8 hb9 hB7 hB8 h79 KT
        rcases hor with heq | hf8
        · subst heq
          generalize strOfNums ys = sy at *
          by_cases hf8 : f8 = 0
          · have hq8 : (f8 != 0) = false := by simp [hf8]
            clear hf8
            go_wp2
            go_ret
            exact HF
          · have hq8 : (f8 != 0) = true := by simpa using hf8
            clear hf8
            go_wp2
            go_ret
            exact HF
        · go_wp2
          go_ret
          exact HF
      · have ht32 : t = 32 := by omega
        subst ht32
        clear hgo
        go_wp2_with fail
        refine (unhide A1).mono ?_
        rintro e7 w7 ⟨vl, pl, rfl, hR7, hps7, hb7⟩
        obtain ⟨lo7, lc7, hv7, _⟩ := hR7.shape
        subst hv7
        have hB7 := bthen hBr hb7
        have A2 := hide ((unhide HD) w7 hB7 (sd.below hb7))
        clear A1 hR7 hps7
        go_wp2_with fail
        refine (unhide A2).mono ?_
        rintro e8 w8 ⟨lo8, cp8, a8, f8, hor, rfl, hb8⟩
        have hB8 := bthen hB7 hb8
        have A3 := hide ((unhide KT) w8 hB8)
        clear A2
        go_wp2_with fail
        refine (unhide A3).mono ?_
        rintro e9 w9 ⟨rfl, hb9⟩
        have h79 := bthen (bthen hb7 hb8) hb9
        have cb := ((unhide HSB) w9 h79).conv
        have cd := (sd.below h79).conv
        have HF : Tells8 w true (.returned (.bool true)) w9 := ⟨rfl, bthen hB8 hb9⟩
        clear A3 HD HSB sc sd hb7 hb8 hb9 hB7 hB8 h79 KT
        rcases hor with heq | hf8
        · subst heq
          generalize strOfNums ys = sy at *
          by_cases hf8 : f8 = 0
          · have hq8 : (f8 != 0) = false := by simp [hf8]
            clear hf8
            go_wp2
            go_ret
            exact HF
          · have hq8 : (f8 != 0) = true := by simpa using hf8
            clear hf8
            go_wp2
            go_ret
            exact HF
        · go_wp2
          go_ret
          exact HF
set_option maxRecDepth 8000 in
set_option maxHeartbeats 8000000 in
theorem bits_c (v : Value) (rs : List Rec) (i j k : Int) (pat : Nat) (hpat : pat < 4294967296) (w : World) (hgl : Glob w) (hv : Rcs w v rs) (he : (Pk.pack (rs.take 60)).2.2 = 0) (bs : List Int) (hbs : (Pk.pack (rs.take 60)).1 = bs)
    (ci cj ck : Int) (hci : bits .and .i64 i 1099511627775 = ci) (hcj : bits .and .i64 j 1099511627775 = cj) (hck : bits .and .i64 k 1099511627775 = ck) (pi : 0 ≤ ci) (pj : 0 ≤ cj) (pk : 0 ≤ ck)
    (I J K : Nat) (hI : ci % (8 * (bs.length : Int)) = I) (hJ : cj % (8 * (bs.length : Int)) = J) (hK : ck % (8 * (bs.length : Int)) = K) (lI : I < 8 * bs.length) (lJ : J < 8 * bs.length) (lK : K < 8 * bs.length)
    (nJ : I ≠ J) (eJ : ((J : Int) != (I : Int)) = true) (eK : ((K : Int) != (I : Int)) = true) (eL : ((K : Int) != (J : Int)) = false) : Calls Tryz.prog 6 #[v, .int .i64 i, .int .i64 j, .int .i64 k, .int .u32 (pat : Int)] w (Tells8 w true) := by
  have HGL : Hid (∀ W, Below w.heap.size w W → Glob W) := fun W h => hgl.on h
  have K1 := hide (few8_any v rs 60 w hv (by omega))
  have HFIT : Hid (∀ r ∈ rs.take 60, RecFit r) := fun r hr => hv.2.1 r (List.mem_of_mem_take hr)
  have KT : Hid (∀ W, Below w.heap.size w W → Calls Tryz.prog 11 #[] W (Tells8 W true)) := fun W h => told8_any W (hgl.on h)
  obtain ⟨ao0, cap0, rfl, _, _⟩ := hv.shape
  have hl60 : (rs.take 60).length ≤ 60 := List.length_take_le _ _
  have h5000 := pack_len he hl60
  have hsealed := pack_sealed he
  have hok := pack_ok he
  have h10 : 10 ≤ (Pk.pack (rs.take 60)).1.length := by rw [hok.1]; exact hok.2.2.1
  rw [hbs] at h5000 hsealed h10
  clear hok
  have KP : Hid (∀ W v1 ps, Below w.heap.size w W → Rown W w.heap.size v1 ps → ps.map (·.1) = rs.take 60 → Calls Tryz.prog 9 #[v1] W (PackB W (Pk.pack (rs.take 60)))) := fun W v1 ps hW hR hm => by
    refine pack_any v1 _ W ((unhide HGL) W hW) ?_
    rw [← hm]
    have hpl : ps.length = (rs.take 60).length := by rw [← hm, List.length_map]
    refine hR.rcs (by omega) (fun p hp => (unhide HFIT) _ ?_)
    rw [← hm]
    exact List.mem_map.2 ⟨p, hp, rfl⟩
  have KU : Hid (∀ W v zs, Below w.heap.size w W → Sl W v zs → Calls Tryz.prog 15 #[v] W (UnpB W (Pk.unpack zs))) := fun W v zs hW hs => unpack_any v zs W ((unhide HGL) W hW) hs
  have hx : Pk.pack (rs.take 60) = (bs, (Pk.pack (rs.take 60)).2.1, 0) := by rw [← hbs, ← he]
  rw [hx] at KP
  have HT := hide (Crc.two_flips bs I J (by omega) lI lJ nJ)
  have HP0 := hide (Crc.Pat.zero bs K pat)
  clear hgl hv HGL HFIT he hx hbs
  generalize (Pk.pack (rs.take 60)).2.1 = qa at *
  obtain ⟨i0, hi, hz0, hz1, hz2⟩ := info_parts Tryz.info5
  have hzl : ((bs.length : Int) == 0) = false := by rw [beq_eq_false_iff_ne]; omega
  have h8n : ¬ (8 * (bs.length : Int) = 0) := by omega
  have hw8 : IntKind.i64.wrap (8 * (bs.length : Int)) = 8 * (bs.length : Int) := by rw [IntKind.wrap_i64]; omega
  have htI : ci.tmod (8 * (bs.length : Int)) = (I : Int) := by rw [Int.tmod_eq_emod_of_nonneg pi]; exact hI
  have htJ : cj.tmod (8 * (bs.length : Int)) = (J : Int) := by rw [Int.tmod_eq_emod_of_nonneg pj]; exact hJ
  have htK : ck.tmod (8 * (bs.length : Int)) = (K : Int) := by rw [Int.tmod_eq_emod_of_nonneg pk]; exact hK
  go_enter Tryz.func6, Tryz.ntmps6
  go_wp2_with fail
  refine (unhide K1).mono ?_
  rintro e1 w1 ⟨v1, ps, rfl, hps, hR, hb1⟩
  have K2 := hide ((unhide KP) w1 v1 ps hb1 hR hps)
  obtain ⟨lao, lcap, hvl, _⟩ := hR.shape
  subst hvl
  clear K1 KP hR hps
  go_wp2_with fail
  refine (unhide K2).mono ?_
  rintro e2 w2 ⟨v2, rfl, hown, hb2⟩
  have hB2 := bthen hb1 hb2
  clear K2 hb1 hb2
  have hs := hown.sl
  have hbt := hs.1
  have hcap2 := hs.shape
  rcases hs.src with ⟨hz, _⟩ | ⟨ad, cap, hve, hc⟩
  · have hz9 : bs = [] := hz
    rw [hz9] at h10; simp at h10
  subst hve
  have HSL := hide hs
  generalize hlen : bs.length = len at *
  have HL := hide hlen
  clear hlen hown hs hcap2
  go_wp2_with (at_builtin; refine wpList_append_own _ rfl (.tmp 43) (.tmp 44) 24 rfl w2.heap.size 5 i0 (.int .u8 0) 1 1 Tryz.underlying24 hi hz0 hz1 hz2 rfl (by decide) _ _ _ rfl (World.ownsRow_nil _ _ _ _) ad len cap (bs.map (Value.int .u8)) rfl (by rw [List.length_map, unhide HL]; simp) hc (ints_one .u8 _) (by unfold maxLen; omega) (by omega) (by omega) ?_)
  intro v3 w3 o3 gr3 _
  have b3 : Below w2.heap.size w2 w3 := (Below.refl _ _).grown gr3 (Nat.le_refl _) (fun k hk => by simp [Value.ownBlock] at hk)
  have o3' : w3.ownsRow w2.heap.size 5 1 v3 len (bs.map (Value.int .u8)) := by simpa using o3
  obtain ⟨g1, cap1, hv3, kc1, _⟩ := own_shape o3' (by omega)
  subst hv3
  have hcw : ∀ jj u, (bs.map (Value.int .u8))[jj]? = some u → w3.cell? (ad.add jj) = some u := fun jj u hj => gr3.cell (hc jj u hj) (by simp [Value.ownBlock])
  clear o3
  try simp only [Nat.zero_add]
  go_wp2_with (at_builtin; refine wpList_append_own _ rfl (.tmp 46) (.tmp 47) 24 rfl w3.heap.size 5 i0 (.int .u8 0) 1 1 Tryz.underlying24 hi hz0 hz1 hz2 rfl (by decide) _ _ _ rfl (World.ownsRow_nil _ _ _ _) ad len cap (bs.map (Value.int .u8)) rfl (by rw [List.length_map, unhide HL]; simp) hcw (ints_one .u8 _) (by unfold maxLen; omega) (by omega) (by omega) ?_)
  intro v4 w4 o4 gr4 _
  have o4' : w4.ownsRow w3.heap.size 5 1 v4 len (bs.map (Value.int .u8)) := by simpa using o4
  obtain ⟨g2, cap2, hv4, kc2, _⟩ := own_shape o4' (by omega)
  subst hv4
  have lt1 := o3'.lt g1 rfl
  have lt2 := o4'.lt g2 rfl
  have S4 : St w2 w4 g1 cap1 g2 cap2 len bs bs := by
    have hl := unhide HL
    exact ⟨o3'.kept gr4 (.inr (by simp [Value.ownBlock])), own_lower o4' b3.size, by omega, b3.grown gr4 b3.size (fun k hk => by simp [Value.ownBlock] at hk), hbt, hbt, hl, hl⟩
  clear o4 o3' o4' gr3 gr4 hcw hc lt1 lt2 b3
  try simp only [Nat.zero_add]
  go_wp2
  go_quiet (fail)
  have S4 := S4.drew nq
  generalize w4.drewN nq = w5 at *
  have F4 := hide (S4.flip1 I lI h5000)
  go_wp2_with fail
  refine (unhide F4).mono ?_
  rintro e w6 ⟨rfl, S6⟩
  clear F4 S4
  have F6 := hide (S6.flip1 J lJ h5000)
  go_wp2_with fail
  refine (unhide F6).mono ?_
  rintro e w7 ⟨rfl, S7⟩
  clear F6 S6
  generalize Crc.flipL (Crc.flipL bs I) J = xs at *
  go_wp2
  go_loopw [20] (fun m wr => ∃ (t : Nat) (ys : List Int), t ≤ 32 ∧ m = .int .i64 t ∧ St w2 wr g1 cap1 g2 cap2 len xs ys ∧ Crc.Pat bs ys K t pat) (fun m _ => 32 - (intOf m).toNat)
  case atStart => exact ⟨0, bs, by omega, rfl, S7, unhide HP0⟩
  case round =>
    clear S7 HP0
    obtain ⟨t, ys, ht, rfl, SR, hp⟩ := hrel
    have HPT := hide hp
    clear hp
    by_cases hgo : t < 32 ∧ K + t < 8 * len
    · obtain ⟨ht2, ht3⟩ := hgo
      have hpb := pat_bit pat t hpat
      rcases Nat.mod_two_eq_zero_or_one (pat / 2 ^ t) with hb | hb
      · have NP := (unhide HPT).skip hb
        rw [hb] at hpb
        have hpb' : bits .and .u32 ((pat : Int) / 2 ^ t) 1 = 0 := hpb
        clear hpb hb
        go_wp2
        go_roundw
        case rel => exact ⟨t + 1, ys, by omega, by go_num, SR, NP⟩
        case measure => simp [intOf]; omega
      · have NP := (unhide HPT).turn hb (by rw [unhide HL]; exact ht3)
        rw [hb] at hpb
        have hpb' : bits .and .u32 ((pat : Int) / 2 ^ t) 1 = 1 := hpb
        have FR := hide (SR.flip2 (K + t) ht3 h5000)
        clear hpb hb
        go_wp2_with fail
        refine (unhide FR).mono ?_
        rintro e w9 ⟨rfl, S9⟩
        go_wp2
        go_roundw
        case rel => exact ⟨t + 1, _, by omega, by go_num, S9, NP⟩
        case measure => simp [intOf]; omega
    · have hds := (unhide HPT).tells hpat
      have sc := SR.sl1 h5000
      have sd := SR.sl2 h5000
      have B0 := SR.2.2.2.1
      have hBr := bthen hB2 B0
      have HSB : Hid (∀ W, Below wr.heap.size wr W → Sl W (.slice (some ad) len cap) bs) := fun W h => ((unhide HSL).below B0).below h
      obtain ⟨ua, uf, hne, huc⟩ := turned_no hbt sc.1 (by rw [unhide HL]; exact hsealed) (unhide HT)
      have A1 := (unhide KU) wr _ xs hBr sc
      rw [huc] at A1
      have A1 := hide A1
      have hnf : (uf != 0) = true := by simpa using hne
      have HD : Hid (∀ W, Below w.heap.size w W → Sl W (.slice (some ⟨g2, 0, none⟩) len cap2) ys → Calls Tryz.prog 15 #[.slice (some ⟨g2, 0, none⟩) len cap2] W (fun e w' => ∃ (ao : Option Addr) (cp : Nat × Nat) (a f : Int), (ys = bs ∨ (f != 0) = true) ∧ e = .returned (.tuple #[.slice ao cp.1 cp.2, .int .i64 a, .int .i64 f]) ∧ Below W.heap.size W w')) := fun W hW hsW => by
        refine ((unhide KU) W _ ys hW hsW).mono ?_
        rintro e w' ⟨vl, pl, rfl, hR, hps, hb⟩
        obtain ⟨lo, lc, rfl, _⟩ := hR.shape
        refine ⟨lo, (pl.length, lc), _, _, ?_, rfl, hb⟩
        rcases hds with heq | hns
        · exact .inl heq
        · obtain ⟨a2, f2, hf2, hu2⟩ := turned_no hbt sd.1 (by rw [unhide HL]; exact hsealed) hns
          right
          rw [hu2]
          simpa using hf2
      clear HPT HT SR hds hne huc KU
      by_cases ht2 : t < 32
      · have ht3 : 8 * len ≤ K + t := by omega
        clear hgo
        go_wp2_with fail
        refine (unhide A1).mono ?_
        rintro e7 w7 ⟨vl, pl, rfl, hR7, hps7, hb7⟩
        obtain ⟨lo7, lc7, hv7, _⟩ := hR7.shape
        subst hv7
        have hB7 := bthen hBr hb7
        have A2 := hide ((unhide HD) w7 hB7 (sd.below hb7))
        clear A1 hR7 hps7
        go_wp2_with fail
        refine (unhide A2).mono ?_
        rintro e8 w8 ⟨lo8, cp8, a8, f8, hor, rfl, hb8⟩
        have hB8 := bthen hB7 hb8
        have A3 := hide ((unhide KT) w8 hB8)
        clear A2
        go_wp2_with fail
        refine (unhide A3).mono ?_
        rintro e9 w9 ⟨rfl, hb9⟩
        have h79 := bthen (bthen hb7 hb8) hb9
        have cb := ((unhide HSB) w9 h79).conv
        have cd := (sd.below h79).conv
        have HF : Tells8 w true (.returned (.bool true)) w9 := ⟨rfl, bthen hB8 hb9⟩
        clear A3 HD HSB sc sd hb7 hb8 hb9 hB7 hB8 h79 KT
        rcases hor with heq | hf8
        · subst heq
          generalize strOfNums ys = sy at *
          by_cases hf8 : f8 = 0
          · have hq8 : (f8 != 0) = false := by simp [hf8]
            clear hf8
            go_wp2
            go_ret
            exact HF
          · have hq8 : (f8 != 0) = true := by simpa using hf8
            clear hf8
            go_wp2
            go_ret
            exact HF
        · go_wp2
          go_ret
          exact HF
      · have ht32 : t = 32 := by omega
        subst ht32
        clear hgo
        go_wp2_with fail
        refine (unhide A1).mono ?_
        rintro e7 w7 ⟨vl, pl, rfl, hR7, hps7, hb7⟩
        obtain ⟨lo7, lc7, hv7, _⟩ := hR7.shape
        subst hv7
        have hB7 := bthen hBr hb7
        have A2 := hide ((unhide HD) w7 hB7 (sd.below hb7))
        clear A1 hR7 hps7
        go_wp2_with fail
        refine (unhide A2).mono ?_
        rintro e8 w8 ⟨lo8, cp8, a8, f8, hor, rfl, hb8⟩
        have hB8 := bthen hB7 hb8
        have A3 := hide ((unhide KT) w8 hB8)
        clear A2
        go_wp2_with fail
        refine (unhide A3).mono ?_
        rintro e9 w9 ⟨rfl, hb9⟩
        have h79 := bthen (bthen hb7 hb8) hb9
        have cb := ((unhide HSB) w9 h79).conv
        have cd := (sd.below h79).conv
        have HF : Tells8 w true (.returned (.bool true)) w9 := ⟨rfl, bthen hB8 hb9⟩
        clear A3 HD HSB sc sd hb7 hb8 hb9 hB7 hB8 h79 KT
        rcases hor with heq | hf8
        · subst heq
          generalize strOfNums ys = sy at *
          by_cases hf8 : f8 = 0
          · have hq8 : (f8 != 0) = false := by simp [hf8]
            clear hf8
            go_wp2
            go_ret
            exact HF
          · have hq8 : (f8 != 0) = true := by simpa using hf8
            clear hf8
            go_wp2
            go_ret
            exact HF
        · go_wp2
          go_ret
          exact HF
set_option maxRecDepth 8000 in
set_option maxHeartbeats 8000000 in
theorem bits_d (v : Value) (rs : List Rec) (i j k : Int) (pat : Nat) (hpat : pat < 4294967296) (w : World) (hgl : Glob w) (hv : Rcs w v rs) (he : (Pk.pack (rs.take 60)).2.2 = 0) (bs : List Int) (hbs : (Pk.pack (rs.take 60)).1 = bs)
    (ci cj ck : Int) (hci : bits .and .i64 i 1099511627775 = ci) (hcj : bits .and .i64 j 1099511627775 = cj) (hck : bits .and .i64 k 1099511627775 = ck) (pi : 0 ≤ ci) (pj : 0 ≤ cj) (pk : 0 ≤ ck)
    (I J K : Nat) (hI : ci % (8 * (bs.length : Int)) = I) (hJ : cj % (8 * (bs.length : Int)) = J) (hK : ck % (8 * (bs.length : Int)) = K) (lI : I < 8 * bs.length) (_ : J < 8 * bs.length) (lK : K < 8 * bs.length)
    (nK : I ≠ K) (eJ : ((J : Int) != (I : Int)) = false) (eK : ((K : Int) != (I : Int)) = true) (eL : ((K : Int) != (J : Int)) = true) : Calls Tryz.prog 6 #[v, .int .i64 i, .int .i64 j, .int .i64 k, .int .u32 (pat : Int)] w (Tells8 w true) := by
  have HGL : Hid (∀ W, Below w.heap.size w W → Glob W) := fun W h => hgl.on h
  have K1 := hide (few8_any v rs 60 w hv (by omega))
  have HFIT : Hid (∀ r ∈ rs.take 60, RecFit r) := fun r hr => hv.2.1 r (List.mem_of_mem_take hr)
  have KT : Hid (∀ W, Below w.heap.size w W → Calls Tryz.prog 11 #[] W (Tells8 W true)) := fun W h => told8_any W (hgl.on h)
  obtain ⟨ao0, cap0, rfl, _, _⟩ := hv.shape
  have hl60 : (rs.take 60).length ≤ 60 := List.length_take_le _ _
  have h5000 := pack_len he hl60
  have hsealed := pack_sealed he
  have hok := pack_ok he
  have h10 : 10 ≤ (Pk.pack (rs.take 60)).1.length := by rw [hok.1]; exact hok.2.2.1
  rw [hbs] at h5000 hsealed h10
  clear hok
  have KP : Hid (∀ W v1 ps, Below w.heap.size w W → Rown W w.heap.size v1 ps → ps.map (·.1) = rs.take 60 → Calls Tryz.prog 9 #[v1] W (PackB W (Pk.pack (rs.take 60)))) := fun W v1 ps hW hR hm => by
    refine pack_any v1 _ W ((unhide HGL) W hW) ?_
    rw [← hm]
    have hpl : ps.length = (rs.take 60).length := by rw [← hm, List.length_map]
    refine hR.rcs (by omega) (fun p hp => (unhide HFIT) _ ?_)
    rw [← hm]
    exact List.mem_map.2 ⟨p, hp, rfl⟩
  have KU : Hid (∀ W v zs, Below w.heap.size w W → Sl W v zs → Calls Tryz.prog 15 #[v] W (UnpB W (Pk.unpack zs))) := fun W v zs hW hs => unpack_any v zs W ((unhide HGL) W hW) hs
  have hx : Pk.pack (rs.take 60) = (bs, (Pk.pack (rs.take 60)).2.1, 0) := by rw [← hbs, ← he]
  rw [hx] at KP
  have HT := hide (Crc.two_flips bs I K (by omega) lI lK nK)
  have HP0 := hide (Crc.Pat.zero bs K pat)
  clear hgl hv HGL HFIT he hx hbs
  generalize (Pk.pack (rs.take 60)).2.1 = qa at *
  obtain ⟨i0, hi, hz0, hz1, hz2⟩ := info_parts Tryz.info5
  have hzl : ((bs.length : Int) == 0) = false := by rw [beq_eq_false_iff_ne]; omega
  have h8n : ¬ (8 * (bs.length : Int) = 0) := by omega
  have hw8 : IntKind.i64.wrap (8 * (bs.length : Int)) = 8 * (bs.length : Int) := by rw [IntKind.wrap_i64]; omega
  have htI : ci.tmod (8 * (bs.length : Int)) = (I : Int) := by rw [Int.tmod_eq_emod_of_nonneg pi]; exact hI
  have htJ : cj.tmod (8 * (bs.length : Int)) = (J : Int) := by rw [Int.tmod_eq_emod_of_nonneg pj]; exact hJ
  have htK : ck.tmod (8 * (bs.length : Int)) = (K : Int) := by rw [Int.tmod_eq_emod_of_nonneg pk]; exact hK
  go_enter Tryz.func6, Tryz.ntmps6
  go_wp2_with fail
  refine (unhide K1).mono ?_
  rintro e1 w1 ⟨v1, ps, rfl, hps, hR, hb1⟩
  have K2 := hide ((unhide KP) w1 v1 ps hb1 hR hps)
  obtain ⟨lao, lcap, hvl, _⟩ := hR.shape
  subst hvl
  clear K1 KP hR hps
  go_wp2_with fail
  refine (unhide K2).mono ?_
  rintro e2 w2 ⟨v2, rfl, hown, hb2⟩
  have hB2 := bthen hb1 hb2
  clear K2 hb1 hb2
  have hs := hown.sl
  have hbt := hs.1
  have hcap2 := hs.shape
  rcases hs.src with ⟨hz, _⟩ | ⟨ad, cap, hve, hc⟩
  · have hz9 : bs = [] := hz
    rw [hz9] at h10; simp at h10
  subst hve
  have HSL := hide hs
  generalize hlen : bs.length = len at *
  have HL := hide hlen
  clear hlen hown hs hcap2
  go_wp2_with (at_builtin; refine wpList_append_own _ rfl (.tmp 43) (.tmp 44) 24 rfl w2.heap.size 5 i0 (.int .u8 0) 1 1 Tryz.underlying24 hi hz0 hz1 hz2 rfl (by decide) _ _ _ rfl (World.ownsRow_nil _ _ _ _) ad len cap (bs.map (Value.int .u8)) rfl (by rw [List.length_map, unhide HL]; simp) hc (ints_one .u8 _) (by unfold maxLen; omega) (by omega) (by omega) ?_)
  intro v3 w3 o3 gr3 _
  have b3 : Below w2.heap.size w2 w3 := (Below.refl _ _).grown gr3 (Nat.le_refl _) (fun k hk => by simp [Value.ownBlock] at hk)
  have o3' : w3.ownsRow w2.heap.size 5 1 v3 len (bs.map (Value.int .u8)) := by simpa using o3
  obtain ⟨g1, cap1, hv3, kc1, _⟩ := own_shape o3' (by omega)
  subst hv3
  have hcw : ∀ jj u, (bs.map (Value.int .u8))[jj]? = some u → w3.cell? (ad.add jj) = some u := fun jj u hj => gr3.cell (hc jj u hj) (by simp [Value.ownBlock])
  clear o3
  try simp only [Nat.zero_add]
  go_wp2_with (at_builtin; refine wpList_append_own _ rfl (.tmp 46) (.tmp 47) 24 rfl w3.heap.size 5 i0 (.int .u8 0) 1 1 Tryz.underlying24 hi hz0 hz1 hz2 rfl (by decide) _ _ _ rfl (World.ownsRow_nil _ _ _ _) ad len cap (bs.map (Value.int .u8)) rfl (by rw [List.length_map, unhide HL]; simp) hcw (ints_one .u8 _) (by unfold maxLen; omega) (by omega) (by omega) ?_)
  intro v4 w4 o4 gr4 _
  have o4' : w4.ownsRow w3.heap.size 5 1 v4 len (bs.map (Value.int .u8)) := by simpa using o4
  obtain ⟨g2, cap2, hv4, kc2, _⟩ := own_shape o4' (by omega)
  subst hv4
  have lt1 := o3'.lt g1 rfl
  have lt2 := o4'.lt g2 rfl
  have S4 : St w2 w4 g1 cap1 g2 cap2 len bs bs := by
    have hl := unhide HL
    exact ⟨o3'.kept gr4 (.inr (by simp [Value.ownBlock])), own_lower o4' b3.size, by omega, b3.grown gr4 b3.size (fun k hk => by simp [Value.ownBlock] at hk), hbt, hbt, hl, hl⟩
  clear o4 o3' o4' gr3 gr4 hcw hc lt1 lt2 b3
  try simp only [Nat.zero_add]
  go_wp2
  go_quiet (fail)
  have S4 := S4.drew nq
  generalize w4.drewN nq = w5 at *
  have F4 := hide (S4.flip1 I lI h5000)
  go_wp2_with fail
  refine (unhide F4).mono ?_
  rintro e w6 ⟨rfl, S6⟩
  clear F4 S4
  have F6 := hide (S6.flip1 K lK h5000)
  go_wp2_with fail
  refine (unhide F6).mono ?_
  rintro e w7 ⟨rfl, S7⟩
  clear F6 S6
  generalize Crc.flipL (Crc.flipL bs I) K = xs at *
  go_wp2
  go_loopw [20] (fun m wr => ∃ (t : Nat) (ys : List Int), t ≤ 32 ∧ m = .int .i64 t ∧ St w2 wr g1 cap1 g2 cap2 len xs ys ∧ Crc.Pat bs ys K t pat) (fun m _ => 32 - (intOf m).toNat)
  case atStart => exact ⟨0, bs, by omega, rfl, S7, unhide HP0⟩
  case round =>
    clear S7 HP0
    obtain ⟨t, ys, ht, rfl, SR, hp⟩ := hrel
    have HPT := hide hp
    clear hp
    by_cases hgo : t < 32 ∧ K + t < 8 * len
    · obtain ⟨ht2, ht3⟩ := hgo
      have hpb := pat_bit pat t hpat
      rcases Nat.mod_two_eq_zero_or_one (pat / 2 ^ t) with hb | hb
      · have NP := (unhide HPT).skip hb
        rw [hb] at hpb
        have hpb' : bits .and .u32 ((pat : Int) / 2 ^ t) 1 = 0 := hpb
        clear hpb hb
        go_wp2
        go_roundw
        case rel => exact ⟨t + 1, ys, by omega, by go_num, SR, NP⟩
        case measure => simp [intOf]; omega
      · have NP := (unhide HPT).turn hb (by rw [unhide HL]; exact ht3)
        rw [hb] at hpb
        have hpb' : bits .and .u32 ((pat : Int) / 2 ^ t) 1 = 1 := hpb
        have FR := hide (SR.flip2 (K + t) ht3 h5000)
        clear hpb hb
        go_wp2_with fail
        refine (unhide FR).mono ?_
        rintro e w9 ⟨rfl, S9⟩
        go_wp2
        go_roundw
        case rel => exact ⟨t + 1, _, by omega, by go_num, S9, NP⟩
        case measure => simp [intOf]; omega
    · have hds := (unhide HPT).tells hpat
      have sc := SR.sl1 h5000
      have sd := SR.sl2 h5000
      have B0 := SR.2.2.2.1
      have hBr := bthen hB2 B0
      have HSB : Hid (∀ W, Below wr.heap.size wr W → Sl W (.slice (some ad) len cap) bs) := fun W h => ((unhide HSL).below B0).below h
      obtain ⟨ua, uf, hne, huc⟩ := turned_no hbt sc.1 (by rw [unhide HL]; exact hsealed) (unhide HT)
      have A1 := (unhide KU) wr _ xs hBr sc
      rw [huc] at A1
      have A1 := hide A1
      have hnf : (uf != 0) = true := by simpa using hne
      have HD : Hid (∀ W, Below w.heap.size w W → Sl W (.slice (some ⟨g2, 0, none⟩) len cap2) ys → Calls Tryz.prog 15 #[.slice (some ⟨g2, 0, none⟩) len cap2] W (fun e w' => ∃ (ao : Option Addr) (cp : Nat × Nat) (a f : Int), (ys = bs ∨ (f != 0) = true) ∧ e = .returned (.tuple #[.slice ao cp.1 cp.2, .int .i64 a, .int .i64 f]) ∧ Below W.heap.size W w')) := fun W hW hsW => by
        refine ((unhide KU) W _ ys hW hsW).mono ?_
        rintro e w' ⟨vl, pl, rfl, hR, hps, hb⟩
        obtain ⟨lo, lc, rfl, _⟩ := hR.shape
        refine ⟨lo, (pl.length, lc), _, _, ?_, rfl, hb⟩
        rcases hds with heq | hns
        · exact .inl heq
        · obtain ⟨a2, f2, hf2, hu2⟩ := turned_no hbt sd.1 (by rw [unhide HL]; exact hsealed) hns
          right
          rw [hu2]
          simpa using hf2
      clear HPT HT SR hds hne huc KU
      by_cases ht2 : t < 32
      · have ht3 : 8 * len ≤ K + t := by omega
        clear hgo
        go_wp2_with fail
        refine (unhide A1).mono ?_
        rintro e7 w7 ⟨vl, pl, rfl, hR7, hps7, hb7⟩
        obtain ⟨lo7, lc7, hv7, _⟩ := hR7.shape
        subst hv7
        have hB7 := bthen hBr hb7
        have A2 := hide ((unhide HD) w7 hB7 (sd.below hb7))
        clear A1 hR7 hps7
        go_wp2_with fail
        refine (unhide A2).mono ?_
        rintro e8 w8 ⟨lo8, cp8, a8, f8, hor, rfl, hb8⟩
        have hB8 := bthen hB7 hb8
        have A3 := hide ((unhide KT) w8 hB8)
        clear A2
        go_wp2_with fail
        refine (unhide A3).mono ?_
        rintro e9 w9 ⟨rfl, hb9⟩
        have h79 := bthen (bthen hb7 hb8) hb9
        have cb := ((unhide HSB) w9 h79).conv
        have cd := (sd.below h79).conv
        have HF : Tells8 w true (.returned (.bool true)) w9 := ⟨rfl, bthen hB8 hb9⟩
        clear A3 HD HSB sc sd hb7 hb8 hb9 hB7 hB8 h79 KT
        rcases hor with heq | hf8
        · subst heq
          generalize strOfNums ys = sy at *
          by_cases hf8 : f8 = 0
          · have hq8 : (f8 != 0) = false := by simp [hf8]
            clear hf8
            go_wp2
            go_ret
            exact HF
          · have hq8 : (f8 != 0) = true := by simpa using hf8
            clear hf8
            go_wp2
            go_ret
            exact HF
        · go_wp2
          go_ret
          exact HF
      · have ht32 : t = 32 := by omega
        subst ht32
        clear hgo
        go_wp2_with fail
        refine (unhide A1).mono ?_
        rintro e7 w7 ⟨vl, pl, rfl, hR7, hps7, hb7⟩
        obtain ⟨lo7, lc7, hv7, _⟩ := hR7.shape
        subst hv7
        have hB7 := bthen hBr hb7
        have A2 := hide ((unhide HD) w7 hB7 (sd.below hb7))
        clear A1 hR7 hps7
        go_wp2_with fail
        refine (unhide A2).mono ?_
        rintro e8 w8 ⟨lo8, cp8, a8, f8, hor, rfl, hb8⟩
        have hB8 := bthen hB7 hb8
        have A3 := hide ((unhide KT) w8 hB8)
        clear A2
        go_wp2_with fail
        refine (unhide A3).mono ?_
        rintro e9 w9 ⟨rfl, hb9⟩
        have h79 := bthen (bthen hb7 hb8) hb9
        have cb := ((unhide HSB) w9 h79).conv
        have cd := (sd.below h79).conv
        have HF : Tells8 w true (.returned (.bool true)) w9 := ⟨rfl, bthen hB8 hb9⟩
        clear A3 HD HSB sc sd hb7 hb8 hb9 hB7 hB8 h79 KT
        rcases hor with heq | hf8
        · subst heq
          generalize strOfNums ys = sy at *
          by_cases hf8 : f8 = 0
          · have hq8 : (f8 != 0) = false := by simp [hf8]
            clear hf8
            go_wp2
            go_ret
            exact HF
          · have hq8 : (f8 != 0) = true := by simpa using hf8
            clear hf8
            go_wp2
            go_ret
            exact HF
        · go_wp2
          go_ret
          exact HF
set_option maxRecDepth 8000 in
set_option maxHeartbeats 8000000 in
theorem bits_e (v : Value) (rs : List Rec) (i j k : Int) (pat : Nat) (hpat : pat < 4294967296) (w : World) (hgl : Glob w) (hv : Rcs w v rs) (he : (Pk.pack (rs.take 60)).2.2 = 0) (bs : List Int) (hbs : (Pk.pack (rs.take 60)).1 = bs)
    (ci cj ck : Int) (hci : bits .and .i64 i 1099511627775 = ci) (hcj : bits .and .i64 j 1099511627775 = cj) (hck : bits .and .i64 k 1099511627775 = ck) (pi : 0 ≤ ci) (pj : 0 ≤ cj) (pk : 0 ≤ ck)
    (I J K : Nat) (hI : ci % (8 * (bs.length : Int)) = I) (hJ : cj % (8 * (bs.length : Int)) = J) (hK : ck % (8 * (bs.length : Int)) = K) (lI : I < 8 * bs.length) (_ : J < 8 * bs.length) (lK : K < 8 * bs.length)
    (eJ : ((J : Int) != (I : Int)) = false) (eK : ((K : Int) != (I : Int)) = false) : Calls Tryz.prog 6 #[v, .int .i64 i, .int .i64 j, .int .i64 k, .int .u32 (pat : Int)] w (Tells8 w true) := by
  have HGL : Hid (∀ W, Below w.heap.size w W → Glob W) := fun W h => hgl.on h
  have K1 := hide (few8_any v rs 60 w hv (by omega))
  have HFIT : Hid (∀ r ∈ rs.take 60, RecFit r) := fun r hr => hv.2.1 r (List.mem_of_mem_take hr)
  have KT : Hid (∀ W, Below w.heap.size w W → Calls Tryz.prog 11 #[] W (Tells8 W true)) := fun W h => told8_any W (hgl.on h)
  obtain ⟨ao0, cap0, rfl, _, _⟩ := hv.shape
  have hl60 : (rs.take 60).length ≤ 60 := List.length_take_le _ _
  have h5000 := pack_len he hl60
  have hsealed := pack_sealed he
  have hok := pack_ok he
  have h10 : 10 ≤ (Pk.pack (rs.take 60)).1.length := by rw [hok.1]; exact hok.2.2.1
  rw [hbs] at h5000 hsealed h10
  clear hok
  have KP : Hid (∀ W v1 ps, Below w.heap.size w W → Rown W w.heap.size v1 ps → ps.map (·.1) = rs.take 60 → Calls Tryz.prog 9 #[v1] W (PackB W (Pk.pack (rs.take 60)))) := fun W v1 ps hW hR hm => by
    refine pack_any v1 _ W ((unhide HGL) W hW) ?_
    rw [← hm]
    have hpl : ps.length = (rs.take 60).length := by rw [← hm, List.length_map]
    refine hR.rcs (by omega) (fun p hp => (unhide HFIT) _ ?_)
    rw [← hm]
    exact List.mem_map.2 ⟨p, hp, rfl⟩
  have KU : Hid (∀ W v zs, Below w.heap.size w W → Sl W v zs → Calls Tryz.prog 15 #[v] W (UnpB W (Pk.unpack zs))) := fun W v zs hW hs => unpack_any v zs W ((unhide HGL) W hW) hs
  have hx : Pk.pack (rs.take 60) = (bs, (Pk.pack (rs.take 60)).2.1, 0) := by rw [← hbs, ← he]
  rw [hx] at KP
  have HT := hide (Crc.one_flip bs I lI)
  have HP0 := hide (Crc.Pat.zero bs K pat)
  clear hgl hv HGL HFIT he hx hbs
  generalize (Pk.pack (rs.take 60)).2.1 = qa at *
  obtain ⟨i0, hi, hz0, hz1, hz2⟩ := info_parts Tryz.info5
  have hzl : ((bs.length : Int) == 0) = false := by rw [beq_eq_false_iff_ne]; omega
  have h8n : ¬ (8 * (bs.length : Int) = 0) := by omega
  have hw8 : IntKind.i64.wrap (8 * (bs.length : Int)) = 8 * (bs.length : Int) := by rw [IntKind.wrap_i64]; omega
  have htI : ci.tmod (8 * (bs.length : Int)) = (I : Int) := by rw [Int.tmod_eq_emod_of_nonneg pi]; exact hI
  have htJ : cj.tmod (8 * (bs.length : Int)) = (J : Int) := by rw [Int.tmod_eq_emod_of_nonneg pj]; exact hJ
  have htK : ck.tmod (8 * (bs.length : Int)) = (K : Int) := by rw [Int.tmod_eq_emod_of_nonneg pk]; exact hK
  go_enter Tryz.func6, Tryz.ntmps6
  go_wp2_with fail
  refine (unhide K1).mono ?_
  rintro e1 w1 ⟨v1, ps, rfl, hps, hR, hb1⟩
  have K2 := hide ((unhide KP) w1 v1 ps hb1 hR hps)
  obtain ⟨lao, lcap, hvl, _⟩ := hR.shape
  subst hvl
  clear K1 KP hR hps
  go_wp2_with fail
  refine (unhide K2).mono ?_
  rintro e2 w2 ⟨v2, rfl, hown, hb2⟩
  have hB2 := bthen hb1 hb2
  clear K2 hb1 hb2
  have hs := hown.sl
  have hbt := hs.1
  have hcap2 := hs.shape
  rcases hs.src with ⟨hz, _⟩ | ⟨ad, cap, hve, hc⟩
  · have hz9 : bs = [] := hz
    rw [hz9] at h10; simp at h10
  subst hve
  have HSL := hide hs
  generalize hlen : bs.length = len at *
  have HL := hide hlen
  clear hlen hown hs hcap2
  go_wp2_with (at_builtin; refine wpList_append_own _ rfl (.tmp 43) (.tmp 44) 24 rfl w2.heap.size 5 i0 (.int .u8 0) 1 1 Tryz.underlying24 hi hz0 hz1 hz2 rfl (by decide) _ _ _ rfl (World.ownsRow_nil _ _ _ _) ad len cap (bs.map (Value.int .u8)) rfl (by rw [List.length_map, unhide HL]; simp) hc (ints_one .u8 _) (by unfold maxLen; omega) (by omega) (by omega) ?_)
  intro v3 w3 o3 gr3 _
  have b3 : Below w2.heap.size w2 w3 := (Below.refl _ _).grown gr3 (Nat.le_refl _) (fun k hk => by simp [Value.ownBlock] at hk)
  have o3' : w3.ownsRow w2.heap.size 5 1 v3 len (bs.map (Value.int .u8)) := by simpa using o3
  obtain ⟨g1, cap1, hv3, kc1, _⟩ := own_shape o3' (by omega)
  subst hv3
  have hcw : ∀ jj u, (bs.map (Value.int .u8))[jj]? = some u → w3.cell? (ad.add jj) = some u := fun jj u hj => gr3.cell (hc jj u hj) (by simp [Value.ownBlock])
  clear o3
  try simp only [Nat.zero_add]
  go_wp2_with (at_builtin; refine wpList_append_own _ rfl (.tmp 46) (.tmp 47) 24 rfl w3.heap.size 5 i0 (.int .u8 0) 1 1 Tryz.underlying24 hi hz0 hz1 hz2 rfl (by decide) _ _ _ rfl (World.ownsRow_nil _ _ _ _) ad len cap (bs.map (Value.int .u8)) rfl (by rw [List.length_map, unhide HL]; simp) hcw (ints_one .u8 _) (by unfold maxLen; omega) (by omega) (by omega) ?_)
  intro v4 w4 o4 gr4 _
  have o4' : w4.ownsRow w3.heap.size 5 1 v4 len (bs.map (Value.int .u8)) := by simpa using o4
  obtain ⟨g2, cap2, hv4, kc2, _⟩ := own_shape o4' (by omega)
  subst hv4
  have lt1 := o3'.lt g1 rfl
  have lt2 := o4'.lt g2 rfl
  have S4 : St w2 w4 g1 cap1 g2 cap2 len bs bs := by
    have hl := unhide HL
    exact ⟨o3'.kept gr4 (.inr (by simp [Value.ownBlock])), own_lower o4' b3.size, by omega, b3.grown gr4 b3.size (fun k hk => by simp [Value.ownBlock] at hk), hbt, hbt, hl, hl⟩
  clear o4 o3' o4' gr3 gr4 hcw hc lt1 lt2 b3
  try simp only [Nat.zero_add]
  go_wp2
  go_quiet (fail)
  have S4 := S4.drew nq
  generalize w4.drewN nq = w5 at *
  have F4 := hide (S4.flip1 I lI h5000)
  go_wp2_with fail
  refine (unhide F4).mono ?_
  rintro e w6 ⟨rfl, S6⟩
  clear F4 S4
  generalize Crc.flipL bs I = xs at *
  go_wp2
  go_loopw [20] (fun m wr => ∃ (t : Nat) (ys : List Int), t ≤ 32 ∧ m = .int .i64 t ∧ St w2 wr g1 cap1 g2 cap2 len xs ys ∧ Crc.Pat bs ys K t pat) (fun m _ => 32 - (intOf m).toNat)
  case atStart => exact ⟨0, bs, by omega, rfl, S6, unhide HP0⟩
  case round =>
    clear S6 HP0
    obtain ⟨t, ys, ht, rfl, SR, hp⟩ := hrel
    have HPT := hide hp
    clear hp
    by_cases hgo : t < 32 ∧ K + t < 8 * len
    · obtain ⟨ht2, ht3⟩ := hgo
      have hpb := pat_bit pat t hpat
      rcases Nat.mod_two_eq_zero_or_one (pat / 2 ^ t) with hb | hb
      · have NP := (unhide HPT).skip hb
        rw [hb] at hpb
        have hpb' : bits .and .u32 ((pat : Int) / 2 ^ t) 1 = 0 := hpb
        clear hpb hb
        go_wp2
        go_roundw
        case rel => exact ⟨t + 1, ys, by omega, by go_num, SR, NP⟩
        case measure => simp [intOf]; omega
      · have NP := (unhide HPT).turn hb (by rw [unhide HL]; exact ht3)
        rw [hb] at hpb
        have hpb' : bits .and .u32 ((pat : Int) / 2 ^ t) 1 = 1 := hpb
        have FR := hide (SR.flip2 (K + t) ht3 h5000)
        clear hpb hb
        go_wp2_with fail
        refine (unhide FR).mono ?_
        rintro e w9 ⟨rfl, S9⟩
        go_wp2
        go_roundw
        case rel => exact ⟨t + 1, _, by omega, by go_num, S9, NP⟩
        case measure => simp [intOf]; omega
    · have hds := (unhide HPT).tells hpat
      have sc := SR.sl1 h5000
      have sd := SR.sl2 h5000
      have B0 := SR.2.2.2.1
      have hBr := bthen hB2 B0
      have HSB : Hid (∀ W, Below wr.heap.size wr W → Sl W (.slice (some ad) len cap) bs) := fun W h => ((unhide HSL).below B0).below h
      obtain ⟨ua, uf, hne, huc⟩ := turned_no hbt sc.1 (by rw [unhide HL]; exact hsealed) (unhide HT)
      have A1 := (unhide KU) wr _ xs hBr sc
      rw [huc] at A1
      have A1 := hide A1
      have hnf : (uf != 0) = true := by simpa using hne
      have HD : Hid (∀ W, Below w.heap.size w W → Sl W (.slice (some ⟨g2, 0, none⟩) len cap2) ys → Calls Tryz.prog 15 #[.slice (some ⟨g2, 0, none⟩) len cap2] W (fun e w' => ∃ (ao : Option Addr) (cp : Nat × Nat) (a f : Int), (ys = bs ∨ (f != 0) = true) ∧ e = .returned (.tuple #[.slice ao cp.1 cp.2, .int .i64 a, .int .i64 f]) ∧ Below W.heap.size W w')) := fun W hW hsW => by
        refine ((unhide KU) W _ ys hW hsW).mono ?_
        rintro e w' ⟨vl, pl, rfl, hR, hps, hb⟩
        obtain ⟨lo, lc, rfl, _⟩ := hR.shape
        refine ⟨lo, (pl.length, lc), _, _, ?_, rfl, hb⟩
        rcases hds with heq | hns
        · exact .inl heq
        · obtain ⟨a2, f2, hf2, hu2⟩ := turned_no hbt sd.1 (by rw [unhide HL]; exact hsealed) hns
          right
          rw [hu2]
          simpa using hf2
      clear HPT HT SR hds hne huc KU
      by_cases ht2 : t < 32
      · have ht3 : 8 * len ≤ K + t := by omega
        clear hgo
        go_wp2_with fail
        refine (unhide A1).mono ?_
        rintro e7 w7 ⟨vl, pl, rfl, hR7, hps7, hb7⟩
        obtain ⟨lo7, lc7, hv7, _⟩ := hR7.shape
        subst hv7
        have hB7 := bthen hBr hb7
        have A2 := hide ((unhide HD) w7 hB7 (sd.below hb7))
        clear A1 hR7 hps7
        go_wp2_with fail
        refine (unhide A2).mono ?_
        rintro e8 w8 ⟨lo8, cp8, a8, f8, hor, rfl, hb8⟩
        have hB8 := bthen hB7 hb8
        have A3 := hide ((unhide KT) w8 hB8)
        clear A2
        go_wp2_with fail
        refine (unhide A3).mono ?_
        rintro e9 w9 ⟨rfl, hb9⟩
        have h79 := bthen (bthen hb7 hb8) hb9
        have cb := ((unhide HSB) w9 h79).conv
        have cd := (sd.below h79).conv
        have HF : Tells8 w true (.returned (.bool true)) w9 := ⟨rfl, bthen hB8 hb9⟩
        clear A3 HD HSB sc sd hb7 hb8 hb9 hB7 hB8 h79 KT
        rcases hor with heq | hf8
        · subst heq
          generalize strOfNums ys = sy at *
          by_cases hf8 : f8 = 0
          · have hq8 : (f8 != 0) = false := by simp [hf8]
            clear hf8
            go_wp2
            go_ret
            exact HF
          · have hq8 : (f8 != 0) = true := by simpa using hf8
            clear hf8
            go_wp2
            go_ret
            exact HF
        · go_wp2
          go_ret
          exact HF
      · have ht32 : t = 32 := by omega
        subst ht32
        clear hgo
        go_wp2_with fail
        refine (unhide A1).mono ?_
        rintro e7 w7 ⟨vl, pl, rfl, hR7, hps7, hb7⟩
        obtain ⟨lo7, lc7, hv7, _⟩ := hR7.shape
        subst hv7
        have hB7 := bthen hBr hb7
        have A2 := hide ((unhide HD) w7 hB7 (sd.below hb7))
        clear A1 hR7 hps7
        go_wp2_with fail
        refine (unhide A2).mono ?_
        rintro e8 w8 ⟨lo8, cp8, a8, f8, hor, rfl, hb8⟩
        have hB8 := bthen hB7 hb8
        have A3 := hide ((unhide KT) w8 hB8)
        clear A2
        go_wp2_with fail
        refine (unhide A3).mono ?_
        rintro e9 w9 ⟨rfl, hb9⟩
        have h79 := bthen (bthen hb7 hb8) hb9
        have cb := ((unhide HSB) w9 h79).conv
        have cd := (sd.below h79).conv
        have HF : Tells8 w true (.returned (.bool true)) w9 := ⟨rfl, bthen hB8 hb9⟩
        clear A3 HD HSB sc sd hb7 hb8 hb9 hB7 hB8 h79 KT
        rcases hor with heq | hf8
        · subst heq
          generalize strOfNums ys = sy at *
          by_cases hf8 : f8 = 0
          · have hq8 : (f8 != 0) = false := by simp [hf8]
            clear hf8
            go_wp2
            go_ret
            exact HF
          · have hq8 : (f8 != 0) = true := by simpa using hf8
            clear hf8
            go_wp2
            go_ret
            exact HF
        · go_wp2
          go_ret
          exact HF
end Go.Proofs.YtlmcmlbmnnjjpaaGreatDoor
