/- PackBack. -/
import Derived.Test.YtlmcmlbmnnjjpaaGreatDoorQe8
namespace Go.Proofs.YtlmcmlbmnnjjpaaGreatDoor
open Go.RowKit
open Wi

theorem unpack_fit {zs : List Int} (hb : Byt zs) (h : (Pk.unpack zs).2.2 = 0) : (∀ r ∈ (Pk.unpack zs).1, RecFit r) ∧ (Pk.unpack zs).1.length ≤ 4096 := by
  have hbt : Byt (zs.take (zs.length - 4)) := fun z hz => hb z (List.mem_of_mem_take hz)
  unfold Pk.unpack at h ⊢
  by_cases h1 : (Pk.framed zs).2 = 0
  · rw [if_neg (by simpa using h1)] at h ⊢
    by_cases h2 : (Pk.read (zs.take (zs.length - 4))).2.2 = 0
    · have hf := read_facts hbt h2
      rw [if_neg (by simpa using h2)] at h ⊢
      by_cases h3 : (Cn.check6 (Pk.read (zs.take (zs.length - 4))).1.1).2 = 0
      · rw [if_neg (by simpa using h3)]
        exact ⟨hf.2.2, hf.2.1⟩
      · rw [if_pos (by simpa using h3)] at h
        exact absurd h h3
    · rw [if_pos (by simpa using h2)] at h
      exact absurd h h2
  · rw [if_pos (by simpa using h1)] at h
    exact absurd h h1
set_option maxRecDepth 8000 in
set_option maxHeartbeats 8000000 in
theorem back_any (v vb : Value) (rs : List Rec) (zs : List Int) (w : World) (hgl : Glob w) (hv : Rcs w v rs) (hs : Sl w vb zs) : Calls Tryz.prog 5 #[v, vb] w (Tells8 w true) := by
  have HGL : Hid (∀ W, Below w.heap.size w W → Glob W) := fun W h => hgl.on h
  have K1 := hide (few8_any v rs 120 w hv (by omega))
  have HFIT : Hid (∀ r ∈ rs.take 120, RecFit r) := fun r hr => hv.2.1 r (List.mem_of_mem_take hr)
  have KT : Hid (∀ W, Below w.heap.size w W → Calls Tryz.prog 11 #[] W (Tells8 W true)) := fun W h => told8_any W (hgl.on h)
  have hl120 : (rs.take 120).length ≤ 120 := List.length_take_le _ _
  have HRC : Hid (∀ W v1 ps, Rown W w.heap.size v1 ps → ps.map (·.1) = rs.take 120 → Rcs W v1 (rs.take 120)) := fun W v1 ps hR he => by
    rw [← he]
    have hpl : ps.length = (rs.take 120).length := by rw [← he, List.length_map]
    refine hR.rcs (by omega) (fun p hp => (unhide HFIT) _ ?_)
    rw [← he]
    exact List.mem_map.2 ⟨p, hp, rfl⟩
  have HSB : Hid (∀ W, Below w.heap.size w W → Sl W vb zs) := fun W h => hs.below h
  have KU : Hid (∀ W, Below w.heap.size w W → Calls Tryz.prog 15 #[vb] W (UnpB W (Pk.unpack zs))) := fun W hW => unpack_any vb zs W ((unhide HGL) W hW) (hs.below hW)
  have hpu : (Pk.unpack zs).2.2 = 0 → Pk.pack (Pk.unpack zs).1 = (zs, 0, 0) ∧ (∀ r ∈ (Pk.unpack zs).1, RecFit r) ∧ (Pk.unpack zs).1.length ≤ 4096 := fun h => ⟨pack_unpack hs.1 h, unpack_fit hs.1 h⟩
  have hup := fun h => unpack_pack (l := rs.take 120) h
  obtain ⟨ao0, cap0, rfl, _, _⟩ := hv.shape
  obtain ⟨ao1, cap1, rfl, hcz1, hcz2⟩ := hs.shape
  have hzl := hs.len
  clear hgl hv hs
  generalize Pk.unpack zs = x at *
  go_enter Tryz.func5, Tryz.ntmps5
  go_wp2_with fail
  refine (unhide K1).mono ?_
  rintro e1 w1 ⟨v1, ps, rfl, hps, hR, hb1⟩
  have hrc1 := (unhide HRC) w1 v1 ps hR hps
  have K2 := hide (pack_any v1 _ w1 ((unhide HGL) w1 hb1) hrc1)
  obtain ⟨lao, lcap, hvl, _⟩ := hR.shape
  subst hvl
  have HRC1 := hide hrc1
  clear K1 hR hps hrc1
  generalize Pk.pack (rs.take 120) = q at *
  go_wp2_with fail
  refine (unhide K2).mono ?_
  rintro e2 w2 ⟨v2, rfl, hown, hb2⟩
  have hB2 := bthen hb1 hb2
  clear K2
  by_cases he : q.2.2 = 0
  · have hq : (q.2.2 == 0) = true := by simpa using he
    have hu := hup he
    have K3 := unpack_any v2 q.1 w2 ((unhide HGL) w2 hB2) hown.sl
    rw [hu] at K3
    have K3 := hide K3
    obtain ⟨ao2, cap2, hv2, _, _⟩ := hown.sl.shape
    subst hv2
    clear hup hu hown he
    go_wp2_with fail
    refine (unhide K3).mono ?_
    rintro e3 w3 ⟨v3, ps3, rfl, hR3, hps3, hb3⟩
    have hB3 := bthen hB2 hb3
    replace hps3 : ps3.map (·.1) = rs.take 120 := hps3
    have hrc3 := (unhide HRC) w3 v3 ps3 (hR3.lower hB2.size) hps3
    have K4 := hide (sameRecs_eq v3 _ (rs.take 120) w3 hrc3 (((unhide HRC1).below hb2).below hb3))
    obtain ⟨lao3, lcap3, hvl3, _⟩ := hR3.shape
    subst hvl3
    clear K3 hR3 hps3 hrc3 HRC1 HRC HFIT
    go_wp2_with fail
    refine (unhide K4).mono ?_
    rintro e4 w4 ⟨rfl, hb4⟩
    have hB4 := bthen hB3 hb4
    clear K4 hb4 hb3 hB3
    have KU2 := hide ((unhide KU) w4 hB4)
    by_cases hx : x.2.2 = 0
    · have hxq : (x.2.2 != 0) = false := by simp [hx]
      obtain ⟨hpx, hxf, hxl⟩ := hpu hx
      obtain ⟨xl, xa, xe⟩ := x
      simp only at hx hpx hxf hxl hxq KU2 ⊢
      subst hx
      clear KU hpu
      go_wp2_with fail
      refine (unhide KU2).mono ?_
      rintro e5 w5 ⟨v5, ps5, rfl, hR5, hps5, hb5⟩
      have hB5 := bthen hB4 hb5
      replace hps5 : ps5.map (·.1) = xl := hps5
      have hrc5 : Rcs w5 v5 xl := by
        rw [← hps5]
        have hpl5 : ps5.length = xl.length := by rw [← hps5, List.length_map]
        refine hR5.rcs (by omega) (fun p hp => hxf _ ?_)
        rw [← hps5]
        exact List.mem_map.2 ⟨p, hp, rfl⟩
      have KP5 := pack_any v5 xl w5 ((unhide HGL) w5 hB5) hrc5
      rw [hpx] at KP5
      have KP5 := hide KP5
      obtain ⟨lao5, lcap5, hvl5, _⟩ := hR5.shape
      subst hvl5
      clear KU2 hR5 hps5 hrc5 hxf hpx
      go_wp2_with fail
      refine (unhide KP5).mono ?_
      rintro e6 w6 ⟨v6, rfl, hown6, hb6⟩
      have hB6 := bthen hB5 hb6
      have KT6 := hide ((unhide KT) w6 hB6)
      have HS6 := hide hown6.sl
      obtain ⟨ao6, cap6, hv6, _, _⟩ := hown6.sl.shape
      replace hv6 : v6 = .slice ao6 zs.length cap6 := hv6
      subst hv6
      clear KP5 hown6 KT
      go_wp2_with fail
      refine (unhide KT6).mono ?_
      rintro e7 w7 ⟨rfl, hb7⟩
      have hcv1 : (convert 24 9 (.slice ao6 zs.length cap6)).run Tryz.prog w7 = .ok (.string (strOfNums zs)) w7 := ((unhide HS6).below hb7).conv
      have hcv2 := ((unhide HSB) w7 (bthen hB6 hb7)).conv
      have HF : Tells8 w true (.returned (.bool true)) w7 := ⟨rfl, bthen hB6 hb7⟩
      clear KT6 HS6 HSB hb7 hB6 hb6 hB5 hb5
      generalize strOfNums zs = sz at *
      go_wp2
      go_ret
      exact HF
    · have hxq : (x.2.2 != 0) = true := by simpa using hx
      clear KU hpu hx
      go_wp2_with fail
      refine (unhide KU2).mono ?_
      rintro e5 w5 ⟨v5, ps5, rfl, hR5, hps5, hb5⟩
      have hB5 := bthen hB4 hb5
      have KT6 := hide ((unhide KT) w5 hB5)
      obtain ⟨lao5, lcap5, hvl5, _⟩ := hR5.shape
      subst hvl5
      clear KU2 hR5 hps5 KT
      go_wp2_with fail
      refine (unhide KT6).mono ?_
      rintro e7 w7 ⟨rfl, hb7⟩
      have HF : Tells8 w true (.returned (.bool true)) w7 := ⟨rfl, bthen hB5 hb7⟩
      clear KT6 hb7 hB5 hb5 HSB
      go_wp2
      go_ret
      exact HF
  · have hq : (q.2.2 == 0) = false := by simpa using he
    obtain ⟨ao2, cap2, hv2, _, _⟩ := hown.sl.shape
    subst hv2
    clear hup hown he HRC1 HRC HFIT
    have KU2 := hide ((unhide KU) w2 hB2)
    by_cases hx : x.2.2 = 0
    · have hxq : (x.2.2 != 0) = false := by simp [hx]
      obtain ⟨hpx, hxf, hxl⟩ := hpu hx
      obtain ⟨xl, xa, xe⟩ := x
      simp only at hx hpx hxf hxl hxq KU2 ⊢
      subst hx
      clear KU hpu
      go_wp2_with fail
      refine (unhide KU2).mono ?_
      rintro e5 w5 ⟨v5, ps5, rfl, hR5, hps5, hb5⟩
      have hB5 := bthen hB2 hb5
      replace hps5 : ps5.map (·.1) = xl := hps5
      have hrc5 : Rcs w5 v5 xl := by
        rw [← hps5]
        have hpl5 : ps5.length = xl.length := by rw [← hps5, List.length_map]
        refine hR5.rcs (by omega) (fun p hp => hxf _ ?_)
        rw [← hps5]
        exact List.mem_map.2 ⟨p, hp, rfl⟩
      have KP5 := pack_any v5 xl w5 ((unhide HGL) w5 hB5) hrc5
      rw [hpx] at KP5
      have KP5 := hide KP5
      obtain ⟨lao5, lcap5, hvl5, _⟩ := hR5.shape
      subst hvl5
      clear KU2 hR5 hps5 hrc5 hxf hpx
      go_wp2_with fail
      refine (unhide KP5).mono ?_
      rintro e6 w6 ⟨v6, rfl, hown6, hb6⟩
      have hB6 := bthen hB5 hb6
      have KT6 := hide ((unhide KT) w6 hB6)
      have HS6 := hide hown6.sl
      obtain ⟨ao6, cap6, hv6, _, _⟩ := hown6.sl.shape
      replace hv6 : v6 = .slice ao6 zs.length cap6 := hv6
      subst hv6
      clear KP5 hown6 KT
      go_wp2_with fail
      refine (unhide KT6).mono ?_
      rintro e7 w7 ⟨rfl, hb7⟩
      have hcv1 : (convert 24 9 (.slice ao6 zs.length cap6)).run Tryz.prog w7 = .ok (.string (strOfNums zs)) w7 := ((unhide HS6).below hb7).conv
      have hcv2 := ((unhide HSB) w7 (bthen hB6 hb7)).conv
      have HF : Tells8 w true (.returned (.bool true)) w7 := ⟨rfl, bthen hB6 hb7⟩
      clear KT6 HS6 HSB hb7 hB6 hb6 hB5 hb5
      generalize strOfNums zs = sz at *
      go_wp2
      go_ret
      exact HF
    · have hxq : (x.2.2 != 0) = true := by simpa using hx
      clear KU hpu hx
      go_wp2_with fail
      refine (unhide KU2).mono ?_
      rintro e5 w5 ⟨v5, ps5, rfl, hR5, hps5, hb5⟩
      have hB5 := bthen hB2 hb5
      have KT6 := hide ((unhide KT) w5 hB5)
      obtain ⟨lao5, lcap5, hvl5, _⟩ := hR5.shape
      subst hvl5
      clear KU2 hR5 hps5 KT
      go_wp2_with fail
      refine (unhide KT6).mono ?_
      rintro e7 w7 ⟨rfl, hb7⟩
      have HF : Tells8 w true (.returned (.bool true)) w7 := ⟨rfl, bthen hB5 hb7⟩
      clear KT6 hb7 hB5 hb5 HSB
      go_wp2
      go_ret
      exact HF
end Go.Proofs.YtlmcmlbmnnjjpaaGreatDoor
