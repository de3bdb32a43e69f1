import Derived.Test.YtbbmaokeibafkaaGreatDoorN35
import Derived.Test.YtbbmaokeibafkaaGreatDoorN37
import Derived.Test.YtbbmaokeibafkaaGreatDoorN49
import Derived.Test.YtbbmaokeibafkaaGreatDoorN33
namespace Go.Proofs.YtbbmaokeibafkaaGreatDoor
open Go.RowKit Go.Shelf
set_option maxRecDepth 20000 in
set_option maxHeartbeats 4000000 in
theorem checks_law6 (v : Value) (rs0 : List Rec) (w : World) (hg : Glob w) (hs : Sn.Glob w) (hl : Rcs w v rs0) : Calls Tryz.prog 3 #[v] w (BoolB w true) := by
  obtain ⟨ao, lc, rfl, hc1, hc2⟩ := hl.shape
  have hlen : (rs0.take 120).length ≤ rs0.length := by rw [List.length_take]; omega
  have hpre : rs0.take (rs0.take 120).length = rs0.take 120 := by rw [List.length_take]; by_cases h : 120 ≤ rs0.length
                                                                  · rw [Nat.min_eq_left h]
                                                                  · rw [Nat.min_eq_right (by omega), List.take_of_length_le (Nat.le_refl _), List.take_of_length_le (by omega)]
  have hfit : ∀ r ∈ rs0.take 120, RecFit r := fun r hr => hl.2.1 r (List.mem_of_mem_take hr)
  have hrl : (rs0.take 120).length ≤ 1000000000 := Nat.le_trans hlen hl.1
  have hr0 := hl.1
  have K1 := hide (few_any6 _ rs0 120 w hl (by decide))
  have hch : (Cn.check6 (rs0.take 120)).1 = (Cn.check6 (rs0.take 120)).1 := rfl
  have HG := hide hg
  have HS := hide hs
  have HL := hide hl
  have HPRE := hide hpre
  have HFIT := hide hfit
  clear hg hs hl hpre hfit hch
  generalize hns : rs0.take 120 = rs at *
  generalize hn : rs.length = n at *
  have HN := hide hn
  have HNS := hide hns
  clear hn hns
  generalize hN : rs0.length = N at *
  have HNN := hide hN
  clear hN
  go_enter Tryz.func3, Tryz.ntmps3
  go_wp2_with fail
  refine (unhide K1).mono ?_
  rintro e w1 ⟨g, cap, ps, rfl, hF, b1⟩
  have hR := fw_rcs6 hF (by rw [unhide HN]; exact hrl) (unhide HFIT)
  have K2 := hide (check_any _ _ w1 ((unhide HG).on b1) hR)
  rw [unhide HN] at K2
  have HF := hide hF
  have HB := hide b1
  clear K1 hF hR b1
  have hz := unhide HN
  generalize hk : Cn.check6 rs = q at *
  have HK := hide hk
  clear hk
  obtain ⟨q1, q2⟩ := q
  subst hz
  go_wp2_with fail
  refine (unhide K2).mono ?_
  rintro e w2 ⟨rfl, b2⟩
  have B2 := bthen (unhide HB) b2
  have hL2 := (unhide HL).below B2
  have hH := hL2.head (k := rs.length) (by omega)
  rw [unhide HPRE] at hH
  have K3 := hide (refCheck6 _ _ w2 hH)
  rw [unhide HK] at K3
  have HF2 := hide ((unhide HF).below b2)
  have HB2 := hide B2
  clear K2 b2 B2 HB HF hL2 hH
  go_wp2_with fail
  refine (unhide K3).mono ?_
  rintro e w3 ⟨rfl, b3⟩
  have B3 := bthen (unhide HB2) b3
  have K4 := hide (told_any6 w3 ((unhide HG).on B3) ((unhide HS).on B3))
  have HF3 := hide ((unhide HF2).below b3)
  have HB3 := hide B3
  clear K3 b3 B3 HB2 HF2
  go_wp2_with fail
  refine (unhide K4).mono ?_
  rintro e w4 ⟨rfl, b4⟩
  have B4 := bthen (unhide HB3) b4
  have K5 := hide (whole_any6 g cap rs ps _ rs0 _ w4 ((unhide HF3).below b4) ((unhide HL).below B4) (by rw [unhide HNN]; exact hlen) (unhide HPRE))
  have HB4 := hide B4
  clear K4 b4 B4 HB3 HF3
  go_wp2_with fail
  refine (unhide K5).mono ?_
  rintro e w5 ⟨rfl, b5⟩
  have HB5 := hide (bthen (unhide HB4) b5)
  clear K5 b5 HB4
  go_wp2
  go_ret
  exact ⟨rfl, unhide HB5⟩
end Go.Proofs.YtbbmaokeibafkaaGreatDoor
