/- told of chapter 20. -/
import Derived.Test.YtcnmmghkjblemaaDoorNt20
import Derived.Test.YtcnmmghkjblemaaDoorNm20
namespace Go.Proofs.YtcnmmghkjblemaaDoor
open Go.RowKit

theorem sv_new20 (w : World) (e : TypeId) (us : List Value) (hu : us.length ≤ 140737488355328) : Sv (w.alloc (.cells us.toArray e)) (.slice (some ⟨w.heap.size, 0, none⟩) us.length us.length) us := by
  rcases Nat.eq_zero_or_pos us.length with h | h
  · obtain rfl := List.eq_nil_of_length_eq_zero h
    exact ⟨by simp, .inl ⟨rfl, _, 0, rfl, by omega, fun h => by cases h⟩⟩
  · refine ⟨hu, .inr ⟨w.heap.size, 0, us.length, rfl, Nat.le_refl _, by omega, fun j hj => ?_⟩⟩
    simp [List.getD, hj]
theorem un20 : Na.una [1, 97, 0, 9] 0 = (0, [97], 3) := by
  have h := Na.upl_enc [[97]] [9] (fun a ha => by simp at ha; subst ha; exact ⟨rfl, fun x hx => by simp at hx; omega⟩)
  have e : Na.enc [[97]] ++ [9] = [1, 97, 0, 9] := rfl
  rw [e] at h
  have h2 : Na.unp [1, 97, 0, 9] = (0, [97], 3) := by
    unfold Na.unp; rw [h]; rfl
  unfold Na.una
  rw [if_neg (by decide)]
  show (if (Na.unp [1, 97, 0, 9]).1 = 0 then _ else _) = _
  rw [show List.drop (Int.toNat 0) [1, 97, 0, 9] = ([1, 97, 0, 9] : List Int) from rfl, h2]
  rfl
theorem srt20 : Na.srt [[98, 46, 97], [97]] = [[97], [98, 46, 97]] := by
  have h : ([1, 0] : List Nat) = Na.plc [[98, 46, 97], [97]] := by
    refine Na.plc_uniq (by decide) fun i j _ hij hj => ?_
    have hj2 : j < 2 := hj
    obtain rfl : i = 0 := by omega
    obtain rfl : j = 1 := by omega
    exact .inl (by decide +kernel)
  unfold Na.srt
  rw [← h]
  rfl
set_option maxRecDepth 20000 in
set_option maxHeartbeats 4000000 in
theorem told20 (w : World) (hg : Gl20 w) : Calls Tryd.prog 15 #[] w (Tells w true) := by
  have K1 := hide (pack20 spltC20 ⟨#[97, 46, 98, 99]⟩ w (by decide) hg)
  have HG := hide hg
  have HP : Hid (Na.pkE (nums ⟨#[97, 46, 98, 99]⟩) = 0) := by show _ = _; decide +kernel
  have HE : Hid (Na.enc (Na.lab (nums ⟨#[97, 46, 98, 99]⟩)) = [1, 97, 2, 98, 99, 0]) := by show _ = _; decide +kernel
  clear hg
  go_enter Tryd.func15, Tryd.ntmps15
  go_wp2_with fail
  refine (unhide K1).mono ?_
  rintro e1 w1 ⟨v1, rfl, o1, b1⟩
  rw [unhide HP, if_pos rfl, unhide HE] at o1
  rw [unhide HP]
  have O1 := hide o1
  have B1 := hide b1
  have K2 := hide (unpack20 (w := w1.alloc (.cells #[.int .u8 1, .int .u8 97, .int .u8 0, .int .u8 9] 5)) (v := .slice (some ⟨w1.heap.size, 0, none⟩) 4 4) (zs := [1, 97, 0, 9]) ⟨fun z hz => u8_fit (by simp at hz; omega), sv_new20 w1 5 [.int .u8 1, .int .u8 97, .int .u8 0, .int .u8 9] (by decide)⟩ 0 (by decide))
  rw [un20] at K2
  have hba : Below w1.heap.size w1 (w1.alloc (.cells #[.int .u8 1, .int .u8 97, .int .u8 0, .int .u8 9] 5)) := (Below.refl _ _).alloc (Nat.le_refl _) _
  have BA := hide hba
  clear K1 o1 b1 hba HP HE
  go_wp2_with fail
  refine (unhide K2).mono ?_
  rintro e2 w2 ⟨t2, rfl, ht2, b2⟩
  obtain rfl : t2 = ⟨#[97]⟩ := nums_inj (by rw [ht2]; rfl)
  have B2 := hide (bthen (unhide B1) (bthen (unhide BA) b2))
  have O2 := hide ((unhide O1).below (bthen (unhide BA) b2))
  clear K2 BA B1 O1 ht2 b2
  have K3 := hide (parent20 cutC20 ⟨#[97, 46, 98]⟩ w2 (by decide) ((unhide HG).on (unhide B2)))
  rw [show Na.par (nums ⟨#[97, 46, 98]⟩) = [98] by decide +kernel, show decide (nums ⟨#[97, 46, 98]⟩ ≠ []) = true by decide +kernel] at K3
  go_wp2_with fail
  refine (unhide K3).mono ?_
  rintro e3 w3 ⟨t3, rfl, ht3, d3⟩
  obtain rfl : t3 = ⟨#[98]⟩ := nums_inj (by rw [ht3]; rfl)
  have B3 := hide (bthen (unhide B2) (drewB d3))
  have O3 := hide ((unhide O2).below (drewB d3))
  clear K3 B2 O2 ht3 d3
  have K4 := hide (sorted20 (w := w3.alloc (.cells #[.string ⟨#[98, 46, 97]⟩, .string ⟨#[97]⟩] 9)) (b := w3.heap.size) (off := 0) (cap := 2) (X := [[98, 46, 97], [97]]) (sv_new20 w3 9 [.string ⟨#[98, 46, 97]⟩, .string ⟨#[97]⟩] (by decide)) (fun a ha => by
    simp at ha
    rcases ha with rfl | rfl
    · exact ⟨fun z hz => by simp at hz; omega, by decide⟩
    · exact ⟨fun z hz => by simp at hz; omega, by decide⟩) (by decide))
  rw [srt20] at K4
  have hba : Below w3.heap.size w3 (w3.alloc (.cells #[.string ⟨#[98, 46, 97]⟩, .string ⟨#[97]⟩] 9)) := (Below.refl _ _).alloc (Nat.le_refl _) _
  have BA := hide hba
  clear hba
  go_wp2_with fail
  refine (unhide K4).mono ?_
  rintro e4 w4 ⟨v4, rfl, o4, b4⟩
  have B4 := hide (bthen (unhide B3) (bthen (unhide BA) b4))
  have O4 := hide ((unhide O3).below (bthen (unhide BA) b4))
  obtain ⟨a4, c4, rfl, _, hcx⟩ := txt_cells20 o4.sv
  obtain ⟨b0, off0, rfl, hc0⟩ := hcx 0 (by decide)
  have HC0 : Hid (∀ W, Below w4.heap.size w4 W → W.cell? ⟨b0, off0 + 0, none⟩ = some (.string ⟨#[97]⟩)) := fun W hW => hc0 W hW
  have hcv := (unhide O4).sk.conv20
  rw [show strOfNums [1, 97, 2, 98, 99, 0] = ⟨#[1, 97, 2, 98, 99, 0]⟩ from rfl] at hcv
  clear K4 BA B3 O3 o4 b4 hcx hc0 O4
  have K5 := hide (compare20 lixC20 ⟨#[122]⟩ ⟨#[97, 46, 122]⟩ w4 (by decide) (by decide))
  rw [show Na.cmp (nums ⟨#[122]⟩) (nums ⟨#[97, 46, 122]⟩) = -1 by decide +kernel] at K5
  go_wp2_with fail
  refine (unhide K5).mono ?_
  rintro e5 w5 ⟨rfl, d5⟩
  have B5 := hide (drewB d5)
  have K6 := hide (below20 lixC20 ⟨#[120, 46, 65]⟩ ⟨#[97]⟩ w5 (by decide) (by decide))
  rw [show Na.bel (nums ⟨#[120, 46, 65]⟩) (nums ⟨#[97]⟩) = true by decide +kernel] at K6
  clear K5 d5 hcv
  go_wp2_with fail
  refine (unhide K6).mono ?_
  rintro e6 w6 ⟨rfl, d6⟩
  have B6 := hide (bthen (unhide B5) (drewB d6))
  have K7 := hide (below20 lixC20 ⟨#[120, 97]⟩ ⟨#[97]⟩ w6 (by decide) (by decide))
  rw [show Na.bel (nums ⟨#[120, 97]⟩) (nums ⟨#[97]⟩) = false by decide +kernel] at K7
  clear K6 d6 B5
  go_wp2_with fail
  refine (unhide K7).mono ?_
  rintro e7 w7 ⟨rfl, d7⟩
  have B7 := hide (bthen (unhide B6) (drewB d7))
  have c7 := (unhide HC0) w7 (unhide B7)
  rw [Nat.add_zero] at c7
  have K8 := hide (labels20 spltC20 ⟨#[97, 46]⟩ w7 (by decide) ((unhide HG).on (bthen (unhide B4) (unhide B7))))
  rw [show Na.lab (nums ⟨#[97, 46]⟩) = [[97], []] by decide +kernel] at K8
  clear K7 d7 B6 HC0
  go_wp2_with fail
  refine (unhide K8).mono ?_
  rintro e8 w8 ⟨v8, rfl, o8, b8⟩
  obtain ⟨a8, c8, rfl, _, _⟩ := txt_cells20 o8.sv
  have HF := hide (bthen (unhide B4) (bthen (unhide B7) b8))
  clear K8 o8 b8 B7 B4 c7
  go_wp2
  go_ret
  exact ⟨rfl, unhide HF⟩
end Go.Proofs.YtcnmmghkjblemaaDoor
