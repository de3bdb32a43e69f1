import Derived.Test.YtdnkfnccbmbpaaaGreatDoorGp8
import Derived.Deep.RegionHeld3
import Derived.Lib.Strings
import Derived.WideShapes
/- framed: what can be asked of bytes ahead of their records. -/
namespace Go.Proofs.YtdnkfnccbmbpaaaGreatDoor
open Go.RowKit
open Wi

theorem str_inj8 {a b : List Int} (ha : Byt a) (hb : Byt b) (h : strOfNums a = strOfNums b) : a = b := by
  have e : a.map (fun n => UInt8.ofNat n.toNat) = b.map (fun n => UInt8.ofNat n.toNat) := by rw [← strOfNums_data, ← strOfNums_data, h]
  have hl : a.length = b.length := by simpa using congrArg List.length e
  apply List.ext_getElem hl
  intro i h1 h2
  have e2 : (a.map (fun n => UInt8.ofNat n.toNat))[i]? = (b.map (fun n => UInt8.ofNat n.toNat))[i]? := by rw [e]
  simp only [List.getElem?_map, List.getElem?_eq_getElem h1, List.getElem?_eq_getElem h2, Option.map_some, Option.some.injEq] at e2
  have e3 := congrArg UInt8.toNat e2
  have q1 := ha _ (List.getElem_mem h1)
  have q2 := hb _ (List.getElem_mem h2)
  simp only [UInt8.toNat_ofNat'] at e3
  omega
theorem str_ne8 {a b : ByteArray} (h : a ≠ b) : (a.toList == b.toList) = false := by
  rw [Lib.toList_data, Lib.toList_data]
  exact beq_eq_false_iff_ne.2 (fun e => h (WideShapes.bytes_inj e))
theorem equal_any (v u : Value) (zs ys : List Int) (w : World) (hv : Sl w v zs) (hu : Sl w u ys) : Calls Tryz.prog 60 #[v, u] w fun e w' => e = .returned (.bool (decide (zs = ys))) ∧ w' = w := by
  have h1 := hv.conv
  have h2 := hu.conv
  by_cases he : zs = ys
  · subst he
    rw [decide_eq_true rfl]
    obtain ⟨ao, cap, rfl, _, _⟩ := hv.shape
    obtain ⟨ao', cap', rfl, _, _⟩ := hu.shape
    generalize strOfNums zs = s at *
    clear hv hu
    go_enter Tryz.func60, Tryz.ntmps60
    go_wp2
    go_ret
    exact ⟨rfl, rfl⟩
  · rw [decide_eq_false he]
    have hne : strOfNums zs ≠ strOfNums ys := fun h => he (str_inj8 hv.1 hu.1 h)
    have hb := str_ne8 hne
    obtain ⟨ao, cap, rfl, _, _⟩ := hv.shape
    obtain ⟨ao', cap', rfl, _, _⟩ := hu.shape
    generalize strOfNums zs = s at *
    generalize strOfNums ys = s' at *
    clear hv hu hne
    go_enter Tryz.func60, Tryz.ntmps60
    go_wp2
    go_ret
    exact ⟨rfl, rfl⟩
end Go.Proofs.YtdnkfnccbmbpaaaGreatDoor
/- framed, walked. -/
namespace Go.Proofs.YtdnkfnccbmbpaaaGreatDoor
open Go.RowKit
open Wi

def FrB (w : World) (r : Int × Int) (e : Ending) (w' : World) : Prop := e = .returned (.tuple #[.int .i64 r.1, .int .i64 r.2]) ∧ Below w.heap.size w w'
set_option maxHeartbeats 1000000 in
theorem framed_early (v : Value) (zs : List Int) (w : World) (hs : Sl w v zs) (h : 262144 < zs.length ∨ zs.length < 10) : Calls Tryz.prog 34 #[v] w (FrB w (Pk.framed zs)) := by
  have hll := hs.len
  obtain ⟨ao, cap, rfl, hc1, hc2⟩ := hs.shape
  by_cases hlong : 262144 < zs.length
  · have hp : Pk.framed zs = (0, 2) := by unfold Pk.framed; rw [if_pos hlong]
    rw [hp]
    have hd : decide ((262144 : Int) < (zs.length : Int)) = true := by rw [decide_eq_true_eq]; omega
    clear hs h hp hlong hc1 hc2
    generalize zs.length = m at *
    go_enter Tryz.func34, Tryz.ntmps34
    go_wp2
    go_ret2
    exact ⟨rfl, Below.refl _ _⟩
  · have hp : Pk.framed zs = ((zs.length : Int), 10) := by unfold Pk.framed; rw [if_neg hlong, if_pos (by omega)]
    rw [hp]
    have hd : decide ((262144 : Int) < (zs.length : Int)) = false := by rw [decide_eq_false_iff_not]; omega
    have hd2 : decide ((zs.length : Int) < 10) = true := by rw [decide_eq_true_eq]; omega
    clear hs h hp hlong hc1 hc2
    generalize zs.length = m at *
    go_enter Tryz.func34, Tryz.ntmps34
    go_wp2
    go_ret2
    exact ⟨rfl, Below.refl _ _⟩
set_option maxHeartbeats 2000000 in
theorem framed_sum (v : Value) (zs : List Int) (w : World) (hs : Sl w v zs) (hlong : ¬ 262144 < zs.length) (hshort : ¬ zs.length < 10) (hsum : zs.drop (zs.length - 4) ≠ Pk.sum4 (zs.take (zs.length - 4))) : Calls Tryz.prog 34 #[v] w (FrB w (Pk.framed zs)) := by
  have hp : Pk.framed zs = ((zs.length : Int) - 4, 13) := by unfold Pk.framed; rw [if_neg hlong, if_neg hshort, if_pos hsum]
  rw [hp]
  obtain ⟨b, off, cap, rfl, hc1, hc2, hc⟩ := hs.place (by omega)
  have hA : Sl w (.slice (some ⟨b, off + (zs.length - 4), none⟩) 4 (cap - (zs.length - 4))) (zs.drop (zs.length - 4)) := by
    have h := hs.cut (l := zs.length - 4) (h := zs.length) (m := cap) (by omega) (by omega) (by omega) (by omega)
    rw [List.take_of_length_le (by simp)] at h
    have e : sliced (some ⟨b, off, none⟩) (zs.length - 4) zs.length cap 1 = .slice (some ⟨b, off + (zs.length - 4), none⟩) 4 (cap - (zs.length - 4)) := by
      unfold sliced
      rw [if_neg (by omega), show zs.length - (zs.length - 4) = 4 by omega]
      simp only [Option.map_some, Nat.mul_one, addr_add]
    rw [e] at h
    exact h
  have hH : Sl w (.slice (some ⟨b, off, none⟩) (zs.length - 4) cap) (zs.take (zs.length - 4)) := hs.head (by omega) hc1
  have KS : Hid (∀ W, Below w.heap.size w W → Calls Tryz.prog 15 #[.slice (some ⟨b, off, none⟩) (zs.length - 4) cap] W (WrB W (Pk.sum4 (zs.take (zs.length - 4))))) := fun W hW => psum_any _ _ W (hH.below hW)
  have KE : Hid (∀ W u, Below w.heap.size w W → Sl W u (Pk.sum4 (zs.take (zs.length - 4))) → Calls Tryz.prog 60 #[.slice (some ⟨b, off + (zs.length - 4), none⟩) 4 (cap - (zs.length - 4)), u] W (fun e w' => e = .returned (.bool false) ∧ w' = W)) := fun W u hW hu => by
    have := equal_any _ u _ _ W (hA.below hW) hu
    rw [decide_eq_false hsum] at this
    exact this
  have hlo : 10 ≤ zs.length := by omega
  have hhi : zs.length ≤ 262144 := by omega
  clear hs hp hlong hshort hsum hc hA hH
  generalize Pk.sum4 (zs.take (zs.length - 4)) = ss at *
  generalize zs.length = m at *
  obtain ⟨n, rfl⟩ : ∃ n, m = n + 4 := ⟨m - 4, by omega⟩
  rw [show n + 4 - 4 = n by omega] at *
  have hn1 : (6 : Int) ≤ (n : Int) := by omega
  have hn2 : (n : Int) ≤ 262140 := by omega
  have hd : decide ((262144 : Int) < (n : Int) + 4) = false := by rw [decide_eq_false_iff_not]; omega
  have hd2 : decide ((n : Int) + 4 < 10) = false := by rw [decide_eq_false_iff_not]; omega
  have hnc : n + 4 ≤ cap := hc1
  clear hlo hhi
  go_enter Tryz.func34, Tryz.ntmps34
  go_wp2
  clear hd hd2
  have hq1 : (0 : Int) ≤ (n : Int) := by omega
  have hq2 : (n : Int) ≤ (cap : Int) := by omega
  have hq3 : (n : Int) + 4 ≤ (cap : Int) := by omega
  have hq4 : ¬ cap = n := by omega
  have hq5 : n ≤ cap := by omega
  have hq6 : (n : Int) ≤ (n : Int) + 4 := by omega
  go_region_held3 (fun w' => Below w.heap.size w w')
    (first | assumption | exact (Below.refl _ _).drew | exact bthen (by assumption) (by assumption))
    (first
      | (go_at_call 15; refine ((unhide KS) _ (by assumption)).mono ?_; rintro e1 w1 ⟨v1, rfl, hown, hb1⟩)
      | (go_at_call 60; refine ((unhide KE) _ _ (by assumption) (by exact Own.sl (by assumption))).mono ?_; rintro e2 w2 ⟨rfl, rfl⟩))
  have hB : Below w.heap.size w w2 := by assumption
  clear KS KE hown hb1
  go_wp2
  go_ret2
  exact ⟨by first | rfl | (congr 5; omega) | simp, hB⟩
set_option maxHeartbeats 2000000 in
theorem framed_endo (v : Value) (zs : List Int) (w : World) (hs : Sl w v zs) (hlong : ¬ 262144 < zs.length) (hshort : ¬ zs.length < 10) (hsum : zs.drop (zs.length - 4) = Pk.sum4 (zs.take (zs.length - 4))) (hen : zs.take 4 ≠ [101, 110, 100, 111]) : Calls Tryz.prog 34 #[v] w (FrB w (Pk.framed zs)) := by
  have hp : Pk.framed zs = (0, 12) := by unfold Pk.framed; rw [if_neg hlong, if_neg hshort, if_neg (by simpa using hsum), if_pos hen]
  rw [hp]
  obtain ⟨b, off, cap, rfl, hc1, hc2, hc⟩ := hs.place (by omega)
  have hA : Sl w (.slice (some ⟨b, off + (zs.length - 4), none⟩) 4 (cap - (zs.length - 4))) (zs.drop (zs.length - 4)) := by
    have h := hs.cut (l := zs.length - 4) (h := zs.length) (m := cap) (by omega) (by omega) (by omega) (by omega)
    rw [List.take_of_length_le (by simp)] at h
    have e : sliced (some ⟨b, off, none⟩) (zs.length - 4) zs.length cap 1 = .slice (some ⟨b, off + (zs.length - 4), none⟩) 4 (cap - (zs.length - 4)) := by
      unfold sliced
      rw [if_neg (by omega), show zs.length - (zs.length - 4) = 4 by omega]
      simp only [Option.map_some, Nat.mul_one, addr_add]
    rw [e] at h
    exact h
  have hH : Sl w (.slice (some ⟨b, off, none⟩) (zs.length - 4) cap) (zs.take (zs.length - 4)) := hs.head (by omega) hc1
  have KS : Hid (∀ W, Below w.heap.size w W → Calls Tryz.prog 15 #[.slice (some ⟨b, off, none⟩) (zs.length - 4) cap] W (WrB W (Pk.sum4 (zs.take (zs.length - 4))))) := fun W hW => psum_any _ _ W (hH.below hW)
  have KE : Hid (∀ W u, Below w.heap.size w W → Sl W u (Pk.sum4 (zs.take (zs.length - 4))) → Calls Tryz.prog 60 #[.slice (some ⟨b, off + (zs.length - 4), none⟩) 4 (cap - (zs.length - 4)), u] W (fun e w' => e = .returned (.bool true) ∧ w' = W)) := fun W u hW hu => by
    have := equal_any _ u _ _ W (hA.below hW) hu
    rw [decide_eq_true hsum] at this
    exact this
  have HCV : Hid (∀ W, Below w.heap.size w W → (convert 24 9 (.slice (some ⟨b, off, none⟩) 4 cap)).run Tryz.prog W = .ok (.string (strOfNums (zs.take 4))) W) := fun W hW => ((hs.head (k := 4) (by omega) hc1).below hW).conv
  have hne := str_ne8 (fun h : strOfNums (zs.take 4) = ⟨#[101, 110, 100, 111]⟩ => hen (str_inj8 (fun z hz => hs.1 z (List.mem_of_mem_take hz)) (byt_of rfl) (h.trans rfl)))
  have hl4 : (⟨#[101, 110, 100, 111]⟩ : ByteArray).toList = [101, 110, 100, 111] := by rw [Lib.toList_data]
  rw [hl4] at hne
  clear hen hl4
  generalize strOfNums (zs.take 4) = s4 at *
  have hlo : 10 ≤ zs.length := by omega
  have hhi : zs.length ≤ 262144 := by omega
  clear hs hp hlong hshort hsum hc hA hH
  generalize Pk.sum4 (zs.take (zs.length - 4)) = ss at *
  generalize zs.length = m at *
  obtain ⟨n, rfl⟩ : ∃ n, m = n + 4 := ⟨m - 4, by omega⟩
  rw [show n + 4 - 4 = n by omega] at *
  have hn1 : (6 : Int) ≤ (n : Int) := by omega
  have hn2 : (n : Int) ≤ 262140 := by omega
  have hd : decide ((262144 : Int) < (n : Int) + 4) = false := by rw [decide_eq_false_iff_not]; omega
  have hd2 : decide ((n : Int) + 4 < 10) = false := by rw [decide_eq_false_iff_not]; omega
  have hnc : n + 4 ≤ cap := hc1
  clear hlo hhi
  go_enter Tryz.func34, Tryz.ntmps34
  go_wp2
  clear hd hd2
  have hq1 : (0 : Int) ≤ (n : Int) := by omega
  have hq2 : (n : Int) ≤ (cap : Int) := by omega
  have hq3 : (n : Int) + 4 ≤ (cap : Int) := by omega
  have hq4 : ¬ cap = n := by omega
  have hq5 : n ≤ cap := by omega
  have hq6 : (n : Int) ≤ (n : Int) + 4 := by omega
  go_region_held3 (fun w' => Below w.heap.size w w')
    (first | assumption | exact (Below.refl _ _).drew | exact bthen (by assumption) (by assumption))
    (first
      | (go_at_call 15; refine ((unhide KS) _ (by assumption)).mono ?_; rintro e1 w1 ⟨v1, rfl, hown, hb1⟩)
      | (go_at_call 60; refine ((unhide KE) _ _ (by assumption) (by exact Own.sl (by assumption))).mono ?_; rintro e2 w2 ⟨rfl, rfl⟩))
  have hB : Below w.heap.size w w2 := by assumption
  clear KS KE hown hb1
  have hcv := (unhide HCV) w2 hB
  go_wp2
  go_ret2
  exact ⟨by first | rfl | (congr 5; omega) | simp, hB⟩
set_option maxHeartbeats 2000000 in
theorem framed_one (v : Value) (zs : List Int) (w : World) (hs : Sl w v zs) (hlong : ¬ 262144 < zs.length) (hshort : ¬ zs.length < 10) (hsum : zs.drop (zs.length - 4) = Pk.sum4 (zs.take (zs.length - 4))) (hen : zs.take 4 = [101, 110, 100, 111]) (hone : zs.getD 4 0 ≠ 1) : Calls Tryz.prog 34 #[v] w (FrB w (Pk.framed zs)) := by
  have hp : Pk.framed zs = (4, 12) := by unfold Pk.framed; rw [if_neg hlong, if_neg hshort, if_neg (by simpa using hsum), if_neg (by simpa using hen), if_pos hone]
  rw [hp]
  obtain ⟨b, off, cap, rfl, hc1, hc2, hc⟩ := hs.place (by omega)
  have hA : Sl w (.slice (some ⟨b, off + (zs.length - 4), none⟩) 4 (cap - (zs.length - 4))) (zs.drop (zs.length - 4)) := by
    have h := hs.cut (l := zs.length - 4) (h := zs.length) (m := cap) (by omega) (by omega) (by omega) (by omega)
    rw [List.take_of_length_le (by simp)] at h
    have e : sliced (some ⟨b, off, none⟩) (zs.length - 4) zs.length cap 1 = .slice (some ⟨b, off + (zs.length - 4), none⟩) 4 (cap - (zs.length - 4)) := by
      unfold sliced
      rw [if_neg (by omega), show zs.length - (zs.length - 4) = 4 by omega]
      simp only [Option.map_some, Nat.mul_one, addr_add]
    rw [e] at h
    exact h
  have hH : Sl w (.slice (some ⟨b, off, none⟩) (zs.length - 4) cap) (zs.take (zs.length - 4)) := hs.head (by omega) hc1
  have KS : Hid (∀ W, Below w.heap.size w W → Calls Tryz.prog 15 #[.slice (some ⟨b, off, none⟩) (zs.length - 4) cap] W (WrB W (Pk.sum4 (zs.take (zs.length - 4))))) := fun W hW => psum_any _ _ W (hH.below hW)
  have KE : Hid (∀ W u, Below w.heap.size w W → Sl W u (Pk.sum4 (zs.take (zs.length - 4))) → Calls Tryz.prog 60 #[.slice (some ⟨b, off + (zs.length - 4), none⟩) 4 (cap - (zs.length - 4)), u] W (fun e w' => e = .returned (.bool true) ∧ w' = W)) := fun W u hW hu => by
    have := equal_any _ u _ _ W (hA.below hW) hu
    rw [decide_eq_true hsum] at this
    exact this
  have HCV : Hid (∀ W, Below w.heap.size w W → (convert 24 9 (.slice (some ⟨b, off, none⟩) 4 cap)).run Tryz.prog W = .ok (.string (strOfNums (zs.take 4))) W) := fun W hW => ((hs.head (k := 4) (by omega) hc1).below hW).conv
  have HC4 : Hid (∀ W, Below w.heap.size w W → W.cell? ⟨b, off + 4, none⟩ = some (.int .u8 (zs.getD 4 0))) := fun W hW => by rw [hW.cell (lt_of_cell? (hc 4 (by omega)))]; exact hc 4 (by omega)
  rw [hen] at HCV
  have hne : (zs.getD 4 0 != 1) = true := by simpa using hone
  clear hen hone
  generalize zs.getD 4 0 = c4 at *
  have hlo : 10 ≤ zs.length := by omega
  have hhi : zs.length ≤ 262144 := by omega
  clear hs hp hlong hshort hsum hc hA hH
  generalize Pk.sum4 (zs.take (zs.length - 4)) = ss at *
  generalize zs.length = m at *
  obtain ⟨n, rfl⟩ : ∃ n, m = n + 4 := ⟨m - 4, by omega⟩
  rw [show n + 4 - 4 = n by omega] at *
  have hn1 : (6 : Int) ≤ (n : Int) := by omega
  have hn2 : (n : Int) ≤ 262140 := by omega
  have hd : decide ((262144 : Int) < (n : Int) + 4) = false := by rw [decide_eq_false_iff_not]; omega
  have hd2 : decide ((n : Int) + 4 < 10) = false := by rw [decide_eq_false_iff_not]; omega
  have hnc : n + 4 ≤ cap := hc1
  clear hlo hhi
  go_enter Tryz.func34, Tryz.ntmps34
  go_wp2
  clear hd hd2
  have hq1 : (0 : Int) ≤ (n : Int) := by omega
  have hq2 : (n : Int) ≤ (cap : Int) := by omega
  have hq3 : (n : Int) + 4 ≤ (cap : Int) := by omega
  have hq4 : ¬ cap = n := by omega
  have hq5 : n ≤ cap := by omega
  have hq6 : (n : Int) ≤ (n : Int) + 4 := by omega
  go_region_held3 (fun w' => Below w.heap.size w w')
    (first | assumption | exact (Below.refl _ _).drew | exact bthen (by assumption) (by assumption))
    (first
      | (go_at_call 15; refine ((unhide KS) _ (by assumption)).mono ?_; rintro e1 w1 ⟨v1, rfl, hown, hb1⟩)
      | (go_at_call 60; refine ((unhide KE) _ _ (by assumption) (by exact Own.sl (by assumption))).mono ?_; rintro e2 w2 ⟨rfl, rfl⟩))
  have hB : Below w.heap.size w w2 := by assumption
  clear KS KE hown hb1
  have hcv := (unhide HCV) w2 hB
  have hc4 := (unhide HC4) w2 hB
  have hse : strOfNums [101, 110, 100, 111] = ⟨#[101, 110, 100, 111]⟩ := rfl
  rw [hse] at hcv
  go_wp2
  go_ret2
  exact ⟨by first | rfl | (congr 5; omega) | simp, hB⟩
set_option maxHeartbeats 2000000 in
theorem framed_ok (v : Value) (zs : List Int) (w : World) (hs : Sl w v zs) (hlong : ¬ 262144 < zs.length) (hshort : ¬ zs.length < 10) (hsum : zs.drop (zs.length - 4) = Pk.sum4 (zs.take (zs.length - 4))) (hen : zs.take 4 = [101, 110, 100, 111]) (hone : zs.getD 4 0 = 1) : Calls Tryz.prog 34 #[v] w (FrB w (Pk.framed zs)) := by
  have hp : Pk.framed zs = (0, 0) := by unfold Pk.framed; rw [if_neg hlong, if_neg hshort, if_neg (by simpa using hsum), if_neg (by simpa using hen), if_neg (by simpa using hone)]
  rw [hp]
  obtain ⟨b, off, cap, rfl, hc1, hc2, hc⟩ := hs.place (by omega)
  have hA : Sl w (.slice (some ⟨b, off + (zs.length - 4), none⟩) 4 (cap - (zs.length - 4))) (zs.drop (zs.length - 4)) := by
    have h := hs.cut (l := zs.length - 4) (h := zs.length) (m := cap) (by omega) (by omega) (by omega) (by omega)
    rw [List.take_of_length_le (by simp)] at h
    have e : sliced (some ⟨b, off, none⟩) (zs.length - 4) zs.length cap 1 = .slice (some ⟨b, off + (zs.length - 4), none⟩) 4 (cap - (zs.length - 4)) := by
      unfold sliced
      rw [if_neg (by omega), show zs.length - (zs.length - 4) = 4 by omega]
      simp only [Option.map_some, Nat.mul_one, addr_add]
    rw [e] at h
    exact h
  have hH : Sl w (.slice (some ⟨b, off, none⟩) (zs.length - 4) cap) (zs.take (zs.length - 4)) := hs.head (by omega) hc1
  have KS : Hid (∀ W, Below w.heap.size w W → Calls Tryz.prog 15 #[.slice (some ⟨b, off, none⟩) (zs.length - 4) cap] W (WrB W (Pk.sum4 (zs.take (zs.length - 4))))) := fun W hW => psum_any _ _ W (hH.below hW)
  have KE : Hid (∀ W u, Below w.heap.size w W → Sl W u (Pk.sum4 (zs.take (zs.length - 4))) → Calls Tryz.prog 60 #[.slice (some ⟨b, off + (zs.length - 4), none⟩) 4 (cap - (zs.length - 4)), u] W (fun e w' => e = .returned (.bool true) ∧ w' = W)) := fun W u hW hu => by
    have := equal_any _ u _ _ W (hA.below hW) hu
    rw [decide_eq_true hsum] at this
    exact this
  have HCV : Hid (∀ W, Below w.heap.size w W → (convert 24 9 (.slice (some ⟨b, off, none⟩) 4 cap)).run Tryz.prog W = .ok (.string (strOfNums (zs.take 4))) W) := fun W hW => ((hs.head (k := 4) (by omega) hc1).below hW).conv
  have HC4 : Hid (∀ W, Below w.heap.size w W → W.cell? ⟨b, off + 4, none⟩ = some (.int .u8 (zs.getD 4 0))) := fun W hW => by rw [hW.cell (lt_of_cell? (hc 4 (by omega)))]; exact hc 4 (by omega)
  rw [hen] at HCV
  rw [hone] at HC4
  clear hen hone
  have hlo : 10 ≤ zs.length := by omega
  have hhi : zs.length ≤ 262144 := by omega
  clear hs hp hlong hshort hsum hc hA hH
  generalize Pk.sum4 (zs.take (zs.length - 4)) = ss at *
  generalize zs.length = m at *
  obtain ⟨n, rfl⟩ : ∃ n, m = n + 4 := ⟨m - 4, by omega⟩
  rw [show n + 4 - 4 = n by omega] at *
  have hn1 : (6 : Int) ≤ (n : Int) := by omega
  have hn2 : (n : Int) ≤ 262140 := by omega
  have hd : decide ((262144 : Int) < (n : Int) + 4) = false := by rw [decide_eq_false_iff_not]; omega
  have hd2 : decide ((n : Int) + 4 < 10) = false := by rw [decide_eq_false_iff_not]; omega
  have hnc : n + 4 ≤ cap := hc1
  clear hlo hhi
  go_enter Tryz.func34, Tryz.ntmps34
  go_wp2
  clear hd hd2
  have hq1 : (0 : Int) ≤ (n : Int) := by omega
  have hq2 : (n : Int) ≤ (cap : Int) := by omega
  have hq3 : (n : Int) + 4 ≤ (cap : Int) := by omega
  have hq4 : ¬ cap = n := by omega
  have hq5 : n ≤ cap := by omega
  have hq6 : (n : Int) ≤ (n : Int) + 4 := by omega
  go_region_held3 (fun w' => Below w.heap.size w w')
    (first | assumption | exact (Below.refl _ _).drew | exact bthen (by assumption) (by assumption))
    (first
      | (go_at_call 15; refine ((unhide KS) _ (by assumption)).mono ?_; rintro e1 w1 ⟨v1, rfl, hown, hb1⟩)
      | (go_at_call 60; refine ((unhide KE) _ _ (by assumption) (by exact Own.sl (by assumption))).mono ?_; rintro e2 w2 ⟨rfl, rfl⟩))
  have hB : Below w.heap.size w w2 := by assumption
  clear KS KE hown hb1
  have hcv := (unhide HCV) w2 hB
  have hc4 := (unhide HC4) w2 hB
  have hse : strOfNums [101, 110, 100, 111] = ⟨#[101, 110, 100, 111]⟩ := rfl
  rw [hse] at hcv
  go_wp2
  go_ret2
  exact ⟨by first | rfl | (congr 5; omega) | simp, hB⟩
theorem framed_any (v : Value) (zs : List Int) (w : World) (hs : Sl w v zs) : Calls Tryz.prog 34 #[v] w (FrB w (Pk.framed zs)) := by
  by_cases h1 : 262144 < zs.length
  · exact framed_early v zs w hs (.inl h1)
  by_cases h2 : zs.length < 10
  · exact framed_early v zs w hs (.inr h2)
  by_cases h3 : zs.drop (zs.length - 4) = Pk.sum4 (zs.take (zs.length - 4))
  · by_cases h4 : zs.take 4 = [101, 110, 100, 111]
    · by_cases h5 : zs.getD 4 0 = 1
      · exact framed_ok v zs w hs h1 h2 h3 h4 h5
      · exact framed_one v zs w hs h1 h2 h3 h4 h5
    · exact framed_endo v zs w hs h1 h2 h3 h4
  · exact framed_sum v zs w hs h1 h2 h3
end Go.Proofs.YtdnkfnccbmbpaaaGreatDoor
