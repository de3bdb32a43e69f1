/- The program's Sorted. -/
import Derived.Test.YtcnmmghkjblemaaDoorQsJ20
import Derived.Test.YtcnmmghkjblemaaDoorNs20
namespace Go.Proofs.YtcnmmghkjblemaaDoor
open Go.RowKit

/-- A text by its place. -/
def xv20 (X : List (List Int)) (p : Nat) : ByteArray := strOfNums (X.getD p [])
theorem txt_range20 (X : List (List Int)) : txt20 X = tx20 (xv20 X) (List.range X.length) := by
  apply List.ext_getElem
  · simp [txt20, tx20]
  · intro i h1 h2
    simp only [txt20, List.length_map] at h1
    simp [txt20, tx20, xv20, List.getD, h1]
theorem txt_srt20 (X : List (List Int)) : txt20 (Na.srt X) = tx20 (xv20 X) (Na.plc X) := by
  simp [txt20, tx20, Na.srt, xv20]
set_option maxHeartbeats 1000000 in
theorem sorted20 {w : World} {b off cap : Nat} {X : List (List Int)} (h : Sv w (.slice (some ⟨b, off, none⟩) X.length cap) (txt20 X)) (hF : ∀ a ∈ X, Byt a ∧ a.length ≤ 1000000000) (hl : X.length ≤ 100000) : Calls Tryd.prog 24 #[.slice (some ⟨b, off, none⟩) X.length cap] w (TxtB20 w (Na.srt X)) := by
  have hget : ∀ p, Byt (X.getD p []) ∧ (X.getD p []).length ≤ 1000000000 := fun p => by
    rcases Nat.lt_or_ge p X.length with hp | hp
    · exact hF _ (by simp [List.getD, hp])
    · rw [List.getD, List.getElem?_eq_none hp]; exact ⟨fun z hz => (by cases hz), by simp⟩
  have KC : Hid (Calls Tryd.prog 43 #[.slice (some ⟨b, off, none⟩) X.length cap] w fun e w' => ∃ v', e = .returned v' ∧ w'.ownsRow w.heap.size 9 1 v' X.length (txt20 X) ∧ v' ≠ .slice none 0 0 ∧ Below w.heap.size w w') := by
    have := Tryd.slices_Clone_string b off X.length cap (X.map strOfNums) w (by simp) (by omega) (fun j hj => by
      rw [List.length_map] at hj
      obtain ⟨b2, o2, c2, he, _, _, hc⟩ := h.place (by rw [txt_len20]; omega)
      simp only [Value.slice.injEq, Option.some.injEq, Addr.mk.injEq] at he
      obtain ⟨⟨rfl, rfl, _⟩, _, _⟩ := he
      have := hc j (by rw [txt_len20]; exact hj)
      rw [this, txt_at20 hj]
      simp [List.getD, hj])
    rw [show ((X.map strOfNums).take X.length).map Value.string = txt20 X by rw [List.take_of_length_le (by simp)]; simp [txt20]] at this
    exact this
  have HR : Hid (∀ x y, x < X.length → y < X.length → Na.cmp (nums (xv20 X x)) (nums (xv20 X y)) = Pu.cmpI ((Na.rnks X).getD x 0) ((Na.rnks X).getD y 0)) := fun x y hx hy => by
    unfold xv20
    rw [nums_str20 (hget x).1, nums_str20 (hget y).1]
    exact Na.rnk_cmp hx hy
  have HSZ : Hid (∀ x, (xv20 X x).size ≤ 1000000000) := fun x => by unfold xv20; rw [strOf_size20]; exact (hget x).2
  have KS : Hid (∀ W g c2, W.ownsRow w.heap.size 9 1 (.slice (some ⟨g, 0, none⟩) X.length c2) X.length (txt20 X) → Below w.heap.size w W → Calls Tryd.prog 44 #[.slice (some ⟨g, 0, none⟩) X.length c2, .func (.func 20) #[] #[]] W fun e w' => e = .returned (.tuple #[]) ∧ Ow 9 w' w.heap.size (.slice (some ⟨g, 0, none⟩) X.length c2) (txt20 (Na.srt X)) ∧ Below w.heap.size w w') := fun W g c2 hrow hb => by
    have hS : Sr 0 w.heap.size g X.length c2 (xv20 X) (Na.rnks X) w W (List.range X.length) W := by
      refine ⟨hb, ?_, Nat.le_refl _, grown_refl _ _, by simp, fun a ha => ?_, by rw [Na.rnks_len]; exact hl, ?_, unhide HSZ, rfl⟩
      · refine ⟨by rw [tx_len20, List.length_range]; omega, ?_⟩
        rw [← txt_range20, txt_len20]; exact hrow
      · rw [Na.rnks_len]; exact List.mem_range.1 ha
      · rw [Na.rnks_len]; exact unhide HR
    have HS := hide (stable_any hS hl fun p q k1 k2 => Pu.inc_at (Na.range_inc _) k1 (by simpa using k2))
    have HF : Hid (∀ l' w', Sr 0 w.heap.size g X.length c2 (xv20 X) (Na.rnks X) w W l' w' → l'.Perm (List.range X.length) → Pu.SR (Na.rnks X) l' 0 X.length → Ow 9 w' w.heap.size (.slice (some ⟨g, 0, none⟩) X.length c2) (txt20 (Na.srt X)) ∧ Below w.heap.size w w') := fun l' w' k1 k2 k3 => by
      have := Na.plc_uniq k2 k3
      subst this
      exact ⟨by rw [txt_srt20]; exact k1.row, k1.bel⟩
    have hcap := hS.caps
    clear hS
    generalize X.length = n at *
    go_enter Tryd.func44, Tryd.ntmps44
    go_wp2_with (go_at_call 56; refine (unhide HS).mono ?_; rintro e wq ⟨rfl, l', hv1, hv2, hv3⟩; have HR := hide (unhide HF l' _ hv1 hv2 hv3); clear hv1 hv2 hv3 HS HF)
    go_end0
    exact ⟨rfl, unhide HR⟩
  have KT : Hid (Calls Tryd.prog 33 #[.slice (some ⟨b, off, none⟩) X.length cap, .func (.func 20) #[] #[]] w (TxtB20 w (Na.srt X))) := by
    show Calls _ _ _ _ _
    clear h hget HR HSZ hF
    generalize Na.srt X = Z at *
    go_enter Tryd.func33, Tryd.ntmps33
    go_wp2_with fail
    refine (unhide KC).mono ?_
    rintro e w1 ⟨v1, rfl, ho, hne, hb1⟩
    obtain ⟨g, c2, rfl⟩ : ∃ g c2, v1 = .slice (some ⟨g, 0, none⟩) X.length c2 := by
      rcases ho.2 with ⟨rfl, _⟩ | ⟨g, c2, cur, rfl, _⟩
      · exact absurd rfl hne
      · exact ⟨g, c2, rfl⟩
    have K2 := hide (unhide KS w1 g c2 ho hb1)
    clear KC KS ho hne hb1
    go_wp2_with fail
    refine (unhide K2).mono ?_
    rintro e w2 ⟨rfl, ho, hb2⟩
    have HF : Hid (TxtB20 w Z (.returned (.slice (some ⟨g, 0, none⟩) X.length c2)) w2) := ⟨_, rfl, ho, hb2⟩
    clear K2 ho hb2
    go_wp2
    go_ret
    exact unhide HF
  clear h hget HR HSZ hF KC KS
  generalize Na.srt X = Z at *
  go_enter Tryd.func24, Tryd.ntmps24
  go_wp2_with fail
  refine (unhide KT).mono ?_
  rintro e w1 ⟨v, rfl, hh⟩
  clear KT
  go_wp2
  go_ret
  exact ⟨v, rfl, hh⟩
end Go.Proofs.YtcnmmghkjblemaaDoor
