/- The document's Parent of chapter 20. -/
import Derived.Test.YtcnmmghkjblemaaDoorNh20
namespace Go.Proofs.YtcnmmghkjblemaaDoor
open Go.RowKit

namespace Na
theorem par_len (s : List Int) : (par s).length ≤ s.length := by
  unfold par
  cases e : lab s with
  | nil => simp [joi]
  | cons a r =>
    have h := joi_lab s
    rw [e] at h
    rw [List.tail_cons, ← h]
    cases r with
    | nil => simp [joi]
    | cons b r => show (joi (b :: r)).length ≤ (a ++ 46 :: joi (b :: r)).length; rw [List.length_append, List.length_cons]; omega
theorem fine_tail {X : List (List Int)} (h : Fine X) : Fine X.tail := ⟨by have := h.1; rw [List.length_tail]; omega, fun a ha => h.2 a (List.mem_of_mem_tail ha)⟩
end Na
def ParN20 (w : World) (l : List Int) (b : Bool) (e : Ending) (w' : World) : Prop := ∃ t : ByteArray, e = .returned (.tuple #[.string t, .bool b]) ∧ nums t = l ∧ Below w.heap.size w w'
set_option maxHeartbeats 1000000 in
theorem refParent20 (s : ByteArray) (w : World) (hs : s.size ≤ 1000000000) : Calls Tryd.prog 19 #[.string s] w (ParN20 w (Na.par (nums s)) (decide (0 < s.size))) := by
  have KA := hide (refLabels20 s w hs)
  have hsn := nums_length s
  have FX := Na.lab_fine (nums_byt s) (by omega)
  have hP : (Na.joi (Na.lab (nums s)).tail).length ≤ 1000000000 := by have := Na.par_len (nums s); unfold Na.par at this; omega
  have HZ : Hid (0 < s.size ↔ 0 < (Na.lab (nums s)).length) := by
    constructor
    · intro h
      obtain ⟨a, l, e⟩ := Na.lab_ne (s := nums s) (fun e => by rw [e] at hsn; simp at hsn; omega)
      rw [e]; simp
    · intro h
      rcases Nat.eq_zero_or_pos s.size with h0 | h0
      · have : nums s = [] := List.eq_nil_of_length_eq_zero (by omega)
        rw [this] at h
        simp [Na.lab] at h
      · exact h0
  unfold Na.par
  generalize Na.lab (nums s) = X at *
  generalize hbd : decide (0 < s.size) = bd at *
  have KJ : Hid (∀ W v, Sv W v (txt20 X.tail) → Calls Tryd.prog 30 #[v] W (StrN20 W (Na.joi X.tail))) := fun W v h => refJoin20 h (Na.fine_tail FX) hP
  have hXl := FX.1
  clear FX hP
  go_enter Tryd.func19, Tryd.ntmps19
  go_wp2_with fail
  refine (unhide KA).mono ?_
  rintro e w1 ⟨v1, rfl, o1, b1⟩
  have hsv := o1.sv
  obtain ⟨ax, cx, rfl, hc1, hc2⟩ := hsv.shape
  rw [txt_len20] at *
  have HB := hide b1
  rcases Nat.eq_zero_or_pos X.length with h0 | h0
  · have hx0 : X = [] := List.eq_nil_of_length_eq_zero h0
    obtain rfl : bd = false := by rw [← hbd]; exact decide_eq_false fun h => by have := (unhide HZ).1 h; omega
    subst hx0
    clear KA KJ o1 hsv b1 HZ hbd
    go_wp2
    go_ret2
    exact ⟨⟨#[]⟩, rfl, rfl, unhide HB⟩
  · obtain rfl : bd = true := by rw [← hbd]; exact decide_eq_true ((unhide HZ).2 h0)
    have hzl : ((X.length : Int) == 0) = false := by rw [beq_eq_false_iff_ne]; omega
    have hcut := hsv.cut (l := 1) (h := X.length) (m := cx) (by omega) (by omega) hc1 (Nat.le_refl _)
    have e1 : ((txt20 X).drop 1).take (X.length - 1) = txt20 X.tail := by
      rw [List.take_of_length_le (by rw [List.length_drop, txt_len20]; omega)]
      simp [txt20, List.drop_one]
    rw [e1] at hcut
    have K := hide ((unhide KJ) w1 _ hcut)
    have L1 : (1 : Int) ≤ X.length := by omega
    have hsv' := hsv
    clear KA KJ o1 hsv b1 HZ hbd hcut e1
    obtain ⟨b0, off0, cap0, hv0, _, _, _⟩ := hsv'.place (by rw [txt_len20]; omega)
    simp only [Value.slice.injEq] at hv0
    obtain ⟨rfl, -, rfl⟩ := hv0
    clear hsv'
    by_cases hm : cx = 1
    · have ek : sliced (some ⟨b0, off0, none⟩) 1 X.length cx 1 = .slice (some ⟨b0, off0, none⟩) 0 0 := by unfold sliced; rw [if_pos hm, hm, show X.length - 1 = 0 by omega]
      rw [ek] at K
      subst hm
      go_wp2_with fail
      refine (unhide K).mono ?_
      rintro e w2 ⟨t, rfl, ht, rfl⟩
      clear K
      go_wp2
      go_ret2
      exact ⟨t, rfl, ht, unhide HB⟩
    · have ek : sliced (some ⟨b0, off0, none⟩) 1 X.length cx 1 = .slice (some ⟨b0, off0 + 1, none⟩) (X.length - 1) (cx - 1) := by unfold sliced; rw [if_neg hm]; rfl
      rw [ek] at K
      go_wp2_with fail
      refine (unhide K).mono ?_
      rintro e w2 ⟨t, rfl, ht, rfl⟩
      clear K
      go_wp2
      go_ret2
      exact ⟨t, rfl, ht, unhide HB⟩
end Go.Proofs.YtcnmmghkjblemaaDoor
