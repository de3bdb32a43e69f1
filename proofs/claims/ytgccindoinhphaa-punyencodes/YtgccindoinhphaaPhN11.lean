/- The document's digits and numbers of Punycode. -/
import Derived.Test.YtgccindoinhphaaPhA11
import Derived.Test.YtgccindoinhphaaPuG11
namespace Go.Proofs.Ytgccindoinhphaa
open Go.RowKit

set_option maxHeartbeats 1000000 in
theorem refThreshold_big (k bias : Int) (w : World) (hk : 0 ≤ k ∧ k ≤ 3000000000000) (hb : -1000000 ≤ bias ∧ bias ≤ 1000000) :
    Calls Try.prog 29 #[.int .i64 k, .int .i64 bias] w (IntPost w (Pu.thr k bias)) := by
  by_cases h1 : 36 * k - bias < 1
  · have hr : Pu.thr k bias = 1 := by unfold Pu.thr; rw [if_pos h1]
    rw [hr]; clear hr
    go_enter Try.func29, Try.ntmps29
    go_wp2
    go_ret
    exact IntPost.mk (by first | rfl | omega)
  · by_cases h2 : 26 < 36 * k - bias
    · have hr : Pu.thr k bias = 26 := by unfold Pu.thr; rw [if_neg h1, if_pos h2]
      rw [hr]; clear hr
      go_enter Try.func29, Try.ntmps29
      go_wp2
      go_ret
      exact IntPost.mk (by first | rfl | omega)
    · have hr : Pu.thr k bias = 36 * k - bias := by unfold Pu.thr; rw [if_neg h1, if_neg h2]
      rw [hr]; clear hr
      go_enter Try.func29, Try.ntmps29
      go_wp2
      go_ret
      exact IntPost.mk (by first | rfl | omega)


def digC : ByteArray := ⟨#[97, 98, 99, 100, 101, 102, 103, 104, 105, 106, 107, 108, 109, 110, 111, 112, 113, 114, 115, 116, 117, 118, 119, 120, 121, 122, 48, 49, 50, 51, 52, 53, 54, 55, 56, 57]⟩
def digOk : Nat → Bool
  | 0 => true
  | n + 1 => decide ((nums digC).getD n 0 = Pu.let1 n) && digOk n
theorem digOk_all {n j : Nat} (h : digOk n = true) (hj : j < n) : (nums digC).getD j 0 = Pu.let1 j := by
  induction n with
  | zero => omega
  | succ n ih =>
    simp only [digOk, Bool.and_eq_true, decide_eq_true_eq] at h
    rcases Nat.lt_or_ge j n with h1 | h1
    · exact ih h.2 h1
    · have : j = n := by omega
      subst this; exact h.1
theorem dig_at {j : Nat} (hj : j < 36) : (nums digC).getD j 0 = Pu.let1 j := digOk_all (n := 36) (by decide +kernel) hj

set_option maxHeartbeats 1000000 in
theorem refDigit_any (d : Int) (w : World) (h0 : 0 ≤ d) (h1 : d ≤ 35) : Calls Try.prog 39 #[.int .i64 d] w (BytePost w (Pu.let1 d)) := by
  obtain ⟨j, rfl⟩ : ∃ j : Nat, d = j := ⟨d.toNat, by omega⟩
  have hat : ∀ W, (Instr.index 9 (.string ⟨#[97, 98, 99, 100, 101, 102, 103, 104, 105, 106, 107, 108, 109, 110, 111, 112, 113, 114, 115, 116, 117, 118, 119, 120, 121, 122, 48, 49, 50, 51, 52, 53, 54, 55, 56, 57]⟩) (.int .i64 (j : Int))).run Try.prog W = .ok (.int .u8 (Pu.let1 j)) W := fun W => by
    have := run_at digC (j : Int) j rfl (by show j < 36; omega) W
    rw [dig_at (by omega)] at this
    exact this
  generalize Pu.let1 (j : Int) = c at *
  go_enter Try.func39, Try.ntmps39
  go_wp2
  go_ret
  exact BytePost.mk rfl

theorem str_app (a b : List Int) : strOfNums a ++ strOfNums b = strOfNums (a ++ b) := by
  unfold strOfNums
  apply ByteArray.ext
  simp

def StrP (w : World) (zs : List Int) (e : Ending) (w' : World) : Prop := e = .returned (.string (strOfNums zs)) ∧ Below w.heap.size w w'

set_option maxHeartbeats 4000000 in
theorem refNumber_any (val bias : Int) (w : World) (hval : 0 ≤ val ∧ val ≤ 1099511627775) (hbias : 0 ≤ bias ∧ bias ≤ 468) :
    Calls Try.prog 23 #[.int .i64 val, .int .i64 bias] w (StrP w (Pu.wrNum val bias)) := by
  have hr0 : Pu.wrNum val bias = [] ++ Pu.wrN bias val.toNat 1 val := rfl
  generalize Pu.wrNum val bias = r at *
  have HR0 := hide hr0
  have HTH : Hid (∀ k W, 0 ≤ k ∧ k ≤ 3000000000000 → Calls Try.prog 29 #[.int .i64 k, .int .i64 bias] W (IntPost W (Pu.thr k bias))) := fun k W h => refThreshold_big k bias W h (by omega)
  clear hr0
  go_enter Try.func23, Try.ntmps23
  go_wp2
  go_loopw [0, 4, 5, 6, 7] (fun vv _ sv kk _ wr => ∃ (f k : Nat) (y : Int) (zs : List Int), vv = .int .i64 y ∧ sv = .string (strOfNums zs) ∧ kk = .int .i64 ((k : Int) + 1) ∧ 0 ≤ y ∧ y ≤ f ∧ k + y ≤ 1099511627775 ∧ zs.length = k ∧ r = zs ++ Pu.wrN bias f ((k : Int) + 1) y ∧ Below w.heap.size w wr) (fun vv _ _ _ _ _ => (intOf vv).toNat)
  case atStart => exact ⟨val.toNat, 0, val, [], rfl, rfl, rfl, hval.1, by omega, by omega, rfl, unhide HR0, Below.refl _ _⟩
  case round =>
    clear HR0
    obtain ⟨f, k, y, zs, rfl, rfl, rfl, hy0, hyf, hky, hzl, hr, hbel⟩ := hrel
    have htb := Pu.thr_bounds ((k : Int) + 1) bias
    have HT := fun W => hide (unhide HTH ((k : Int) + 1) W (by omega))
    have hbs := hbel.size
    have HBL := hide hbel
    have hss := strOfNums_size zs
    have HSS := hide hss
    clear hss
    by_cases hlt : y < Pu.thr ((k : Int) + 1) bias
    · have hlb := Pu.let1_bounds (d := y) hy0 (by omega)
      have HL := fun W => hide (refDigit_any y W hy0 (by omega))
      have HE := hide (hr.trans (by rw [Pu.wrN_last hlt]))
      clear hr hbel HTH
      generalize Pu.let1 y = c at *
      generalize Pu.thr ((k : Int) + 1) bias = t at *
      have hcv : (convert 40 9 (.slice (some ⟨wr.heap.size, 0, none⟩) 1 1)).run Try.prog (wr.alloc (.cells #[.int .u8 c] 5)) = .ok (.string (strOfNums [c])) (wr.alloc (.cells #[.int .u8 c] 5)) :=
        Sk.conv (Sk.lit .u8 5 wr wr.heap.size rfl [c] 1 rfl _ rfl (0, 0) (fun z hz => by simp at hz; subst hz; exact u8_fit (by omega)) (by simp))
      have HF : Hid (StrP w r (.returned (.string (strOfNums zs ++ strOfNums [c]))) (wr.alloc (.cells #[.int .u8 c] 5))) := ⟨by rw [str_app, unhide HE], (unhide HBL).alloc hbs _⟩
      have hz1 : (strOfNums zs).size ≤ 2000000000000 := by rw [unhide HSS, hzl]; omega
      have hz2 : (strOfNums [c]).size = 1 := strOfNums_size [c]
      clear HBL HE
      generalize strOfNums zs = sz at *
      generalize strOfNums [c] = sc at *
      go_wp2_with (first | (go_at_call 29; refine (unhide (HT _)).mono ?_; rintro e wr ⟨rfl, rfl⟩; clear HT) | (go_at_call 39; refine (unhide (HL _)).mono ?_; rintro e wr ⟨rfl, rfl⟩; clear HL))
      go_ret
      exact unhide HF
    · have ht1 : 0 ≤ y - Pu.thr ((k : Int) + 1) bias := by omega
      have hq0 : 0 ≤ (y - Pu.thr ((k : Int) + 1) bias) / (36 - Pu.thr ((k : Int) + 1) bias) := Int.ediv_nonneg ht1 (by omega)
      have hq1 : (y - Pu.thr ((k : Int) + 1) bias) / (36 - Pu.thr ((k : Int) + 1) bias) ≤ y - Pu.thr ((k : Int) + 1) bias := Int.ediv_le_self _ ht1
      have hm0 : 0 ≤ (y - Pu.thr ((k : Int) + 1) bias) % (36 - Pu.thr ((k : Int) + 1) bias) := Int.emod_nonneg _ (by omega)
      have hm1 : (y - Pu.thr ((k : Int) + 1) bias) % (36 - Pu.thr ((k : Int) + 1) bias) < 36 - Pu.thr ((k : Int) + 1) bias := Int.emod_lt_of_pos _ (by omega)
      obtain ⟨f, rfl⟩ : ∃ g, f = g + 1 := ⟨f - 1, by omega⟩
      have HE := hide (hr.trans (by rw [Pu.wrN_more hlt]))
      have hlb := Pu.let1_bounds (d := Pu.thr ((k : Int) + 1) bias + (y - Pu.thr ((k : Int) + 1) bias) % (36 - Pu.thr ((k : Int) + 1) bias)) (by omega) (by omega)
      have HL := fun W => hide (refDigit_any (Pu.thr ((k : Int) + 1) bias + (y - Pu.thr ((k : Int) + 1) bias) % (36 - Pu.thr ((k : Int) + 1) bias)) W (by omega) (by omega))
      clear hr hbel HTH
      generalize Pu.let1 (Pu.thr ((k : Int) + 1) bias + (y - Pu.thr ((k : Int) + 1) bias) % (36 - Pu.thr ((k : Int) + 1) bias)) = c at *
      generalize Pu.thr ((k : Int) + 1) bias = t at *
      have hcv : (convert 40 9 (.slice (some ⟨wr.heap.size, 0, none⟩) 1 1)).run Try.prog (wr.alloc (.cells #[.int .u8 c] 5)) = .ok (.string (strOfNums [c])) (wr.alloc (.cells #[.int .u8 c] 5)) :=
        Sk.conv (Sk.lit .u8 5 wr wr.heap.size rfl [c] 1 rfl _ rfl (0, 0) (fun z hz => by simp at hz; subst hz; exact u8_fit (by omega)) (by simp))
      have HAP := hide (str_app zs [c])
      have hz1 : (strOfNums zs).size ≤ 2000000000000 := by rw [unhide HSS, hzl]; omega
      have hz2 : (strOfNums [c]).size = 1 := strOfNums_size [c]
      have HBA := hide ((unhide HBL).alloc hbs (.cells #[.int .u8 c] 5))
      have HZL : Hid ((zs ++ [c]).length = k + 1) := by show _ = _; simp [hzl]
      have HE2 : Hid (r = (zs ++ [c]) ++ Pu.wrN bias f (((k + 1 : Nat) : Int) + 1) ((y - t) / (36 - t))) := by
        show _ = _
        rw [unhide HE, List.append_assoc]
        simp
      clear HBL HE
      generalize strOfNums zs = sz at *
      generalize strOfNums [c] = sc at *
      go_wp2_with (first | (go_at_call 29; refine (unhide (HT _)).mono ?_; rintro e wr ⟨rfl, rfl⟩; clear HT) | (go_at_call 39; refine (unhide (HL _)).mono ?_; rintro e wr ⟨rfl, rfl⟩; clear HL))
      go_roundw
      case rel => exact ⟨f, k + 1, (y - t) / (36 - t), zs ++ [c], by first | rfl | go_num, by rw [unhide HAP], by first | rfl | go_num, hq0, by omega, by omega, unhide HZL, unhide HE2, unhide HBA⟩
      case measure => simp [intOf]; omega

end Go.Proofs.Ytgccindoinhphaa
