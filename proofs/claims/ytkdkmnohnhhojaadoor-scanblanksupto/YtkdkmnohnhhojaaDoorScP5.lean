/- The contracts of scan's PrintCode, PrintSpan, PrintWhole. -/
import Derived.Test.YtkdkmnohnhhojaaDoorScF5
namespace Go.Proofs.YtkdkmnohnhhojaaDoor
open Go.RowKit

namespace Scn
def up (z : Int) : Int := if 97 ≤ z ∧ z ≤ 122 then z - 32 else z
theorem up_low {d : Int} (h0 : 0 ≤ d) (h1 : d < 16) : up (lowc d) = hexc d := by
  unfold up lowc hexc
  split <;> split <;> omega
theorem hexW_nought (f : Nat) (a : List Int) (h : a ≠ []) : hexW f 0 a = a := by
  cases f with
  | zero => rfl
  | succ f => rw [hexW, if_neg (by simp [h])]
theorem hexL_up (f : Nat) : ∀ (n : Int) (a : List Int), 0 ≤ n → n < ((16 ^ f : Nat) : Int) → (0 < n ∨ a = []) → (hexL f n a).map up = hexW f n (a.map up) := by
  induction f with
  | zero => intro n a _ _ _; rfl
  | succ f ih =>
    intro n a h0 h1 h2
    rw [hexL, hexW, if_pos (h2.imp id fun e => by rw [e]; rfl)]
    rw [Nat.pow_succ] at h1
    split
    · rw [ih (n / 16) _ (by omega) (by omega) (.inl (by omega)), List.map_cons, up_low (by omega) (by omega)]
    · rw [show n / 16 = 0 by omega, show n % 16 = n by omega, hexW_nought f _ (by simp), List.map_cons, up_low h0 (by omega)]
theorem decW_dec (f : Nat) : ∀ (u : Nat) (a : List Int), u < 10 ^ f → 0 < u → decW f u a = n8 (Lib.decDigits u) ++ a := by
  induction f with
  | zero => intro u a h h0; simp at h; omega
  | succ f ih =>
    intro u a h h0
    rw [Nat.pow_succ] at h
    rw [decW, if_pos (by omega), Lib.decDigits]
    by_cases hu : u < 10
    · have e0 : decW f ((u : Int) / 10) ((48 + (u : Int) % 10) :: a) = (48 + (u : Int) % 10) :: a := by
        rw [show (u : Int) / 10 = 0 by omega]
        cases f with
        | zero => rfl
        | succ f => rw [decW, if_neg (by omega)]
      rw [e0, dif_pos hu]
      show _ = [(((UInt8.ofNat (48 + u)).toNat : Nat) : Int)] ++ a
      rw [UInt8.toNat_ofNat', Nat.mod_eq_of_lt (by omega)]
      simp; omega
    · rw [dif_neg hu]
      have e1 : ((u : Int) / 10) = ((u / 10 : Nat) : Int) := by omega
      rw [e1, ih (u / 10) _ (by omega) (by omega)]
      unfold n8
      rw [List.map_append, List.append_assoc]
      congr 1
      show _ = [(((UInt8.ofNat (48 + u % 10)).toNat : Nat) : Int)] ++ a
      rw [UInt8.toNat_ofNat', Nat.mod_eq_of_lt (by omega)]
      simp
theorem pwhole_itoa (n : Int) (h0 : -9223372036854775808 ≤ n) (h1 : n ≤ 9223372036854775807) : n8 (Lib.itoa n) = pwhole n := by
  unfold pwhole Lib.itoa
  by_cases hz : n = 0
  · subst hz
    rw [if_neg (by omega), if_pos rfl, Lib.decDigits, dif_pos (by decide)]; rfl
  · rw [if_neg hz]
    split
    · have e : decW 20 (-n) [] = decW 20 (n.natAbs : Int) [] := by rw [show -n = (n.natAbs : Int) by omega]
      rw [e, decW_dec 20 n.natAbs [] (by omega) (by omega), List.append_nil]; rfl
    · have e : decW 20 n [] = decW 20 (n.toNat : Int) [] := by rw [show (n.toNat : Int) = n by omega]
      rw [e, decW_dec 20 n.toNat [] (by omega) (by omega), List.append_nil]
end Scn
theorem pwholeC : PWholeC := by
  intro n w hg h
  have K := hide (Tryd.strconv_Itoa n h.1 h.2 w hg.2.1)
  have HN := hide (Scn.pwhole_itoa n h.1 h.2)
  obtain ⟨_, _⟩ := h
  go_enter Tryd.func27, Tryd.ntmps27
  go_wp2_with fail
  refine (unhide K).mono ?_
  rintro e w1 ⟨rfl, k, os, hw1⟩
  have HF : TextNew w (Scn.pwhole n) (.returned (.string ⟨(Lib.itoa n).toArray⟩)) w1 := ⟨_, (nums_of _).trans (unhide HN), rfl, by rw [hw1]; exact below_grow w k os⟩
  clear K HN hw1
  generalize Lib.itoa n = l at *
  go_wp2
  go_ret
  exact HF
theorem formatInt_any (c : Nat) (hc : c ≤ 1114111) (w : World) (h6 : w.cell? ⟨6, 15, none⟩ = some (.int .u8 4)) : Calls Tryd.prog 51 #[.int .i64 (c : Int), .int .i64 16] w (TextNew w (Scn.hexL 8 c [])) := by
  have K := hide (formatBits_any c hc w h6)
  have q : decide ((c : Int) < 0) = false := by rw [decide_eq_false_iff_not]; omega
  go_enter Tryd.func51, Tryd.ntmps51
  go_wp2_with fail
  refine (unhide K).mono ?_
  rintro e w1 ⟨t, rfl, ht, hb⟩
  have HF : TextNew w (Scn.hexL 8 c []) (.returned (.string t)) w1 := ⟨t, ht, rfl, hb⟩
  clear K ht hb
  go_wp2
  go_ret
  exact HF
theorem formatInt2_any (c : Nat) (hc : c ≤ 1114111) (w : World) (h6 : w.cell? ⟨6, 15, none⟩ = some (.int .u8 4)) : Calls Tryd.prog 38 #[.int .i64 (c : Int), .int .i64 16] w (TextNew w (Scn.hexL 8 c [])) := by
  have K := hide (formatInt_any c hc w h6)
  go_enter Tryd.func38, Tryd.ntmps38
  go_wp2_with fail
  refine (unhide K).mono ?_
  rintro e w1 ⟨t, ht, rfl, hb⟩
  have HF : TextNew w (Scn.hexL 8 c []) (.returned (.string t)) w1 := ⟨t, ht, rfl, hb⟩
  clear K ht hb
  go_wp2
  go_ret
  exact HF
theorem isCode_any (c : Int) (w : World) (h : -2147483648 ≤ c ∧ c ≤ 2147483647) : Calls Tryd.prog 36 #[.int .i32 c] w fun e w' => e = .returned (.bool (decide (0 ≤ c ∧ c ≤ 1114111))) ∧ w' = w := by
  obtain ⟨h1, h2⟩ := h
  by_cases a1 : 0 ≤ c
  · by_cases a2 : c ≤ 1114111
    · rw [decide_eq_true ⟨a1, a2⟩]
      go_enter Tryd.func36, Tryd.ntmps36
      go_wp2
      go_ret
      exact ⟨rfl, rfl⟩
    · rw [decide_eq_false (fun h => a2 h.2)]
      go_enter Tryd.func36, Tryd.ntmps36
      go_wp2
      go_ret
      exact ⟨rfl, rfl⟩
  · rw [decide_eq_false (fun h => a1 h.1)]
    go_enter Tryd.func36, Tryd.ntmps36
    go_wp2
    go_ret
    exact ⟨rfl, rfl⟩
theorem upper_nums (l : List UInt8) : n8 (Lib.toUpperA l) = (n8 l).map Scn.up := by
  unfold Lib.toUpperA n8
  rw [List.map_map, List.map_map]
  refine List.map_congr_left fun b _ => ?_
  show (((Lib.upperB b).toNat : Nat) : Int) = Scn.up (b.toNat : Int)
  unfold Lib.upperB Scn.up
  by_cases h : Lib.isLowerB b = true
  · have h2 := h
    simp [Lib.isLowerB] at h2
    have h3 : 97 ≤ b.toNat := h2.1
    have h4 : b.toNat ≤ 122 := h2.2
    rw [if_pos h, if_pos (by omega), UInt8.toNat_sub_of_le _ _ (UInt8.le_iff_toNat_le.2 (by show 32 ≤ _; omega))]
    show ((b.toNat - 32 : Nat) : Int) = _
    omega
  · rw [if_neg h, if_neg]
    intro ⟨a, b'⟩
    refine h ?_
    simp [Lib.isLowerB]
    exact ⟨UInt8.le_iff_toNat_le.2 (by show 97 ≤ _; omega), UInt8.le_iff_toNat_le.2 (by show _ ≤ 122; omega)⟩
theorem hexL_low (f : Nat) : ∀ (n : Int) (a : List Int), 0 ≤ n → (∀ z ∈ a, z < 128) → ∀ z ∈ Scn.hexL f n a, z < 128 := by
  have hl : ∀ d : Int, 0 ≤ d → d < 16 → Scn.lowc d < 128 := fun d h0 h1 => by unfold Scn.lowc; split <;> omega
  induction f with
  | zero => intro n a _ h; exact h
  | succ f ih =>
    intro n a h0 h
    rw [Scn.hexL]
    split
    · refine ih _ _ (by omega) fun z hz => ?_
      rcases List.mem_cons.1 hz with rfl | hz
      · exact hl _ (by omega) (by omega)
      · exact h z hz
    · intro z hz
      rcases List.mem_cons.1 hz with rfl | hz
      · exact hl _ (by omega) (by omega)
      · exact h z hz
theorem ascii_of {t : ByteArray} {zs : List Int} (h : nums t = zs) (hz : ∀ z ∈ zs, z < 128) : ∀ (j : Nat) (b : UInt8), t.data.toList[j]? = some b → b.toNat < 128 := by
  intro j b hb
  have h1 : (b.toNat : Int) ∈ nums t := List.mem_map.2 ⟨b, List.mem_of_getElem? hb, rfl⟩
  rw [h] at h1
  have := hz _ h1
  omega
set_option maxHeartbeats 1000000 in
theorem pcodeC : PCodeC := by
  intro c w hg h
  have K0 := hide (isCode_any c w h)
  by_cases hc : 0 ≤ c ∧ c ≤ 1114111
  · rw [decide_eq_true hc] at K0
    obtain ⟨n, rfl⟩ : ∃ n : Nat, c = n := ⟨c.toNat, by omega⟩
    have K1 := hide (formatInt2_any n (by omega) w hg.2.2)
    have hp : Scn.pcode n = (Scn.hexL 8 n []).map Scn.up := by
      rw [Scn.hexL_up 8 n [] (by omega) (by omega) (.inr rfl)]
      unfold Scn.pcode
      rw [if_neg (by omega)]; rfl
    rw [hp]
    have HL := hide (hexL_low 8 n [] (by omega) (fun z hz => by cases hz))
    have HS : Hid ((Scn.hexL 8 n []).length ≤ 8) := by
      have := Scn.pcode_length n
      rw [hp, List.length_map] at this
      exact this
    clear hp hg
    obtain ⟨h1, h2⟩ := h
    generalize Scn.hexL 8 n [] = zs at *
    go_enter Tryd.func23, Tryd.ntmps23
    go_wp2_with fail
    refine (unhide K0).mono ?_
    rintro e w1 ⟨rfl, hw1⟩
    subst w1
    clear K0
    go_wp2_with fail
    refine (unhide K1).mono ?_
    rintro e w1 ⟨t, ht, rfl, hb⟩
    have ha := ascii_of ht (unhide HL)
    have hs8 : t.size ≤ 140737488355328 := by
      have h8 := unhide HS
      rw [← ht, nums_length] at h8
      omega
    have K2 := hide (Tryd.strings_ToUpper_ascii t w1 hs8 ha)
    clear K1 ha hs8
    go_wp2_with fail
    refine (unhide K2).mono ?_
    rintro e w2 ⟨rfl, hb2⟩
    have HF : TextNew w (zs.map Scn.up) (.returned (.string ⟨(Lib.toUpperA t.data.toList).toArray⟩)) w2 := ⟨_, by rw [nums_of, upper_nums, ← nums_n8, ht], rfl, bthen hb hb2⟩
    clear K2 hb hb2 ht HL HS
    generalize Lib.toUpperA t.data.toList = l at *
    go_wp2
    go_ret
    exact HF
  · rw [decide_eq_false hc] at K0
    have HF : TextNew w (Scn.pcode c) (.returned (.string ⟨#[]⟩)) w := ⟨_, by unfold Scn.pcode; rw [if_pos (by omega)]; rfl, rfl, Below.refl _ _⟩
    clear hg hc
    obtain ⟨h1, h2⟩ := h
    go_enter Tryd.func23, Tryd.ntmps23
    go_wp2_with fail
    refine (unhide K0).mono ?_
    rintro e w1 ⟨rfl, hw1⟩
    subst w1
    clear K0
    go_wp2
    go_ret
    exact HF
end Go.Proofs.YtkdkmnohnhhojaaDoor
