/- The contracts of the document's own PrintCode, PrintSpan. -/
import Derived.Test.YtkdkmnohnhhojaaDoorRefU5
import Derived.Test.YtkdkmnohnhhojaaDoorScp
namespace Go.Proofs.YtkdkmnohnhhojaaDoor
open Go.RowKit

/-- A text of these bytes; nothing else is done. -/
def TextIs (w : World) (zs : List Int) (e : Ending) (w' : World) : Prop := ∃ t : ByteArray, nums t = zs ∧ e = .returned (.string t) ∧ w' = w

theorem hexsign (d : Int) (h1 : 0 ≤ d) (h2 : d < 16) : nums ((⟨#[48, 49, 50, 51, 52, 53, 54, 55, 56, 57, 65, 66, 67, 68, 69, 70]⟩ : ByteArray).extract d.toNat (d + 1).toNat) = [Scn.hexc d] := by
  have h : d = 0 ∨ d = 1 ∨ d = 2 ∨ d = 3 ∨ d = 4 ∨ d = 5 ∨ d = 6 ∨ d = 7 ∨ d = 8 ∨ d = 9 ∨ d = 10 ∨ d = 11 ∨ d = 12 ∨ d = 13 ∨ d = 14 ∨ d = 15 := by omega
  rw [nums_cut]
  rcases h with rfl | rfl | rfl | rfl | rfl | rfl | rfl | rfl | rfl | rfl | rfl | rfl | rfl | rfl | rfl | rfl <;> rfl

set_option maxHeartbeats 1000000 in
theorem refPrintCode_any (c : Int) (w : World) (h : -2147483648 ≤ c ∧ c ≤ 2147483647) : Calls Tryd.prog 24 #[.int .i32 c] w (TextIs w (Scn.pcode c)) := by
  obtain ⟨h1, h2⟩ := h
  by_cases a1 : c < 0
  · have HF : TextIs w (Scn.pcode c) (.returned (.string ⟨#[]⟩)) w := ⟨_, by unfold Scn.pcode; rw [if_pos (.inl a1)]; rfl, rfl, rfl⟩
    go_enter Tryd.func24, Tryd.ntmps24
    go_wp2
    go_ret
    exact HF
  · by_cases a2 : 1114111 < c
    · have HF : TextIs w (Scn.pcode c) (.returned (.string ⟨#[]⟩)) w := ⟨_, by unfold Scn.pcode; rw [if_pos (.inr a2)]; rfl, rfl, rfl⟩
      go_enter Tryd.func24, Tryd.ntmps24
      go_wp2
      go_ret
      exact HF
    · have hp : Scn.pcode c = Scn.hexW 8 c [] := by unfold Scn.pcode; rw [if_neg (by omega)]
      rw [hp]
      go_enter Tryd.func24, Tryd.ntmps24
      go_wp2
      go_loop [0, 3] (fun cv sv => ∃ (f : Nat) (n : Int) (t : ByteArray), cv = .int .i32 n ∧ sv = .string t ∧ 0 ≤ n ∧ n ≤ 1114111 ∧ f ≤ 7 ∧ n < ((16 ^ f : Nat) : Int) ∧ (f = 7 ∨ ¬ t.size = 0) ∧ t.size + f = 7 ∧ Scn.hexW 8 c [] = Scn.hexW (f + 1) n (nums t)) (fun cv sv => 7 - (match sv with | .string t => t.size | _ => 0))
      case atStart => exact ⟨7, c, ⟨#[]⟩, rfl, rfl, by omega, by omega, by omega, by omega, .inl rfl, rfl, rfl⟩
      case round =>
        obtain ⟨f, n, t, rfl, rfl, n1, n2, hf, n3, ht, hts, hx⟩ := hrel
        have hnl := nums_length t
        by_cases b1 : 0 < n
        · have hx2 : Scn.hexW 8 c [] = Scn.hexW f (n / 16) (Scn.hexc (n % 16) :: nums t) := by rw [hx, Scn.hexW, if_pos (.inl b1)]
          have HX := hide hx2
          clear hx hx2
          have hf1 : 1 ≤ f := by
            rcases Nat.eq_zero_or_pos f with rfl | h
            · simp at n3; omega
            · exact h
          obtain ⟨g, rfl⟩ : ∃ g, f = g + 1 := ⟨f - 1, by omega⟩
          have hpw : 16 ^ (g + 1) = 16 ^ g * 16 := Nat.pow_succ _ _
          have hn4 : n / 16 < ((16 ^ g : Nat) : Int) := by rw [hpw] at n3; omega
          have HN4 := hide hn4
          clear hn4 n3 hpw
          go_wp2
          go_round
          case rel =>
            have hsg := hexsign (n % 16) (by omega) (by omega)
            refine ⟨g, n / 16, _, rfl, rfl, by omega, by omega, by omega, unhide HN4, .inr ?_, ?_, ?_⟩
            · have := congrArg List.length hsg
              rw [nums_length] at this
              rw [ByteArray.size_append, this]; simp
            · have := congrArg List.length hsg
              rw [nums_length] at this
              rw [ByteArray.size_append, this]; simp; omega
            · rw [nums_append, hsg]; exact unhide HX
          case measure =>
            have hsg := hexsign (n % 16) (by omega) (by omega)
            have := congrArg List.length hsg
            rw [nums_length] at this
            simp only [ByteArray.size_append, this, List.length_cons, List.length_nil]
            omega
        · obtain rfl : n = 0 := by omega
          by_cases b2 : t.size = 0
          · have ht0 : t = ⟨#[]⟩ := by
              apply nums_inj
              rw [List.length_eq_zero_iff.1 (hnl.trans b2)]; rfl
            subst ht0
            obtain rfl : f = 7 := by omega
            have HX : Hid (Scn.hexW 8 c [] = Scn.hexW 7 0 [48]) := hx.trans (by rw [show nums ⟨#[]⟩ = [] from rfl, Scn.hexW, if_pos (.inr rfl)]; rfl)
            clear hx hnl
            go_wp2
            go_round
            case rel => exact ⟨6, 0, ⟨#[48]⟩, rfl, by simp; rfl, by omega, by omega, by omega, by decide, .inr (by decide), rfl, unhide HX⟩
            case measure => decide
          · have he : (t.toList == []) = false := by
              refine beq_eq_false_iff_ne.2 fun e => b2 ?_
              rw [ByteArray.toList_eq] at e
              have := congrArg List.length e
              simpa using this
            have HF : TextIs w (Scn.hexW 8 c []) (.returned (.string t)) w := ⟨t, by
              rw [hx, Scn.hexW, if_neg]
              rintro (h | h)
              · omega
              · rw [h] at hnl; exact b2 hnl.symm, rfl, rfl⟩
            clear hx hnl
            go_wp2
            go_ret
            exact HF

set_option maxHeartbeats 1000000 in
theorem refPrintSpan_any (a b : Int) (w : World) (ha : -2147483648 ≤ a ∧ a ≤ 2147483647) (hb : -2147483648 ≤ b ∧ b ≤ 2147483647) : Calls Tryd.prog 26 #[.int .i32 a, .int .i32 b] w (TextIs w (Scn.pspan a b)) := by
  have HA := hide (refPrintCode_any a w ha)
  have HB := hide (refPrintCode_any b w hb)
  obtain ⟨h1, h2⟩ := ha
  obtain ⟨h3, h4⟩ := hb
  by_cases a1 : a = b
  · subst a1
    have hp : Scn.pspan a a = Scn.pcode a := by unfold Scn.pspan; rw [if_pos rfl]
    rw [hp]
    go_enter Tryd.func26, Tryd.ntmps26
    go_wp2_with fail
    refine (unhide HA).mono ?_
    rintro e' w1 ⟨t, ht, rfl, rfl⟩
    clear HA HB
    have HF : TextIs w1 (Scn.pcode a) (.returned (.string t)) w1 := ⟨t, ht, rfl, rfl⟩
    clear ht
    go_wp2
    go_ret
    exact HF
  · by_cases a2 : a < 0 ∨ b < a ∨ 1114111 < b
    · have HF : TextIs w (Scn.pspan a b) (.returned (.string ⟨#[]⟩)) w := ⟨_, by unfold Scn.pspan; rw [if_neg a1, if_pos a2]; rfl, rfl, rfl⟩
      have hne : (a == b) = false := beq_eq_false_iff_ne.2 a1
      clear HA HB
      by_cases b1 : a < 0
      · go_enter Tryd.func26, Tryd.ntmps26
        go_wp2
        go_ret
        exact HF
      · by_cases b2 : b < a
        · go_enter Tryd.func26, Tryd.ntmps26
          go_wp2
          go_ret
          exact HF
        · have b3 : 1114111 < b := by omega
          go_enter Tryd.func26, Tryd.ntmps26
          go_wp2
          go_ret
          exact HF
    · have hp : Scn.pspan a b = Scn.pcode a ++ [46, 46] ++ Scn.pcode b := by unfold Scn.pspan; rw [if_neg a1, if_neg a2]
      have hne : (a == b) = false := beq_eq_false_iff_ne.2 a1
      have b1 : 0 ≤ a := by omega
      have b2 : a ≤ b := by omega
      have b3 : b ≤ 1114111 := by omega
      rw [hp]
      clear a2 hp a1
      go_enter Tryd.func26, Tryd.ntmps26
      go_wp2_with fail
      refine (unhide HA).mono ?_
      rintro e' w1 ⟨t, ht, rfl, rfl⟩
      clear HA
      have hts : t.size ≤ 8 := by have := Scn.pcode_length a; rw [← nums_length, ht]; exact this
      have HT := hide ht
      clear ht
      go_wp2_with fail
      refine (unhide HB).mono ?_
      rintro e' w1 ⟨u, hu, rfl, rfl⟩
      clear HB
      have hus : u.size ≤ 8 := by have := Scn.pcode_length b; rw [← nums_length, hu]; exact this
      have hsz : (t ++ ⟨#[46, 46]⟩ : ByteArray).size ≤ 10 := by rw [ByteArray.size_append]; exact Nat.add_le_add_right hts 2
      have HF : TextIs w1 (Scn.pcode a ++ [46, 46] ++ Scn.pcode b) (.returned (.string (t ++ ⟨#[46, 46]⟩ ++ u))) w1 := ⟨_, by rw [nums_append, nums_append, unhide HT, hu]; rfl, rfl, rfl⟩
      clear hu HT
      go_wp2
      go_ret
      exact HF
end Go.Proofs.YtkdkmnohnhhojaaDoor
