/- The walk of ScanBack, out of what scan's calls are asked. -/
import Derived.Test.YtkdkmnohnhhojaaDoorLPrints5
import Derived.Test.YtkdkmnohnhhojaaDoorScb
namespace Go.Proofs.YtkdkmnohnhhojaaDoor
open Go.RowKit

theorem strOf_eq {t s : ByteArray} {zs : List Int} (h : nums t = zs) (k : zs = nums s) : t = s := nums_inj (h.trans k)

theorem and_mask32 (n : Int) (m : Nat) (hm : m < 2147483648) : ∃ c : Int, bits .and .i32 n (m : Int) = c ∧ 0 ≤ c ∧ c ≤ m := by
  refine ⟨_, rfl, ?_⟩
  have h : (BitVec.ofInt 32 n &&& BitVec.ofInt 32 (m : Int)).toNat ≤ m := by
    rw [BitVec.toNat_and]
    refine Nat.le_trans Nat.and_le_right ?_
    rw [BitVec.ofInt_natCast, BitVec.toNat_ofNat]
    exact Nat.mod_le _ _
  show 0 ≤ IntKind.i32.wrap ((BitVec.ofInt 32 n &&& BitVec.ofInt 32 (m : Int)).toNat : Int) ∧ IntKind.i32.wrap ((BitVec.ofInt 32 n &&& BitVec.ofInt 32 (m : Int)).toNat : Int) ≤ m
  generalize (BitVec.ofInt 32 n &&& BitVec.ofInt 32 (m : Int)).toNat = c at *
  rw [wraps_i32 _ (by omega) (by omega)]
  omega
theorem and20 (n : Int) : ∃ c : Int, bits .and .i32 n 1048575 = c ∧ 0 ≤ c ∧ c ≤ 1048575 := and_mask32 n 1048575 (by decide)
theorem rem9 (n : Int) : ∃ q : Int, n.tmod 1000000000 = q ∧ -1000000000 < q ∧ q < 1000000000 := by
  refine ⟨_, rfl, ?_⟩
  have h1 := Int.tmod_lt_of_pos n (show (0 : Int) < 1000000000 by decide)
  have h2 := Int.lt_tmod_of_pos n (show (0 : Int) < 1000000000 by decide)
  omega
/-- The span that is written is read. -/
theorem span_there (HPS : PSpanC) (HS : SpanC) (a b : Int) (h0 : 0 ≤ a) (h1 : a ≤ b) (h2 : b ≤ 1114111) (w : World) (hg : Glob w) : Calls Tryd.prog 25 #[.int .i32 a, .int .i32 b] w (fun e w' => ∃ t, e = .returned (.string t) ∧ Below w.heap.size w w' ∧ ∀ w, Glob w → Calls Tryd.prog 17 #[.string t] w (fun e w' => e = .returned (.tuple #[.int .i32 a, .int .i32 b, .bool true]) ∧ Below w.heap.size w w')) := by
  refine (HPS a b w hg (by omega) (by omega)).mono ?_
  rintro e w1 ⟨t, ht, rfl, hb⟩
  refine ⟨t, rfl, hb, fun w hg => ?_⟩
  have hl := Scn.pspan_length a b
  rw [← ht, nums_length] at hl
  have h := HS t w hg (by omega)
  rw [ht, Scn.pspan_back h0 h1 h2] at h
  exact h
theorem whole_there (HPW : PWholeC) (HO : WholeC) (q : Int) (h0 : -1000000000 < q) (h1 : q < 1000000000) (w : World) (hg : Glob w) : Calls Tryd.prog 27 #[.int .i64 q] w (fun e w' => ∃ t, e = .returned (.string t) ∧ Below w.heap.size w w' ∧ ∀ w, Glob w → Calls Tryd.prog 19 #[.string t] w (fun e w' => e = .returned (.tuple #[.int .i64 q, .bool true]) ∧ Below w.heap.size w w')) := by
  refine (HPW q w hg (by omega)).mono ?_
  rintro e w1 ⟨t, ht, rfl, hb⟩
  refine ⟨t, rfl, hb, fun w hg => ?_⟩
  have hl := Scn.pwhole_length q
  rw [← ht, nums_length] at hl
  have h := HO t w hg (by omega)
  rw [ht, Scn.pwhole_back h0 h1] at h
  exact h

set_option maxHeartbeats 16000000 in
theorem back_any (HL : LinesC) (HW : WordsC) (HC : CodeC) (HS : SpanC) (HO : WholeC) (HN : NameC) (HP : PCodeC) (HPS : PSpanC) (HPW : PWholeC) (s : ByteArray) (lo hi n : Int) (w : World) (hg : Glob w) (hs : s.size ≤ 1000000000)
    (_h1 : -2147483648 ≤ lo ∧ lo ≤ 2147483647) (_h2 : -2147483648 ≤ hi ∧ hi ≤ 2147483647) (h3 : -9223372036854775808 ≤ n ∧ n ≤ 9223372036854775807) :
    Calls Tryd.prog 6 #[.string s, .int .i32 lo, .int .i32 hi, .int .i64 n] w (Tells w true) := by
  have KT := hide (told_any HL HW HS HO HN HP)
  obtain ⟨x, hxe, x0, x1⟩ := and20 lo
  obtain ⟨y, hye, y0, y1⟩ := and20 hi
  obtain ⟨q, hqe, q0, q1⟩ := rem9 n
  have KXY : Hid (x ≤ y → ∀ w, Glob w → Calls Tryd.prog 25 #[.int .i32 x, .int .i32 y] w (fun e w' => ∃ t, e = .returned (.string t) ∧ Below w.heap.size w w' ∧ ∀ w, Glob w → Calls Tryd.prog 17 #[.string t] w (fun e w' => e = .returned (.tuple #[.int .i32 x, .int .i32 y, .bool true]) ∧ Below w.heap.size w w'))) := fun h => span_there HPS HS x y x0 h (by omega)
  have KYX : Hid (y < x → ∀ w, Glob w → Calls Tryd.prog 25 #[.int .i32 y, .int .i32 x] w (fun e w' => ∃ t, e = .returned (.string t) ∧ Below w.heap.size w w' ∧ ∀ w, Glob w → Calls Tryd.prog 17 #[.string t] w (fun e w' => e = .returned (.tuple #[.int .i32 y, .int .i32 x, .bool true]) ∧ Below w.heap.size w w'))) := fun h => span_there HPS HS y x y0 (by omega) (by omega)
  have KQ := hide (whole_there HPW HO q q0 q1)
  have K1 := hide (fun w hg => HC s w hg hs)
  have B1 : Hid (Scn.code (nums s) = none ∨ ∃ c, Scn.code (nums s) = some c ∧ (-2147483648 ≤ c ∧ c ≤ 2147483647) ∧ ∀ w, Glob w → Calls Tryd.prog 23 #[.int .i32 c] w (fun e w' => e = .returned (.string s) ∧ Below w.heap.size w w')) := by
    cases hc : Scn.code (nums s) with
    | none => exact .inl rfl
    | some c =>
      obtain ⟨e1, e2, e3⟩ := Scn.code_back hc
      refine .inr ⟨c, rfl, by omega, fun w hg => (HP c w hg (by omega)).mono ?_⟩
      rintro e w' ⟨t, ht, rfl, hb⟩
      obtain rfl := strOf_eq ht e1
      exact ⟨rfl, hb⟩
  have K2 := hide (fun w hg => HS s w hg hs)
  have B2 : Hid (Scn.span (nums s) = none ∨ ∃ a b, Scn.span (nums s) = some (a, b) ∧ ∀ w, Glob w → Calls Tryd.prog 25 #[.int .i32 a, .int .i32 b] w (fun e w' => e = .returned (.string s) ∧ Below w.heap.size w w')) := by
    cases hc : Scn.span (nums s) with
    | none => exact .inl rfl
    | some r =>
      obtain ⟨a, b⟩ := r
      have e1 := Scn.span_back hc
      obtain ⟨e2, e3⟩ := Scn.span_bound hc
      refine .inr ⟨a, b, rfl, fun w hg => (HPS a b w hg (by omega) (by omega)).mono ?_⟩
      rintro e w' ⟨t, ht, rfl, hb⟩
      obtain rfl := strOf_eq ht e1
      exact ⟨rfl, hb⟩
  have K3 := hide (fun w hg => HO s w hg hs)
  have B3 : Hid (Scn.whole (nums s) = none ∨ ∃ m, Scn.whole (nums s) = some m ∧ ∀ w, Glob w → Calls Tryd.prog 27 #[.int .i64 m] w (fun e w' => e = .returned (.string s) ∧ Below w.heap.size w w')) := by
    cases hc : Scn.whole (nums s) with
    | none => exact .inl rfl
    | some m =>
      have e1 := Scn.whole_back hc
      have e2 := Scn.whole_bound hc
      refine .inr ⟨m, rfl, fun w hg => (HPW m w hg (by omega)).mono ?_⟩
      rintro e w' ⟨t, ht, rfl, hb⟩
      obtain rfl := strOf_eq ht e1
      exact ⟨rfl, hb⟩
  clear HL HW HC HS HO HN HP HPS HPW
  generalize Scn.code (nums s) = r1 at *
  generalize Scn.span (nums s) = r2 at *
  generalize Scn.whole (nums s) = r3 at *
  have qs := self_beq s
  have qx := int_beq x
  have qy := int_beq y
  have qq := int_beq q
  obtain ⟨n1, n2⟩ := h3
  go_enter Tryd.func6, Tryd.ntmps6
  go_wp2_with fail
  refine ((unhide K1) w hg).mono ?_
  rintro e1 w1 ⟨rfl, hb1⟩
  have g1 := hg.on hb1
  clear K1
  rcases unhide B1 with rfl | ⟨c, rfl, _, C1⟩
  · simp only [Scn.told]
    go_wp2_with fail
    refine ((unhide K2) w1 g1).mono ?_
    rintro e3 w3 ⟨rfl, hb3⟩
    have g3 := g1.on hb3
    clear K2
    rcases unhide B2 with rfl | ⟨a, b, rfl, C2⟩
    · simp only [Option.map_none, Option.getD_none, Option.isSome_none]
      go_wp2_with fail
      refine ((unhide K3) w3 g3).mono ?_
      rintro e5 w5 ⟨rfl, hb5⟩
      have g5 := g3.on hb5
      clear K3
      rcases unhide B3 with rfl | ⟨m, rfl, C3⟩
      · simp only [Scn.told]
        by_cases hxy : y < x
        · go_wp2_with fail
          refine ((unhide KYX) hxy w5 g5).mono ?_
          rintro e7 w7 ⟨t7, rfl, hb7, C7⟩
          have g7 := g5.on hb7
          have HC7 := hide C7
          clear C7 KXY KYX
          go_wp2_with fail
          refine ((unhide HC7) w7 g7).mono ?_
          rintro e8 w8 ⟨rfl, hb8⟩
          have g8 := g7.on hb8
          clear HC7
          go_wp2_with fail
          refine ((unhide KQ) w8 g8).mono ?_
          rintro e9 w9 ⟨t9, rfl, hb9, C9⟩
          have g9 := g8.on hb9
          have HC9 := hide C9
          clear C9 KQ
          go_wp2_with fail
          refine ((unhide HC9) w9 g9).mono ?_
          rintro e10 w10 ⟨rfl, hb10⟩
          have g10 := g9.on hb10
          clear HC9
          go_wp2_with fail
          refine ((unhide KT) w10 g10).mono ?_
          rintro e11 w11 ⟨rfl, hb11⟩
          have g11 := g10.on hb11
          clear KT
          have HF : Tells w true (.returned (.bool true)) w11 := ⟨rfl, (bthen (bthen (bthen (bthen (bthen (bthen (bthen hb1 hb3) hb5) hb7) hb8) hb9) hb10) hb11)⟩
          go_wp2
          go_ret
          exact HF
        · replace hxy : x ≤ y := by omega
          go_wp2_with fail
          refine ((unhide KXY) hxy w5 g5).mono ?_
          rintro e7 w7 ⟨t7, rfl, hb7, C7⟩
          have g7 := g5.on hb7
          have HC7 := hide C7
          clear C7 KXY KYX
          go_wp2_with fail
          refine ((unhide HC7) w7 g7).mono ?_
          rintro e8 w8 ⟨rfl, hb8⟩
          have g8 := g7.on hb8
          clear HC7
          go_wp2_with fail
          refine ((unhide KQ) w8 g8).mono ?_
          rintro e9 w9 ⟨t9, rfl, hb9, C9⟩
          have g9 := g8.on hb9
          have HC9 := hide C9
          clear C9 KQ
          go_wp2_with fail
          refine ((unhide HC9) w9 g9).mono ?_
          rintro e10 w10 ⟨rfl, hb10⟩
          have g10 := g9.on hb10
          clear HC9
          go_wp2_with fail
          refine ((unhide KT) w10 g10).mono ?_
          rintro e11 w11 ⟨rfl, hb11⟩
          have g11 := g10.on hb11
          clear KT
          have HF : Tells w true (.returned (.bool true)) w11 := ⟨rfl, (bthen (bthen (bthen (bthen (bthen (bthen (bthen hb1 hb3) hb5) hb7) hb8) hb9) hb10) hb11)⟩
          go_wp2
          go_ret
          exact HF
      · have HC3 := hide C3
        clear B3 C3
        simp only [Scn.told]
        go_wp2_with fail
        refine ((unhide HC3) w5 g5).mono ?_
        rintro e6 w6 ⟨rfl, hb6⟩
        have g6 := g5.on hb6
        clear HC3
        by_cases hxy : y < x
        · go_wp2_with fail
          refine ((unhide KYX) hxy w6 g6).mono ?_
          rintro e7 w7 ⟨t7, rfl, hb7, C7⟩
          have g7 := g6.on hb7
          have HC7 := hide C7
          clear C7 KXY KYX
          go_wp2_with fail
          refine ((unhide HC7) w7 g7).mono ?_
          rintro e8 w8 ⟨rfl, hb8⟩
          have g8 := g7.on hb8
          clear HC7
          go_wp2_with fail
          refine ((unhide KQ) w8 g8).mono ?_
          rintro e9 w9 ⟨t9, rfl, hb9, C9⟩
          have g9 := g8.on hb9
          have HC9 := hide C9
          clear C9 KQ
          go_wp2_with fail
          refine ((unhide HC9) w9 g9).mono ?_
          rintro e10 w10 ⟨rfl, hb10⟩
          have g10 := g9.on hb10
          clear HC9
          go_wp2_with fail
          refine ((unhide KT) w10 g10).mono ?_
          rintro e11 w11 ⟨rfl, hb11⟩
          have g11 := g10.on hb11
          clear KT
          have HF : Tells w true (.returned (.bool true)) w11 := ⟨rfl, (bthen (bthen (bthen (bthen (bthen (bthen (bthen (bthen hb1 hb3) hb5) hb6) hb7) hb8) hb9) hb10) hb11)⟩
          go_wp2
          go_ret
          exact HF
        · replace hxy : x ≤ y := by omega
          go_wp2_with fail
          refine ((unhide KXY) hxy w6 g6).mono ?_
          rintro e7 w7 ⟨t7, rfl, hb7, C7⟩
          have g7 := g6.on hb7
          have HC7 := hide C7
          clear C7 KXY KYX
          go_wp2_with fail
          refine ((unhide HC7) w7 g7).mono ?_
          rintro e8 w8 ⟨rfl, hb8⟩
          have g8 := g7.on hb8
          clear HC7
          go_wp2_with fail
          refine ((unhide KQ) w8 g8).mono ?_
          rintro e9 w9 ⟨t9, rfl, hb9, C9⟩
          have g9 := g8.on hb9
          have HC9 := hide C9
          clear C9 KQ
          go_wp2_with fail
          refine ((unhide HC9) w9 g9).mono ?_
          rintro e10 w10 ⟨rfl, hb10⟩
          have g10 := g9.on hb10
          clear HC9
          go_wp2_with fail
          refine ((unhide KT) w10 g10).mono ?_
          rintro e11 w11 ⟨rfl, hb11⟩
          have g11 := g10.on hb11
          clear KT
          have HF : Tells w true (.returned (.bool true)) w11 := ⟨rfl, (bthen (bthen (bthen (bthen (bthen (bthen (bthen (bthen hb1 hb3) hb5) hb6) hb7) hb8) hb9) hb10) hb11)⟩
          go_wp2
          go_ret
          exact HF
    · have HC2 := hide C2
      clear B2 C2
      simp only [Option.map_some, Option.getD_some, Option.isSome_some]
      go_wp2_with fail
      refine ((unhide HC2) w3 g3).mono ?_
      rintro e4 w4 ⟨rfl, hb4⟩
      have g4 := g3.on hb4
      clear HC2
      go_wp2_with fail
      refine ((unhide K3) w4 g4).mono ?_
      rintro e5 w5 ⟨rfl, hb5⟩
      have g5 := g4.on hb5
      clear K3
      rcases unhide B3 with rfl | ⟨m, rfl, C3⟩
      · simp only [Scn.told]
        by_cases hxy : y < x
        · go_wp2_with fail
          refine ((unhide KYX) hxy w5 g5).mono ?_
          rintro e7 w7 ⟨t7, rfl, hb7, C7⟩
          have g7 := g5.on hb7
          have HC7 := hide C7
          clear C7 KXY KYX
          go_wp2_with fail
          refine ((unhide HC7) w7 g7).mono ?_
          rintro e8 w8 ⟨rfl, hb8⟩
          have g8 := g7.on hb8
          clear HC7
          go_wp2_with fail
          refine ((unhide KQ) w8 g8).mono ?_
          rintro e9 w9 ⟨t9, rfl, hb9, C9⟩
          have g9 := g8.on hb9
          have HC9 := hide C9
          clear C9 KQ
          go_wp2_with fail
          refine ((unhide HC9) w9 g9).mono ?_
          rintro e10 w10 ⟨rfl, hb10⟩
          have g10 := g9.on hb10
          clear HC9
          go_wp2_with fail
          refine ((unhide KT) w10 g10).mono ?_
          rintro e11 w11 ⟨rfl, hb11⟩
          have g11 := g10.on hb11
          clear KT
          have HF : Tells w true (.returned (.bool true)) w11 := ⟨rfl, (bthen (bthen (bthen (bthen (bthen (bthen (bthen (bthen hb1 hb3) hb4) hb5) hb7) hb8) hb9) hb10) hb11)⟩
          go_wp2
          go_ret
          exact HF
        · replace hxy : x ≤ y := by omega
          go_wp2_with fail
          refine ((unhide KXY) hxy w5 g5).mono ?_
          rintro e7 w7 ⟨t7, rfl, hb7, C7⟩
          have g7 := g5.on hb7
          have HC7 := hide C7
          clear C7 KXY KYX
          go_wp2_with fail
          refine ((unhide HC7) w7 g7).mono ?_
          rintro e8 w8 ⟨rfl, hb8⟩
          have g8 := g7.on hb8
          clear HC7
          go_wp2_with fail
          refine ((unhide KQ) w8 g8).mono ?_
          rintro e9 w9 ⟨t9, rfl, hb9, C9⟩
          have g9 := g8.on hb9
          have HC9 := hide C9
          clear C9 KQ
          go_wp2_with fail
          refine ((unhide HC9) w9 g9).mono ?_
          rintro e10 w10 ⟨rfl, hb10⟩
          have g10 := g9.on hb10
          clear HC9
          go_wp2_with fail
          refine ((unhide KT) w10 g10).mono ?_
          rintro e11 w11 ⟨rfl, hb11⟩
          have g11 := g10.on hb11
          clear KT
          have HF : Tells w true (.returned (.bool true)) w11 := ⟨rfl, (bthen (bthen (bthen (bthen (bthen (bthen (bthen (bthen hb1 hb3) hb4) hb5) hb7) hb8) hb9) hb10) hb11)⟩
          go_wp2
          go_ret
          exact HF
      · have HC3 := hide C3
        clear B3 C3
        simp only [Scn.told]
        go_wp2_with fail
        refine ((unhide HC3) w5 g5).mono ?_
        rintro e6 w6 ⟨rfl, hb6⟩
        have g6 := g5.on hb6
        clear HC3
        by_cases hxy : y < x
        · go_wp2_with fail
          refine ((unhide KYX) hxy w6 g6).mono ?_
          rintro e7 w7 ⟨t7, rfl, hb7, C7⟩
          have g7 := g6.on hb7
          have HC7 := hide C7
          clear C7 KXY KYX
          go_wp2_with fail
          refine ((unhide HC7) w7 g7).mono ?_
          rintro e8 w8 ⟨rfl, hb8⟩
          have g8 := g7.on hb8
          clear HC7
          go_wp2_with fail
          refine ((unhide KQ) w8 g8).mono ?_
          rintro e9 w9 ⟨t9, rfl, hb9, C9⟩
          have g9 := g8.on hb9
          have HC9 := hide C9
          clear C9 KQ
          go_wp2_with fail
          refine ((unhide HC9) w9 g9).mono ?_
          rintro e10 w10 ⟨rfl, hb10⟩
          have g10 := g9.on hb10
          clear HC9
          go_wp2_with fail
          refine ((unhide KT) w10 g10).mono ?_
          rintro e11 w11 ⟨rfl, hb11⟩
          have g11 := g10.on hb11
          clear KT
          have HF : Tells w true (.returned (.bool true)) w11 := ⟨rfl, (bthen (bthen (bthen (bthen (bthen (bthen (bthen (bthen (bthen hb1 hb3) hb4) hb5) hb6) hb7) hb8) hb9) hb10) hb11)⟩
          go_wp2
          go_ret
          exact HF
        · replace hxy : x ≤ y := by omega
          go_wp2_with fail
          refine ((unhide KXY) hxy w6 g6).mono ?_
          rintro e7 w7 ⟨t7, rfl, hb7, C7⟩
          have g7 := g6.on hb7
          have HC7 := hide C7
          clear C7 KXY KYX
          go_wp2_with fail
          refine ((unhide HC7) w7 g7).mono ?_
          rintro e8 w8 ⟨rfl, hb8⟩
          have g8 := g7.on hb8
          clear HC7
          go_wp2_with fail
          refine ((unhide KQ) w8 g8).mono ?_
          rintro e9 w9 ⟨t9, rfl, hb9, C9⟩
          have g9 := g8.on hb9
          have HC9 := hide C9
          clear C9 KQ
          go_wp2_with fail
          refine ((unhide HC9) w9 g9).mono ?_
          rintro e10 w10 ⟨rfl, hb10⟩
          have g10 := g9.on hb10
          clear HC9
          go_wp2_with fail
          refine ((unhide KT) w10 g10).mono ?_
          rintro e11 w11 ⟨rfl, hb11⟩
          have g11 := g10.on hb11
          clear KT
          have HF : Tells w true (.returned (.bool true)) w11 := ⟨rfl, (bthen (bthen (bthen (bthen (bthen (bthen (bthen (bthen (bthen hb1 hb3) hb4) hb5) hb6) hb7) hb8) hb9) hb10) hb11)⟩
          go_wp2
          go_ret
          exact HF
  · have HC1 := hide C1
    clear B1 C1
    simp only [Scn.told]
    go_wp2_with fail
    refine ((unhide HC1) w1 g1).mono ?_
    rintro e2 w2 ⟨rfl, hb2⟩
    have g2 := g1.on hb2
    clear HC1
    go_wp2_with fail
    refine ((unhide K2) w2 g2).mono ?_
    rintro e3 w3 ⟨rfl, hb3⟩
    have g3 := g2.on hb3
    clear K2
    rcases unhide B2 with rfl | ⟨a, b, rfl, C2⟩
    · simp only [Option.map_none, Option.getD_none, Option.isSome_none]
      go_wp2_with fail
      refine ((unhide K3) w3 g3).mono ?_
      rintro e5 w5 ⟨rfl, hb5⟩
      have g5 := g3.on hb5
      clear K3
      rcases unhide B3 with rfl | ⟨m, rfl, C3⟩
      · simp only [Scn.told]
        by_cases hxy : y < x
        · go_wp2_with fail
          refine ((unhide KYX) hxy w5 g5).mono ?_
          rintro e7 w7 ⟨t7, rfl, hb7, C7⟩
          have g7 := g5.on hb7
          have HC7 := hide C7
          clear C7 KXY KYX
          go_wp2_with fail
          refine ((unhide HC7) w7 g7).mono ?_
          rintro e8 w8 ⟨rfl, hb8⟩
          have g8 := g7.on hb8
          clear HC7
          go_wp2_with fail
          refine ((unhide KQ) w8 g8).mono ?_
          rintro e9 w9 ⟨t9, rfl, hb9, C9⟩
          have g9 := g8.on hb9
          have HC9 := hide C9
          clear C9 KQ
          go_wp2_with fail
          refine ((unhide HC9) w9 g9).mono ?_
          rintro e10 w10 ⟨rfl, hb10⟩
          have g10 := g9.on hb10
          clear HC9
          go_wp2_with fail
          refine ((unhide KT) w10 g10).mono ?_
          rintro e11 w11 ⟨rfl, hb11⟩
          have g11 := g10.on hb11
          clear KT
          have HF : Tells w true (.returned (.bool true)) w11 := ⟨rfl, (bthen (bthen (bthen (bthen (bthen (bthen (bthen (bthen hb1 hb2) hb3) hb5) hb7) hb8) hb9) hb10) hb11)⟩
          go_wp2
          go_ret
          exact HF
        · replace hxy : x ≤ y := by omega
          go_wp2_with fail
          refine ((unhide KXY) hxy w5 g5).mono ?_
          rintro e7 w7 ⟨t7, rfl, hb7, C7⟩
          have g7 := g5.on hb7
          have HC7 := hide C7
          clear C7 KXY KYX
          go_wp2_with fail
          refine ((unhide HC7) w7 g7).mono ?_
          rintro e8 w8 ⟨rfl, hb8⟩
          have g8 := g7.on hb8
          clear HC7
          go_wp2_with fail
          refine ((unhide KQ) w8 g8).mono ?_
          rintro e9 w9 ⟨t9, rfl, hb9, C9⟩
          have g9 := g8.on hb9
          have HC9 := hide C9
          clear C9 KQ
          go_wp2_with fail
          refine ((unhide HC9) w9 g9).mono ?_
          rintro e10 w10 ⟨rfl, hb10⟩
          have g10 := g9.on hb10
          clear HC9
          go_wp2_with fail
          refine ((unhide KT) w10 g10).mono ?_
          rintro e11 w11 ⟨rfl, hb11⟩
          have g11 := g10.on hb11
          clear KT
          have HF : Tells w true (.returned (.bool true)) w11 := ⟨rfl, (bthen (bthen (bthen (bthen (bthen (bthen (bthen (bthen hb1 hb2) hb3) hb5) hb7) hb8) hb9) hb10) hb11)⟩
          go_wp2
          go_ret
          exact HF
      · have HC3 := hide C3
        clear B3 C3
        simp only [Scn.told]
        go_wp2_with fail
        refine ((unhide HC3) w5 g5).mono ?_
        rintro e6 w6 ⟨rfl, hb6⟩
        have g6 := g5.on hb6
        clear HC3
        by_cases hxy : y < x
        · go_wp2_with fail
          refine ((unhide KYX) hxy w6 g6).mono ?_
          rintro e7 w7 ⟨t7, rfl, hb7, C7⟩
          have g7 := g6.on hb7
          have HC7 := hide C7
          clear C7 KXY KYX
          go_wp2_with fail
          refine ((unhide HC7) w7 g7).mono ?_
          rintro e8 w8 ⟨rfl, hb8⟩
          have g8 := g7.on hb8
          clear HC7
          go_wp2_with fail
          refine ((unhide KQ) w8 g8).mono ?_
          rintro e9 w9 ⟨t9, rfl, hb9, C9⟩
          have g9 := g8.on hb9
          have HC9 := hide C9
          clear C9 KQ
          go_wp2_with fail
          refine ((unhide HC9) w9 g9).mono ?_
          rintro e10 w10 ⟨rfl, hb10⟩
          have g10 := g9.on hb10
          clear HC9
          go_wp2_with fail
          refine ((unhide KT) w10 g10).mono ?_
          rintro e11 w11 ⟨rfl, hb11⟩
          have g11 := g10.on hb11
          clear KT
          have HF : Tells w true (.returned (.bool true)) w11 := ⟨rfl, (bthen (bthen (bthen (bthen (bthen (bthen (bthen (bthen (bthen hb1 hb2) hb3) hb5) hb6) hb7) hb8) hb9) hb10) hb11)⟩
          go_wp2
          go_ret
          exact HF
        · replace hxy : x ≤ y := by omega
          go_wp2_with fail
          refine ((unhide KXY) hxy w6 g6).mono ?_
          rintro e7 w7 ⟨t7, rfl, hb7, C7⟩
          have g7 := g6.on hb7
          have HC7 := hide C7
          clear C7 KXY KYX
          go_wp2_with fail
          refine ((unhide HC7) w7 g7).mono ?_
          rintro e8 w8 ⟨rfl, hb8⟩
          have g8 := g7.on hb8
          clear HC7
          go_wp2_with fail
          refine ((unhide KQ) w8 g8).mono ?_
          rintro e9 w9 ⟨t9, rfl, hb9, C9⟩
          have g9 := g8.on hb9
          have HC9 := hide C9
          clear C9 KQ
          go_wp2_with fail
          refine ((unhide HC9) w9 g9).mono ?_
          rintro e10 w10 ⟨rfl, hb10⟩
          have g10 := g9.on hb10
          clear HC9
          go_wp2_with fail
          refine ((unhide KT) w10 g10).mono ?_
          rintro e11 w11 ⟨rfl, hb11⟩
          have g11 := g10.on hb11
          clear KT
          have HF : Tells w true (.returned (.bool true)) w11 := ⟨rfl, (bthen (bthen (bthen (bthen (bthen (bthen (bthen (bthen (bthen hb1 hb2) hb3) hb5) hb6) hb7) hb8) hb9) hb10) hb11)⟩
          go_wp2
          go_ret
          exact HF
    · have HC2 := hide C2
      clear B2 C2
      simp only [Option.map_some, Option.getD_some, Option.isSome_some]
      go_wp2_with fail
      refine ((unhide HC2) w3 g3).mono ?_
      rintro e4 w4 ⟨rfl, hb4⟩
      have g4 := g3.on hb4
      clear HC2
      go_wp2_with fail
      refine ((unhide K3) w4 g4).mono ?_
      rintro e5 w5 ⟨rfl, hb5⟩
      have g5 := g4.on hb5
      clear K3
      rcases unhide B3 with rfl | ⟨m, rfl, C3⟩
      · simp only [Scn.told]
        by_cases hxy : y < x
        · go_wp2_with fail
          refine ((unhide KYX) hxy w5 g5).mono ?_
          rintro e7 w7 ⟨t7, rfl, hb7, C7⟩
          have g7 := g5.on hb7
          have HC7 := hide C7
          clear C7 KXY KYX
          go_wp2_with fail
          refine ((unhide HC7) w7 g7).mono ?_
          rintro e8 w8 ⟨rfl, hb8⟩
          have g8 := g7.on hb8
          clear HC7
          go_wp2_with fail
          refine ((unhide KQ) w8 g8).mono ?_
          rintro e9 w9 ⟨t9, rfl, hb9, C9⟩
          have g9 := g8.on hb9
          have HC9 := hide C9
          clear C9 KQ
          go_wp2_with fail
          refine ((unhide HC9) w9 g9).mono ?_
          rintro e10 w10 ⟨rfl, hb10⟩
          have g10 := g9.on hb10
          clear HC9
          go_wp2_with fail
          refine ((unhide KT) w10 g10).mono ?_
          rintro e11 w11 ⟨rfl, hb11⟩
          have g11 := g10.on hb11
          clear KT
          have HF : Tells w true (.returned (.bool true)) w11 := ⟨rfl, (bthen (bthen (bthen (bthen (bthen (bthen (bthen (bthen (bthen hb1 hb2) hb3) hb4) hb5) hb7) hb8) hb9) hb10) hb11)⟩
          go_wp2
          go_ret
          exact HF
        · replace hxy : x ≤ y := by omega
          go_wp2_with fail
          refine ((unhide KXY) hxy w5 g5).mono ?_
          rintro e7 w7 ⟨t7, rfl, hb7, C7⟩
          have g7 := g5.on hb7
          have HC7 := hide C7
          clear C7 KXY KYX
          go_wp2_with fail
          refine ((unhide HC7) w7 g7).mono ?_
          rintro e8 w8 ⟨rfl, hb8⟩
          have g8 := g7.on hb8
          clear HC7
          go_wp2_with fail
          refine ((unhide KQ) w8 g8).mono ?_
          rintro e9 w9 ⟨t9, rfl, hb9, C9⟩
          have g9 := g8.on hb9
          have HC9 := hide C9
          clear C9 KQ
          go_wp2_with fail
          refine ((unhide HC9) w9 g9).mono ?_
          rintro e10 w10 ⟨rfl, hb10⟩
          have g10 := g9.on hb10
          clear HC9
          go_wp2_with fail
          refine ((unhide KT) w10 g10).mono ?_
          rintro e11 w11 ⟨rfl, hb11⟩
          have g11 := g10.on hb11
          clear KT
          have HF : Tells w true (.returned (.bool true)) w11 := ⟨rfl, (bthen (bthen (bthen (bthen (bthen (bthen (bthen (bthen (bthen hb1 hb2) hb3) hb4) hb5) hb7) hb8) hb9) hb10) hb11)⟩
          go_wp2
          go_ret
          exact HF
      · have HC3 := hide C3
        clear B3 C3
        simp only [Scn.told]
        go_wp2_with fail
        refine ((unhide HC3) w5 g5).mono ?_
        rintro e6 w6 ⟨rfl, hb6⟩
        have g6 := g5.on hb6
        clear HC3
        by_cases hxy : y < x
        · go_wp2_with fail
          refine ((unhide KYX) hxy w6 g6).mono ?_
          rintro e7 w7 ⟨t7, rfl, hb7, C7⟩
          have g7 := g6.on hb7
          have HC7 := hide C7
          clear C7 KXY KYX
          go_wp2_with fail
          refine ((unhide HC7) w7 g7).mono ?_
          rintro e8 w8 ⟨rfl, hb8⟩
          have g8 := g7.on hb8
          clear HC7
          go_wp2_with fail
          refine ((unhide KQ) w8 g8).mono ?_
          rintro e9 w9 ⟨t9, rfl, hb9, C9⟩
          have g9 := g8.on hb9
          have HC9 := hide C9
          clear C9 KQ
          go_wp2_with fail
          refine ((unhide HC9) w9 g9).mono ?_
          rintro e10 w10 ⟨rfl, hb10⟩
          have g10 := g9.on hb10
          clear HC9
          go_wp2_with fail
          refine ((unhide KT) w10 g10).mono ?_
          rintro e11 w11 ⟨rfl, hb11⟩
          have g11 := g10.on hb11
          clear KT
          have HF : Tells w true (.returned (.bool true)) w11 := ⟨rfl, (bthen (bthen (bthen (bthen (bthen (bthen (bthen (bthen (bthen (bthen hb1 hb2) hb3) hb4) hb5) hb6) hb7) hb8) hb9) hb10) hb11)⟩
          go_wp2
          go_ret
          exact HF
        · replace hxy : x ≤ y := by omega
          go_wp2_with fail
          refine ((unhide KXY) hxy w6 g6).mono ?_
          rintro e7 w7 ⟨t7, rfl, hb7, C7⟩
          have g7 := g6.on hb7
          have HC7 := hide C7
          clear C7 KXY KYX
          go_wp2_with fail
          refine ((unhide HC7) w7 g7).mono ?_
          rintro e8 w8 ⟨rfl, hb8⟩
          have g8 := g7.on hb8
          clear HC7
          go_wp2_with fail
          refine ((unhide KQ) w8 g8).mono ?_
          rintro e9 w9 ⟨t9, rfl, hb9, C9⟩
          have g9 := g8.on hb9
          have HC9 := hide C9
          clear C9 KQ
          go_wp2_with fail
          refine ((unhide HC9) w9 g9).mono ?_
          rintro e10 w10 ⟨rfl, hb10⟩
          have g10 := g9.on hb10
          clear HC9
          go_wp2_with fail
          refine ((unhide KT) w10 g10).mono ?_
          rintro e11 w11 ⟨rfl, hb11⟩
          have g11 := g10.on hb11
          clear KT
          have HF : Tells w true (.returned (.bool true)) w11 := ⟨rfl, (bthen (bthen (bthen (bthen (bthen (bthen (bthen (bthen (bthen (bthen hb1 hb2) hb3) hb4) hb5) hb6) hb7) hb8) hb9) hb10) hb11)⟩
          go_wp2
          go_ret
          exact HF
end Go.Proofs.YtkdkmnohnhhojaaDoor
