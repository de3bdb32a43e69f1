import Derived.Test.YtceflkeaenepcaaGreatDoorN19
import Derived.Test.YtceflkeaenepcaaGreatDoorN11
namespace Go.Proofs.YtceflkeaenepcaaGreatDoor
open Go.RowKit
theorem len64_6 (w : World) : Calls Tryz.prog 94 #[.int .u64 4503599627370496] w fun e w' => e = .returned (.int .i64 53) ∧ w' = w := Tryz.bits_Len64 4503599627370496 w (by decide) (by decide)
set_option maxHeartbeats 1000000 in
set_option maxRecDepth 20000 in
theorem shortest6 (w : World) : Calls Tryz.prog 151 #[.float .f64 4598175219545276416] w fun e w' => e = .returned (.tuple #[.int .u64 25, .int .i64 (-2)]) ∧ Below w.heap.size w w' := by
  have K1 := hide (parts6 w)
  have z1 : Zi (w.alloc (.cells #[.bool false, .slice none 0 0] 227)) w.heap.size (.slice none 0 0) := Zi.alloc w _
  have B1 : Below w.heap.size w (w.alloc (.cells #[.bool false, .slice none 0 0] 227)) := (Below.refl w.heap.size w).alloc (Nat.le_refl _) _
  obtain ⟨W0, hW0⟩ : ∃ W0, w.alloc (.cells #[.bool false, .slice none 0 0] 227) = W0 := ⟨_, rfl⟩
  rw [hW0] at z1 B1
  have K2 := hide (num6 w W0 z1 B1)
  have K3 := hide len64_6
  have K4 := hide firstPower6
  have D2 := hide decimal_2
  have D3 := hide decimal_3
  have D25 := hide decimal_25
  have KN := hide noNoughts6
  have f2 : ∀ w, (binOp .eql 27 (.float .f64 4596373779694328218) (.float .f64 4598175219545276416)).run Tryz.prog w = .ok (.bool false) w := fun w => by kernel_rfl
  have f3 : ∀ w, (binOp .eql 27 (.float .f64 4599075939470750515) (.float .f64 4598175219545276416)).run Tryz.prog w = .ok (.bool false) w := fun w => by kernel_rfl
  have f4 : ∀ w, (binOp .eql 27 (.float .f64 4598175219545276416) (.float .f64 4598175219545276416)).run Tryz.prog w = .ok (.bool true) w := fun w => by kernel_rfl
  have i1 : ∀ w, (Instr.index 231 (.agg #[.int .u64 2, .int .u64 3]) (.int .i64 0)).run Tryz.prog w = .ok (.int .u64 2) w := fun w => by kernel_rfl
  have i2 : ∀ w, (Instr.index 231 (.agg #[.int .u64 2, .int .u64 3]) (.int .i64 1)).run Tryz.prog w = .ok (.int .u64 3) w := fun w => by kernel_rfl
  have i3 : ∀ w, (Instr.index 231 (.agg #[.int .u64 25, .int .u64 26]) (.int .i64 0)).run Tryz.prog w = .ok (.int .u64 25) w := fun w => by kernel_rfl
  clear z1 B1
  go_enter Tryz.func151, Tryz.ntmps151
  go_wp2_with fail
  refine (unhide K1).mono ?_
  rintro e w ⟨rfl, rfl⟩
  go_wp2_with fail
  refine (unhide K2).mono ?_
  rintro e w1 ⟨p0, rfl, K5⟩
  replace K5 := hide K5
  clear K1 K2
  go_wp2_with fail
  refine (unhide K5).mono ?_
  rintro e w2 ⟨p1, rfl, K6⟩
  replace K6 := hide K6
  clear K5
  go_wp2_with fail
  refine (unhide K6).mono ?_
  rintro e w3 ⟨p3, rfl, K7⟩
  replace K7 := hide K7
  clear K6
  go_wp2_with fail
  refine (unhide K7).mono ?_
  rintro e w4 ⟨p2, rfl, hb4, A0, A1, A2⟩
  replace hb4 := hide hb4
  replace A0 := hide A0
  replace A1 := hide A1
  replace A2 := hide A2
  clear K7 hW0
  go_wp2_with fail
  refine ((unhide K3) _).mono ?_
  rintro e w4 ⟨rfl, rfl⟩
  go_wp2_with fail
  refine ((unhide K4) _).mono ?_
  rintro e w4 ⟨rfl, rfl⟩
  clear K3 K4
  go_wp2
  go_loopw [3] (fun p wr => (p = .int .i64 0 ∨ p = .int .i64 (-1) ∨ p = .int .i64 (-2)) ∧ Below w4.heap.size w4 wr) (fun p _ => (2 + intOf p).toNat)
  case atStart => exact ⟨.inl rfl, Below.refl _ _⟩
  case round =>
    obtain ⟨hp, hb⟩ := hrel
    rcases hp with rfl | rfl | rfl
    · have KA := hide ((unhide A0) wr hb)
      clear A0 A1 A2
      go_wp2_with fail
      refine (unhide KA).mono ?_
      rintro e w5 ⟨q1, rfl, KB⟩
      replace KB := hide KB
      clear KA
      go_wp2_with fail
      refine (unhide KB).mono ?_
      rintro e w6 ⟨q2, rfl, KC⟩
      replace KC := hide KC
      clear KB
      go_wp2_with fail
      refine (unhide KC).mono ?_
      rintro e w7 ⟨rfl, b7⟩
      replace b7 := hide b7
      clear KC
      go_wp2
      exact ⟨⟨.inr (.inl rfl), unhide b7⟩, by simp [intOf]⟩
    · have KA := hide ((unhide A1) wr hb)
      clear A0 A1 A2
      go_wp2_with fail
      refine (unhide KA).mono ?_
      rintro e w5 ⟨q1, rfl, KB⟩
      replace KB := hide KB
      clear KA
      go_wp2_with fail
      refine (unhide KB).mono ?_
      rintro e w6 ⟨q2, rfl, KC⟩
      replace KC := hide KC
      clear KB
      go_wp2_with fail
      refine (unhide KC).mono ?_
      rintro e w7 ⟨rfl, b7⟩
      replace b7 := hide b7
      clear KC
      go_wp2
      go_loopw [3, 11, 51] (fun p _ jj w8 => (jj = .int .i64 0 ∨ jj = .int .i64 1 ∨ jj = .int .i64 2) ∧ p = .int .i64 (-1) ∧ Below w4.heap.size w4 w8) (fun _ _ jj _ => (2 - intOf jj).toNat)
      case atStart => exact ⟨.inl rfl, rfl, unhide b7⟩
      case round =>
        obtain ⟨hj, rfl, hb8⟩ := hrel
        replace hb8 := hide hb8
        rcases hj with rfl | rfl | rfl
        · go_wp2_with fail
          refine ((unhide D2) _).mono ?_
          rintro e w9 ⟨rfl, b9⟩
          have b10 := hide ((unhide hb8).trans (b9.mono (unhide hb8).size))
          clear b9 hb8
          go_wp2
          go_roundw
          case rel =>
            refine ⟨_, _, _, _, _, _, _, _, _, _, _, _, _, _, _, _, _, ?_, rfl⟩
            exact ⟨.inr (.inl (by first | rfl | go_num)), rfl, unhide b10⟩
          case measure => simp [intOf]
        · go_wp2_with fail
          refine ((unhide D3) _).mono ?_
          rintro e w9 ⟨rfl, b9⟩
          have b10 := hide ((unhide hb8).trans (b9.mono (unhide hb8).size))
          clear b9 hb8
          go_wp2
          go_roundw
          case rel =>
            refine ⟨_, _, _, _, _, _, _, _, _, _, _, _, _, _, _, _, _, ?_, rfl⟩
            exact ⟨.inr (.inr (by first | rfl | go_num)), rfl, unhide b10⟩
          case measure => simp [intOf]
        · go_wp2
          exact ⟨⟨.inr (.inr rfl), unhide hb8⟩, by simp [intOf]⟩
    · have KA := hide ((unhide A2) wr hb)
      clear A0 A1 A2
      go_wp2_with fail
      refine (unhide KA).mono ?_
      rintro e w5 ⟨q1, rfl, KB⟩
      replace KB := hide KB
      clear KA
      go_wp2_with fail
      refine (unhide KB).mono ?_
      rintro e w6 ⟨q2, rfl, KC⟩
      replace KC := hide KC
      clear KB
      go_wp2_with fail
      refine (unhide KC).mono ?_
      rintro e w7 ⟨rfl, b7⟩
      replace b7 := hide b7
      clear KC
      go_wp2
      go_loopw [3, 11, 51] (fun p _ jj w8 => jj = .int .i64 0 ∧ p = .int .i64 (-2) ∧ Below w4.heap.size w4 w8) (fun _ _ jj _ => (2 - intOf jj).toNat)
      case atStart => exact ⟨rfl, rfl, unhide b7⟩
      case round =>
        obtain ⟨rfl, rfl, hb8⟩ := hrel
        replace hb8 := hide hb8
        go_wp2_with fail
        refine ((unhide D25) _).mono ?_
        rintro e w9 ⟨rfl, b9⟩
        have b10 := hide ((unhide hb4).trans (((unhide hb8).trans (b9.mono (unhide hb8).size)).mono (unhide hb4).size))
        clear b9 hb8
        go_wp2_with fail
        refine ((unhide KN) _).mono ?_
        rintro e w9 ⟨rfl, rfl⟩
        go_wp2
        go_ret2
        exact ⟨rfl, unhide b10⟩
end Go.Proofs.YtceflkeaenepcaaGreatDoor
namespace Go.Proofs.YtceflkeaenepcaaGreatDoor
open Go.RowKit
def Mc (w : World) (b : Nat) (s : ByteArray) (d c : Int) (dn : Bool) (p ps : Int) : Prop := w.heap[b]? = some (.cells #[.string s, .int .u64 d, .int .i64 c, .int .i64 0, .bool dn, .int .i64 p, .int .i64 ps] 242 (0, 0))
theorem mset (w : World) (b j : Nat) (arr arr' : Array Value) (v : Value) (h : w.heap[b]? = some (.cells arr 242 (0, 0))) (ha : arr.setIfInBounds j v = arr') : (w.setCell ⟨b, j, none⟩ v).heap[b]? = some (.cells arr' 242 (0, 0)) := by
  rw [set_block6 h, ha]
set_option maxRecDepth 20000 in
theorem next_0 (b B : Nat) (hB : B ≤ b) (d c p ps : Int) (dn : Bool) (w : World) (h : Mc w b ⟨#[50, 53, 101, 45, 50]⟩ d c dn p ps) : Calls Tryz.prog 219 #[.pointer (some ⟨b, 0, none⟩)] w fun e w' => e = .returned (.tuple #[.int .i64 2, .bool true]) ∧ Mc w' b ⟨#[53, 101, 45, 50]⟩ d c dn p ps ∧ Below B w w' := by
  have x0 : w.cell? ⟨b, 0, none⟩ = some (.string ⟨#[50, 53, 101, 45, 50]⟩) := cell_of6 (j := 0) h (by simp)
  have f0 : w.frozen? ⟨b, 0, none⟩ = false := frozen_of6 h
  have HM : Hid (Mc (w.setCell ⟨b, 0, none⟩ (.string ⟨#[53, 101, 45, 50]⟩)) b ⟨#[53, 101, 45, 50]⟩ d c dn p ps) := hide (mset w b 0 _ _ _ h (by simp))
  have ix : ∀ w, (Instr.index 9 (.string ⟨#[50, 53, 101, 45, 50]⟩) (.int .i64 0)).run Tryz.prog w = .ok (.int .u8 50) w := fun w => by kernel_rfl
  have sl : ∀ w, (Instr.sliceAt 9 (.string ⟨#[50, 53, 101, 45, 50]⟩) (some (.int .i64 1)) none none).run Tryz.prog w = .ok (.string ⟨#[53, 101, 45, 50]⟩) w := fun w => by kernel_rfl
  clear h
  go_enter Tryz.func219, Tryz.ntmps219
  go_wp2
  go_ret2
  exact ⟨rfl, unhide HM, below_set6 hB 0 _⟩
set_option maxRecDepth 20000 in
theorem next_1 (b B : Nat) (hB : B ≤ b) (d c p ps : Int) (dn : Bool) (w : World) (h : Mc w b ⟨#[53, 101, 45, 50]⟩ d c dn p ps) : Calls Tryz.prog 219 #[.pointer (some ⟨b, 0, none⟩)] w fun e w' => e = .returned (.tuple #[.int .i64 5, .bool true]) ∧ Mc w' b ⟨#[101, 45, 50]⟩ d c dn p ps ∧ Below B w w' := by
  have x0 : w.cell? ⟨b, 0, none⟩ = some (.string ⟨#[53, 101, 45, 50]⟩) := cell_of6 (j := 0) h (by simp)
  have f0 : w.frozen? ⟨b, 0, none⟩ = false := frozen_of6 h
  have HM : Hid (Mc (w.setCell ⟨b, 0, none⟩ (.string ⟨#[101, 45, 50]⟩)) b ⟨#[101, 45, 50]⟩ d c dn p ps) := hide (mset w b 0 _ _ _ h (by simp))
  have ix : ∀ w, (Instr.index 9 (.string ⟨#[53, 101, 45, 50]⟩) (.int .i64 0)).run Tryz.prog w = .ok (.int .u8 53) w := fun w => by kernel_rfl
  have sl : ∀ w, (Instr.sliceAt 9 (.string ⟨#[53, 101, 45, 50]⟩) (some (.int .i64 1)) none none).run Tryz.prog w = .ok (.string ⟨#[101, 45, 50]⟩) w := fun w => by kernel_rfl
  clear h
  go_enter Tryz.func219, Tryz.ntmps219
  go_wp2
  go_ret2
  exact ⟨rfl, unhide HM, below_set6 hB 0 _⟩
set_option maxRecDepth 20000 in
theorem next_2 (b B : Nat) (_hB : B ≤ b) (d c p ps : Int) (dn : Bool) (w : World) (h : Mc w b ⟨#[101, 45, 50]⟩ d c dn p ps) : Calls Tryz.prog 219 #[.pointer (some ⟨b, 0, none⟩)] w fun e w' => e = .returned (.tuple #[.int .i64 0, .bool false]) ∧ Mc w' b ⟨#[101, 45, 50]⟩ d c dn p ps ∧ Below B w w' := by
  have x0 : w.cell? ⟨b, 0, none⟩ = some (.string ⟨#[101, 45, 50]⟩) := cell_of6 (j := 0) h (by simp)
  have HM := hide h
  have ix : ∀ w, (Instr.index 9 (.string ⟨#[101, 45, 50]⟩) (.int .i64 0)).run Tryz.prog w = .ok (.int .u8 101) w := fun w => by kernel_rfl
  clear h
  go_enter Tryz.func219, Tryz.ntmps219
  go_wp2
  go_ret2
  exact ⟨rfl, unhide HM, Below.refl _ _⟩
set_option maxRecDepth 20000 in
theorem next_3 (b B : Nat) (_hB : B ≤ b) (d c p ps : Int) (dn : Bool) (w : World) (h : Mc w b ⟨#[45, 50]⟩ d c dn p ps) : Calls Tryz.prog 219 #[.pointer (some ⟨b, 0, none⟩)] w fun e w' => e = .returned (.tuple #[.int .i64 0, .bool false]) ∧ Mc w' b ⟨#[45, 50]⟩ d c dn p ps ∧ Below B w w' := by
  have x0 : w.cell? ⟨b, 0, none⟩ = some (.string ⟨#[45, 50]⟩) := cell_of6 (j := 0) h (by simp)
  have HM := hide h
  have ix : ∀ w, (Instr.index 9 (.string ⟨#[45, 50]⟩) (.int .i64 0)).run Tryz.prog w = .ok (.int .u8 45) w := fun w => by kernel_rfl
  clear h
  go_enter Tryz.func219, Tryz.ntmps219
  go_wp2
  go_ret2
  exact ⟨rfl, unhide HM, Below.refl _ _⟩
set_option maxRecDepth 20000 in
theorem next_4 (b B : Nat) (hB : B ≤ b) (d c p ps : Int) (dn : Bool) (w : World) (h : Mc w b ⟨#[50]⟩ d c dn p ps) : Calls Tryz.prog 219 #[.pointer (some ⟨b, 0, none⟩)] w fun e w' => e = .returned (.tuple #[.int .i64 2, .bool true]) ∧ Mc w' b ⟨#[]⟩ d c dn p ps ∧ Below B w w' := by
  have x0 : w.cell? ⟨b, 0, none⟩ = some (.string ⟨#[50]⟩) := cell_of6 (j := 0) h (by simp)
  have f0 : w.frozen? ⟨b, 0, none⟩ = false := frozen_of6 h
  have HM : Hid (Mc (w.setCell ⟨b, 0, none⟩ (.string ⟨#[]⟩)) b ⟨#[]⟩ d c dn p ps) := hide (mset w b 0 _ _ _ h (by simp))
  have ix : ∀ w, (Instr.index 9 (.string ⟨#[50]⟩) (.int .i64 0)).run Tryz.prog w = .ok (.int .u8 50) w := fun w => by kernel_rfl
  have sl : ∀ w, (Instr.sliceAt 9 (.string ⟨#[50]⟩) (some (.int .i64 1)) none none).run Tryz.prog w = .ok (.string ⟨#[]⟩) w := fun w => by kernel_rfl
  clear h
  go_enter Tryz.func219, Tryz.ntmps219
  go_wp2
  go_ret2
  exact ⟨rfl, unhide HM, below_set6 hB 0 _⟩
set_option maxRecDepth 20000 in
theorem next_5 (b B : Nat) (_hB : B ≤ b) (d c p ps : Int) (dn : Bool) (w : World) (h : Mc w b ⟨#[]⟩ d c dn p ps) : Calls Tryz.prog 219 #[.pointer (some ⟨b, 0, none⟩)] w fun e w' => e = .returned (.tuple #[.int .i64 0, .bool false]) ∧ Mc w' b ⟨#[]⟩ d c dn p ps ∧ Below B w w' := by
  have x0 : w.cell? ⟨b, 0, none⟩ = some (.string ⟨#[]⟩) := cell_of6 (j := 0) h (by simp)
  have HM := hide h
  clear h
  go_enter Tryz.func219, Tryz.ntmps219
  go_wp2
  go_ret2
  exact ⟨rfl, unhide HM, Below.refl _ _⟩
set_option maxRecDepth 20000 in
theorem digit_0 (b B : Nat) (hB : B ≤ b) (w : World) (h : Mc w b ⟨#[50, 53, 101, 45, 50]⟩ 0 0 false 0 0) : Calls Tryz.prog 205 #[.pointer (some ⟨b, 0, none⟩)] w fun e w' => e = .returned (.bool true) ∧ Mc w' b ⟨#[53, 101, 45, 50]⟩ 2 1 false 0 0 ∧ Below B w w' := by
  have x2 : w.cell? ⟨b, 2, none⟩ = some (.int .i64 0) := cell_of6 (j := 2) h (by simp)
  have K := hide (next_0 b B hB 0 0 0 0 false w h)
  have HQ : Hid (∀ W, Mc W b ⟨#[53, 101, 45, 50]⟩ 0 0 false 0 0 → W.cell? ⟨b, 1, none⟩ = some (.int .u64 0) ∧ W.frozen? ⟨b, 1, none⟩ = false ∧ (W.setCell ⟨b, 1, none⟩ (.int .u64 2)).cell? ⟨b, 2, none⟩ = some (.int .i64 0) ∧ (W.setCell ⟨b, 1, none⟩ (.int .u64 2)).frozen? ⟨b, 2, none⟩ = false ∧ Mc ((W.setCell ⟨b, 1, none⟩ (.int .u64 2)).setCell ⟨b, 2, none⟩ (.int .i64 1)) b ⟨#[53, 101, 45, 50]⟩ 2 1 false 0 0) := hide (by
    intro W hW
    have h1 := mset W b 1 _ #[.string ⟨#[53, 101, 45, 50]⟩, .int .u64 2, .int .i64 0, .int .i64 0, .bool false, .int .i64 0, .int .i64 0] (.int .u64 2) hW (by simp)
    exact ⟨cell_of6 (j := 1) hW (by simp), frozen_of6 hW, cell_of6 (j := 2) h1 (by simp), frozen_of6 h1, mset _ b 2 _ _ _ h1 (by simp)⟩)
  clear h
  go_enter Tryz.func205, Tryz.ntmps205
  go_wp2_with fail
  refine (unhide K).mono ?_
  rintro e w1 ⟨rfl, hm, hb⟩
  obtain ⟨y1, y2, y3, y4, hm2⟩ := (unhide HQ) w1 hm
  replace hm2 := hide hm2
  replace hb := hide hb
  clear hm HQ K
  go_wp2
  go_ret
  exact ⟨rfl, unhide hm2, ((unhide hb).trans (below_set6 hB 1 _)).trans (below_set6 hB 2 _)⟩
set_option maxRecDepth 20000 in
theorem digit_1 (b B : Nat) (hB : B ≤ b) (w : World) (h : Mc w b ⟨#[53, 101, 45, 50]⟩ 2 1 false 0 0) : Calls Tryz.prog 205 #[.pointer (some ⟨b, 0, none⟩)] w fun e w' => e = .returned (.bool true) ∧ Mc w' b ⟨#[101, 45, 50]⟩ 25 2 false 0 0 ∧ Below B w w' := by
  have x2 : w.cell? ⟨b, 2, none⟩ = some (.int .i64 1) := cell_of6 (j := 2) h (by simp)
  have K := hide (next_1 b B hB 2 1 0 0 false w h)
  have HQ : Hid (∀ W, Mc W b ⟨#[101, 45, 50]⟩ 2 1 false 0 0 → W.cell? ⟨b, 1, none⟩ = some (.int .u64 2) ∧ W.frozen? ⟨b, 1, none⟩ = false ∧ (W.setCell ⟨b, 1, none⟩ (.int .u64 25)).cell? ⟨b, 2, none⟩ = some (.int .i64 1) ∧ (W.setCell ⟨b, 1, none⟩ (.int .u64 25)).frozen? ⟨b, 2, none⟩ = false ∧ Mc ((W.setCell ⟨b, 1, none⟩ (.int .u64 25)).setCell ⟨b, 2, none⟩ (.int .i64 2)) b ⟨#[101, 45, 50]⟩ 25 2 false 0 0) := hide (by
    intro W hW
    have h1 := mset W b 1 _ #[.string ⟨#[101, 45, 50]⟩, .int .u64 25, .int .i64 1, .int .i64 0, .bool false, .int .i64 0, .int .i64 0] (.int .u64 25) hW (by simp)
    exact ⟨cell_of6 (j := 1) hW (by simp), frozen_of6 hW, cell_of6 (j := 2) h1 (by simp), frozen_of6 h1, mset _ b 2 _ _ _ h1 (by simp)⟩)
  clear h
  go_enter Tryz.func205, Tryz.ntmps205
  go_wp2_with fail
  refine (unhide K).mono ?_
  rintro e w1 ⟨rfl, hm, hb⟩
  obtain ⟨y1, y2, y3, y4, hm2⟩ := (unhide HQ) w1 hm
  replace hm2 := hide hm2
  replace hb := hide hb
  clear hm HQ K
  go_wp2
  go_ret
  exact ⟨rfl, unhide hm2, ((unhide hb).trans (below_set6 hB 1 _)).trans (below_set6 hB 2 _)⟩
set_option maxRecDepth 20000 in
theorem digit_2 (b B : Nat) (hB : B ≤ b) (w : World) (h : Mc w b ⟨#[101, 45, 50]⟩ 25 2 false 0 0) : Calls Tryz.prog 205 #[.pointer (some ⟨b, 0, none⟩)] w fun e w' => e = .returned (.bool false) ∧ Mc w' b ⟨#[101, 45, 50]⟩ 25 2 false 0 0 ∧ Below B w w' := by
  have x2 : w.cell? ⟨b, 2, none⟩ = some (.int .i64 2) := cell_of6 (j := 2) h (by simp)
  have K := hide (next_2 b B hB 25 2 0 0 false w h)
  clear h
  go_enter Tryz.func205, Tryz.ntmps205
  go_wp2_with fail
  refine (unhide K).mono ?_
  rintro e w1 ⟨rfl, hm, hb⟩
  replace hm := hide hm
  replace hb := hide hb
  go_wp2
  go_ret
  exact ⟨rfl, unhide hm, unhide hb⟩
set_option maxRecDepth 20000 in
theorem take_2_46 (b B : Nat) (_hB : B ≤ b) (w : World) (h : Mc w b ⟨#[101, 45, 50]⟩ 25 2 false 0 0) : Calls Tryz.prog 206 #[.pointer (some ⟨b, 0, none⟩), .int .u8 46] w fun e w' => e = .returned (.bool false) ∧ Mc w' b ⟨#[101, 45, 50]⟩ 25 2 false 0 0 ∧ Below B w w' := by
  have x0 : w.cell? ⟨b, 0, none⟩ = some (.string ⟨#[101, 45, 50]⟩) := cell_of6 (j := 0) h (by simp)
  have ix : ∀ w, (Instr.index 9 (.string ⟨#[101, 45, 50]⟩) (.int .i64 0)).run Tryz.prog w = .ok (.int .u8 101) w := fun w => by kernel_rfl
  have HM := hide h
  clear h
  go_enter Tryz.func206, Tryz.ntmps206
  go_wp2
  go_ret
  exact ⟨rfl, unhide HM, Below.refl _ _⟩
set_option maxRecDepth 20000 in
theorem take_2_101 (b B : Nat) (hB : B ≤ b) (w : World) (h : Mc w b ⟨#[101, 45, 50]⟩ 25 2 false 0 0) : Calls Tryz.prog 206 #[.pointer (some ⟨b, 0, none⟩), .int .u8 101] w fun e w' => e = .returned (.bool true) ∧ Mc w' b ⟨#[45, 50]⟩ 25 2 false 0 0 ∧ Below B w w' := by
  have x0 : w.cell? ⟨b, 0, none⟩ = some (.string ⟨#[101, 45, 50]⟩) := cell_of6 (j := 0) h (by simp)
  have ix : ∀ w, (Instr.index 9 (.string ⟨#[101, 45, 50]⟩) (.int .i64 0)).run Tryz.prog w = .ok (.int .u8 101) w := fun w => by kernel_rfl
  have f0 : w.frozen? ⟨b, 0, none⟩ = false := frozen_of6 h
  have HM : Hid (Mc (w.setCell ⟨b, 0, none⟩ (.string ⟨#[45, 50]⟩)) b ⟨#[45, 50]⟩ 25 2 false 0 0) := hide (mset w b 0 _ _ _ h (by simp))
  have sl : ∀ w, (Instr.sliceAt 9 (.string ⟨#[101, 45, 50]⟩) (some (.int .i64 1)) none none).run Tryz.prog w = .ok (.string ⟨#[45, 50]⟩) w := fun w => by kernel_rfl
  clear h
  go_enter Tryz.func206, Tryz.ntmps206
  go_wp2
  go_ret
  exact ⟨rfl, unhide HM, below_set6 hB 0 _⟩
set_option maxRecDepth 20000 in
theorem take_3_45 (b B : Nat) (hB : B ≤ b) (w : World) (h : Mc w b ⟨#[45, 50]⟩ 25 2 false 0 0) : Calls Tryz.prog 206 #[.pointer (some ⟨b, 0, none⟩), .int .u8 45] w fun e w' => e = .returned (.bool true) ∧ Mc w' b ⟨#[50]⟩ 25 2 false 0 0 ∧ Below B w w' := by
  have x0 : w.cell? ⟨b, 0, none⟩ = some (.string ⟨#[45, 50]⟩) := cell_of6 (j := 0) h (by simp)
  have ix : ∀ w, (Instr.index 9 (.string ⟨#[45, 50]⟩) (.int .i64 0)).run Tryz.prog w = .ok (.int .u8 45) w := fun w => by kernel_rfl
  have f0 : w.frozen? ⟨b, 0, none⟩ = false := frozen_of6 h
  have HM : Hid (Mc (w.setCell ⟨b, 0, none⟩ (.string ⟨#[50]⟩)) b ⟨#[50]⟩ 25 2 false 0 0) := hide (mset w b 0 _ _ _ h (by simp))
  have sl : ∀ w, (Instr.sliceAt 9 (.string ⟨#[45, 50]⟩) (some (.int .i64 1)) none none).run Tryz.prog w = .ok (.string ⟨#[50]⟩) w := fun w => by kernel_rfl
  clear h
  go_enter Tryz.func206, Tryz.ntmps206
  go_wp2
  go_ret
  exact ⟨rfl, unhide HM, below_set6 hB 0 _⟩
set_option maxRecDepth 20000 in
theorem tens_4 (b B : Nat) (hB : B ≤ b) (w : World) (h : Mc w b ⟨#[50]⟩ 25 2 true 0 0) : Calls Tryz.prog 208 #[.pointer (some ⟨b, 0, none⟩)] w fun e w' => e = .returned (.bool true) ∧ Mc w' b ⟨#[]⟩ 25 2 true 2 1 ∧ Below B w w' := by
  have x2 : w.cell? ⟨b, 6, none⟩ = some (.int .i64 0) := cell_of6 (j := 6) h (by simp)
  have K := hide (next_4 b B hB 25 2 0 0 true w h)
  have HQ : Hid (∀ W, Mc W b ⟨#[]⟩ 25 2 true 0 0 → W.cell? ⟨b, 5, none⟩ = some (.int .i64 0) ∧ W.frozen? ⟨b, 5, none⟩ = false ∧ (W.setCell ⟨b, 5, none⟩ (.int .i64 2)).cell? ⟨b, 6, none⟩ = some (.int .i64 0) ∧ (W.setCell ⟨b, 5, none⟩ (.int .i64 2)).frozen? ⟨b, 6, none⟩ = false ∧ Mc ((W.setCell ⟨b, 5, none⟩ (.int .i64 2)).setCell ⟨b, 6, none⟩ (.int .i64 1)) b ⟨#[]⟩ 25 2 true 2 1) := hide (by
    intro W hW
    have h1 := mset W b 5 _ #[.string ⟨#[]⟩, .int .u64 25, .int .i64 2, .int .i64 0, .bool true, .int .i64 2, .int .i64 0] (.int .i64 2) hW (by simp)
    exact ⟨cell_of6 (j := 5) hW (by simp), frozen_of6 hW, cell_of6 (j := 6) h1 (by simp), frozen_of6 h1, mset _ b 6 _ _ _ h1 (by simp)⟩)
  clear h
  go_enter Tryz.func208, Tryz.ntmps208
  go_wp2_with fail
  refine (unhide K).mono ?_
  rintro e w1 ⟨rfl, hm, hb⟩
  obtain ⟨y1, y2, y3, y4, hm2⟩ := (unhide HQ) w1 hm
  replace hm2 := hide hm2
  replace hb := hide hb
  clear hm HQ K
  go_wp2
  go_ret
  exact ⟨rfl, unhide hm2, ((unhide hb).trans (below_set6 hB 5 _)).trans (below_set6 hB 6 _)⟩
set_option maxRecDepth 20000 in
theorem tens_5 (b B : Nat) (hB : B ≤ b) (w : World) (h : Mc w b ⟨#[]⟩ 25 2 true 2 1) : Calls Tryz.prog 208 #[.pointer (some ⟨b, 0, none⟩)] w fun e w' => e = .returned (.bool false) ∧ Mc w' b ⟨#[]⟩ 25 2 true 2 1 ∧ Below B w w' := by
  have x2 : w.cell? ⟨b, 6, none⟩ = some (.int .i64 1) := cell_of6 (j := 6) h (by simp)
  have K := hide (next_5 b B hB 25 2 2 1 true w h)
  clear h
  go_enter Tryz.func208, Tryz.ntmps208
  go_wp2_with fail
  refine (unhide K).mono ?_
  rintro e w1 ⟨rfl, hm, hb⟩
  replace hm := hide hm
  replace hb := hide hb
  go_wp2
  go_ret
  exact ⟨rfl, unhide hm, unhide hb⟩
end Go.Proofs.YtceflkeaenepcaaGreatDoor
namespace Go.Proofs.YtceflkeaenepcaaGreatDoor
open Go.RowKit
def Jw (b B : Nat) (w : World) : Nat → Act → World → Prop
  | 0, a, wr => a = { tmps := #[.pointer (some ⟨b, 0, none⟩), undef, .bool false, .pointer (some ⟨b, 0, none⟩), .bool true, .bool false, .pointer (some ⟨b, 0, none⟩), .bool true, undef, undef, undef, undef, undef, undef, undef, undef, undef, undef, undef, undef, undef, undef, undef, undef, undef, undef, undef, undef, undef, undef, undef, undef, undef, undef, undef, undef, undef, undef, undef, undef, undef], defers := [] } ∧ Mc wr b ⟨#[101, 45, 50]⟩ 25 2 false 0 0 ∧ Below B w wr
  | 2, a, wr => a = { tmps := #[.pointer (some ⟨b, 0, none⟩), undef, .bool false, .pointer (some ⟨b, 0, none⟩), .bool true, .bool false, .pointer (some ⟨b, 0, none⟩), .bool false, .pointer (some ⟨b, 0, none⟩), .bool false, .pointer (some ⟨b, 0, none⟩), .bool true, undef, undef, undef, undef, undef, undef, undef, undef, undef, undef, undef, undef, undef, undef, undef, undef, undef, undef, undef, undef, undef, undef, undef, undef, undef, undef, undef, undef, undef], defers := [] } ∧ Mc wr b ⟨#[45, 50]⟩ 25 2 false 0 0 ∧ Below B w wr
  | _, _, _ => False
set_option maxHeartbeats 1000000 in
set_option maxRecDepth 20000 in
theorem run6 (b B : Nat) (hB : B ≤ b) (w : World) (h : Mc w b ⟨#[50, 53, 101, 45, 50]⟩ 0 0 false 0 0) : Calls Tryz.prog 186 #[.pointer (some ⟨b, 0, none⟩)] w fun e w' => e = .returned (.bool true) ∧ Mc w' b ⟨#[]⟩ 25 2 true 2 1 ∧ Below B w w' := by
  have K0 := hide (digit_0 b B hB w h)
  have K1 := hide (digit_1 b B hB)
  have K2 := hide (digit_2 b B hB)
  have T1 := hide (take_2_46 b B hB)
  have T2 := hide (take_2_101 b B hB)
  have T3 := hide (take_3_45 b B hB)
  have N1 := hide (tens_4 b B hB)
  have N2 := hide (tens_5 b B hB)
  clear h
  go_enter Tryz.func186, Tryz.ntmps186
  go_wp2
  refine wp_scope_labels' (Jw b B w) (fun l _ _ => 3 - l) ?hf ?first ?pass
  case hf =>
    intro l a wr h
    match l, h with
    | 0, _ => rfl
    | 2, _ => rfl
  case first =>
    go_wp2_with fail
    refine (unhide K0).mono ?_
    rintro e w1 ⟨rfl, hm, hb⟩
    have KB := hide ((unhide K1) w1 hm)
    replace hb := hide hb
    clear K0 hm
    go_wp2
    go_step3
    go_wp2_with fail
    refine (unhide KB).mono ?_
    rintro e w2 ⟨rfl, hm2, hb2⟩
    have HJ := hide (And.intro hm2 ((unhide hb).trans hb2))
    clear hm2 hb2 hb KB
    go_wp2
    go_step3
    exact ⟨rfl, (unhide HJ).1, (unhide HJ).2⟩
  case pass =>
    intro l a wr h
    match l, h with
    | 0, h =>
      obtain ⟨rfl, hm, hb⟩ := h
      conv => arg 2; whnf
      have KB := hide ((unhide K2) wr hm)
      replace hb := hide hb
      clear hm K0 K1 K2
      go_wp2_with fail
      refine (unhide KB).mono ?_
      rintro e w2 ⟨rfl, hm, hb2⟩
      have HB2 := hide ((unhide hb).trans hb2)
      have KC := hide ((unhide T1) w2 hm)
      clear hb hb2 hm KB T1
      go_wp2_with fail
      refine (unhide KC).mono ?_
      rintro e w3 ⟨rfl, hm, hb3⟩
      have HB3 := hide ((unhide HB2).trans hb3)
      have KD := hide ((unhide T2) w3 hm)
      clear hb3 hm KC HB2 T2
      go_wp2_with fail
      refine (unhide KD).mono ?_
      rintro e w4 ⟨rfl, hm, hb4⟩
      have HJ := hide (And.intro hm ((unhide HB3).trans hb4))
      clear hm hb4 HB3 KD
      go_wp2
      go_step3
      exact ⟨⟨rfl, (unhide HJ).1, (unhide HJ).2⟩, by decide⟩
    | 2, h =>
      obtain ⟨rfl, hm, hb⟩ := h
      conv => arg 2; whnf
      have KB := hide ((unhide T3) wr hm)
      replace hb := hide hb
      clear hm K0 K1 K2 T1 T2 T3
      go_wp2_with fail
      refine (unhide KB).mono ?_
      rintro e w2 ⟨rfl, hm, hb2⟩
      have HB2 := hide ((unhide hb).trans hb2)
      have x4 : w2.cell? ⟨b, 4, none⟩ = some (.bool false) := cell_of6 (j := 4) hm (by simp)
      have f4 : w2.frozen? ⟨b, 4, none⟩ = false := frozen_of6 hm
      have hm4 : Mc (w2.setCell ⟨b, 4, none⟩ (.bool true)) b ⟨#[50]⟩ 25 2 true 0 0 := mset w2 b 4 _ _ _ hm (by simp)
      have KC := hide ((unhide N1) _ hm4)
      have HB3 := hide ((unhide HB2).trans (below_set6 hB 4 (.bool true)))
      clear hb hb2 hm KB hm4 N1 HB2
      go_wp2_with fail
      refine (unhide KC).mono ?_
      rintro e w3 ⟨rfl, hm, hb3⟩
      have HB4 := hide ((unhide HB3).trans hb3)
      have KD := hide ((unhide N2) _ hm)
      clear hb3 hm KC HB3 N2
      go_wp2
      go_step3
      go_wp2_with fail
      refine (unhide KD).mono ?_
      rintro e w4 ⟨rfl, hm, hb4⟩
      have HB5 := hide ((unhide HB4).trans hb4)
      have y0 : w4.cell? ⟨b, 0, none⟩ = some (.string ⟨#[]⟩) := cell_of6 (j := 0) hm (by simp)
      have y5 : w4.cell? ⟨b, 5, none⟩ = some (.int .i64 2) := cell_of6 (j := 5) hm (by simp)
      replace hm := hide hm
      clear hb4 HB4 KD
      go_wp2
      go_step3
      go_wp2
      rw [jumps_ret]
      go_ret
      exact ⟨rfl, unhide hm, unhide HB5⟩
end Go.Proofs.YtceflkeaenepcaaGreatDoor
namespace Go.Proofs.YtceflkeaenepcaaGreatDoor
open Go.RowKit
theorem tab_on6 {P : Program} {w w' : World} {name : String} {k : IntKind} {zs : List Int} (h : Lib.TabIs P w name k zs) (hb : Below w.heap.size w w') : Lib.TabIs P w' name k zs := by
  unfold Lib.TabIs World.var? at *
  cases hg : P.globalNamed name with
  | none => simp [hg] at h
  | some g =>
    simp only [hg, Option.bind_some] at h ⊢
    have hlt : g < w.heap.size := by
      rcases Nat.lt_or_ge g w.heap.size with h' | h'
      · exact h'
      · rw [Array.getElem?_eq_none h'] at h; simp at h
    rw [hb.block g hlt]
    exact h
theorem below_grow6 (w : World) (n : Nat) (os : Array Obj) : Below w.heap.size w (Sort.grow (w.drewN n) os) := by
  refine ⟨rfl, rfl, rfl, ?_, fun k hk => ?_⟩
  · show w.heap.size ≤ (w.heap ++ os).size
    simp
  · show (w.heap ++ os)[k]? = w.heap[k]?
    rw [Array.getElem?_append_left hk]
set_option maxRecDepth 20000 in
theorem abs_A (w : World) : Calls Tryz.prog 167 #[.float .f64 4598175219545276416] w fun e w' => e = .returned (.float .f64 4598175219545276416) ∧ w' = w := by
  have h1 : ∀ w, (callFunc 42 #[.float .f64 4598175219545276416]).run Tryz.prog w = .ok (.value (.int .u64 4598175219545276416)) w := tobits6 4598175219545276416
  have h2 : ∀ w, (callFunc 185 #[.int .u64 4598175219545276416]).run Tryz.prog w = .ok (.value (.float .f64 4598175219545276416)) w := frombits6 4598175219545276416
  have h3 : bits BinOp.andNot IntKind.u64 4598175219545276416 9223372036854775808 = 4598175219545276416 := by decide
  go_enter Tryz.func167, Tryz.ntmps167
  go_wp2
  go_ret
  exact ⟨rfl, rfl⟩
set_option maxRecDepth 20000 in
theorem isInf_A (w : World) : Calls Tryz.prog 150 #[.float .f64 4598175219545276416, .int .i64 0] w fun e w' => e = .returned (.bool false) ∧ w' = w := by
  have K := hide (abs_A w)
  have h1 : ∀ w, (binOp .gtr 27 (.float .f64 4598175219545276416) (.float .f64 9218868437227405311)).run Tryz.prog w = .ok (.bool false) w := fun w => by kernel_rfl
  go_enter Tryz.func150, Tryz.ntmps150
  go_wp2_with fail
  refine (unhide K).mono ?_
  rintro e w ⟨rfl, rfl⟩
  go_wp2
  go_ret
  exact ⟨rfl, rfl⟩
set_option maxRecDepth 20000 in
theorem isNaN_A (w : World) : Calls Tryz.prog 139 #[.float .f64 4598175219545276416] w fun e w' => e = .returned (.bool false) ∧ w' = w := by
  have h1 : ∀ w, (binOp .neq 27 (.float .f64 4598175219545276416) (.float .f64 4598175219545276416)).run Tryz.prog w = .ok (.bool false) w := fun w => by kernel_rfl
  go_enter Tryz.func139, Tryz.ntmps139
  go_wp2
  go_ret
  exact ⟨rfl, rfl⟩
set_option maxRecDepth 20000 in
theorem signbit_A (w : World) : Calls Tryz.prog 149 #[.float .f64 4598175219545276416] w fun e w' => e = .returned (.bool false) ∧ w' = w := by
  have h1 : ∀ w, (callFunc 42 #[.float .f64 4598175219545276416]).run Tryz.prog w = .ok (.value (.int .u64 4598175219545276416)) w := tobits6 4598175219545276416
  go_enter Tryz.func149, Tryz.ntmps149
  go_wp2
  go_ret
  exact ⟨rfl, rfl⟩
theorem dec25 : Lib.decDigits 25 = [50, 53] := by
  rw [Lib.decDigits, dif_neg (by decide), show 25 / 10 = 2 by decide, Lib.decDigits, dif_pos (by decide)]
  rfl
theorem ito2 : Lib.itoa (-2) = [45, 50] := by
  unfold Lib.itoa
  rw [if_pos (by decide), show (-2 : Int).natAbs = 2 by decide, Lib.decDigits, dif_pos (by decide)]
  rfl
set_option maxRecDepth 20000 in
theorem formatUint_25 (w : World) : Calls Tryz.prog 152 #[.int .u64 25, .int .i64 10] w fun e w' => e = .returned (.string ⟨#[50, 53]⟩) ∧ w' = w := by
  have K : Hid (Calls Tryz.prog 87 #[.int .i64 25] w fun e w' => e = .returned (.string ⟨#[50, 53]⟩) ∧ w' = w) := hide (by have h := Tryz.internal_strconv_small 25 (by decide) w; rw [dec25] at h; exact h)
  go_enter Tryz.func152, Tryz.ntmps152
  go_wp2_with (first | (go_at_call 87; refine (unhide K).mono ?_; rintro e w ⟨rfl, rfl⟩) | go_in)
  go_ret
  exact ⟨rfl, rfl⟩
theorem itoa_2 (w : World) (hT : Lib.TabIs Tryz.prog w "internal/strconv.uint64pow10" .u64 Lib.pow10Tab) : Calls Tryz.prog 153 #[.int .i64 (-2)] w fun e w' => e = .returned (.string ⟨#[45, 50]⟩) ∧ Below w.heap.size w w' := by
  refine (Tryz.strconv_Itoa (-2) (by decide) (by decide) w hT).mono ?_
  rintro e w' ⟨rfl, k, os, rfl⟩
  exact ⟨by rw [ito2], below_grow6 w k os⟩
set_option maxRecDepth 20000 in
theorem print6 (w : World) (hT : Lib.TabIs Tryz.prog w "internal/strconv.uint64pow10" .u64 Lib.pow10Tab) : Calls Tryz.prog 137 #[.float .f64 4598175219545276416] w fun e w' => e = .returned (.string ⟨#[50, 53, 101, 45, 50]⟩) ∧ Below w.heap.size w w' := by
  have K1 := hide (isNaN_A w)
  have K2 := hide (signbit_A w)
  have K3 := hide (isInf_A w)
  have K4 : Hid (Calls Tryz.prog 151 #[.float .f64 4598175219545276416] w fun e w1 => e = .returned (.tuple #[.int .u64 25, .int .i64 (-2)]) ∧ Calls Tryz.prog 153 #[.int .i64 (-2)] w1 fun e w2 => e = .returned (.string ⟨#[45, 50]⟩) ∧ Below w.heap.size w w2) := hide ((shortest6 w).mono (by
    rintro e w1 ⟨rfl, hb⟩
    refine ⟨rfl, (itoa_2 w1 (tab_on6 hT hb)).mono ?_⟩
    rintro e w2 ⟨rfl, hb2⟩
    exact ⟨rfl, hb.trans (hb2.mono hb.size)⟩))
  have K5 := hide formatUint_25
  have h1 : ∀ w, (binOp .eql 27 (.float .f64 4598175219545276416) (.float .f64 0)).run Tryz.prog w = .ok (.bool false) w := fun w => by kernel_rfl
  have s1 : ∀ w, (binOp .add 9 (.string ⟨#[50, 53]⟩) (.string ⟨#[101]⟩)).run Tryz.prog w = .ok (.string ⟨#[50, 53, 101]⟩) w := fun w => by kernel_rfl
  have s2 : ∀ w, (binOp .add 9 (.string ⟨#[50, 53, 101]⟩) (.string ⟨#[45, 50]⟩)).run Tryz.prog w = .ok (.string ⟨#[50, 53, 101, 45, 50]⟩) w := fun w => by kernel_rfl
  clear hT
  go_enter Tryz.func137, Tryz.ntmps137
  go_wp2_with fail
  refine (unhide K1).mono ?_
  rintro e w ⟨rfl, rfl⟩
  go_wp2_with fail
  refine (unhide K2).mono ?_
  rintro e w ⟨rfl, rfl⟩
  go_wp2_with fail
  refine (unhide K3).mono ?_
  rintro e w ⟨rfl, rfl⟩
  go_wp2_with fail
  refine (unhide K4).mono ?_
  rintro e w1 ⟨rfl, K6⟩
  replace K6 := hide K6
  clear K4 K1 K2 K3
  go_wp2_with fail
  refine ((unhide K5) _).mono ?_
  rintro e w1 ⟨rfl, rfl⟩
  go_wp2_with fail
  refine (unhide K6).mono ?_
  rintro e w2 ⟨rfl, hb⟩
  replace hb := hide hb
  clear K5 K6
  go_wp2
  go_ret
  exact ⟨rfl, unhide hb⟩
end Go.Proofs.YtceflkeaenepcaaGreatDoor
namespace Go.Proofs.YtceflkeaenepcaaGreatDoor
open Go.RowKit
theorem cutPrefix6 (w : World) : Calls Tryz.prog 162 #[.string ⟨#[50, 53, 101, 45, 50]⟩, .string ⟨#[45]⟩] w fun e w' => e = .returned (.tuple #[.string ⟨#[50, 53, 101, 45, 50]⟩, .bool false]) ∧ w' = w := by
  refine (Tryz.strings_CutPrefix ⟨#[50, 53, 101, 45, 50]⟩ ⟨#[45]⟩ w).mono ?_
  rintro e w' ⟨rfl, rfl⟩
  exact ⟨rfl, rfl⟩
set_option maxRecDepth 20000 in
theorem read6 (w : World) : Calls Tryz.prog 165 #[.string ⟨#[50, 53, 101, 45, 50]⟩] w fun e w' => e = .returned (.tuple #[.agg #[.bool false, .int .u64 25, .int .i64 (-2)], .bool true]) ∧ Below w.heap.size w w' := by
  have K1 := hide cutPrefix6
  have s1 : (w.alloc (.cells #[.bool false, .int .u64 0, .int .i64 0] 217)).heap.size = w.heap.size + 1 := by simp
  have a1 := alloc_at6 w #[.bool false, .int .u64 0, .int .i64 0] 217
  have B1 := (Below.refl w.heap.size w).alloc (Nat.le_refl _) (.cells #[.bool false, .int .u64 0, .int .i64 0] 217)
  obtain ⟨W0, hW0⟩ : ∃ W0, w.alloc (.cells #[.bool false, .int .u64 0, .int .i64 0] 217) = W0 := ⟨_, rfl⟩
  rw [hW0] at s1 a1 B1
  have a2 := alloc_at6 W0 #[.string ⟨#[50, 53, 101, 45, 50]⟩, .int .u64 0, .int .i64 0, .int .i64 0, .bool false, .int .i64 0, .int .i64 0] 242
  have B2 := (Below.refl W0.heap.size W0).alloc (Nat.le_refl _) (.cells #[.string ⟨#[50, 53, 101, 45, 50]⟩, .int .u64 0, .int .i64 0, .int .i64 0, .bool false, .int .i64 0, .int .i64 0] 242)
  have K2 : Hid (Calls Tryz.prog 186 #[.pointer (some ⟨w.heap.size + 1, 0, none⟩)] (W0.alloc (.cells #[.string ⟨#[50, 53, 101, 45, 50]⟩, .int .u64 0, .int .i64 0, .int .i64 0, .bool false, .int .i64 0, .int .i64 0] 242)) fun e w' => e = .returned (.bool true) ∧ Mc w' (w.heap.size + 1) ⟨#[]⟩ 25 2 true 2 1 ∧ w'.heap[w.heap.size]? = some (.cells #[.bool false, .int .u64 0, .int .i64 0] 217 (0, 0)) ∧ Below w.heap.size w w') := hide (by
    rw [s1] at a2
    refine (run6 (w.heap.size + 1) (w.heap.size + 1) (Nat.le_refl _) _ a2).mono ?_
    rintro e w' ⟨rfl, hm, hb⟩
    refine ⟨rfl, hm, ?_, (B1.trans (B2.mono (by omega))).trans (hb.mono (by omega))⟩
    rw [hb.block _ (by omega), B2.block _ (by omega)]
    exact a1)
  rw [← hW0] at K2
  clear s1 a1 B1 a2 B2 hW0
  go_enter Tryz.func165, Tryz.ntmps165
  go_wp2_with fail
  refine ((unhide K1) _).mono ?_
  rintro e w1 ⟨rfl, rfl⟩
  go_wp2_with fail
  refine (unhide K2).mono ?_
  rintro e w2 ⟨rfl, hm, hr, hb⟩
  have y1 : w2.cell? ⟨w.heap.size + 1, 1, none⟩ = some (.int .u64 25) := cell_of6 (j := 1) hm (by simp)
  have y3 : w2.cell? ⟨w.heap.size + 1, 3, none⟩ = some (.int .i64 0) := cell_of6 (j := 3) hm (by simp)
  have y4 : w2.cell? ⟨w.heap.size + 1, 4, none⟩ = some (.bool true) := cell_of6 (j := 4) hm (by simp)
  have y5 : w2.cell? ⟨w.heap.size + 1, 5, none⟩ = some (.int .i64 2) := cell_of6 (j := 5) hm (by simp)
  have r0 := cell_of6 (j := 0) hr (by simp)
  have r1 := cell_of6 (j := 1) hr (by simp)
  have r2 := cell_of6 (j := 2) hr (by simp)
  have g0 := frozen_of6 (j := 0) hr
  have g1 := frozen_of6 (j := 1) hr
  have g2 := frozen_of6 (j := 2) hr
  replace hb := hide hb
  replace hr := hide hr
  clear K2 K1 hm
  go_wp2
  have h0 := set_block6 (j := 0) (unhide hr) (.bool false)
  have h1 := set_block6 (j := 1) h0 (.int .u64 25)
  have h2 := set_block6 (j := 2) h1 (.int .i64 (-2))
  have hbz : Below w.heap.size w (((w2.setCell ⟨w.heap.size, 0, none⟩ (.bool false)).setCell ⟨w.heap.size, 1, none⟩ (.int .u64 25)).setCell ⟨w.heap.size, 2, none⟩ (.int .i64 (-2))) := (((unhide hb).trans (below_set6 (Nat.le_refl _) 0 _)).trans (below_set6 (Nat.le_refl _) 1 _)).trans (below_set6 (Nat.le_refl _) 2 _)
  clear y1 y3 y4 y5 r0 r1 r2 g0 g1 g2 hb hr h0 h1
  generalize ((w2.setCell ⟨w.heap.size, 0, none⟩ (.bool false)).setCell ⟨w.heap.size, 1, none⟩ (.int .u64 25)).setCell ⟨w.heap.size, 2, none⟩ (.int .i64 (-2)) = w9 at *
  have z0 : w9.cell? ⟨w.heap.size, 0, none⟩ = some (.bool false) := cell_of6 (j := 0) h2 (by simp)
  have z1 : w9.cell? ⟨w.heap.size, 1, none⟩ = some (.int .u64 25) := cell_of6 (j := 1) h2 (by simp)
  have z2 : w9.cell? ⟨w.heap.size, 2, none⟩ = some (.int .i64 (-2)) := cell_of6 (j := 2) h2 (by simp)
  exact bodyPost_ret (v := .tuple #[.agg #[.bool false, .int .u64 25, .int .i64 (-2)], .bool true]) (by simp [results, Tryz.results165, go_sem, z0, z1, z2]) rfl ⟨rfl, hbz⟩
set_option maxRecDepth 20000 in
theorem parse6 (w : World) : Calls Tryz.prog 147 #[.string ⟨#[50, 53, 101, 45, 50]⟩] w fun e w' => e = .returned (.tuple #[.float .f64 4598175219545276416, .int .i64 0]) ∧ Below w.heap.size w w' := by
  have K1 := hide (read6 w)
  have K2 := hide decimal_25
  have K3 := hide isInf_A
  have e1 : ∀ w, (binOp .eql 9 (.string ⟨#[50, 53, 101, 45, 50]⟩) (.string ⟨#[105, 110, 102]⟩)).run Tryz.prog w = .ok (.bool false) w := fun w => by kernel_rfl
  have e2 : ∀ w, (binOp .eql 9 (.string ⟨#[50, 53, 101, 45, 50]⟩) (.string ⟨#[45, 105, 110, 102]⟩)).run Tryz.prog w = .ok (.bool false) w := fun w => by kernel_rfl
  go_enter Tryz.func147, Tryz.ntmps147
  go_wp2_with fail
  refine (unhide K1).mono ?_
  rintro e w1 ⟨rfl, hb⟩
  have a1 := alloc_at6 w1 #[.bool false, .int .u64 25, .int .i64 (-2)] 217
  have B1 := (Below.refl w1.heap.size w1).alloc (Nat.le_refl _) (.cells #[.bool false, .int .u64 25, .int .i64 (-2)] 217)
  have HB := hide (hb.trans (B1.mono hb.size))
  have c0 := cell_of6 (j := 0) a1 (by simp)
  have KD : Hid (Calls Tryz.prog 166 #[.int .u64 25, .int .i64 (-2)] (w1.alloc (.cells #[.bool false, .int .u64 25, .int .i64 (-2)] 217)) fun e w2 => e = .returned (.float .f64 4598175219545276416) ∧ w2.cell? ⟨w1.heap.size, 0, none⟩ = some (.bool false) ∧ Below w.heap.size w w2) := hide (((unhide K2) _).mono (by
    rintro e w2 ⟨rfl, b2⟩
    exact ⟨rfl, (b2.cell (lt_of_cell? c0)).trans c0, (unhide HB).trans (b2.mono (unhide HB).size)⟩))
  clear B1 hb K1 K2 HB c0 a1
  go_wp2_with fail
  refine (unhide KD).mono ?_
  rintro e w2 ⟨rfl, c0, hb⟩
  replace hb := hide hb
  clear KD
  go_wp2_with fail
  refine ((unhide K3) _).mono ?_
  rintro e w2 ⟨rfl, rfl⟩
  go_wp2
  go_ret2
  exact ⟨rfl, unhide hb⟩
end Go.Proofs.YtceflkeaenepcaaGreatDoor
