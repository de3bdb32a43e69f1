import Derived.Test.YtceflkeaenepcaaGreatDoorN14
import Derived.Laws.Externs
import Derived.Defers
import Derived.Deep.RegionHeld3
import Derived.LaidEqlPtr
namespace Go.Proofs.YtceflkeaenepcaaGreatDoor
open Go.RowKit
set_option maxRecDepth 20000 in
theorem addW (lo : Int) (h0 : 0 ≤ lo) (h1 : lo < 18446744073709551616) (w : World) : Calls Tryz.prog 284 #[.int .u64 lo, .int .u64 0, .int .u64 0] w fun e w' => e = .returned (.tuple #[.int .u64 lo, .int .u64 0]) ∧ w' = w := by
  have ha : ∀ w, (callFunc 317 #[.int .u64 lo, .int .u64 0, .int .u64 0]).run Tryz.prog w = .ok (.value (.tuple #[.int .u64 lo, .int .u64 0])) w := fun w => by
    rw [run_callFunc_extern (e := add64Entry) Tryz.func317 (by kernel_rfl) (by kernel_rfl) (by kernel_rfl) (by kernel_rfl), run_add64 lo 0 0 h0 (by omega) (by omega) (by omega)]
    rw [show (lo + 0 + 0) % 18446744073709551616 = lo by omega, show (lo + 0 + 0) / 18446744073709551616 = 0 by omega]
    rfl
  go_enter Tryz.func284, Tryz.ntmps284
  go_wp2
  go_ret2
  exact ⟨rfl, rfl⟩
set_option maxRecDepth 20000 in
theorem mulW_0 (w : World) : Calls Tryz.prog 285 #[.int .u64 1, .int .u64 25, .int .u64 0] w fun e w' => e = .returned (.tuple #[.int .u64 0, .int .u64 25]) ∧ w' = w := by
  have KA := hide (addW 25 (by decide) (by decide) w)
  have KM : Hid (Calls Tryz.prog 141 #[.int .u64 1, .int .u64 25] w fun e w' => e = .returned (.tuple #[.int .u64 0, .int .u64 25]) ∧ w' = w) := hide (by
    have e0 : bits BinOp.and IntKind.u64 0 4294967295 = 0 := by decide
    have e1 : bits BinOp.and IntKind.u64 1 4294967295 = 1 := by decide
    have e2 : bits BinOp.and IntKind.u64 25 4294967295 = 25 := by decide
    go_enter Tryz.func141, Tryz.ntmps141
    go_wp2
    go_ret2
    exact ⟨rfl, rfl⟩)
  go_enter Tryz.func285, Tryz.ntmps285
  go_wp2_with fail
  refine (unhide KM).mono ?_
  rintro e w ⟨rfl, rfl⟩
  go_wp2_with fail
  refine (unhide KA).mono ?_
  rintro e w ⟨rfl, rfl⟩
  go_wp2
  go_ret2
  exact ⟨rfl, rfl⟩
set_option maxRecDepth 20000 in
theorem mulW_1 (w : World) : Calls Tryz.prog 285 #[.int .u64 100, .int .u64 1, .int .u64 0] w fun e w' => e = .returned (.tuple #[.int .u64 0, .int .u64 100]) ∧ w' = w := by
  have KA := hide (addW 100 (by decide) (by decide) w)
  have KM : Hid (Calls Tryz.prog 141 #[.int .u64 100, .int .u64 1] w fun e w' => e = .returned (.tuple #[.int .u64 0, .int .u64 100]) ∧ w' = w) := hide (by
    have e0 : bits BinOp.and IntKind.u64 0 4294967295 = 0 := by decide
    have e1 : bits BinOp.and IntKind.u64 1 4294967295 = 1 := by decide
    have e2 : bits BinOp.and IntKind.u64 100 4294967295 = 100 := by decide
    go_enter Tryz.func141, Tryz.ntmps141
    go_wp2
    go_ret2
    exact ⟨rfl, rfl⟩)
  go_enter Tryz.func285, Tryz.ntmps285
  go_wp2_with fail
  refine (unhide KM).mono ?_
  rintro e w ⟨rfl, rfl⟩
  go_wp2_with fail
  refine (unhide KA).mono ?_
  rintro e w ⟨rfl, rfl⟩
  go_wp2
  go_ret2
  exact ⟨rfl, rfl⟩
set_option maxRecDepth 20000 in
theorem mulW_2 (w : World) : Calls Tryz.prog 285 #[.int .u64 1, .int .u64 4503599627370496, .int .u64 0] w fun e w' => e = .returned (.tuple #[.int .u64 0, .int .u64 4503599627370496]) ∧ w' = w := by
  have KA := hide (addW 4503599627370496 (by decide) (by decide) w)
  have KM : Hid (Calls Tryz.prog 141 #[.int .u64 1, .int .u64 4503599627370496] w fun e w' => e = .returned (.tuple #[.int .u64 0, .int .u64 4503599627370496]) ∧ w' = w) := hide (by
    have e0 : bits BinOp.and IntKind.u64 0 4294967295 = 0 := by decide
    have e1 : bits BinOp.and IntKind.u64 1 4294967295 = 1 := by decide
    have e2 : bits BinOp.and IntKind.u64 4503599627370496 4294967295 = 0 := by decide
    go_enter Tryz.func141, Tryz.ntmps141
    go_wp2
    go_ret2
    exact ⟨rfl, rfl⟩)
  go_enter Tryz.func285, Tryz.ntmps285
  go_wp2_with fail
  refine (unhide KM).mono ?_
  rintro e w ⟨rfl, rfl⟩
  go_wp2_with fail
  refine (unhide KA).mono ?_
  rintro e w ⟨rfl, rfl⟩
  go_wp2
  go_ret2
  exact ⟨rfl, rfl⟩
set_option maxRecDepth 20000 in
theorem mulW_3 (w : World) : Calls Tryz.prog 285 #[.int .u64 1, .int .u64 18014398509481984, .int .u64 0] w fun e w' => e = .returned (.tuple #[.int .u64 0, .int .u64 18014398509481984]) ∧ w' = w := by
  have KA := hide (addW 18014398509481984 (by decide) (by decide) w)
  have KM : Hid (Calls Tryz.prog 141 #[.int .u64 1, .int .u64 18014398509481984] w fun e w' => e = .returned (.tuple #[.int .u64 0, .int .u64 18014398509481984]) ∧ w' = w) := hide (by
    have e0 : bits BinOp.and IntKind.u64 0 4294967295 = 0 := by decide
    have e1 : bits BinOp.and IntKind.u64 1 4294967295 = 1 := by decide
    have e2 : bits BinOp.and IntKind.u64 18014398509481984 4294967295 = 0 := by decide
    go_enter Tryz.func141, Tryz.ntmps141
    go_wp2
    go_ret2
    exact ⟨rfl, rfl⟩)
  go_enter Tryz.func285, Tryz.ntmps285
  go_wp2_with fail
  refine (unhide KM).mono ?_
  rintro e w ⟨rfl, rfl⟩
  go_wp2_with fail
  refine (unhide KA).mono ?_
  rintro e w ⟨rfl, rfl⟩
  go_wp2
  go_ret2
  exact ⟨rfl, rfl⟩
set_option maxRecDepth 20000 in
theorem mulW_4 (w : World) : Calls Tryz.prog 285 #[.int .u64 10, .int .u64 4503599627370496, .int .u64 0] w fun e w' => e = .returned (.tuple #[.int .u64 0, .int .u64 45035996273704960]) ∧ w' = w := by
  have KA := hide (addW 45035996273704960 (by decide) (by decide) w)
  have KM : Hid (Calls Tryz.prog 141 #[.int .u64 10, .int .u64 4503599627370496] w fun e w' => e = .returned (.tuple #[.int .u64 0, .int .u64 45035996273704960]) ∧ w' = w) := hide (by
    have e0 : bits BinOp.and IntKind.u64 0 4294967295 = 0 := by decide
    have e1 : bits BinOp.and IntKind.u64 10 4294967295 = 10 := by decide
    have e2 : bits BinOp.and IntKind.u64 4503599627370496 4294967295 = 0 := by decide
    go_enter Tryz.func141, Tryz.ntmps141
    go_wp2
    go_ret2
    exact ⟨rfl, rfl⟩)
  go_enter Tryz.func285, Tryz.ntmps285
  go_wp2_with fail
  refine (unhide KM).mono ?_
  rintro e w ⟨rfl, rfl⟩
  go_wp2_with fail
  refine (unhide KA).mono ?_
  rintro e w ⟨rfl, rfl⟩
  go_wp2
  go_ret2
  exact ⟨rfl, rfl⟩
set_option maxRecDepth 20000 in
theorem mulW_5 (w : World) : Calls Tryz.prog 285 #[.int .u64 1, .int .u64 2, .int .u64 0] w fun e w' => e = .returned (.tuple #[.int .u64 0, .int .u64 2]) ∧ w' = w := by
  have KA := hide (addW 2 (by decide) (by decide) w)
  have KM : Hid (Calls Tryz.prog 141 #[.int .u64 1, .int .u64 2] w fun e w' => e = .returned (.tuple #[.int .u64 0, .int .u64 2]) ∧ w' = w) := hide (by
    have e0 : bits BinOp.and IntKind.u64 0 4294967295 = 0 := by decide
    have e1 : bits BinOp.and IntKind.u64 1 4294967295 = 1 := by decide
    have e2 : bits BinOp.and IntKind.u64 2 4294967295 = 2 := by decide
    go_enter Tryz.func141, Tryz.ntmps141
    go_wp2
    go_ret2
    exact ⟨rfl, rfl⟩)
  go_enter Tryz.func285, Tryz.ntmps285
  go_wp2_with fail
  refine (unhide KM).mono ?_
  rintro e w ⟨rfl, rfl⟩
  go_wp2_with fail
  refine (unhide KA).mono ?_
  rintro e w ⟨rfl, rfl⟩
  go_wp2
  go_ret2
  exact ⟨rfl, rfl⟩
set_option maxRecDepth 20000 in
theorem mulW_6 (w : World) : Calls Tryz.prog 285 #[.int .u64 10, .int .u64 1, .int .u64 0] w fun e w' => e = .returned (.tuple #[.int .u64 0, .int .u64 10]) ∧ w' = w := by
  have KA := hide (addW 10 (by decide) (by decide) w)
  have KM : Hid (Calls Tryz.prog 141 #[.int .u64 10, .int .u64 1] w fun e w' => e = .returned (.tuple #[.int .u64 0, .int .u64 10]) ∧ w' = w) := hide (by
    have e0 : bits BinOp.and IntKind.u64 0 4294967295 = 0 := by decide
    have e1 : bits BinOp.and IntKind.u64 1 4294967295 = 1 := by decide
    have e2 : bits BinOp.and IntKind.u64 10 4294967295 = 10 := by decide
    go_enter Tryz.func141, Tryz.ntmps141
    go_wp2
    go_ret2
    exact ⟨rfl, rfl⟩)
  go_enter Tryz.func285, Tryz.ntmps285
  go_wp2_with fail
  refine (unhide KM).mono ?_
  rintro e w ⟨rfl, rfl⟩
  go_wp2_with fail
  refine (unhide KA).mono ?_
  rintro e w ⟨rfl, rfl⟩
  go_wp2
  go_ret2
  exact ⟨rfl, rfl⟩
set_option maxRecDepth 20000 in
theorem mulW_7 (w : World) : Calls Tryz.prog 285 #[.int .u64 1, .int .u64 3, .int .u64 0] w fun e w' => e = .returned (.tuple #[.int .u64 0, .int .u64 3]) ∧ w' = w := by
  have KA := hide (addW 3 (by decide) (by decide) w)
  have KM : Hid (Calls Tryz.prog 141 #[.int .u64 1, .int .u64 3] w fun e w' => e = .returned (.tuple #[.int .u64 0, .int .u64 3]) ∧ w' = w) := hide (by
    have e0 : bits BinOp.and IntKind.u64 0 4294967295 = 0 := by decide
    have e1 : bits BinOp.and IntKind.u64 1 4294967295 = 1 := by decide
    have e2 : bits BinOp.and IntKind.u64 3 4294967295 = 3 := by decide
    go_enter Tryz.func141, Tryz.ntmps141
    go_wp2
    go_ret2
    exact ⟨rfl, rfl⟩)
  go_enter Tryz.func285, Tryz.ntmps285
  go_wp2_with fail
  refine (unhide KM).mono ?_
  rintro e w ⟨rfl, rfl⟩
  go_wp2_with fail
  refine (unhide KA).mono ?_
  rintro e w ⟨rfl, rfl⟩
  go_wp2
  go_ret2
  exact ⟨rfl, rfl⟩
set_option maxRecDepth 20000 in
theorem mulW_8 (w : World) : Calls Tryz.prog 285 #[.int .u64 100, .int .u64 4503599627370496, .int .u64 0] w fun e w' => e = .returned (.tuple #[.int .u64 0, .int .u64 450359962737049600]) ∧ w' = w := by
  have KA := hide (addW 450359962737049600 (by decide) (by decide) w)
  have KM : Hid (Calls Tryz.prog 141 #[.int .u64 100, .int .u64 4503599627370496] w fun e w' => e = .returned (.tuple #[.int .u64 0, .int .u64 450359962737049600]) ∧ w' = w) := hide (by
    have e0 : bits BinOp.and IntKind.u64 0 4294967295 = 0 := by decide
    have e1 : bits BinOp.and IntKind.u64 100 4294967295 = 100 := by decide
    have e2 : bits BinOp.and IntKind.u64 4503599627370496 4294967295 = 0 := by decide
    go_enter Tryz.func141, Tryz.ntmps141
    go_wp2
    go_ret2
    exact ⟨rfl, rfl⟩)
  go_enter Tryz.func285, Tryz.ntmps285
  go_wp2_with fail
  refine (unhide KM).mono ?_
  rintro e w ⟨rfl, rfl⟩
  go_wp2_with fail
  refine (unhide KA).mono ?_
  rintro e w ⟨rfl, rfl⟩
  go_wp2
  go_ret2
  exact ⟨rfl, rfl⟩
def MulOk (m n : Int) : Prop := (m = 1 ∧ n = 25) ∨ (m = 100 ∧ n = 1) ∨ (m = 1 ∧ n = 4503599627370496) ∨ (m = 1 ∧ n = 18014398509481984) ∨ (m = 10 ∧ n = 4503599627370496) ∨ (m = 1 ∧ n = 2) ∨ (m = 10 ∧ n = 1) ∨ (m = 1 ∧ n = 3) ∨ (m = 100 ∧ n = 4503599627370496)
theorem mulW_any (m n : Int) (h : MulOk m n) (w : World) : Calls Tryz.prog 285 #[.int .u64 m, .int .u64 n, .int .u64 0] w fun e w' => e = .returned (.tuple #[.int .u64 0, .int .u64 (m * n)]) ∧ w' = w := by
  rcases h with ⟨rfl, rfl⟩ | ⟨rfl, rfl⟩ | ⟨rfl, rfl⟩ | ⟨rfl, rfl⟩ | ⟨rfl, rfl⟩ | ⟨rfl, rfl⟩ | ⟨rfl, rfl⟩ | ⟨rfl, rfl⟩ | ⟨rfl, rfl⟩
  · exact mulW_0 w
  · exact mulW_1 w
  · exact mulW_2 w
  · exact mulW_3 w
  · exact mulW_4 w
  · exact mulW_5 w
  · exact mulW_6 w
  · exact mulW_7 w
  · exact mulW_8 w
theorem mulOk_pos {m n : Int} (h : MulOk m n) : 0 < m ∧ 0 < n ∧ 0 < m * n ∧ m * n < 18446744073709551616 := by
  rcases h with ⟨rfl, rfl⟩ | ⟨rfl, rfl⟩ | ⟨rfl, rfl⟩ | ⟨rfl, rfl⟩ | ⟨rfl, rfl⟩ | ⟨rfl, rfl⟩ | ⟨rfl, rfl⟩ | ⟨rfl, rfl⟩ | ⟨rfl, rfl⟩ <;> decide
set_option maxRecDepth 20000 in
theorem mulWW_10 (w : World) : Calls Tryz.prog 263 #[.int .u64 10, .int .u64 10] w fun e w' => e = .returned (.tuple #[.int .u64 0, .int .u64 100]) ∧ w' = w := by
  have e0 : bits BinOp.and IntKind.u64 0 4294967295 = 0 := by decide
  have e1 : bits BinOp.and IntKind.u64 10 4294967295 = 10 := by decide
  go_enter Tryz.func263, Tryz.ntmps263
  go_wp2
  go_ret2
  exact ⟨rfl, rfl⟩
theorem mulAddVWW_enter (args : Array Value) (w : World) : (callFunc 282 args).run Tryz.prog w = .ok (.enter 193 args) w := by
  exact run_callFunc_twin (twin := "math/big.mulAddVWW_g") Tryz.func282 (by kernel_rfl) (by kernel_rfl) (by kernel_rfl) (by kernel_rfl) Tryz.func193 (by kernel_rfl) (by kernel_rfl) (by kernel_rfl) args w
set_option maxRecDepth 20000 in
theorem mulAddVWWg (m n : Int) (h : MulOk m n) (gz gx c1 c2 : Nat) (u : Value) (w : World) (hx : w.cell? ⟨gx, 0, none⟩ = some (.int .u64 m)) (hz : w.cell? ⟨gz, 0, none⟩ = some u) (hf : w.frozen? ⟨gz, 0, none⟩ = false) :
    Calls Tryz.prog 193 #[.slice (some ⟨gz, 0, none⟩) 1 c1, .slice (some ⟨gx, 0, none⟩) 1 c2, .int .u64 n, .int .u64 0] w fun e w' => e = .returned (.int .u64 0) ∧ w' = w.setCell ⟨gz, 0, none⟩ (.int .u64 (m * n)) := by
  have K := hide (mulW_any m n h)
  clear h
  go_enter Tryz.func193, Tryz.ntmps193
  go_wp2
  go_loopw [8, 9, 19] (fun c i j wr => (c = .int .u64 0) ∧ ((j = .int .i64 0 ∧ wr = w) ∨ (j = .int .i64 1 ∧ wr = w.setCell ⟨gz, 0, none⟩ (.int .u64 (m * n))))) (fun _ _ j _ => 1 - (intOf j).toNat)
  case atStart => exact ⟨rfl, .inl ⟨rfl, rfl⟩⟩
  case round =>
    obtain ⟨rfl, ⟨rfl, rfl⟩ | ⟨rfl, rfl⟩⟩ := hrel
    · go_wp2_with fail
      refine ((unhide K) _).mono ?_
      rintro e w1 ⟨rfl, rfl⟩
      go_wp2
      go_roundw
      case rel => exact ⟨rfl, .inr ⟨rfl, by first | rfl | trivial⟩⟩
      case measure => simp [intOf]
    · go_wp2
      go_ret
      exact ⟨rfl, rfl⟩
set_option maxRecDepth 20000 in
theorem mulAddWW_new (m n : Int) (h : MulOk m n) (ao : Option Addr) (len zc : Nat) (hzc : zc ≤ 1) (gx cx : Nat) (w : World) (hx : w.cell? ⟨gx, 0, none⟩ = some (.int .u64 m)) :
    Calls Tryz.prog 267 #[.slice ao len zc, .slice (some ⟨gx, 0, none⟩) 1 cx, .int .u64 n, .int .u64 0] w fun e w' => e = .returned (.slice (some ⟨w.heap.size, 0, none⟩) 1 6) ∧ w' = w.alloc (.cells #[.int .u64 (m * n), .int .u64 0, .int .u64 0, .int .u64 0, .int .u64 0, .int .u64 0] 246) := by
  have hb := lt_of_cell? hx
  obtain ⟨hm, hn, hp, hq⟩ := mulOk_pos h
  have hn0 : (n == 0) = false := by simp; omega
  have K1 := hide (make_two ao len zc hzc w)
  have K2 := hide (mulAddVWWg m n h)
  have K3 := hide norm_two
  have hen := mulAddVWW_enter
  have hc1 : (w.alloc (.cells #[.int .u64 0, .int .u64 0, .int .u64 0, .int .u64 0, .int .u64 0, .int .u64 0] 246)).cell? ⟨gx, 0, none⟩ = some (.int .u64 m) := by
    rw [((Below.refl w.heap.size w).alloc (Nat.le_refl _) _).cell hb]; exact hx
  clear h
  generalize m * n = mn at *
  go_enter Tryz.func267, Tryz.ntmps267
  go_wp2_with fail
  refine (unhide K1).mono ?_
  rintro e w1 ⟨rfl, rfl⟩
  go_wp2_with fail
  refine ((unhide K2) w.heap.size gx 6 cx (.int .u64 0) _ hc1 (by simp [go_sem]) (by simp [go_sem])).mono ?_
  rintro e w2 ⟨rfl, rfl⟩
  go_wp2_with fail
  refine ((unhide K3) w.heap.size 6 mn _ hp (by decide) (by decide) (by simp [go_sem]) (by simp [go_sem])).mono ?_
  rintro e w3 ⟨rfl, rfl⟩
  go_wp2
  go_ret
  exact ⟨rfl, rfl⟩
set_option maxRecDepth 20000 in
theorem mulAddWW_in (m n : Int) (h : MulOk m n) (g len : Nat) (w : World) (r : Value) (c2 c3 c4 c5 : Value) (hg : w.heap[g]? = some (.cells #[.int .u64 m, r, c2, c3, c4, c5] 246 (0, 0))) :
    Calls Tryz.prog 267 #[.slice (some ⟨g, 0, none⟩) len 6, .slice (some ⟨g, 0, none⟩) 1 6, .int .u64 n, .int .u64 0] w fun e w' => e = .returned (.slice (some ⟨g, 0, none⟩) 1 6) ∧ w' = (w.setCell ⟨g, 0, none⟩ (.int .u64 (m * n))).setCell ⟨g, 1, none⟩ (.int .u64 0) := by
  obtain ⟨hm, hn, hp, hq⟩ := mulOk_pos h
  have hn0 : (n == 0) = false := by simp; omega
  have K1 := hide (make_old (some ⟨g, 0, none⟩) len 6 2 w (by omega))
  have K2 := hide (mulAddVWWg m n h)
  have K3 := hide norm_two
  have hen := mulAddVWW_enter
  have x0 : w.cell? ⟨g, 0, none⟩ = some (.int .u64 m) := cell_of6 (j := 0) hg (by simp)
  have f0 : w.frozen? ⟨g, 0, none⟩ = false := frozen_of6 hg
  have hg1 := set_block6 (j := 0) hg (.int .u64 (m * n))
  have x1 : (w.setCell ⟨g, 0, none⟩ (.int .u64 (m * n))).cell? ⟨g, 1, none⟩ = some r := cell_of6 (j := 1) hg1 (by simp)
  have f1 : (w.setCell ⟨g, 0, none⟩ (.int .u64 (m * n))).frozen? ⟨g, 1, none⟩ = false := frozen_of6 hg1
  have hg2 := set_block6 (j := 1) hg1 (.int .u64 0)
  have y0 : ((w.setCell ⟨g, 0, none⟩ (.int .u64 (m * n))).setCell ⟨g, 1, none⟩ (.int .u64 0)).cell? ⟨g, 0, none⟩ = some (.int .u64 (m * n)) := cell_of6 (j := 0) hg2 (by simp)
  have y1 : ((w.setCell ⟨g, 0, none⟩ (.int .u64 (m * n))).setCell ⟨g, 1, none⟩ (.int .u64 0)).cell? ⟨g, 1, none⟩ = some (.int .u64 0) := cell_of6 (j := 1) hg2 (by simp)
  clear h hg hg1 hg2
  generalize m * n = mn at *
  go_enter Tryz.func267, Tryz.ntmps267
  go_wp2_with fail
  refine (unhide K1).mono ?_
  rintro e w ⟨rfl, rfl⟩
  go_wp2_with fail
  refine ((unhide K2) g g 6 6 (.int .u64 m) _ x0 x0 f0).mono ?_
  rintro e w2 ⟨rfl, rfl⟩
  go_wp2_with fail
  refine ((unhide K3) g 6 mn _ hp (by decide) (by decide) y0 y1).mono ?_
  rintro e w3 ⟨rfl, rfl⟩
  go_wp2
  go_ret
  exact ⟨rfl, rfl⟩
theorem ret_defers {P : Program} {fn : Func} {R : Ending → World → Prop} {a : Act} {w : World} (v : Value) (hd : a.defers = []) (h : (results fn a.tmps).run P w = .ok v w) (hR : R (.returned v) w) : bodyPostD P fn R .ret a w := by
  show Leaves P fn a.tmps R a.defers .returning w
  rw [hd]
  exact ⟨v, h, hR⟩
set_option maxRecDepth 20000 in
theorem nmul (z : Value) (gx cx gy cy : Nat) (n : Int) (w : World) (R : Value → World → Prop) (hy : w.cell? ⟨gy, 0, none⟩ = some (.int .u64 n))
    (hK : Calls Tryz.prog 267 #[z, .slice (some ⟨gx, 0, none⟩) 1 cx, .int .u64 n, .int .u64 0] w fun e w' => ∃ v, e = .returned v ∧ R v w') :
    Calls Tryz.prog 238 #[z, .pointer none, .slice (some ⟨gx, 0, none⟩) 1 cx, .slice (some ⟨gy, 0, none⟩) 1 cy] w fun e w' => ∃ v, e = .returned v ∧ R v w' := by
  have K := hide hK
  clear hK
  go_enter_defers Tryz.func238, Tryz.ntmps238
  go_wp2_with fail
  refine (unhide K).mono ?_
  rintro e w1 ⟨v, rfl, HR⟩
  replace HR := hide HR
  go_wp2
  exact ret_defers v rfl (by simp [results, Tryz.results238, go_sem]) ⟨v, rfl, unhide HR⟩
end Go.Proofs.YtceflkeaenepcaaGreatDoor
namespace Go.Proofs.YtceflkeaenepcaaGreatDoor
open Go.RowKit
theorem big_size6 : ∃ j, Tryz.prog.info? 227 = some j ∧ j.size ≠ 0 := by
  have h : (Tryz.prog.info? 227).map (fun i => i.size) = some 2 := by kernel_rfl
  cases hj : Tryz.prog.info? 227 with
  | none => rw [hj] at h; cases h
  | some j => rw [hj] at h; simp at h; exact ⟨j, rfl, by omega⟩
theorem ptr_ne6 {w : World} {b c : Nat} {v u : Value} (hb : Zi w b v) (hc : Zi w c u) (hne : b ≠ c) : (binOp .eql 222 (.pointer (some ⟨b, 0, none⟩)) (.pointer (some ⟨c, 0, none⟩))).run Tryz.prog w = .ok (.bool false) w := by
  obtain ⟨j, hj, hs⟩ := big_size6
  exact run_eql_ptr_other w Tryz.underlying222 hj hs (fun h => hne (congrArg Addr.block h)) hb hc
set_option linter.unusedSimpArgs false in
set_option maxRecDepth 20000 in
theorem imul (b c : Nat) (va vy : Value) (w : World) (R : Value → World → Prop) (hne : b ≠ c) (hz : Zi w b va) (hc : Zi w c vy)
    (hK : Calls Tryz.prog 238 #[va, .pointer none, va, vy] w.drew fun e w' => ∃ v, e = .returned v ∧ R v w')
    (hR : ∀ v W, R v W → ∃ ao cp, v = .slice ao 1 cp ∧ Zi W b va ∧ W.cell? ⟨c, 0, none⟩ = some (.bool false) ∧ W.cell? ⟨c, 1, none⟩ = some vy) :
    Calls Tryz.prog 218 #[.pointer (some ⟨b, 0, none⟩), .pointer none, .pointer (some ⟨b, 0, none⟩), .pointer (some ⟨c, 0, none⟩)] w fun e w' => e = .returned (.tuple #[]) ∧ ∃ v W k, R v W ∧ w' = ((W.setCell ⟨b, 1, none⟩ v).setCell ⟨b, 0, none⟩ (.bool false)).drewN k := by
  have HK := hide hK
  have HR := hide hR
  have hz1 := hz.c1
  have hy1 := hc.c1
  have hpe := ptr_ne6 hz hc hne
  clear hz hK hR hc
  go_enter Tryz.func218, Tryz.ntmps218
  go_wp2
  refine wp_region_late (S := fun w' => w'.cell? ⟨b, 1, none⟩ = some va ∧ w'.cell? ⟨c, 1, none⟩ = some vy) #[false, false, false, false, false, false, false, false, false, false, false, false, false, false, false, true, true, true] (by kernel_rfl) (⟨hz1, hy1⟩) (fun hHeld => ?_)
  refine wpAnyL_take (i := 0) (v := (.pointer (some ⟨b, 0, none⟩))) rfl (by kernel_rfl) (by kernel_rfl) (by kernel_rfl) (by kernel_rfl) (fun _ _ _ h => h) (Or.inl ⟨by rfl, ?_⟩) hHeld ?_
  · intro w hSw
    go_simp
  try simp only [Act.put, List.setIfInBounds_toArray, List.set_cons_zero, List.set_cons_succ]
  refine wpAnyL_take (i := 1) (v := (.pointer (some ⟨b, 0, none⟩))) rfl (by kernel_rfl) (by kernel_rfl) (by kernel_rfl) (by kernel_rfl) (fun _ _ _ h => h) (Or.inl ⟨by rfl, ?_⟩) hHeld ?_
  · intro w hSw
    go_simp
  try simp only [Act.put, List.setIfInBounds_toArray, List.set_cons_zero, List.set_cons_succ]
  refine wpAnyL_take (i := 2) (v := (.pointer (some ⟨b, 0, none⟩))) rfl (by kernel_rfl) (by kernel_rfl) (by kernel_rfl) (by kernel_rfl) (fun _ _ _ h => h) (Or.inl ⟨by rfl, ?_⟩) hHeld ?_
  · intro w hSw
    go_simp
  try simp only [Act.put, List.setIfInBounds_toArray, List.set_cons_zero, List.set_cons_succ]
  refine wpAnyL_take (i := 3) (v := (.pointer (some ⟨b, 1, none⟩))) rfl (by kernel_rfl) (by kernel_rfl) (by kernel_rfl) (by kernel_rfl) (fun _ _ _ h => h) (Or.inl ⟨by rfl, ?_⟩) hHeld ?_
  · intro w hSw
    go_simp
  try simp only [Act.put, List.setIfInBounds_toArray, List.set_cons_zero, List.set_cons_succ]
  refine wpAnyL_take (i := 4) (v := va) rfl (by kernel_rfl) (by kernel_rfl) (by kernel_rfl) (by kernel_rfl) (fun _ _ _ h => h) (Or.inl ⟨by rfl, ?_⟩) hHeld ?_
  · intro w hSw
    have := hSw.1; go_simp
  try simp only [Act.put, List.setIfInBounds_toArray, List.set_cons_zero, List.set_cons_succ]
  refine wpAnyL_take (i := 5) (v := (.pointer none)) rfl (by kernel_rfl) (by kernel_rfl) (by kernel_rfl) (by kernel_rfl) (fun _ _ _ h => h) (Or.inl ⟨by rfl, ?_⟩) hHeld ?_
  · intro w hSw
    go_simp
  try simp only [Act.put, List.setIfInBounds_toArray, List.set_cons_zero, List.set_cons_succ]
  refine wpAnyL_take (i := 6) (v := (.pointer (some ⟨b, 0, none⟩))) rfl (by kernel_rfl) (by kernel_rfl) (by kernel_rfl) (by kernel_rfl) (fun _ _ _ h => h) (Or.inl ⟨by rfl, ?_⟩) hHeld ?_
  · intro w hSw
    go_simp
  try simp only [Act.put, List.setIfInBounds_toArray, List.set_cons_zero, List.set_cons_succ]
  refine wpAnyL_take (i := 7) (v := (.pointer (some ⟨b, 0, none⟩))) rfl (by kernel_rfl) (by kernel_rfl) (by kernel_rfl) (by kernel_rfl) (fun _ _ _ h => h) (Or.inl ⟨by rfl, ?_⟩) hHeld ?_
  · intro w hSw
    go_simp
  try simp only [Act.put, List.setIfInBounds_toArray, List.set_cons_zero, List.set_cons_succ]
  refine wpAnyL_take (i := 8) (v := (.pointer (some ⟨b, 1, none⟩))) rfl (by kernel_rfl) (by kernel_rfl) (by kernel_rfl) (by kernel_rfl) (fun _ _ _ h => h) (Or.inl ⟨by rfl, ?_⟩) hHeld ?_
  · intro w hSw
    go_simp
  try simp only [Act.put, List.setIfInBounds_toArray, List.set_cons_zero, List.set_cons_succ]
  refine wpAnyL_take (i := 9) (v := va) rfl (by kernel_rfl) (by kernel_rfl) (by kernel_rfl) (by kernel_rfl) (fun _ _ _ h => h) (Or.inl ⟨by rfl, ?_⟩) hHeld ?_
  · intro w hSw
    have := hSw.1; go_simp
  try simp only [Act.put, List.setIfInBounds_toArray, List.set_cons_zero, List.set_cons_succ]
  refine wpAnyL_take (i := 10) (v := (.pointer (some ⟨c, 0, none⟩))) rfl (by kernel_rfl) (by kernel_rfl) (by kernel_rfl) (by kernel_rfl) (fun _ _ _ h => h) (Or.inl ⟨by rfl, ?_⟩) hHeld ?_
  · intro w hSw
    go_simp
  try simp only [Act.put, List.setIfInBounds_toArray, List.set_cons_zero, List.set_cons_succ]
  refine wpAnyL_take (i := 11) (v := (.pointer (some ⟨c, 0, none⟩))) rfl (by kernel_rfl) (by kernel_rfl) (by kernel_rfl) (by kernel_rfl) (fun _ _ _ h => h) (Or.inl ⟨by rfl, ?_⟩) hHeld ?_
  · intro w hSw
    go_simp
  try simp only [Act.put, List.setIfInBounds_toArray, List.set_cons_zero, List.set_cons_succ]
  refine wpAnyL_take (i := 12) (v := (.pointer (some ⟨c, 1, none⟩))) rfl (by kernel_rfl) (by kernel_rfl) (by kernel_rfl) (by kernel_rfl) (fun _ _ _ h => h) (Or.inl ⟨by rfl, ?_⟩) hHeld ?_
  · intro w hSw
    go_simp
  try simp only [Act.put, List.setIfInBounds_toArray, List.set_cons_zero, List.set_cons_succ]
  refine wpAnyL_take (i := 13) (v := vy) rfl (by kernel_rfl) (by kernel_rfl) (by kernel_rfl) (by kernel_rfl) (fun _ _ _ h => h) (Or.inl ⟨by rfl, ?_⟩) hHeld ?_
  · intro w hSw
    have := hSw.2; go_simp
  try simp only [Act.put, List.setIfInBounds_toArray, List.set_cons_zero, List.set_cons_succ]
  refine wpAnyL_one (i := 14) (by kernel_rfl) rfl (by kernel_rfl) (fun K hK => ?_)
  go_simp
  refine (unhide HK).mono ?_
  rintro e w1 ⟨v, rfl, hr⟩
  obtain ⟨ao, cp, rfl, hzW, y0, y1⟩ := (unhide HR) _ _ hr
  have q1 := hzW.c1
  have q2 := hzW.f 1
  have hst := store_nat6 q1 q2 ao 1 cp
  have HZ := hide (hzW.set (.slice ao 1 cp))
  replace hr := hide hr
  clear hzW
  refine hK.out _ _ ?_ (fun hHeld => ?_)
  · exact ⟨q1, y1⟩
  clear hK K
  try simp only [Act.put, List.setIfInBounds_toArray, List.set_cons_zero, List.set_cons_succ]
  refine wpAnyL_late (rs := [15]) (by kernel_rfl) (by kernel_rfl) ?_
  refine wpAny_ready (rs := [15]) (by kernel_rfl) (by simp) ?_
  refine AllReady.cons rfl (fun K hK => ?_) AllReady.nil
  go_simp
  refine hK _ _ ?_
  clear hK K
  try simp only [Act.put, List.setIfInBounds_toArray, List.set_cons_zero, List.set_cons_succ]
  refine wpAny_ready (rs := [16]) (by kernel_rfl) (by simp) ?_
  refine AllReady.cons rfl (fun K hK => ?_) AllReady.nil
  go_simp
  refine hK _ _ ?_
  clear hK K
  try simp only [Act.put, List.setIfInBounds_toArray, List.set_cons_zero, List.set_cons_succ]
  refine wpAny_ready (rs := [17]) (by kernel_rfl) (by simp) ?_
  refine AllReady.cons rfl (fun K hK => ?_) AllReady.nil
  go_simp
  refine hK _ _ ?_
  clear hK K
  try simp only [Act.put, List.setIfInBounds_toArray, List.set_cons_zero, List.set_cons_succ]
  refine wpAny_done (by kernel_rfl) ?_ _
  have z0 := (unhide HZ).c0
  have z1 := (unhide HZ).c1
  have zf := (unhide HZ).f 0
  have y0' : (w1.setCell ⟨b, 1, none⟩ (.slice ao 1 cp)).cell? ⟨c, 0, none⟩ = some (.bool false) := by rw [cell_set6 (Ne.symm hne)]; exact y0
  have HW : Hid (∃ v W, R v W ∧ w1.setCell ⟨b, 1, none⟩ (.slice ao 1 cp) = W.setCell ⟨b, 1, none⟩ v) := hide ⟨_, _, unhide hr, rfl⟩
  have HZ2 := hide (unhide HZ).keep
  obtain ⟨W2, hW2⟩ : ∃ W2, w1.setCell ⟨b, 1, none⟩ (.slice ao 1 cp) = W2 := ⟨_, rfl⟩
  rw [hW2] at z0 z1 zf y0' HW HZ2 ⊢
  clear hW2 HZ hr q1 q2 hst y0 y1 hz1 hy1
  have k1 : (W2.setCell ⟨b, 0, none⟩ (.bool false)).drew.cell? ⟨b, 1, none⟩ = some (.slice ao 1 cp) := (unhide HZ2).c1
  have k0 : (W2.setCell ⟨b, 0, none⟩ (.bool false)).drew.cell? ⟨b, 0, none⟩ = some (.bool false) := (unhide HZ2).c0
  have kc : (W2.setCell ⟨b, 0, none⟩ (.bool false)).drew.cell? ⟨c, 0, none⟩ = some (.bool false) := (cell_set6 (w := W2) (Ne.symm hne)).trans y0'
  go_wp2
  go_region_held3 (fun w' => w'.cell? ⟨b, 1, none⟩ = some (.slice ao 1 cp) ∧ w'.cell? ⟨b, 0, none⟩ = some (.bool false) ∧ w'.cell? ⟨c, 0, none⟩ = some (.bool false)) (first | exact ⟨k1, k0, kc⟩ | exact ⟨z1, z0, y0'⟩ | go_keep) (fail)
  go_wp2
  go_end0
  obtain ⟨v, W, h1, rfl⟩ := unhide HW
  exact ⟨rfl, v, W, 1, h1, rfl⟩
end Go.Proofs.YtceflkeaenepcaaGreatDoor
