import Derived.Test.YtceflkeaenepcaaGreatDoorN15
import Derived.Test.YtceflkeaenepcaaGreatDoorN11
namespace Go.Proofs.YtceflkeaenepcaaGreatDoor
open Go.RowKit
set_option maxRecDepth 20000 in
theorem sqr_10 (p : Value) (g cap : Nat) (w : World) (h : w.cell? ⟨g, 0, none⟩ = some (.int .u64 10)) :
    Calls Tryz.prog 237 #[.slice none 0 0, p, .slice (some ⟨g, 0, none⟩) 1 cap] w fun e w' => e = .returned (.slice (some ⟨w.heap.size, 0, none⟩) 1 6) ∧ w' = w.alloc (.cells #[.int .u64 100, .int .u64 0, .int .u64 0, .int .u64 0, .int .u64 0, .int .u64 0] 246) := by
  have K1 := hide (make_two none 0 0 (by omega) w)
  have K2 := hide mulWW_10
  have K3 := hide norm_two
  go_enter_defers Tryz.func237, Tryz.ntmps237
  go_wp2_with fail
  refine (unhide K1).mono ?_
  rintro e w1 ⟨rfl, rfl⟩
  go_wp2_with fail
  refine ((unhide K2) _).mono ?_
  rintro e w2 ⟨rfl, rfl⟩
  go_wp2_with fail
  refine ((unhide K3) w.heap.size 6 100 _ (by omega) (by decide) (by decide) (by simp [go_sem]) (by simp [go_sem])).mono ?_
  rintro e w3 ⟨rfl, rfl⟩
  go_wp2
  exact ret_defers _ rfl (by simp [results, Tryz.results237, go_sem]) ⟨rfl, rfl⟩
set_option maxRecDepth 20000 in
theorem nlz_2 (w : World) : Calls Tryz.prog 246 #[.int .u64 2] w fun e w' => e = .returned (.int .u64 62) ∧ w' = w := by
  have K := hide (Tryz.bits_LeadingZeros 2 w (by decide) (by decide))
  go_enter Tryz.func246, Tryz.ntmps246
  go_wp2_with fail
  refine (unhide K).mono ?_
  rintro e w ⟨rfl, rfl⟩
  go_wp2
  go_ret
  exact ⟨rfl, rfl⟩
set_option maxRecDepth 20000 in
set_option maxHeartbeats 1000000 in
theorem exp_0 (gx cx : Nat) (w : World) :
    Calls Tryz.prog 235 #[.slice none 0 0, .pointer none, .slice (some ⟨gx, 0, none⟩) 1 cx, .slice none 0 0, .slice none 0 0, .bool false] w fun e w' => e = .returned (.slice (some ⟨w.heap.size, 0, none⟩) 1 1) ∧ ∃ k, w' = (w.drewN k).alloc (.cells #[.int .u64 1] 246) := by
  have K1 := hide alias_no
  have K2 := hide (setWord_new none 0 1 (by omega))
  go_enter_defers Tryz.func235, Tryz.ntmps235
  go_wp2_with fail
  refine ((unhide K1) _ _).mono ?_
  rintro e w1 ⟨rfl, k1, rfl⟩
  go_wp2_with fail
  refine ((unhide K1) _ _).mono ?_
  rintro e w2 ⟨rfl, k2, rfl⟩
  go_wp2_with fail
  refine ((unhide K2) _).mono ?_
  rintro e w3 ⟨rfl, rfl⟩
  go_wp2
  exact ret_defers _ rfl (by simp [results, Tryz.results235, go_sem]) ⟨rfl, k1 + k2, rfl⟩
set_option maxRecDepth 20000 in
set_option maxHeartbeats 1000000 in
theorem exp_1 (gx cx gy cy : Nat) (w : World) (hx : w.cell? ⟨gx, 0, none⟩ = some (.int .u64 10)) (hy : w.cell? ⟨gy, 0, none⟩ = some (.int .u64 1)) :
    Calls Tryz.prog 235 #[.slice none 0 0, .pointer none, .slice (some ⟨gx, 0, none⟩) 1 cx, .slice (some ⟨gy, 0, none⟩) 1 cy, .slice none 0 0, .bool false] w fun e w' => e = .returned (.slice (some ⟨w.heap.size, 0, none⟩) 1 1) ∧ ∃ k, w' = (w.drewN k).alloc (.cells #[.int .u64 10] 246) := by
  have K1 := hide alias_no
  have K2 := hide (set_new gx cx 10)
  go_enter_defers Tryz.func235, Tryz.ntmps235
  go_wp2_with fail
  refine ((unhide K1) _ _).mono ?_
  rintro e w1 ⟨rfl, k1, rfl⟩
  go_wp2_with fail
  refine ((unhide K1) _ _).mono ?_
  rintro e w2 ⟨rfl, k2, rfl⟩
  go_wp2_with fail
  refine ((unhide K2) (w.drewN (k1 + k2)) hx).mono ?_
  rintro e w3 ⟨rfl, rfl⟩
  go_wp2
  exact ret_defers _ rfl (by simp [results, Tryz.results235, go_sem]) ⟨rfl, k1 + k2, rfl⟩
end Go.Proofs.YtceflkeaenepcaaGreatDoor
namespace Go.Proofs.YtceflkeaenepcaaGreatDoor
open Go.RowKit
def Ten2 (w : World) (k : Nat) : World := (((w.drewN k).alloc (.cells #[.pointer none] 299)).alloc (.cells #[.int .u64 10] 246)).alloc (.cells #[.int .u64 100, .int .u64 0, .int .u64 0, .int .u64 0, .int .u64 0, .int .u64 0] 246)
set_option maxRecDepth 20000 in
theorem getStack_any (w : World) : Calls Tryz.prog 229 #[] w fun e w' => e = .returned (.pointer (some ⟨w.heap.size, 0, none⟩)) ∧ w' = w.alloc (.cells #[.pointer none] 299) := by
  go_enter Tryz.func229, Tryz.ntmps229
  go_wp2
  go_ret
  exact ⟨rfl, rfl⟩
set_option maxRecDepth 20000 in
theorem free_nil (p : Nat) (w : World) (h : w.cell? ⟨p, 0, none⟩ = some (.pointer none)) : Calls Tryz.prog 230 #[.pointer (some ⟨p, 0, none⟩)] w fun e w' => e = .returned (.tuple #[]) ∧ w' = w := by
  go_enter Tryz.func230, Tryz.ntmps230
  go_wp2
  go_end0
  exact ⟨rfl, rfl⟩
set_option maxRecDepth 20000 in
theorem free_nilD (p : Nat) (u : FrameMode) (w : World) (h : w.cell? ⟨p, 0, none⟩ = some (.pointer none)) : CallsD Tryz.prog 230 #[.pointer (some ⟨p, 0, none⟩)] u w fun e u' w' => u' = u ∧ (e = .returned (.tuple #[]) ∧ w' = w) := by
  refine callsD_of_wp (R := fun e w' => e = .returned (.tuple #[]) ∧ w' = w) Tryz.func230 rfl ?_
  show Code.wp Tryz.prog _ _ { tmps := #[.pointer (some ⟨p, 0, none⟩), undef, undef, undef, undef, undef, undef, undef, undef, undef, undef], defers := [] } w
  go_wp2
  go_end0
  exact ⟨rfl, rfl⟩
set_option maxRecDepth 20000 in
set_option maxHeartbeats 2000000 in
theorem exp_2 (gx cx gy cy : Nat) (w : World) (hx : w.cell? ⟨gx, 0, none⟩ = some (.int .u64 10)) (hy : w.cell? ⟨gy, 0, none⟩ = some (.int .u64 2)) :
    Calls Tryz.prog 235 #[.slice none 0 0, .pointer none, .slice (some ⟨gx, 0, none⟩) 1 cx, .slice (some ⟨gy, 0, none⟩) 1 cy, .slice none 0 0, .bool false] w fun e w' => e = .returned (.slice (some ⟨w.heap.size + 2, 0, none⟩) 1 6) ∧ ∃ k, w' = Ten2 w k := by
  have K1 := hide alias_no
  have K2 := hide (set_new gx cx 10)
  have K3 := hide nlz_2
  have K4 := hide sqr_10
  have K5 := hide norm_one
  have K6 := hide getStack_any
  have e1 : bits BinOp.and IntKind.u64 0 9223372036854775808 = 0 := by decide
  go_enter_defers Tryz.func235, Tryz.ntmps235
  go_wp2_with fail
  refine ((unhide K1) _ _).mono ?_
  rintro e w1 ⟨rfl, k1, rfl⟩
  go_wp2_with fail
  refine ((unhide K1) _ _).mono ?_
  rintro e w2 ⟨rfl, k2, rfl⟩
  go_wp2_with fail
  refine ((unhide K6) _).mono ?_
  rintro e w3 ⟨rfl, rfl⟩
  have HX : Hid (∃ W1 W2 W3, (w.drewN (k1 + k2)).alloc (.cells #[.pointer none] 299) = W1 ∧ W1.cell? ⟨gx, 0, none⟩ = some (.int .u64 10) ∧ W1.cell? ⟨gy, 0, none⟩ = some (.int .u64 2) ∧ W1.heap.size = w.heap.size + 1 ∧ W1.alloc (.cells #[.int .u64 10] 246) = W2 ∧ W2.heap.size = w.heap.size + 2 ∧ W2.cell? ⟨w.heap.size + 1, 0, none⟩ = some (.int .u64 10) ∧ W2.cell? ⟨gy, 0, none⟩ = some (.int .u64 2) ∧ W2.alloc (.cells #[.int .u64 100, .int .u64 0, .int .u64 0, .int .u64 0, .int .u64 0, .int .u64 0] 246) = W3 ∧ W3.cell? ⟨w.heap.size + 2, 0, none⟩ = some (.int .u64 100) ∧ W3.cell? ⟨w.heap.size, 0, none⟩ = some (.pointer none) ∧ W3 = Ten2 w (k1 + k2)) := hide (by
    have hs0 : (w.drewN (k1 + k2)).heap.size = w.heap.size := rfl
    have hx0 : (w.drewN (k1 + k2)).cell? ⟨gx, 0, none⟩ = some (.int .u64 10) := hx
    have hy0 : (w.drewN (k1 + k2)).cell? ⟨gy, 0, none⟩ = some (.int .u64 2) := hy
    have B1 := (Below.refl (w.drewN (k1 + k2)).heap.size (w.drewN (k1 + k2))).alloc (Nat.le_refl _) (.cells #[.pointer none] 299)
    have s1 : ((w.drewN (k1 + k2)).alloc (.cells #[.pointer none] 299)).heap.size = w.heap.size + 1 := by simp
    have c1 : ((w.drewN (k1 + k2)).alloc (.cells #[.pointer none] 299)).cell? ⟨(w.drewN (k1 + k2)).heap.size, 0, none⟩ = some (.pointer none) := by generalize w.drewN (k1 + k2) = W0; simp [go_sem]
    rw [hs0] at c1
    have x1 := (B1.cell (lt_of_cell? hx0)).trans hx0
    have y1 := (B1.cell (lt_of_cell? hy0)).trans hy0
    have hT : Ten2 w (k1 + k2) = (((w.drewN (k1 + k2)).alloc (.cells #[.pointer none] 299)).alloc (.cells #[.int .u64 10] 246)).alloc (.cells #[.int .u64 100, .int .u64 0, .int .u64 0, .int .u64 0, .int .u64 0, .int .u64 0] 246) := rfl
    obtain ⟨W1, hW1⟩ : ∃ W1, (w.drewN (k1 + k2)).alloc (.cells #[.pointer none] 299) = W1 := ⟨_, rfl⟩
    rw [hW1] at s1 c1 x1 y1 hT
    have B2 := (Below.refl W1.heap.size W1).alloc (Nat.le_refl _) (.cells #[.int .u64 10] 246)
    have s2 : (W1.alloc (.cells #[.int .u64 10] 246)).heap.size = w.heap.size + 2 := by simp [s1]
    have c2 := (B2.cell (lt_of_cell? c1)).trans c1
    have y2 := (B2.cell (lt_of_cell? y1)).trans y1
    have t2 : (W1.alloc (.cells #[.int .u64 10] 246)).cell? ⟨W1.heap.size, 0, none⟩ = some (.int .u64 10) := by simp [go_sem]
    rw [s1] at t2
    obtain ⟨W2, hW2⟩ : ∃ W2, W1.alloc (.cells #[.int .u64 10] 246) = W2 := ⟨_, rfl⟩
    rw [hW2] at s2 c2 y2 t2 hT
    have B3 := (Below.refl W2.heap.size W2).alloc (Nat.le_refl _) (.cells #[.int .u64 100, .int .u64 0, .int .u64 0, .int .u64 0, .int .u64 0, .int .u64 0] 246)
    have c3 := (B3.cell (lt_of_cell? c2)).trans c2
    have t3 : (W2.alloc (.cells #[.int .u64 100, .int .u64 0, .int .u64 0, .int .u64 0, .int .u64 0, .int .u64 0] 246)).cell? ⟨W2.heap.size, 0, none⟩ = some (.int .u64 100) := by simp [go_sem]
    rw [s2] at t3
    exact ⟨W1, W2, _, hW1, x1, y1, s1, hW2, s2, t2, y2, rfl, t3, c3, hT.symm⟩)
  obtain ⟨W1, W2, W3, h1, x1, y1, s1, h2, s2, t2, y2, h3, t3, c3, hT⟩ := unhide HX
  replace hT := hide hT
  clear HX
  rw [h1]
  clear h1
  go_wp2_with fail
  refine ((unhide K2) W1 x1).mono ?_
  rintro e w4 ⟨rfl, rfl⟩
  rw [h2, s1]
  clear h2
  go_wp2_with fail
  refine ((unhide K3) _).mono ?_
  rintro e W2 ⟨rfl, rfl⟩
  go_wp2
  go_loopw [0, 15, 19, 21] (fun z v zz jj wr => v = .int .u64 0 ∧ ((jj = .int .i64 0 ∧ z = .slice (some ⟨w.heap.size + 1, 0, none⟩) 1 1 ∧ zz = .slice none 0 0 ∧ wr = W2) ∨ (jj = .int .i64 1 ∧ z = .slice (some ⟨w.heap.size + 2, 0, none⟩) 1 6 ∧ wr = W3))) (fun _ _ _ jj _ => 1 - (intOf jj).toNat)
  case atStart => exact ⟨rfl, .inl ⟨rfl, rfl, rfl, rfl⟩⟩
  case round =>
    obtain ⟨rfl, ⟨rfl, rfl, rfl, rfl⟩ | ⟨rfl, rfl, rfl⟩⟩ := hrel
    · go_wp2_with fail
      refine ((unhide K4) _ (w.heap.size + 1) 1 _ t2).mono ?_
      rintro e w6 ⟨rfl, rfl⟩
      rw [h3, s2]
      clear h3
      go_wp2
      go_roundw
      case rel => exact ⟨rfl, .inr ⟨rfl, rfl, by first | rfl | trivial⟩⟩
      case measure => simp [intOf]
    · go_wp2
      go_loopw [0, 22] (fun z i w8 => z = .slice (some ⟨w.heap.size + 2, 0, none⟩) 1 6 ∧ i = .int .i64 (-1) ∧ w8 = wr) (fun _ _ _ => 0)
      case atStart => exact ⟨rfl, rfl, rfl⟩
      case round =>
        obtain ⟨rfl, rfl, rfl⟩ := hrel
        go_wp2_with fail
        refine ((unhide K5) (w.heap.size + 2) 6 100 _ (by omega) (by omega) (by omega) t3).mono ?_
        rintro e w7 ⟨rfl, rfl⟩
        go_wp2
        refine leaves_cons (f := 230) (args := #[.pointer (some ⟨w.heap.size, 0, none⟩)]) (by simp) (by simp [go_sem]) ?_
        refine (free_nilD w.heap.size _ _ c3).mono ?_
        rintro e u' w9 ⟨rfl, rfl, rfl⟩
        clear K1 K2 K3 K4 K5 K6
        simp [Leaves, settle, results, Tryz.results235, go_sem]
        exact ⟨_, unhide hT⟩
end Go.Proofs.YtceflkeaenepcaaGreatDoor
namespace Go.Proofs.YtceflkeaenepcaaGreatDoor
open Go.RowKit
set_option maxRecDepth 20000 in
theorem newInt_pos (n : Int) (h0 : 0 < n) (h1 : n ≤ 1000) (w : World) :
    Calls Tryz.prog 171 #[.int .i64 n] w fun e w' => e = .returned (.pointer (some ⟨w.heap.size + 1, 0, none⟩)) ∧ w' = (w.alloc (.cells #[.int .u64 n] 246)).alloc (.cells #[.bool false, .slice (some ⟨w.heap.size, 0, none⟩) 1 1] 227) := by
  have hn : (n == 0) = false := by simp; omega
  have hd : decide (n < 0) = false := by simp; omega
  go_enter Tryz.func171, Tryz.ntmps171
  go_wp2
  go_ret
  exact ⟨rfl, rfl⟩
set_option maxRecDepth 20000 in
theorem newInt_0 (w : World) :
    Calls Tryz.prog 171 #[.int .i64 0] w fun e w' => e = .returned (.pointer (some ⟨w.heap.size, 0, none⟩)) ∧ w' = w.alloc (.cells #[.bool false, .slice none 0 0] 227) := by
  go_enter Tryz.func171, Tryz.ntmps171
  go_wp2
  go_ret
  exact ⟨rfl, rfl⟩
set_option maxRecDepth 20000 in
theorem nsetU (n : Int) (h0 : 0 < n) (w : World) :
    Calls Tryz.prog 195 #[.slice none 0 0, .int .u64 n] w fun e w' => e = .returned (.slice (some ⟨w.heap.size, 0, none⟩) 1 1) ∧ w' = w.alloc (.cells #[.int .u64 n] 246) := by
  have K := hide (fun w => setWord_new none 0 n h0 w)
  go_enter Tryz.func195, Tryz.ntmps195
  go_wp2_with fail
  refine ((unhide K) _).mono ?_
  rintro e w1 ⟨rfl, rfl⟩
  go_wp2
  go_ret
  exact ⟨rfl, rfl⟩
set_option maxRecDepth 20000 in
theorem setUint (b : Nat) (n : Int) (h0 : 0 < n) (w : World) (hz : Zi w b (.slice none 0 0)) :
    Calls Tryz.prog 170 #[.pointer (some ⟨b, 0, none⟩), .int .u64 n] w fun e w' => e = .returned (.pointer (some ⟨b, 0, none⟩)) ∧ w' = ((w.alloc (.cells #[.int .u64 n] 246)).setCell ⟨b, 1, none⟩ (.slice (some ⟨w.heap.size, 0, none⟩) 1 1)).setCell ⟨b, 0, none⟩ (.bool false) := by
  have K := hide (fun w => nsetU n h0 w)
  have z1 := hz.c1
  have hb := hz.lt
  have B1 := (Below.refl w.heap.size w).alloc (Nat.le_refl _) (.cells #[.int .u64 n] 246)
  have hzW := hz.below B1 hb
  have q1 := hzW.c1
  have q2 := hzW.f 1
  have q3 := (hzW.set (.slice (some ⟨w.heap.size, 0, none⟩) 1 1)).c0
  have q4 := (hzW.set (.slice (some ⟨w.heap.size, 0, none⟩) 1 1)).f 0
  have hst := store_nat6 q1 q2 (some ⟨w.heap.size, 0, none⟩) 1 1
  obtain ⟨W1, hW1⟩ : ∃ W1, w.alloc (.cells #[.int .u64 n] 246) = W1 := ⟨_, rfl⟩
  rw [hW1] at q1 q2 q3 q4 hst ⊢
  clear hz hzW B1
  go_enter Tryz.func170, Tryz.ntmps170
  go_wp2_with fail
  refine ((unhide K) _).mono ?_
  rintro e w1 ⟨rfl, rfl⟩
  rw [hW1]
  clear hW1
  go_wp2
  go_ret
  exact ⟨rfl, rfl⟩
set_option maxRecDepth 20000 in
set_option maxHeartbeats 1000000 in
theorem iexp0 (b cx cy : Nat) (vx vy : Value) (g cp : Nat) (w : World) (R : World → Prop) (hz : Zi w b (.slice none 0 0)) (hx : Zi w cx vx) (hy : Zi w cy vy) (hne : cx ≠ b)
    (hK : Calls Tryz.prog 235 #[.slice none 0 0, .pointer none, vx, vy, .slice none 0 0, .bool false] w fun e w' => e = .returned (.slice (some ⟨g, 0, none⟩) 1 cp) ∧ R w') (hR : ∀ W, R W → Below w.heap.size w W) :
    Calls Tryz.prog 217 #[.pointer (some ⟨b, 0, none⟩), .pointer (some ⟨cx, 0, none⟩), .pointer (some ⟨cy, 0, none⟩), .pointer none, .bool false] w fun e w' => e = .returned (.pointer (some ⟨b, 0, none⟩)) ∧ ∃ W, R W ∧ w' = (W.setCell ⟨b, 1, none⟩ (.slice (some ⟨g, 0, none⟩) 1 cp)).setCell ⟨b, 0, none⟩ (.bool false) := by
  have HK := hide hK
  have z1 := hz.c1
  have x0 := hx.c0
  have x1 := hx.c1
  have y0 := hy.c0
  have y1 := hy.c1
  have HQ : Hid (∀ W1, R W1 → W1.cell? ⟨b, 1, none⟩ = some (.slice none 0 0) ∧ W1.frozen? ⟨b, 1, none⟩ = false ∧ (W1.setCell ⟨b, 1, none⟩ (.slice (some ⟨g, 0, none⟩) 1 cp)).cell? ⟨b, 0, none⟩ = some (.bool false) ∧ (W1.setCell ⟨b, 1, none⟩ (.slice (some ⟨g, 0, none⟩) 1 cp)).frozen? ⟨b, 0, none⟩ = false ∧ (W1.setCell ⟨b, 1, none⟩ (.slice (some ⟨g, 0, none⟩) 1 cp)).cell? ⟨b, 1, none⟩ = some (.slice (some ⟨g, 0, none⟩) 1 cp) ∧ (W1.setCell ⟨b, 1, none⟩ (.slice (some ⟨g, 0, none⟩) 1 cp)).cell? ⟨cx, 0, none⟩ = some (.bool false) ∧ ((W1.setCell ⟨b, 1, none⟩ (.slice (some ⟨g, 0, none⟩) 1 cp)).setCell ⟨b, 0, none⟩ (.bool false)).cell? ⟨b, 0, none⟩ = some (.bool false)) := hide (by
    intro W1 h1
    have hW := hR W1 h1
    have hzW := Zi.below hz hW hz.lt
    refine ⟨hzW.c1, hzW.f 1, (hzW.set _).c0, (hzW.set _).f 0, (hzW.set _).c1, ?_, (hzW.set _).keep.c0⟩
    rw [cell_set6 hne]
    exact (hW.cell (lt_of_cell? x0)).trans x0)
  clear hz hx hy hK hR
  go_enter Tryz.func217, Tryz.ntmps217
  go_wp2_with fail
  refine (unhide HK).mono ?_
  rintro e w1 ⟨rfl, HR⟩
  obtain ⟨q1, q2, q3, q4, q5, q6, q7⟩ := (unhide HQ) w1 HR
  have hst := store_nat6 q1 q2 (some ⟨g, 0, none⟩) 1 cp
  replace HR := hide HR
  go_wp2
  go_ret
  exact ⟨rfl, w1, unhide HR, rfl⟩
set_option maxRecDepth 20000 in
theorem iexp (b cx cy : Nat) (vx vy : Value) (g cp : Nat) (w : World) (R : World → Prop) (hz : Zi w b (.slice none 0 0)) (hx : Zi w cx vx) (hy : Zi w cy vy) (hne : cx ≠ b)
    (hK : Calls Tryz.prog 235 #[.slice none 0 0, .pointer none, vx, vy, .slice none 0 0, .bool false] w fun e w' => e = .returned (.slice (some ⟨g, 0, none⟩) 1 cp) ∧ R w') (hR : ∀ W, R W → Below w.heap.size w W) :
    Calls Tryz.prog 199 #[.pointer (some ⟨b, 0, none⟩), .pointer (some ⟨cx, 0, none⟩), .pointer (some ⟨cy, 0, none⟩), .pointer none] w fun e w' => e = .returned (.pointer (some ⟨b, 0, none⟩)) ∧ ∃ W, R W ∧ w' = (W.setCell ⟨b, 1, none⟩ (.slice (some ⟨g, 0, none⟩) 1 cp)).setCell ⟨b, 0, none⟩ (.bool false) := by
  have K := hide (iexp0 b cx cy vx vy g cp w R hz hx hy hne hK hR)
  clear hz hx hy hK hR
  go_enter Tryz.func199, Tryz.ntmps199
  go_wp2_with fail
  refine (unhide K).mono ?_
  rintro e w1 ⟨rfl, HR⟩
  replace HR := hide HR
  go_wp2
  go_ret
  exact ⟨rfl, unhide HR⟩
end Go.Proofs.YtceflkeaenepcaaGreatDoor
namespace Go.Proofs.YtceflkeaenepcaaGreatDoor
open Go.RowKit
def Tz (B : Nat) (W : World) (b : Nat) (m : Int) : Prop := ∃ g cp, Zi W b (.slice (some ⟨g, 0, none⟩) 1 cp) ∧ B ≤ b ∧ W.cell? ⟨g, 0, none⟩ = some (.int .u64 m) ∧ ((cp = 1) ∨ (cp = 6 ∧ g ≠ b ∧ B ≤ g ∧ W.heap[g]? = some (.cells #[.int .u64 m, .int .u64 0, .int .u64 0, .int .u64 0, .int .u64 0, .int .u64 0] 246 (0, 0))))
theorem drew_below (w : World) : Below w.heap.size w w.drew := ⟨rfl, rfl, rfl, Nat.le_refl _, fun _ _ => rfl⟩
theorem Zi.drewN {w : World} {b : Nat} {v : Value} (h : Zi w b v) (k : Nat) : Zi (w.drewN k) b v := h
theorem bp_drewN {w : World} {b : Nat} {n : Int} (h : Bp w b n) (k : Nat) : Bp (w.drewN k) b n := h
theorem setCell_far6 {w : World} {g k j : Nat} (v : Value) (h : k ≠ g) : (w.setCell ⟨g, j, none⟩ v).heap[k]? = w.heap[k]? := by
  unfold World.setCell
  simp [Array.getElem?_modify, Ne.symm h]
theorem Zi.far {w : World} {b g j : Nat} {v u : Value} (h : Zi w b v) (hne : b ≠ g) : Zi (w.setCell ⟨g, j, none⟩ u) b v := by
  unfold Zi at *
  rw [setCell_far6 u hne]
  exact h
set_option maxRecDepth 20000 in
theorem mul_t (B b c : Nat) (m n : Int) (hmn : MulOk m n) (W : World) (hz : Tz B W b m) (hc : Bp W c n) (hcB : c < B) (hgB : ∀ g cap, Zi W c (.slice (some ⟨g, 0, none⟩) 1 cap) → g < B) :
    Calls Tryz.prog 200 #[.pointer (some ⟨b, 0, none⟩), .pointer (some ⟨b, 0, none⟩), .pointer (some ⟨c, 0, none⟩)] W fun e w' => e = .returned (.pointer (some ⟨b, 0, none⟩)) ∧ Bp w' b (m * n) ∧ Below B W w' := by
  obtain ⟨g, cp, hzb, hBb, hgm, hcp⟩ := hz
  obtain ⟨n0, n1, gy, cy, hzc, hyc, _, _⟩ := hc
  obtain ⟨m0, _, p0, p1⟩ := mulOk_pos hmn
  have hgy := hgB gy cy hzc
  have hbW := hzb.lt
  have hne : b ≠ c := by omega
  have key : ∃ (R : Value → World → Prop), Calls Tryz.prog 238 #[.slice (some ⟨g, 0, none⟩) 1 cp, .pointer none, .slice (some ⟨g, 0, none⟩) 1 cp, .slice (some ⟨gy, 0, none⟩) 1 cy] W.drew (fun e w' => ∃ v, e = .returned v ∧ R v w') ∧
      (∀ v W', R v W' → ∃ g' , v = .slice (some ⟨g', 0, none⟩) 1 6 ∧ Zi W' b (.slice (some ⟨g, 0, none⟩) 1 cp) ∧ Zi W' c (.slice (some ⟨gy, 0, none⟩) 1 cy) ∧ W'.cell? ⟨g', 0, none⟩ = some (.int .u64 (m * n)) ∧ g' ≠ b ∧ Below B W W') := by
    rcases hcp with rfl | ⟨rfl, hgb, hgg, hblk⟩
    · refine ⟨fun v W' => v = .slice (some ⟨W.heap.size, 0, none⟩) 1 6 ∧ W' = W.drew.alloc (.cells #[.int .u64 (m * n), .int .u64 0, .int .u64 0, .int .u64 0, .int .u64 0, .int .u64 0] 246), nmul _ g 1 gy cy n W.drew _ hyc ((mulAddWW_new m n hmn (some ⟨g, 0, none⟩) 1 1 (by omega) g 1 W.drew hgm).mono ?_), ?_⟩
      · rintro e w' ⟨rfl, rfl⟩
        exact ⟨_, rfl, rfl, rfl⟩
      · rintro v W' ⟨rfl, rfl⟩
        have B1 : Below W.heap.size W (W.drew.alloc (.cells #[.int .u64 (m * n), .int .u64 0, .int .u64 0, .int .u64 0, .int .u64 0, .int .u64 0] 246)) := (drew_below W).trans ((Below.refl W.drew.heap.size W.drew).alloc (Nat.le_refl _) _)
        have hc1 : (W.drew.alloc (.cells #[.int .u64 (m * n), .int .u64 0, .int .u64 0, .int .u64 0, .int .u64 0, .int .u64 0] 246)).cell? ⟨W.drew.heap.size, 0, none⟩ = some (.int .u64 (m * n)) := by
          generalize W.drew = W0
          simp [go_sem]
        exact ⟨W.heap.size, rfl, hzb.below B1 hbW, hzc.below B1 hzc.lt, hc1, by omega, B1.mono (by omega)⟩
    · refine ⟨fun v W' => v = .slice (some ⟨g, 0, none⟩) 1 6 ∧ W' = (W.drew.setCell ⟨g, 0, none⟩ (.int .u64 (m * n))).setCell ⟨g, 1, none⟩ (.int .u64 0), nmul _ g 6 gy cy n W.drew _ hyc ((mulAddWW_in m n hmn g 1 W.drew _ _ _ _ _ hblk).mono ?_), ?_⟩
      · rintro e w' ⟨rfl, rfl⟩
        exact ⟨_, rfl, rfl, rfl⟩
      · rintro v W' ⟨rfl, rfl⟩
        have h1 := set_block6 (w := W.drew) (j := 0) hblk (.int .u64 (m * n))
        have h2 := set_block6 (j := 1) h1 (.int .u64 0)
        have hzb' : Zi W.drew b (.slice (some ⟨g, 0, none⟩) 1 6) := hzb
        have hzc' : Zi W.drew c (.slice (some ⟨gy, 0, none⟩) 1 cy) := hzc
        refine ⟨g, rfl, (hzb'.far (Ne.symm hgb)).far (Ne.symm hgb), (hzc'.far (by omega)).far (by omega), cell_of6 (j := 0) h2 (by simp), hgb, ?_⟩
        exact (((drew_below W).mono (by omega)).trans (below_set6 hgg 0 _)).trans (below_set6 hgg 1 _)
  obtain ⟨R, hK, hR⟩ := key
  have K := hide (imul b c _ _ W R hne hzb hzc hK (fun v W' h => by
    obtain ⟨g', rfl, h1, h2, _, _, _⟩ := hR v W' h
    exact ⟨_, _, rfl, h1, h2.c0, h2.c1⟩))
  have HF : Hid (∀ v W' k, R v W' → Bp (((W'.setCell ⟨b, 1, none⟩ v).setCell ⟨b, 0, none⟩ (.bool false)).drewN k) b (m * n) ∧ Below B W (((W'.setCell ⟨b, 1, none⟩ v).setCell ⟨b, 0, none⟩ (.bool false)).drewN k)) := hide (by
    intro v W' k h
    obtain ⟨g', rfl, h1, h2, h3, h4, h5⟩ := hR v W' h
    refine ⟨bp_drewN (bp_of ((h1.set _).keep) p0 p1 (cap := 6) (g := g') ?_ (by omega) (by omega)) k, ?_⟩
    · rw [cell_set6 h4, cell_set6 h4]; exact h3
    · have q := (h5.trans (below_set6 hBb 1 (.slice (some ⟨g', 0, none⟩) 1 6))).trans (below_set6 hBb 0 (.bool false))
      exact q.trans ⟨rfl, rfl, rfl, Nat.le_refl _, fun _ _ => rfl⟩)
  clear hK hR hzb hzc hcp hyc hgm hgB hmn
  go_enter Tryz.func200, Tryz.ntmps200
  go_wp2_with fail
  refine (unhide K).mono ?_
  rintro e w1 ⟨rfl, v, W', k, hr, rfl⟩
  have HF1 := hide ((unhide HF) v W' k hr)
  clear hr K HF
  go_wp2
  go_ret
  exact ⟨rfl, unhide HF1⟩
end Go.Proofs.YtceflkeaenepcaaGreatDoor
