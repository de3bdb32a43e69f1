import Derived.Test.YtceflkeaenepcaaGreatDoorN13
import Derived.Test.YtceflkeaenepcaaGreatDoorN0
import Derived.Test.YtceflkeaenepcaaGreatDoorN22
namespace Go.Proofs.YtceflkeaenepcaaGreatDoor
open Go.RowKit
def Dr (w : World) (b : Nat) (sh : Value) (k lo hi n : Int) (to : Value) (wt : Nat) : Prop := w.heap[b]? = some (.cells #[sh, .int .i64 k, .int .i64 lo, .int .i64 hi, .int .i64 n, to, .string ⟨#[]⟩, .string ⟨#[]⟩, .float .f64 wt] 108 (0, 0))
theorem Dr.c {w : World} {b : Nat} {sh : Value} {k lo hi n : Int} {to : Value} {wt : Nat} (h : Dr w b sh k lo hi n to wt) (j : Nat) (hj : j < 9) : w.cell? ⟨b, j, none⟩ = some ((#[sh, .int .i64 k, .int .i64 lo, .int .i64 hi, .int .i64 n, to, .string ⟨#[]⟩, .string ⟨#[]⟩, .float .f64 wt] : Array Value).getD j undef) := cell_of6 h (by simpa using hj)
theorem Dr.f {w : World} {b : Nat} {sh : Value} {k lo hi n : Int} {to : Value} {wt : Nat} (h : Dr w b sh k lo hi n to wt) (j : Nat) : w.frozen? ⟨b, j, none⟩ = false := frozen_of6 h
theorem Dr.below {w w' : World} {b B : Nat} {sh : Value} {k lo hi n : Int} {to : Value} {wt : Nat} (h : Dr w b sh k lo hi n to wt) (hb : Below B w w') (hB : b < B) : Dr w' b sh k lo hi n to wt := by
  unfold Dr at *
  rw [hb.block b hB]
  exact h
theorem Dr.lt {w : World} {b : Nat} {sh : Value} {k lo hi n : Int} {to : Value} {wt : Nat} (h : Dr w b sh k lo hi n to wt) : b < w.heap.size := lt_of_cell? (h.c 0 (by omega))
theorem Dr.set2 {w : World} {b : Nat} {sh : Value} {k lo hi n : Int} {to : Value} {wt : Nat} (h : Dr w b sh k lo hi n to wt) (x : Int) : Dr (w.setCell ⟨b, 2, none⟩ (.int .i64 x)) b sh k x hi n to wt := by unfold Dr at *; rw [set_block6 h]; rfl
theorem Dr.set3 {w : World} {b : Nat} {sh : Value} {k lo hi n : Int} {to : Value} {wt : Nat} (h : Dr w b sh k lo hi n to wt) (x : Int) : Dr (w.setCell ⟨b, 3, none⟩ (.int .i64 x)) b sh k lo x n to wt := by unfold Dr at *; rw [set_block6 h]; rfl
theorem Dr.set4 {w : World} {b : Nat} {sh : Value} {k lo hi n : Int} {to : Value} {wt : Nat} (h : Dr w b sh k lo hi n to wt) (x : Int) : Dr (w.setCell ⟨b, 4, none⟩ (.int .i64 x)) b sh k lo hi x to wt := by unfold Dr at *; rw [set_block6 h]; rfl
theorem Dr.set5 {w : World} {b : Nat} {sh : Value} {k lo hi n : Int} {to : Value} {wt : Nat} (h : Dr w b sh k lo hi n to wt) (x : Value) : Dr (w.setCell ⟨b, 5, none⟩ x) b sh k lo hi n x wt := by unfold Dr at *; rw [set_block6 h]; rfl
theorem Dr.set8 {w : World} {b : Nat} {sh : Value} {k lo hi n : Int} {to : Value} {wt : Nat} (h : Dr w b sh k lo hi n to wt) (x : Nat) : Dr (w.setCell ⟨b, 8, none⟩ (.float .f64 x)) b sh k lo hi n to x := by unfold Dr at *; rw [set_block6 h]; rfl
def Gb (b : Nat) (w w' : World) : Prop := w.grownBy w' (some b)
theorem Gb.of {b : Nat} {w w' : World} (h : Below w.heap.size w w') : Gb b w w' := ⟨h.os, h.tape, h.output, h.size, fun k hk _ => h.block k hk⟩
theorem Gb.trans {b : Nat} {w1 w2 w3 : World} (h : Gb b w1 w2) (k : Gb b w2 w3) : Gb b w1 w3 :=
  ⟨k.os.trans h.os, k.tape.trans h.tape, k.output.trans h.output, Nat.le_trans h.size k.size, fun j hj hn => (k.block j (Nat.lt_of_lt_of_le hj h.size) hn).trans (h.block j hj hn)⟩
theorem Gb.set (b j : Nat) (v : Value) (w : World) : Gb b w (w.setCell ⟨b, j, none⟩ v) := by
  have h : Below b w (w.setCell ⟨b, j, none⟩ v) := below_set6 (Nat.le_refl b) j v
  exact ⟨h.os, h.tape, h.output, h.size, fun k _ hn => setCell_far6 _ (fun e => hn (by rw [e]))⟩
theorem Gb.below {b B : Nat} {w w' : World} (h : Gb b w w') (hB : B ≤ b) (hw : B ≤ w.heap.size) : Below B w w' := ⟨h.os, h.tape, h.output, h.size, fun k hk => h.block k (by omega) (by simp; omega)⟩
set_option maxRecDepth 20000 in
theorem dspan (s : ByteArray) (x y : Int) (hx : 0 ≤ x ∧ x ≤ 1114111) (hy : 0 ≤ y ∧ y ≤ 1114111) (b : Nat) (sh : Value) (k lo hi n : Int) (to : Value) (wt : Nat) (w : World) (h : Dr w b sh k lo hi n to wt)
    (hK : Calls Tryz.prog 378 #[.string s] w fun e w' => e = .returned (.tuple #[.int .i32 x, .int .i32 y, .bool true]) ∧ Below w.heap.size w w') :
    Calls Tryz.prog 377 #[.pointer (some ⟨b, 0, none⟩), .string s] w fun e w' => e = .returned (.bool true) ∧ Dr w' b sh k x y n to wt ∧ Gb b w w' := by
  have hlt := h.lt
  have K : Hid (Calls Tryz.prog 378 #[.string s] w fun e w1 => e = .returned (.tuple #[.int .i32 x, .int .i32 y, .bool true]) ∧ w1.cell? ⟨b, 2, none⟩ = some (.int .i64 lo) ∧ w1.frozen? ⟨b, 2, none⟩ = false ∧ (w1.setCell ⟨b, 2, none⟩ (.int .i64 x)).cell? ⟨b, 3, none⟩ = some (.int .i64 hi) ∧ (w1.setCell ⟨b, 2, none⟩ (.int .i64 x)).frozen? ⟨b, 3, none⟩ = false ∧ Dr ((w1.setCell ⟨b, 2, none⟩ (.int .i64 x)).setCell ⟨b, 3, none⟩ (.int .i64 y)) b sh k x y n to wt ∧ Gb b w ((w1.setCell ⟨b, 2, none⟩ (.int .i64 x)).setCell ⟨b, 3, none⟩ (.int .i64 y))) := hide (hK.mono (by
    rintro e w1 ⟨rfl, hb⟩
    have h1 := h.below hb hlt
    exact ⟨rfl, h1.c 2 (by omega), h1.f 2, (h1.set2 x).c 3 (by omega), (h1.set2 x).f 3, (h1.set2 x).set3 y, ((Gb.of hb).trans (Gb.set b 2 _ _)).trans (Gb.set b 3 _ _)⟩))
  clear hK h
  go_enter Tryz.func377, Tryz.ntmps377
  go_wp2_with fail
  refine (unhide K).mono ?_
  rintro e w1 ⟨rfl, c2, f2, c3, f3, hd, hb⟩
  replace hd := hide hd
  replace hb := hide hb
  clear K
  go_wp2
  go_ret
  exact ⟨rfl, unhide hd, unhide hb⟩
set_option maxRecDepth 20000 in
theorem dweight (b : Nat) (sh : Value) (k lo hi n : Int) (to : Value) (wt : Nat) (w : World) (h : Dr w b sh k lo hi n to wt) :
    Calls Tryz.prog 133 #[.pointer (some ⟨b, 0, none⟩), .string ⟨#[50, 53, 101, 45, 50]⟩] w fun e w' => e = .returned (.bool true) ∧ Dr w' b sh k lo hi n to 4598175219545276416 ∧ Gb b w w' := by
  have hlt := h.lt
  have K : Hid (Calls Tryz.prog 147 #[.string ⟨#[50, 53, 101, 45, 50]⟩] w fun e w1 => e = .returned (.tuple #[.float .f64 4598175219545276416, .int .i64 0]) ∧ w1.cell? ⟨b, 8, none⟩ = some (.float .f64 wt) ∧ w1.frozen? ⟨b, 8, none⟩ = false ∧ Dr (w1.setCell ⟨b, 8, none⟩ (.float .f64 4598175219545276416)) b sh k lo hi n to 4598175219545276416 ∧ Gb b w (w1.setCell ⟨b, 8, none⟩ (.float .f64 4598175219545276416))) := hide ((parse6 w).mono (by
    rintro e w1 ⟨rfl, hb⟩
    have h1 := h.below hb hlt
    exact ⟨rfl, h1.c 8 (by omega), h1.f 8, h1.set8 _, (Gb.of hb).trans (Gb.set b 8 _ _)⟩))
  have hfl : ∀ W a m, (store a (.float .f64 4598175219545276416) m).run Tryz.prog W = stored Tryz.prog W a (.float .f64 4598175219545276416) m := fun W a m => run_store Tryz.prog W a _ m rfl
  clear h
  go_enter Tryz.func133, Tryz.ntmps133
  go_wp2_with fail
  refine (unhide K).mono ?_
  rintro e w1 ⟨rfl, c8, f8, hd, hb⟩
  replace hd := hide hd
  replace hb := hide hb
  clear K
  go_wp2
  go_ret
  exact ⟨rfl, unhide hd, unhide hb⟩
end Go.Proofs.YtceflkeaenepcaaGreatDoor
namespace Go.Proofs.YtceflkeaenepcaaGreatDoor
open Go.RowKit
theorem own_one6 {w : World} {B : Nat} {v : Value} {us : List Value} {m : Nat} (h : w.ownsRow B 21 1 v m us) (hm : m = 1) (hu : us = [.int .i32 97]) : ∃ g cap, v = .slice (some ⟨g, 0, none⟩) 1 cap ∧ B ≤ g ∧ Ok .i32 21 w B (.slice (some ⟨g, 0, none⟩) 1 cap) [97] := by
  subst hm
  subst hu
  rcases h.2 with ⟨rfl, h0⟩ | ⟨g, cap, cur, rfl, hg, _⟩
  · simp at h0
  · exact ⟨g, cap, rfl, hg, Ok.of (by intro z hz; simp at hz; subst hz; decide) (by simp) h rfl rfl⟩
set_option maxRecDepth 20000 in
theorem dtarget (b : Nat) (sh : Value) (k lo hi n : Int) (wt : Nat) (w : World) (h : Dr w b sh k lo hi n (.slice none 0 0) wt) (hg : Sn.Glob w) :
    Calls Tryz.prog 129 #[.pointer (some ⟨b, 0, none⟩), .string ⟨#[54, 49]⟩] w fun e w' => e = .returned (.bool true) ∧ ∃ g cap, w.heap.size ≤ g ∧ Dr w' b sh k lo hi n (.slice (some ⟨g, 0, none⟩) 1 cap) wt ∧ Ok .i32 21 w' w.heap.size (.slice (some ⟨g, 0, none⟩) 1 cap) [97] ∧ Gb b w w' := by
  obtain ⟨i0, hi0, hz0, hz1, hz2⟩ := info_parts Tryz.info21
  have hlt := h.lt
  have K : Hid (Calls Tryz.prog 142 #[.string ⟨#[54, 49]⟩] w fun e w1 => e = .returned (.tuple #[.int .i32 97, .bool true]) ∧ Dr w1 b sh k lo hi n (.slice none 0 0) wt ∧ Below w.heap.size w w1) := hide ((code_a w hg).mono (by
    rintro e w1 ⟨rfl, hb⟩
    exact ⟨rfl, h.below hb hlt, hb⟩))
  clear h hg
  go_enter Tryz.func129, Tryz.ntmps129
  go_wp2_with fail
  refine (unhide K).mono ?_
  rintro e w1 ⟨rfl, hd, hb⟩
  have c5 : w1.cell? ⟨b, 5, none⟩ = some (.slice none 0 0) := hd.c 5 (by omega)
  have hdl := hd.lt
  have hsz := hb.size
  have HD := hide hd
  have HB := hide hb
  clear K hd hb
  go_wp2_with (at_builtin; refine wpList_append_own_at _ rfl (.tmp 17) (.tmp 19) 26 rfl w1.heap.size 21 i0 (.int .i32 0) 1 4 Tryz.underlying26 hi0 hz0 hz1 hz2 rfl (by decide) _ _ [] rfl (World.ownsRow_nil _ _ _ _) ⟨w1.heap.size, 0, none⟩ 1 1 [.int .i32 97] rfl rfl (cell_one_new _ _ _) (int_one _ _) (by unfold maxLen; omega) (by omega) (by simp) ?_)
  intro v' w2 hrow hgr _ hat
  obtain ⟨g, cap, rfl, hgb, hok⟩ := own_one6 hrow (by simp) (by simp)
  have hd2 : Dr w2 b sh k lo hi n (.slice none 0 0) wt := by
    unfold Dr
    rw [hgr.block b (by simp; omega) (by simp [Value.ownBlock]), ((Below.refl w1.heap.size w1).alloc (Nat.le_refl _) _).block b hdl]
    exact unhide HD
  have B2 : Below w1.heap.size w1 w2 := by
    have b1 := (Below.refl w1.heap.size w1).alloc (Nat.le_refl _) (.cells #[.int .i32 97] 21)
    exact b1.trans ⟨hgr.os, hgr.tape, hgr.output, hgr.size, fun k hk => hgr.block k (by simp; omega) (by simp [Value.ownBlock])⟩
  have y5 := hd2.c 5 (by omega)
  have yf := hd2.f 5
  have HF : Hid (∃ g' cap', w.heap.size ≤ g' ∧ Dr (w2.setCell ⟨b, 5, none⟩ (.slice (some ⟨g, 0, none⟩) 1 cap)) b sh k lo hi n (.slice (some ⟨g', 0, none⟩) 1 cap') wt ∧ Ok .i32 21 (w2.setCell ⟨b, 5, none⟩ (.slice (some ⟨g, 0, none⟩) 1 cap)) w.heap.size (.slice (some ⟨g', 0, none⟩) 1 cap') [97] ∧ Gb b w (w2.setCell ⟨b, 5, none⟩ (.slice (some ⟨g, 0, none⟩) 1 cap))) := hide ⟨g, cap, by omega, hd2.set5 _, (hok.keep (fun g' hg' => by simp [Value.ownBlock] at hg'; exact setCell_far6 _ (by omega))).lower hsz, ((Gb.of ((unhide HB).trans (B2.mono hsz))).trans (Gb.set b 5 _ _))⟩
  clear hrow hgr hat hok hd2 B2 HD HB c5
  go_wp2
  go_ret
  exact ⟨rfl, unhide HF⟩
set_option maxRecDepth 20000 in
theorem number6 (w : World) (hg : Glob w) (hs : Sn.Glob w) : Calls Tryz.prog 122 #[shV 4, .string ⟨#[49]⟩] w fun e w' => e = .returned (.tuple #[.int .i64 1, .bool true]) ∧ Below w.heap.size w w' := by
  have B0 : Below w.heap.size w (w.alloc (.cells #[.int .i64 4] 60)) := (Below.refl w.heap.size w).alloc (Nat.le_refl _) _
  have K : Hid (Calls Tryz.prog 41 #[shV 4] (w.alloc (.cells #[.int .i64 4] 60)) fun e w1 => e = .returned (rowV (Cn.rowK 4)) ∧ Calls Tryz.prog 145 #[.string ⟨#[49]⟩] w1 fun e w2 => e = .returned (.tuple #[.int .i64 1, .bool true]) ∧ Below w.heap.size w w2) := hide ((row_any 4 _ (hg.on B0) (by unfold I64; decide)).mono (by
    rintro e w1 ⟨rfl, hb⟩
    have hb1 := B0.trans (hb.mono B0.size)
    refine ⟨rfl, (whole_a w1 (hs.on hb1)).mono ?_⟩
    rintro e w2 ⟨rfl, hb2⟩
    exact ⟨rfl, hb1.trans (hb2.mono hb1.size)⟩))
  have hf : ∀ w, (Instr.field 99 (rowV (Cn.rowK 4)) 6).run Tryz.prog w = .ok (.string ⟨#[]⟩) w := fun w => by kernel_rfl
  have hn : ∀ w, (binOp .neq 9 (.string ⟨#[]⟩) (.string ⟨#[]⟩)).run Tryz.prog w = .ok (.bool false) w := fun w => by kernel_rfl
  generalize rowV (Cn.rowK 4) = RV at *
  unfold shV at *
  clear hg hs B0
  go_enter Tryz.func122, Tryz.ntmps122
  go_wp2_with fail
  refine (unhide K).mono ?_
  rintro e w1 ⟨rfl, K2⟩
  replace K2 := hide K2
  clear K
  go_wp2_with fail
  refine (unhide K2).mono ?_
  rintro e w2 ⟨rfl, hb⟩
  replace hb := hide hb
  clear K2
  go_wp2
  go_ret2
  exact ⟨rfl, unhide hb⟩
end Go.Proofs.YtceflkeaenepcaaGreatDoor
namespace Go.Proofs.YtceflkeaenepcaaGreatDoor
open Go.RowKit
theorem mNumberShifted (k : Int) (w : World) : (method 543 75 (.agg #[.int .i64 k]) "endonym/table.number").run Tryz.prog w = .ok (122, .agg #[.int .i64 k]) w := by kernel_rfl
theorem mBeginShifted (k : Int) (w : World) : (method 543 75 (.agg #[.int .i64 k]) "endonym/table.begin").run Tryz.prog w = .ok (375, .agg #[.int .i64 k]) w := by kernel_rfl
theorem mEndShifted (k : Int) (w : World) : (method 543 75 (.agg #[.int .i64 k]) "endonym/table.end").run Tryz.prog w = .ok (119, .agg #[.int .i64 k]) w := by kernel_rfl
theorem mBeginSpanned (k : Int) (w : World) : (method 543 73 (.agg #[.int .i64 k]) "endonym/table.begin").run Tryz.prog w = .ok (375, .agg #[.int .i64 k]) w := by kernel_rfl
theorem mEndSpanned (k : Int) (w : World) : (method 543 73 (.agg #[.int .i64 k]) "endonym/table.end").run Tryz.prog w = .ok (119, .agg #[.int .i64 k]) w := by kernel_rfl
set_option maxRecDepth 20000 in
theorem dcount (b : Nat) (k lo hi n : Int) (to : Value) (wt : Nat) (w : World) (h : Dr w b (.iface 75 (.agg #[.int .i64 4])) k lo hi n to wt) (hg : Glob w) (hs : Sn.Glob w) :
    Calls Tryz.prog 130 #[.pointer (some ⟨b, 0, none⟩), .string ⟨#[49]⟩] w fun e w' => e = .returned (.bool true) ∧ Dr w' b (.iface 75 (.agg #[.int .i64 4])) k lo hi 1 to wt ∧ Gb b w w' := by
  have hlt := h.lt
  have c0 : w.cell? ⟨b, 0, none⟩ = some (.iface 75 (.agg #[.int .i64 4])) := h.c 0 (by omega)
  have hm := mNumberShifted 4
  have K : Hid (Calls Tryz.prog 122 #[.agg #[.int .i64 4], .string ⟨#[49]⟩] w fun e w1 => e = .returned (.tuple #[.int .i64 1, .bool true]) ∧ w1.cell? ⟨b, 4, none⟩ = some (.int .i64 n) ∧ w1.frozen? ⟨b, 4, none⟩ = false ∧ Dr (w1.setCell ⟨b, 4, none⟩ (.int .i64 1)) b (.iface 75 (.agg #[.int .i64 4])) k lo hi 1 to wt ∧ Gb b w (w1.setCell ⟨b, 4, none⟩ (.int .i64 1))) := hide ((number6 w hg hs).mono (by
    rintro e w1 ⟨rfl, hb⟩
    have h1 := h.below hb hlt
    exact ⟨rfl, h1.c 4 (by omega), h1.f 4, h1.set4 1, (Gb.of hb).trans (Gb.set b 4 _ _)⟩))
  clear h hg hs
  go_enter Tryz.func130, Tryz.ntmps130
  go_wp2_with fail
  refine (unhide K).mono ?_
  rintro e w1 ⟨rfl, c4, f4, hd, hb⟩
  replace hd := hide hd
  replace hb := hide hb
  clear K
  go_wp2
  go_ret
  exact ⟨rfl, unhide hd, unhide hb⟩
set_option maxRecDepth 20000 in
theorem kindOf_a (s : ByteArray) (kk : Nat) (hk : kk < 16) (hs : ∀ j, j < 16 → ((Cn.rowT j).word.toList == s.toList) = decide (j = kk)) (w : World) (hg : Glob w) : Calls Tryz.prog 48 #[.string s] w fun e w' => e = .returned (.int .i64 kk) ∧ w' = w := by
  have HG := hide hg
  have HS := hide hs
  clear hg hs
  go_enter Tryz.func48, Tryz.ntmps48
  go_wp2
  go_loop [2, 3, 4] (fun _ _ i => ∃ j : Nat, j ≤ kk ∧ i = .int .i64 j) (fun _ _ i => 16 - (intOf i).toNat)
  case atStart => exact ⟨0, Nat.zero_le _, rfl⟩
  case round =>
    obtain ⟨j, hj, rfl⟩ := hrel
    have hc := ((unhide HG) j (by omega)).c0
    have he := (unhide HS) j (by omega)
    generalize (Cn.rowT j).word = wd at *
    have hix : (j : Int) * 9 = ((j * 9 : Nat) : Int) := by omega
    by_cases hjk : j = kk
    · rw [decide_eq_true hjk] at he
      subst hjk
      clear HS HG
      go_wp2
      go_ret
      exact ⟨rfl, rfl⟩
    · rw [decide_eq_false hjk] at he
      go_wp2
      go_round
      case rel => exact ⟨j + 1, by omega, by go_num⟩
      case measure => simp [intOf]; omega
theorem kindOf_shift (w : World) (hg : Glob w) : Calls Tryz.prog 48 #[.string ⟨#[115, 104, 105, 102, 116]⟩] w fun e w' => e = .returned (.int .i64 4) ∧ w' = w := kindOf_a _ 4 (by decide) (by decide +kernel) w hg
theorem kindOf_weight (w : World) (hg : Glob w) : Calls Tryz.prog 48 #[.string ⟨#[119, 101, 105, 103, 104, 116]⟩] w fun e w' => e = .returned (.int .i64 14) ∧ w' = w := kindOf_a _ 14 (by decide) (by decide +kernel) w hg
end Go.Proofs.YtceflkeaenepcaaGreatDoor
namespace Go.Proofs.YtceflkeaenepcaaGreatDoor
open Go.RowKit
def stF (n b : Nat) : Value := .func (.func n) #[.pointer (some ⟨b, 0, none⟩)] #[]
set_option maxRecDepth 20000 in
theorem begin_a (k : Int) (b : Nat) (w : World) : Calls Tryz.prog 375 #[.agg #[.int .i64 k], .pointer (some ⟨b, 0, none⟩)] w fun e w' => e = .returned (.slice (some ⟨w.heap.size + 1, 0, none⟩) 1 1) ∧ w' = (w.alloc (.cells #[.int .i64 k] 73)).alloc (.cells #[stF 377 b] 113) := by
  go_enter Tryz.func375, Tryz.ntmps375
  go_wp2
  go_ret
  exact ⟨by simp, rfl⟩
set_option maxRecDepth 20000 in
theorem mul64_1 (w : World) : Calls Tryz.prog 158 #[.int .u64 1, .int .u64 1] w fun e w' => e = .returned (.tuple #[.int .u64 0, .int .u64 1]) ∧ w' = w := by
  go_enter Tryz.func158, Tryz.ntmps158
  go_wp2
  go_ret2
  exact ⟨rfl, rfl⟩
set_option maxRecDepth 20000 in
theorem mul64_0 (w : World) : Calls Tryz.prog 158 #[.int .u64 1, .int .u64 0] w fun e w' => e = .returned (.tuple #[.int .u64 0, .int .u64 0]) ∧ w' = w := by
  go_enter Tryz.func158, Tryz.ntmps158
  go_wp2
  go_ret2
  exact ⟨rfl, rfl⟩
set_option maxRecDepth 20000 in
theorem mul_1 (w : World) : Calls Tryz.prog 141 #[.int .u64 1, .int .u64 1] w fun e w' => e = .returned (.tuple #[.int .u64 0, .int .u64 1]) ∧ w' = w := by
  have K := hide (mul64_1 w)
  go_enter Tryz.func141, Tryz.ntmps141
  go_wp2_with fail
  refine (unhide K).mono ?_
  rintro e w1 ⟨rfl, rfl⟩
  go_wp2
  go_ret2
  exact ⟨rfl, rfl⟩
set_option maxRecDepth 20000 in
theorem mul_0 (w : World) : Calls Tryz.prog 141 #[.int .u64 1, .int .u64 0] w fun e w' => e = .returned (.tuple #[.int .u64 0, .int .u64 0]) ∧ w' = w := by
  have K := hide (mul64_0 w)
  go_enter Tryz.func141, Tryz.ntmps141
  go_wp2_with fail
  refine (unhide K).mono ?_
  rintro e w1 ⟨rfl, rfl⟩
  go_wp2
  go_ret2
  exact ⟨rfl, rfl⟩
theorem mks_1 (w : World) : (Instr.makeSlice 109 (.int .i64 1) (.int .i64 1)).run Tryz.prog w = .ok (.slice (some ⟨w.heap.size, 0, none⟩) 1 1) (w.alloc (.cells #[.nilFunc] 113)) := by kernel_rfl
theorem mks_0 (w : World) : (Instr.makeSlice 109 (.int .i64 0) (.int .i64 0)).run Tryz.prog w = .ok (.slice (some ⟨w.heap.size, 0, none⟩) 0 0) (w.alloc (.cells #[] 113)) := by kernel_rfl
theorem func_one (n b : Nat) : ∀ u ∈ [stF n b], u.oneCell' = true := by intro u hu; simp at hu; subst hu; rfl
set_option maxRecDepth 20000 in
theorem repeat_1 (n b g : Nat) (w : World) (h : w.cell? ⟨g, 0, none⟩ = some (stF n b)) :
    Calls Tryz.prog 128 #[.slice (some ⟨g, 0, none⟩) 1 1, .int .i64 1] w fun e w' => e = .returned (.slice (some ⟨w.heap.size, 0, none⟩) 1 1) ∧ w' = w.alloc (.cells #[stF n b] 113) := by
  have hb := lt_of_cell? h
  have K1 := hide (mul_1 w)
  have hm := mks_1 w
  have hcp : (Builtin.copy_ #[109, 109] 3 #[.slice (some ⟨w.heap.size, 0, none⟩) 1 1, .slice (some ⟨g, 0, none⟩) 1 1]).run Tryz.prog (w.alloc (.cells #[.nilFunc] 113)) = .ok (.int .i64 1) (w.alloc (.cells #[stF n b] 113)) := by
    have hb1 : (w.alloc (.cells #[.nilFunc] 113)).cell? ⟨g, 0, none⟩ = some (stF n b) := by
      rw [((Below.refl w.heap.size w).alloc (Nat.le_refl _) _).cell hb]; exact h
    have q := run_copy_cells (P := Tryz.prog) (w.alloc (.cells #[.nilFunc] 113)) 109 109 3 113 w.heap.size 0 1 1 ⟨g, 0, none⟩ 1 1 [stF n b] Tryz.underlying109 (by kernel_rfl) rfl
      (fun j v hj => by
        cases j with
        | zero => simp at hj; subst hj; rw [addr_add]; exact hb1
        | succ j => simp at hj)
      (fun j hj => by have : j = 0 := by simpa using hj
                      subst this; simp [go_sem])
      (fun j hj => by have : j = 0 := by simpa using hj
                      subst this; simp [go_sem])
      (func_one n b)
    rw [q]
    simp [World.setCells, go_sem]
  generalize stF n b = SF at *
  go_enter Tryz.func128, Tryz.ntmps128
  go_wp2_with fail
  refine (unhide K1).mono ?_
  rintro e w1 ⟨rfl, rfl⟩
  go_wp2
  go_loop [8] (fun n => n = .int .i64 1) (fun _ => 0)
  case atStart => rfl
  case round =>
    subst hrel
    go_wp2
    go_ret
    exact ⟨rfl, rfl⟩
set_option maxRecDepth 20000 in
theorem repeat_0 (g : Nat) (w : World) :
    Calls Tryz.prog 128 #[.slice (some ⟨g, 0, none⟩) 1 1, .int .i64 0] w fun e w' => e = .returned (.slice (some ⟨w.heap.size, 0, none⟩) 0 0) ∧ w' = w.alloc (.cells #[] 113) := by
  have K1 := hide (mul_0 w)
  have hm := mks_0 w
  have hcp : ∀ W : World, (Builtin.copy_ #[109, 109] 3 #[.slice (some ⟨w.heap.size, 0, none⟩) 0 0, .slice (some ⟨g, 0, none⟩) 1 1]).run Tryz.prog W = .ok (.int .i64 0) W := fun W => run_copy_none W 109 109 3 113 (some ⟨w.heap.size, 0, none⟩) (some ⟨g, 0, none⟩) 0 0 1 1 Tryz.underlying109 (by kernel_rfl) rfl
  go_enter Tryz.func128, Tryz.ntmps128
  go_wp2_with fail
  refine (unhide K1).mono ?_
  rintro e w1 ⟨rfl, rfl⟩
  go_wp2
  go_loop [8] (fun n => n = .int .i64 0) (fun _ => 0)
  case atStart => rfl
  case round =>
    subst hrel
    go_wp2
    go_ret
    exact ⟨rfl, rfl⟩
end Go.Proofs.YtceflkeaenepcaaGreatDoor
namespace Go.Proofs.YtceflkeaenepcaaGreatDoor
open Go.RowKit
theorem rowV4 : rowV (Cn.rowK 4) = .agg #[.string (Cn.txt "shift"), .int .i64 1, .int .i64 1, .int .i64 1, .int .i64 1, .int .i64 64, .string ⟨#[]⟩, .int .i64 0, .bool false] := rfl
theorem rowV14 : rowV (Cn.rowK 14) = .agg #[.string (Cn.txt "weight"), .int .i64 9, .int .i64 0, .int .i64 0, .int .i64 0, .int .i64 0, .string ⟨#[]⟩, .int .i64 0, .bool true] := rfl
def StB (w : World) (b : Nat) (fs : List Nat) (k : Int) (e : Ending) (w' : World) : Prop := ∃ v, e = .returned (.tuple #[v, .int .i64 k]) ∧ Ow 113 w' w.heap.size v (fs.map (stF · b)) ∧ Below w.heap.size w w'
theorem info_step : (Tryz.prog.info? 113).map (fun i => (i.zero, i.size, i.bytes)) = some (some .nilFunc, 1, 8) := by kernel_rfl
theorem heap_new (W : World) (o : Obj) : (W.alloc o).heap[W.heap.size]? = some o := by simp [World.alloc, -World.alloc_eq]
theorem obj_cell {w : World} {r : Nat} {cs : Array Value} {e : TypeId} (h : w.heap[r]? = some (.cells cs e (0, 0))) (o : Nat) (ho : o < cs.size) : w.cell? ⟨r, o, none⟩ = some (cs.getD o undef) := by
  simp [World.cell?, h, Array.getD, ho]
set_option maxRecDepth 8000 in
set_option maxHeartbeats 1000000 in
theorem end_4 (b : Nat) (w : World) (hg : Glob w) : Calls Tryz.prog 119 #[.agg #[.int .i64 4], .pointer (some ⟨b, 0, none⟩)] w (StB w b [129, 130] 0) := by
  obtain ⟨i0, hi0, hz0, hz1, hz2⟩ := info_parts info_step
  have B0 : Below w.heap.size w (w.alloc (.cells #[.int .i64 4] 60)) := (Below.refl w.heap.size w).alloc (Nat.le_refl _) _
  have K : Hid (Calls Tryz.prog 41 #[.agg #[.int .i64 4]] (w.alloc (.cells #[.int .i64 4] 60)) fun e w1 => e = .returned (.agg #[.string (Cn.txt "shift"), .int .i64 1, .int .i64 1, .int .i64 1, .int .i64 1, .int .i64 64, .string ⟨#[]⟩, .int .i64 0, .bool false]) ∧ Below w.heap.size w w1) := hide ((row_any 4 _ (hg.on B0) (by unfold I64; decide)).mono (by
    rintro e w1 ⟨rfl, hb⟩
    exact ⟨by rw [rowV4], B0.trans (hb.mono B0.size)⟩))
  clear hg B0
  generalize Cn.txt "shift" = tx at *
  go_enter Tryz.func119, Tryz.ntmps119
  go_wp2_with fail
  refine (unhide K).mono ?_
  rintro e w1 ⟨rfl, hb⟩
  have HB := hide hb
  have hsz := hb.size
  clear K hb
  go_wp2_with fail
  refine (repeat_1 129 b (w1.heap.size + 1) _ (by simp [go_sem, stF])).mono ?_
  rintro e w2 ⟨he, hw2⟩
  obtain rfl : e = .returned (.slice (some ⟨w1.heap.size + 2, 0, none⟩) 1 1) := by rw [he]; simp
  clear he
  have hr2 : w2.heap[w1.heap.size]? = some (.cells #[.string tx, .int .i64 1, .int .i64 1, .int .i64 1, .int .i64 1, .int .i64 64, .string ⟨#[]⟩, .int .i64 0, .bool false] 99 (0, 0)) := by
    rw [hw2]; simp [World.alloc, -World.alloc_eq, Array.getElem?_push]; omega
  have hs2 : w2.heap.size = w1.heap.size + 3 := by rw [hw2]; simp
  have b2 : Below w.heap.size w w2 := by
    rw [hw2]
    exact (((unhide HB).alloc (by omega) _).alloc (by simp; omega) _).alloc (by simp; omega) _
  have own2 : w2.ownsRow w.heap.size 113 1 (.slice (some ⟨w1.heap.size + 2, 0, none⟩) 1 1) 1 [stF 129 b] := by
    refine ⟨rfl, .inr ⟨_, 1, #[stF 129 b], rfl, by omega, ?_, Nat.le_refl _, by unfold maxLen; omega, rfl, rfl⟩⟩
    rw [hw2]
    have hh := heap_new ((w1.alloc (.cells #[.string tx, .int .i64 1, .int .i64 1, .int .i64 1, .int .i64 1, .int .i64 64, .string ⟨#[]⟩, .int .i64 0, .bool false] 99)).alloc (.cells #[stF 129 b] 113)) (.cells #[stF 129 b] 113)
    have hz : ((w1.alloc (.cells #[.string tx, .int .i64 1, .int .i64 1, .int .i64 1, .int .i64 1, .int .i64 64, .string ⟨#[]⟩, .int .i64 0, .bool false] 99)).alloc (.cells #[stF 129 b] 113)).heap.size = w1.heap.size + 2 := by simp
    rw [hz] at hh
    exact hh
  have hlt2 : w1.heap.size + 2 < w2.heap.size := by omega
  clear hs2 hw2
  generalize w1.heap.size = r at *
  have c5 := obj_cell hr2 5 (by simp)
  have HR2 := hide hr2
  have OW2 := hide own2
  have B2 := hide b2
  clear hr2 own2 b2 HB
  have c5 : w2.cell? ⟨r, 5, none⟩ = some (.int .i64 64) := c5
  go_wp2_with (at_builtin; refine wpList_append_own_at _ rfl (.tmp 19) (.tmp 22) 109 rfl w.heap.size 113 i0 .nilFunc 1 8 Tryz.underlying109 hi0 hz0 hz1 hz2 rfl (by decide) _ _ _ rfl ((unhide OW2).alloc _) ⟨w2.heap.size, 0, none⟩ 1 1 [stF 130 b] rfl rfl (cell_one_new _ _ _) (func_one _ _) (by unfold maxLen; omega) (by omega) (by simp; omega) ?_)
  intro v3 w3 own3 gr3 _ at3
  have b3 : Below w.heap.size w w3 := below_append0 (by simp; omega) ((unhide OW2).alloc _) ((unhide B2).alloc (by omega) _) gr3
  have hr3 : w3.heap[r]? = some (.cells #[.string tx, .int .i64 1, .int .i64 1, .int .i64 1, .int .i64 1, .int .i64 64, .string ⟨#[]⟩, .int .i64 0, .bool false] 99 (0, 0)) := by
    rw [gr3.block r (by simp; omega) (by simp [Value.ownBlock]), ((Below.refl w2.heap.size w2).alloc (Nat.le_refl _) _).block r (by omega)]
    exact unhide HR2
  have hn3 : some r ≠ v3.ownBlock := by
    rcases at3 with h | h
    · rw [h]; simp [Value.ownBlock]
    · rw [h]; simp; omega
  have hlt3 : r < w3.heap.size := by have := gr3.size; simp at this; omega
  have hsz3 : w.heap.size ≤ w3.heap.size := b3.size
  have c7 : w3.cell? ⟨r, 7, none⟩ = some (.int .i64 0) := obj_cell hr3 7 (by simp)
  have HR3 := hide hr3
  have OW3 := hide own3
  have B3 := hide b3
  have HN3 := hide hn3
  clear hr3 own3 b3 hn3 gr3 at3 OW2 HR2 B2 c5 hlt2
  go_wp2_with (at_builtin; refine wpList_append_own_at _ rfl (.tmp 24) (.tmp 32) 109 rfl w.heap.size 113 i0 .nilFunc 1 8 Tryz.underlying109 hi0 hz0 hz1 hz2 rfl (by decide) _ _ _ rfl ((unhide OW3).alloc _) ⟨w3.heap.size, 0, none⟩ 0 2 [] rfl rfl (by intro j u hj; simp at hj) (by intro u hu; simp at hu) (by unfold maxLen; omega) (by omega) (by simp; omega) ?_)
  intro v4 w4 own4 gr4 _ at4
  have b4 : Below w.heap.size w w4 := below_append0 (by simp; omega) ((unhide OW3).alloc _) ((unhide B3).alloc (by omega) _) gr4
  have hr4 : w4.heap[r]? = some (.cells #[.string tx, .int .i64 1, .int .i64 1, .int .i64 1, .int .i64 1, .int .i64 64, .string ⟨#[]⟩, .int .i64 0, .bool false] 99 (0, 0)) := by
    rw [gr4.block r (by simp; omega) (unhide HN3), ((Below.refl w3.heap.size w3).alloc (Nat.le_refl _) _).block r (by omega)]
    exact unhide HR3
  have d8 : w4.cell? ⟨r, 8, none⟩ = some (.bool false) := obj_cell hr4 8 (by simp)
  have d3 : w4.cell? ⟨r, 3, none⟩ = some (.int .i64 1) := obj_cell hr4 3 (by simp)
  have d2 : w4.cell? ⟨r, 2, none⟩ = some (.int .i64 1) := obj_cell hr4 2 (by simp)
  have HF : Hid (∀ k, StB w b [129, 130] 0 (.returned (.tuple #[v4, .int .i64 0])) (w4.drewN k)) := hide fun k => ⟨v4, rfl, ⟨by simp, own4⟩, b4.trans ((drewN_below w4 k).mono b4.size)⟩
  clear hr4 own4 b4 gr4 at4 OW3 HR3 B3 HN3 c7 hlt3 hsz3 hi0 hz0 hz1 hz2
  go_wp2
  go_quiet (fail)
  go_wp2
  go_ret2
  exact (unhide HF) _
set_option maxRecDepth 8000 in
set_option maxHeartbeats 1000000 in
theorem end_14 (b : Nat) (w : World) (hg : Glob w) : Calls Tryz.prog 119 #[.agg #[.int .i64 14], .pointer (some ⟨b, 0, none⟩)] w (StB w b [133] 0) := by
  obtain ⟨i0, hi0, hz0, hz1, hz2⟩ := info_parts info_step
  have B0 : Below w.heap.size w (w.alloc (.cells #[.int .i64 14] 60)) := (Below.refl w.heap.size w).alloc (Nat.le_refl _) _
  have K : Hid (Calls Tryz.prog 41 #[.agg #[.int .i64 14]] (w.alloc (.cells #[.int .i64 14] 60)) fun e w1 => e = .returned (.agg #[.string (Cn.txt "weight"), .int .i64 9, .int .i64 0, .int .i64 0, .int .i64 0, .int .i64 0, .string ⟨#[]⟩, .int .i64 0, .bool true]) ∧ Below w.heap.size w w1) := hide ((row_any 14 _ (hg.on B0) (by unfold I64; decide)).mono (by
    rintro e w1 ⟨rfl, hb⟩
    exact ⟨by rw [rowV14], B0.trans (hb.mono B0.size)⟩))
  clear hg B0
  generalize Cn.txt "weight" = tx at *
  go_enter Tryz.func119, Tryz.ntmps119
  go_wp2_with fail
  refine (unhide K).mono ?_
  rintro e w1 ⟨rfl, hb⟩
  have HB := hide hb
  have hsz := hb.size
  clear K hb
  go_wp2_with fail
  refine (repeat_0 (w1.heap.size + 1) _).mono ?_
  rintro e w2 ⟨he, hw2⟩
  obtain rfl : e = .returned (.slice (some ⟨w1.heap.size + 2, 0, none⟩) 0 0) := by rw [he]; simp
  clear he
  have hr2 : w2.heap[w1.heap.size]? = some (.cells #[.string tx, .int .i64 9, .int .i64 0, .int .i64 0, .int .i64 0, .int .i64 0, .string ⟨#[]⟩, .int .i64 0, .bool true] 99 (0, 0)) := by
    rw [hw2]; simp [World.alloc, -World.alloc_eq, Array.getElem?_push]; omega
  have hs2 : w2.heap.size = w1.heap.size + 3 := by rw [hw2]; simp
  have b2 : Below w.heap.size w w2 := by
    rw [hw2]
    exact (((unhide HB).alloc (by omega) _).alloc (by simp; omega) _).alloc (by simp; omega) _
  have own2 : w2.ownsRow w.heap.size 113 1 (.slice (some ⟨w1.heap.size + 2, 0, none⟩) 0 0) 0 [] := by
    refine ⟨rfl, .inr ⟨_, 0, #[], rfl, by omega, ?_, Nat.le_refl _, by unfold maxLen; omega, rfl, rfl⟩⟩
    rw [hw2]
    have hh := heap_new ((w1.alloc (.cells #[.string tx, .int .i64 9, .int .i64 0, .int .i64 0, .int .i64 0, .int .i64 0, .string ⟨#[]⟩, .int .i64 0, .bool true] 99)).alloc (.cells #[stF 129 b] 113)) (.cells #[] 113)
    have hz : ((w1.alloc (.cells #[.string tx, .int .i64 9, .int .i64 0, .int .i64 0, .int .i64 0, .int .i64 0, .string ⟨#[]⟩, .int .i64 0, .bool true] 99)).alloc (.cells #[stF 129 b] 113)).heap.size = w1.heap.size + 2 := by simp
    rw [hz] at hh
    exact hh
  have hlt2 : w1.heap.size + 2 < w2.heap.size := by omega
  clear hs2 hw2
  generalize w1.heap.size = r at *
  have hl2 : r < w2.heap.size := by omega
  have c5 : w2.cell? ⟨r, 5, none⟩ = some (.int .i64 0) := obj_cell hr2 5 (by simp)
  have c7 : w2.cell? ⟨r, 7, none⟩ = some (.int .i64 0) := obj_cell hr2 7 (by simp)
  have HR2 := hide hr2
  have OW2 := hide own2
  have B2 := hide b2
  clear hr2 own2 b2 HB
  go_wp2_with (at_builtin; refine wpList_append_own_at _ rfl (.tmp 24) (.tmp 32) 109 rfl w.heap.size 113 i0 .nilFunc 1 8 Tryz.underlying109 hi0 hz0 hz1 hz2 rfl (by decide) _ _ _ rfl ((unhide OW2).alloc _) ⟨w2.heap.size, 0, none⟩ 0 2 [] rfl rfl (by intro j u hj; simp at hj) (by intro u hu; simp at hu) (by unfold maxLen; omega) (by omega) (by simp; omega) ?_)
  intro v3 w3 own3 gr3 _ at3
  have b3 : Below w.heap.size w w3 := below_append0 (by simp; omega) ((unhide OW2).alloc _) ((unhide B2).alloc (by omega) _) gr3
  have hr3 : w3.heap[r]? = some (.cells #[.string tx, .int .i64 9, .int .i64 0, .int .i64 0, .int .i64 0, .int .i64 0, .string ⟨#[]⟩, .int .i64 0, .bool true] 99 (0, 0)) := by
    rw [gr3.block r (by simp; omega) (by simp [Value.ownBlock]), ((Below.refl w2.heap.size w2).alloc (Nat.le_refl _) _).block r (by omega)]
    exact unhide HR2
  have hn3 : some r ≠ v3.ownBlock := by
    rcases at3 with h | h
    · rw [h]; simp [Value.ownBlock]
    · rw [h]; simp; omega
  have hlt3 : r < w3.heap.size := by have := gr3.size; simp at this; omega
  have hsz3 : w.heap.size ≤ w3.heap.size := b3.size
  have c8 : w3.cell? ⟨r, 8, none⟩ = some (.bool true) := obj_cell hr3 8 (by simp)
  have HR3 := hide hr3
  have OW3 := hide own3
  have B3 := hide b3
  have HN3 := hide hn3
  clear hr3 own3 b3 hn3 gr3 at3 OW2 HR2 B2 c5 c7 hlt2 hl2
  go_wp2_with (at_builtin; refine wpList_append_own_at _ rfl (.tmp 36) (.tmp 39) 109 rfl w.heap.size 113 i0 .nilFunc 1 8 Tryz.underlying109 hi0 hz0 hz1 hz2 rfl (by decide) _ _ _ rfl ((unhide OW3).alloc _) ⟨w3.heap.size, 0, none⟩ 1 1 [stF 133 b] rfl rfl (cell_one_new _ _ _) (func_one _ _) (by unfold maxLen; omega) (by omega) (by simp; omega) ?_)
  intro v4 w4 own4 gr4 _ at4
  have b4 : Below w.heap.size w w4 := below_append0 (by simp; omega) ((unhide OW3).alloc _) ((unhide B3).alloc (by omega) _) gr4
  have hr4 : w4.heap[r]? = some (.cells #[.string tx, .int .i64 9, .int .i64 0, .int .i64 0, .int .i64 0, .int .i64 0, .string ⟨#[]⟩, .int .i64 0, .bool true] 99 (0, 0)) := by
    rw [gr4.block r (by simp; omega) (unhide HN3), ((Below.refl w3.heap.size w3).alloc (Nat.le_refl _) _).block r (by omega)]
    exact unhide HR3
  have d3 : w4.cell? ⟨r, 3, none⟩ = some (.int .i64 0) := obj_cell hr4 3 (by simp)
  have d2 : w4.cell? ⟨r, 2, none⟩ = some (.int .i64 0) := obj_cell hr4 2 (by simp)
  have HF : Hid (∀ k, StB w b [133] 0 (.returned (.tuple #[v4, .int .i64 0])) (w4.drewN k)) := hide fun k => ⟨v4, rfl, ⟨by simp, own4⟩, b4.trans ((drewN_below w4 k).mono b4.size)⟩
  clear hr4 own4 b4 gr4 at4 OW3 HR3 B3 HN3 c8 hlt3 hsz3 hi0 hz0 hz1 hz2
  go_wp2
  go_quiet (fail)
  go_wp2
  go_ret2
  exact (unhide HF) _
end Go.Proofs.YtceflkeaenepcaaGreatDoor
namespace Go.Proofs.YtceflkeaenepcaaGreatDoor
open Go.RowKit
set_option maxRecDepth 8000 in
set_option maxHeartbeats 1000000 in
theorem steps_a (ty : TypeId) (kk : Int) (fs : List Nat) (h1 : 0 < fs.length) (h2 : fs.length ≤ 2)
    (hm : ∀ w, (method 543 ty (.agg #[.int .i64 kk]) "endonym/table.begin").run Tryz.prog w = .ok (375, .agg #[.int .i64 kk]) w)
    (hn : ∀ w, (method 543 ty (.agg #[.int .i64 kk]) "endonym/table.end").run Tryz.prog w = .ok (119, .agg #[.int .i64 kk]) w)
    (b : Nat) (hE : ∀ w, Glob w → Calls Tryz.prog 119 #[.agg #[.int .i64 kk], .pointer (some ⟨b, 0, none⟩)] w (StB w b fs 0))
    (k lo hi n : Int) (to : Value) (wt : Nat) (w : World) (h : Dr w b (.iface ty (.agg #[.int .i64 kk])) k lo hi n to wt) (hg : Glob w) :
    Calls Tryz.prog 49 #[.pointer (some ⟨b, 0, none⟩)] w (StB w b (377 :: fs) (1 + fs.length)) := by
  obtain ⟨i0, hi0, hz0, hz1, hz2⟩ := info_parts info_step
  have hlt := h.lt
  have c0 : w.cell? ⟨b, 0, none⟩ = some (.iface ty (.agg #[.int .i64 kk])) := h.c 0 (by omega)
  have K : Hid (Calls Tryz.prog 375 #[.agg #[.int .i64 kk], .pointer (some ⟨b, 0, none⟩)] w fun e w1 => e = .returned (.slice (some ⟨w.heap.size + 1, 0, none⟩) 1 1) ∧ w1.cell? ⟨b, 0, none⟩ = some (.iface ty (.agg #[.int .i64 kk])) ∧ w1.ownsRow w.heap.size 113 1 (.slice (some ⟨w.heap.size + 1, 0, none⟩) 1 1) 1 [stF 377 b] ∧ Below w.heap.size w w1 ∧ Calls Tryz.prog 119 #[.agg #[.int .i64 kk], .pointer (some ⟨b, 0, none⟩)] w1 (StB w1 b fs 0)) := hide ((begin_a kk b w).mono (by
    rintro e w1 ⟨rfl, hw1⟩
    have b1 : Below w.heap.size w w1 := by rw [hw1]; exact ((Below.refl w.heap.size w).alloc (Nat.le_refl _) _).alloc (by simp) _
    refine ⟨rfl, by rw [b1.cell hlt]; exact c0, ?_, b1, hE w1 (hg.on b1)⟩
    refine ⟨rfl, .inr ⟨_, 1, #[stF 377 b], rfl, by omega, ?_, Nat.le_refl _, by unfold maxLen; omega, rfl, rfl⟩⟩
    have hh := heap_new (w.alloc (.cells #[.int .i64 kk] 73)) (.cells #[stF 377 b] 113)
    have hz : (w.alloc (.cells #[.int .i64 kk] 73)).heap.size = w.heap.size + 1 := by simp
    rw [hz] at hh
    rw [hw1]
    exact hh))
  clear hg h hE
  go_enter Tryz.func49, Tryz.ntmps49
  go_wp2_with fail
  refine (unhide K).mono ?_
  rintro e w1 ⟨rfl, d0, own1, b1, hK⟩
  have OW1 := hide own1
  have B1 := hide b1
  have HK := hide hK
  clear K own1 b1 hK c0
  go_wp2_with fail
  refine (unhide HK).mono ?_
  rintro e w2 ⟨v, rfl, own2, b2⟩
  have hl1 : w.heap.size + 1 < w1.heap.size := by
    have := ((unhide OW1).lt (w.heap.size + 1) rfl).2
    exact this
  have OWa : Hid (w2.ownsRow w.heap.size 113 1 (.slice (some ⟨w.heap.size + 1, 0, none⟩) 1 1) 1 [stF 377 b]) := hide (by
    have q : Ow 113 w1 w.heap.size (.slice (some ⟨w.heap.size + 1, 0, none⟩) 1 1) [stF 377 b] := ⟨by simp, unhide OW1⟩
    exact (q.below b2).2)
  have Ba : Hid (Below w.heap.size w w2) := hide ((unhide B1).trans (b2.mono (unhide B1).size))
  obtain ⟨g, cap, rfl, hcap, hcap2⟩ := own_shape own2.2 (by simp; exact h1)
  have hcells := own2.2.cells (g := g) rfl
  have HC := hide hcells
  have hone : Hid (∀ u ∈ fs.map (stF · b), u.oneCell' = true) := hide (by intro u hu; obtain ⟨x, _, rfl⟩ := List.mem_map.mp hu; rfl)
  have hml : (fs.map (stF · b)).length = fs.length := by simp
  have HF0 : Hid (∀ v4 w4, w4.ownsRow w.heap.size 113 1 v4 (1 + fs.length) ([stF 377 b] ++ fs.map (stF · b)) → Below w.heap.size w w4 → StB w b (377 :: fs) (1 + fs.length) (.returned (.tuple #[v4, .int .i64 (1 + fs.length)])) w4) := hide (by
    intro v4 w4 ho hb
    refine ⟨v4, rfl, ⟨by simp; omega, ?_⟩, hb⟩
    have e1 : (List.map (fun x => stF x b) (377 :: fs)).length = 1 + fs.length := by simp; omega
    rw [e1]
    exact ho)
  rw [hml] at *
  have HL : Hid ((fs.map (stF · b)).length = fs.length * 1) := hide (by simp)
  have hsz := (unhide Ba).size
  generalize StB w b (377 :: fs) (1 + fs.length) = PO at *
  generalize fs.map (stF · b) = us at *
  clear own2 b2 hcells OW1 B1 HK hml
  generalize fs.length = m at *
  go_wp2_with (at_builtin; refine wpList_append_own_at _ rfl (.tmp 22) (.tmp 23) 109 rfl w.heap.size 113 i0 .nilFunc 1 8 Tryz.underlying109 hi0 hz0 hz1 hz2 rfl (by decide) _ _ _ rfl (unhide OWa) ⟨g, 0, none⟩ m cap us rfl (unhide HL) (unhide HC) (unhide hone) (by unfold maxLen; omega) (by omega) (by omega) ?_)
  intro v3 w3 own3 gr3 _ at3
  have b3 : Below w.heap.size w w3 := below_append0 (by omega) (unhide OWa) (unhide Ba) gr3
  obtain ⟨g3, cap3, rfl, hc3, hc4⟩ := own_shape own3 (by omega)
  have HF : Hid (PO (.returned (.tuple #[.slice (some ⟨g3, 0, none⟩) (1 + m) cap3, .int .i64 (1 + m)])) w3) := hide ((unhide HF0) _ w3 own3 b3)
  clear HF0 own3 gr3 at3 OWa Ba HC hone HL b3 hi0 hz0 hz1 hz2 hc3 hc4
  go_wp2
  exact unhide HF
theorem steps_4 (b : Nat) (k lo hi n : Int) (to : Value) (wt : Nat) (w : World) (h : Dr w b (.iface 75 (.agg #[.int .i64 4])) k lo hi n to wt) (hg : Glob w) :
    Calls Tryz.prog 49 #[.pointer (some ⟨b, 0, none⟩)] w (StB w b [377, 129, 130] 3) :=
  steps_a _ 4 [129, 130] (by decide) (by decide) (mBeginShifted 4) (mEndShifted 4) b (fun w hg => end_4 b w hg) k lo hi n to wt w h hg
theorem steps_14 (b : Nat) (k lo hi n : Int) (to : Value) (wt : Nat) (w : World) (h : Dr w b (.iface 73 (.agg #[.int .i64 14])) k lo hi n to wt) (hg : Glob w) :
    Calls Tryz.prog 49 #[.pointer (some ⟨b, 0, none⟩)] w (StB w b [377, 133] 2) :=
  steps_a _ 14 [133] (by decide) (by decide) (mBeginSpanned 14) (mEndSpanned 14) b (fun w hg => end_14 b w hg) k lo hi n to wt w h hg
end Go.Proofs.YtceflkeaenepcaaGreatDoor
