import Derived.Test.YtceflkeaenepcaaGreatDoorN34
import Derived.Test.YtceflkeaenepcaaGreatDoorN21
import Derived.Test.YtceflkeaenepcaaGreatDoorN20
import Derived.Lib.AppendZerosOnto
import Derived.Laws.AppendOwnNone
namespace Go.Proofs.YtceflkeaenepcaaGreatDoor
open Go.RowKit
theorem infoS6 : (Tryz.prog.info? 9).map (fun i => (i.zero, i.size, i.bytes)) = some (some (.string ⟨#[]⟩), 1, 16) := by kernel_rfl
theorem make_zero6 (w : World) : (Instr.makeSlice 54 (.int .i64 0) (.int .i64 0)).run Tryz.prog w = .ok (.slice (some ⟨w.heap.size, 0, none⟩) 0 0) (w.alloc (.cells #[] 9)) := by
  obtain ⟨i0, hi, hz0, hz1, hz2⟩ := info_parts infoS6
  have h := run_make (P := Tryz.prog) w 54 9 i0 (.string ⟨#[]⟩) Tryz.underlying54 hi hz0 .i64 .i64 0 0 (by omega) (by omega) (by rw [hz2]; omega) (by omega)
  have e : madeCells (Value.string ⟨#[]⟩).cells 0 = #[] := by apply Array.ext'; simp [madeCells]
  rw [h, hz1]
  show Result.ok _ (w.alloc (.cells (madeCells (Value.string ⟨#[]⟩).cells 0) 9)) = _
  rw [e]
  rfl
theorem make_one6 (w : World) : (Instr.makeSlice 54 (.int .i64 1) (.int .i64 1)).run Tryz.prog w = .ok (.slice (some ⟨w.heap.size, 0, none⟩) 1 1) (w.alloc (.cells #[.string ⟨#[]⟩] 9)) := by
  obtain ⟨i0, hi, hz0, hz1, hz2⟩ := info_parts infoS6
  have h := run_make (P := Tryz.prog) w 54 9 i0 (.string ⟨#[]⟩) Tryz.underlying54 hi hz0 .i64 .i64 1 1 (by omega) (by omega) (by rw [hz2]; omega) (by omega)
  have e : madeCells (Value.string ⟨#[]⟩).cells 1 = #[.string ⟨#[]⟩] := by
    apply Array.ext'
    refine List.ext_getElem (by simp [madeCells]) fun i h1 h2 => ?_
    simp [madeCells, Value.cells, Nat.mod_one]
  rw [h, hz1]
  show Result.ok _ (w.alloc (.cells (madeCells (Value.string ⟨#[]⟩).cells 1) 9)) = _
  rw [e]
  rfl
set_option maxRecDepth 8000 in
set_option maxHeartbeats 1000000 in
theorem targets_nil6 (tv : Value) (w : World) (hv : Sk .i32 w tv []) : Calls Tryz.prog 53 #[tv] w fun e w' => e = .returned (.slice (some ⟨w.heap.size, 0, none⟩) 0 0) ∧ w' = w.alloc (.cells #[] 9) := by
  obtain ⟨ao, cap, rfl, _, _⟩ := hv.shape
  have hm := make_zero6 w
  clear hv
  go_enter Tryz.func53, Tryz.ntmps53
  go_wp2
  refine wp_loop_rounds 1 ?_
  rw [rounds_succ]
  go_wp2
  go_ret
  exact ⟨rfl, rfl⟩
set_option maxRecDepth 8000 in
set_option maxHeartbeats 1000000 in
theorem targets_one6 (tv : Value) (c : Int) (w : World) (hv : Sk .i32 w tv [c]) (hs : Sn.Glob w) : Calls Tryz.prog 53 #[tv] w fun e w' => ∃ t g, nums t = Scn.pcode c ∧ e = .returned (.slice (some ⟨g, 0, none⟩) 1 1) ∧ Ow 9 w' w.heap.size (.slice (some ⟨g, 0, none⟩) 1 1) [.string t] ∧ Below w.heap.size w w' := by
  have hc : -2147483648 ≤ c ∧ c ≤ 2147483647 := by
    have := hv.1 c (by simp)
    exact ⟨this.1, this.2⟩
  obtain ⟨b, off, cap, rfl, _, _, hcl⟩ := hv.place (by simp)
  have x0 : w.cell? ⟨b, off, none⟩ = some (.int .i32 c) := by have := hcl 0 (by simp); simpa using this
  have hm := make_one6 w
  obtain ⟨w1, hw1⟩ : ∃ w1, w.alloc (.cells #[.string ⟨#[]⟩] 9) = w1 := ⟨_, rfl⟩
  rw [hw1] at hm
  have b1 : Below w.heap.size w w1 := by rw [← hw1]; exact (Below.refl _ _).alloc (Nat.le_refl _) _
  have hh1 : w1.heap[w.heap.size]? = some (.cells #[.string ⟨#[]⟩] 9 (0, 0)) := by rw [← hw1]; exact heap_new w _
  have x1 : w1.cell? ⟨b, off, none⟩ = some (.int .i32 c) := by rw [b1.cell (lt_of_cell? x0)]; exact x0
  have K := hide (Sn.pcodeC c w1 (hs.on b1) hc)
  have HB1 := hide b1
  have HH1 := hide hh1
  clear hv hcl hs b1 hh1 x0 hw1
  go_enter Tryz.func53, Tryz.ntmps53
  go_wp2
  clear hm
  refine wp_loop_rounds 2 ?_
  rw [rounds_succ]
  go_wp2_with fail
  refine (unhide K).mono ?_
  rintro e w2 ⟨t, hn, rfl, b2⟩
  have hh2 : w2.heap[w.heap.size]? = some (.cells #[.string ⟨#[]⟩] 9 (0, 0)) := by rw [b2.block _ (Array.getElem?_eq_some_iff.1 (unhide HH1)).1]; exact unhide HH1
  have y1 := cell_of (j := 0) hh2 (by simp)
  have y2 := frozen_of (j := 0) hh2
  have hrow : Ow 9 (w2.setCell ⟨w.heap.size, 0, none⟩ (.string t)) w.heap.size (.slice (some ⟨w.heap.size, 0, none⟩) 1 1) [.string t] := ⟨by simp, rfl, .inr ⟨_, 1, _, rfl, Nat.le_refl _, set_block hh2 _, Nat.le_refl _, by unfold maxLen; omega, rfl, rfl⟩⟩
  have hbel := (bthen (unhide HB1) b2).setCell (p := ⟨w.heap.size, 0, none⟩) (Nat.le_refl _) (.string t)
  have HF := hide (And.intro hrow hbel)
  have HN := hide hn
  clear K b2 hh2 hrow hbel x1 HB1 HH1 hn
  go_wp2
  rw [rounds_succ]
  go_wp2
  go_ret
  exact ⟨t, w.heap.size, unhide HN, rfl, (unhide HF).1, (unhide HF).2⟩
end Go.Proofs.YtceflkeaenepcaaGreatDoor
namespace Go.Proofs.YtceflkeaenepcaaGreatDoor
open Go.RowKit
theorem app_str6 {w : World} {ops : Array Oper} {rest : List Oper} {o : Oper} {a : Act} {Q : Exit → Act → World → Prop} (hgd : o.guard = none) (s x : Operand)
    (ho : o.op = .call { callee := .builtin .append, args := #[s, x], argTypes := #[54, 54] }) (B : Nat) (v : Value) (us news : List Value) (ad : Addr) (m c : Nat) (hs : a.eval s = v) (hx : a.eval x = .slice (some ad) m c) (hm : news.length = m)
    (hv : Ow 9 w B v us) (hu : ∀ j u, news[j]? = some u → w.cell? (ad.add j) = some u) (h1 : ∀ u ∈ news, u.oneCell' = true) (hl : us.length + m ≤ 1000) (hB : B ≤ w.heap.size)
    (h : ∀ v' w', Ow 9 w' B v' (us ++ news) → w.grownBy w' v.ownBlock → wpList Tryz.prog ops Q rest (a.put o.dst v') w') : wpList Tryz.prog ops Q (o :: rest) a w := by
  obtain ⟨i0, hi, hz0, hz1, hz2⟩ := info_parts infoS6
  refine wpList_append_own w hgd s x 54 ho B 9 i0 (.string ⟨#[]⟩) 1 16 Tryz.underlying54 hi hz0 hz1 hz2 rfl (by decide) v _ _ hs hv.2 ad m c news hx (by omega) hu h1 (by unfold maxLen; omega) (by omega) hB ?_
  intro v' w' q1 q2 _
  refine h v' w' ⟨by rw [List.length_append]; omega, ?_⟩ q2
  rw [List.length_append, hm]
  exact q1
theorem app_nil6 {w : World} {ops : Array Oper} {rest : List Oper} {o : Oper} {a : Act} {Q : Exit → Act → World → Prop} (hgd : o.guard = none) (s x : Operand)
    (ho : o.op = .call { callee := .builtin .append, args := #[s, x], argTypes := #[54, 54] }) (ad : Addr) (c : Nat) (hs : a.eval s = .slice none 0 0) (hx : a.eval x = .slice (some ad) 0 c)
    (h : ∀ w', w.grownBy w' none → wpList Tryz.prog ops Q rest (a.put o.dst (.slice none 0 0)) w') : wpList Tryz.prog ops Q (o :: rest) a w := by
  obtain ⟨i0, hi, hz0, hz1, hz2⟩ := info_parts infoS6
  refine wpList_append_own w hgd s x 54 ho w.heap.size 9 i0 (.string ⟨#[]⟩) 1 16 Tryz.underlying54 hi hz0 hz1 hz2 rfl (by decide) _ _ _ hs (World.ownsRow_nil _ _ _ _) ad 0 c [] hx rfl (by simp) (by simp) (by unfold maxLen; omega) (by omega) (Nat.le_refl _) ?_
  intro v' w' _ q2 q3
  obtain rfl := q3.2 ⟨rfl, rfl⟩
  exact h w' q2
theorem one_cell6 (W : World) (t : ByteArray) : ∀ j u, [Value.string t][j]? = some u → (W.alloc (.cells #[.string t] 9)).cell? ((⟨W.heap.size, 0, none⟩ : Addr).add j) = some u := by
  intro j u h
  rw [addr_add, Nat.zero_add]
  match j, h with
  | 0, h => rw [cell_of (j := 0) (heap_new W _) (by simp)]; simpa using h
theorem ow_shape6 {w : World} {B : Nat} {v : Value} {us : List Value} (h : Ow 9 w B v us) (h0 : 0 < us.length) : ∃ g cap, v = .slice (some ⟨g, 0, none⟩) us.length cap ∧ us.length ≤ cap ∧ cap ≤ 9223372036854775807 := own_shape h.2 h0
set_option maxRecDepth 8000 in
set_option maxHeartbeats 1000000 in
theorem row_print6 (w : World) (hs : Sn.Glob w) : Calls Tryz.prog 136 #[.agg #[.string (Cn.txt "shift"), .int .i64 1, .int .i64 1, .int .i64 1, .int .i64 1, .int .i64 64, .string ⟨#[]⟩, .int .i64 0, .bool false], .int .i64 1] w (Sn.TextNew w (Scn.pwhole 1)) := by
  obtain ⟨w1, hw1⟩ : ∃ w1, w.alloc (.cells #[.string (Cn.txt "shift"), .int .i64 1, .int .i64 1, .int .i64 1, .int .i64 1, .int .i64 64, .string ⟨#[]⟩, .int .i64 0, .bool false] 99) = w1 := ⟨_, rfl⟩
  have b1 : Below w.heap.size w w1 := by rw [← hw1]; exact (Below.refl _ _).alloc (Nat.le_refl _) _
  have K := hide (Sn.pwholeC 1 w1 (hs.on b1) (by omega))
  have hh := heap_new w (.cells #[.string (Cn.txt "shift"), .int .i64 1, .int .i64 1, .int .i64 1, .int .i64 1, .int .i64 64, .string ⟨#[]⟩, .int .i64 0, .bool false] 99)
  rw [hw1] at hh
  have x6 : w1.cell? ⟨w.heap.size, 6, none⟩ = some (.string ⟨#[]⟩) := cell_of (j := 6) hh (by simp)
  have HB := hide b1
  clear hs b1 hh
  generalize Cn.txt "shift" = sh at *
  go_enter Tryz.func136, Tryz.ntmps136
  go_wp2_with fail
  refine (unhide K).mono ?_
  rintro e w2 ⟨t, hn, rfl, b2⟩
  have HF : Hid (Sn.TextNew w (Scn.pwhole 1) (.returned (.string t)) w2) := ⟨t, hn, rfl, bthen (unhide HB) b2⟩
  clear K hn b2 HB
  go_wp2
  go_ret
  exact unhide HF
set_option maxRecDepth 8000 in
set_option maxHeartbeats 2000000 in
theorem rest_4 (lo hi : Int) (tq : Value) (wt : Nat) (w : World) (hg : Glob w) (hs : Sn.Glob w) :
    Calls Tryz.prog 124 #[.agg #[.int .i64 4], .agg #[.int .i64 4, .int .i64 lo, .int .i64 hi, .int .i64 1, tq, .string ⟨#[]⟩, .string ⟨#[]⟩, .float .f64 wt]] w fun e w' => ∃ v t, nums t = Scn.pwhole 1 ∧ e = .returned v ∧ Ow 9 w' w.heap.size v [.string t] ∧ Below w.heap.size w w' := by
  obtain ⟨wa, hwa⟩ : ∃ wa, w.alloc (.cells #[.int .i64 4] 60) = wa := ⟨_, rfl⟩
  obtain ⟨wb, hwb⟩ : ∃ wb, wa.alloc (.cells #[.int .i64 4, .int .i64 lo, .int .i64 hi, .int .i64 1, tq, .string ⟨#[]⟩, .string ⟨#[]⟩, .float .f64 wt] 29) = wb := ⟨_, rfl⟩
  have sa : wa.heap.size = w.heap.size + 1 := by rw [← hwa]; simp
  have ba : Below w.heap.size w wa := by rw [← hwa]; exact (Below.refl _ _).alloc (Nat.le_refl _) _
  have bb : Below wa.heap.size wa wb := by rw [← hwb]; exact (Below.refl _ _).alloc (Nat.le_refl _) _
  have KR := hide (row_any 4 wb ((hg.on ba).on bb) (by unfold I64; omega))
  rw [rowV4] at KR
  have KP : Hid (∀ W, Below w.heap.size w W → Calls Tryz.prog 136 #[.agg #[.string (Cn.txt "shift"), .int .i64 1, .int .i64 1, .int .i64 1, .int .i64 1, .int .i64 64, .string ⟨#[]⟩, .int .i64 0, .bool false], .int .i64 1] W (Sn.TextNew W (Scn.pwhole 1))) := fun W hW => row_print6 W (hs.on hW)
  have ha := heap_new w (.cells #[.int .i64 4] 60)
  rw [hwa] at ha
  have hb := heap_new wa (.cells #[.int .i64 4, .int .i64 lo, .int .i64 hi, .int .i64 1, tq, .string ⟨#[]⟩, .string ⟨#[]⟩, .float .f64 wt] 29)
  rw [hwb] at hb
  have x0 : wb.cell? ⟨w.heap.size, 0, none⟩ = some (.int .i64 4) := by rw [bb.cell (by show w.heap.size < _; omega)]; exact cell_of (j := 0) ha (by simp)
  have HREC : Hid (∀ W, Below wb.heap.size wb W → W.cell? ⟨wa.heap.size, 3, none⟩ = some (.int .i64 1) ∧ W.cell? ⟨wa.heap.size, 5, none⟩ = some (.string ⟨#[]⟩) ∧ W.cell? ⟨wa.heap.size, 6, none⟩ = some (.string ⟨#[]⟩)) := fun W hW => by
    have e : W.heap[wa.heap.size]? = _ := (hW.block _ (Array.getElem?_eq_some_iff.1 hb).1).trans hb
    exact ⟨cell_of (j := 3) e (by simp), cell_of (j := 5) e (by simp), cell_of (j := 6) e (by simp)⟩
  have HB := hide (bthen ba bb)
  clear hg hs ba bb ha hb
  generalize Cn.txt "shift" = sh at *
  go_enter Tryz.func124, Tryz.ntmps124
  go_wp2_with fail
  refine (unhide KR).mono ?_
  rintro e w1 ⟨rfl, b1⟩
  have bc : Below w1.heap.size w1 (w1.alloc (.cells #[.string sh, .int .i64 1, .int .i64 1, .int .i64 1, .int .i64 1, .int .i64 64, .string ⟨#[]⟩, .int .i64 0, .bool false] 99)) := (Below.refl _ _).alloc (Nat.le_refl _) _
  have hc := heap_new w1 (.cells #[.string sh, .int .i64 1, .int .i64 1, .int .i64 1, .int .i64 1, .int .i64 64, .string ⟨#[]⟩, .int .i64 0, .bool false] 99)
  have HCR := hide hc
  have HROW : Hid (∀ W, Below (w1.alloc (.cells #[.string sh, .int .i64 1, .int .i64 1, .int .i64 1, .int .i64 1, .int .i64 64, .string ⟨#[]⟩, .int .i64 0, .bool false] 99)).heap.size (w1.alloc (.cells #[.string sh, .int .i64 1, .int .i64 1, .int .i64 1, .int .i64 1, .int .i64 64, .string ⟨#[]⟩, .int .i64 0, .bool false] 99)) W → W.cell? ⟨w1.heap.size, 5, none⟩ = some (.int .i64 64) ∧ W.cell? ⟨w1.heap.size, 7, none⟩ = some (.int .i64 0) ∧ W.cell? ⟨w1.heap.size, 8, none⟩ = some (.bool false) ∧ W.cell? ⟨wa.heap.size, 5, none⟩ = some (.string ⟨#[]⟩) ∧ W.cell? ⟨wa.heap.size, 6, none⟩ = some (.string ⟨#[]⟩)) := fun W hW => by
    have e := (hW.block _ (Array.getElem?_eq_some_iff.1 (unhide HCR)).1).trans (unhide HCR)
    obtain ⟨_, r5, r6⟩ := (unhide HREC) W (bthen (bthen b1 bc) hW)
    exact ⟨cell_of (j := 5) e (by simp), cell_of (j := 7) e (by simp), cell_of (j := 8) e (by simp), r5, r6⟩
  obtain ⟨z3, _, _⟩ := (unhide HREC) (w1.alloc (.cells #[.string sh, .int .i64 1, .int .i64 1, .int .i64 1, .int .i64 1, .int .i64 64, .string ⟨#[]⟩, .int .i64 0, .bool false] 99)) (bthen b1 bc)
  skip
  have Bc := bthen (bthen (unhide HB) b1) bc
  have K2 := hide ((unhide KP) (w1.alloc (.cells #[.string sh, .int .i64 1, .int .i64 1, .int .i64 1, .int .i64 1, .int .i64 64, .string ⟨#[]⟩, .int .i64 0, .bool false] 99)) Bc)
  have HBC := hide Bc
  rw [sa] at z3
  clear KR KP HREC b1 bc hc x0 HB Bc HCR
  go_wp2_with fail
  refine (unhide K2).mono ?_
  rintro e w2 ⟨t, hn, rfl, b2⟩
  obtain ⟨w3, hw3⟩ : ∃ w3, w2.alloc (.cells #[.string t] 9) = w3 := ⟨_, rfl⟩
  have b3 : Below w2.heap.size w2 w3 := by rw [← hw3]; exact (Below.refl _ _).alloc (Nat.le_refl _) _
  have hl := one_cell6 w2 t
  rw [hw3] at hl
  have HL := hide hl
  have HB3 := hide (bthen b2 b3)
  have HBW := hide (bthen (unhide HBC) (bthen b2 b3))
  have hs3 := (bthen (unhide HBC) (bthen b2 b3)).size
  have HN := hide hn
  clear K2 b2 b3 hl hn HBC z3
  go_wp2_with (at_builtin; refine app_str6 rfl (.tmp 12) (.tmp 17) rfl w3.heap.size _ [] [.string t] ⟨w2.heap.size, 0, none⟩ 1 1 rfl rfl rfl (Ow.nil _ _ _) (unhide HL) (by simp [Value.oneCell']) (by simp) (Nat.le_refl _) ?_)
  intro v4 w4 ow4 g4
  have b4 : Below w3.heap.size w3 w4 := (Below.refl _ _).grown g4 (Nat.le_refl _) (fun k hk => by cases hk)
  obtain ⟨_, y7, y8, y5, y6⟩ := (unhide HROW) w4 (bthen (unhide HB3) b4)
  obtain ⟨w5, hw5⟩ : ∃ w5, w4.alloc (.cells #[.string ⟨#[]⟩, .string ⟨#[]⟩] 9) = w5 := ⟨_, rfl⟩
  have b5 : Below w4.heap.size w4 w5 := by rw [← hw5]; exact (Below.refl _ _).alloc (Nat.le_refl _) _
  have hB4 : Below w.heap.size w w4 := (unhide HBW).grown g4 hs3 (fun k hk => by cases hk)
  have hB5 := bthen hB4 b5
  have hs5 := hB5.size
  have ow5 := ow4.below b5
  obtain ⟨_, u7, u8, _, _⟩ := (unhide HROW) w5 (bthen (bthen (unhide HB3) b4) b5)
  obtain ⟨g, cp, hv4, hca, hcb⟩ := ow_shape6 ow4 (by simp)
  simp only [List.length_singleton] at hv4 hca
  subst hv4
  have HO5 := hide ow5
  have HB5 := hide hB5
  have HR5 := hide (bthen (bthen (unhide HB3) b4) b5)
  have HLT : Hid (∀ k, (Value.slice (some ⟨g, 0, none⟩) 1 cp).ownBlock = some k → w3.heap.size ≤ k) := fun k hk => (ow4.2.lt k hk).1
  have hs35 := (bthen b4 b5).size
  have h13 : w1.heap.size < w3.heap.size := by
    have h1 := (unhide HB3).size
    simp at h1
    omega
  rw [sa] at y5 y6
  clear ow4 g4 b4 b5 hB4 hB5 ow5 HB3 HBW HL
  go_wp2_with (at_builtin; refine app_str6 rfl (.tmp 19) (.tmp 27) rfl w3.heap.size _ [.string t] [] ⟨w4.heap.size, 0, none⟩ 0 2 rfl rfl rfl (unhide HO5) (by simp) (by simp) (by simp) hs35 ?_)
  intro v6 w6 ow6 g6
  have hw6 : w6.cell? ⟨w1.heap.size, 8, none⟩ = some (.bool false) := g6.cell u8 (fun e => by
    have h3 : w3.heap.size ≤ w1.heap.size := (unhide HLT) _ e.symm
    omega)
  have b6 : Below w.heap.size w w6 := (unhide HB5).grown g6 hs5 (fun k hk => by have := (unhide HLT) k hk; omega)
  have HF : Hid (Ow 9 w6 w.heap.size v6 [.string t] ∧ Below w.heap.size w w6) := ⟨ow6.lower (by omega), b6⟩
  obtain ⟨g9, cp9, hv9, _, _⟩ := ow_shape6 ow6 (by simp)
  subst hv9
  clear ow6 g6 b6 HO5 HB5 HR5 HLT
  go_wp2
  go_ret
  exact ⟨_, t, unhide HN, rfl, (unhide HF).1, (unhide HF).2⟩
set_option maxRecDepth 8000 in
set_option maxHeartbeats 2000000 in
theorem rest_14 (lo hi : Int) (tq : Value) (w : World) (hg : Glob w) (hs : Sn.Glob w) :
    Calls Tryz.prog 124 #[.agg #[.int .i64 14], .agg #[.int .i64 14, .int .i64 lo, .int .i64 hi, .int .i64 0, tq, .string ⟨#[]⟩, .string ⟨#[]⟩, .float .f64 4598175219545276416]] w fun e w' => ∃ v, e = .returned v ∧ Ow 9 w' w.heap.size v [.string ⟨#[50, 53, 101, 45, 50]⟩] ∧ Below w.heap.size w w' := by
  obtain ⟨wa, hwa⟩ : ∃ wa, w.alloc (.cells #[.int .i64 14] 60) = wa := ⟨_, rfl⟩
  obtain ⟨wb, hwb⟩ : ∃ wb, wa.alloc (.cells #[.int .i64 14, .int .i64 lo, .int .i64 hi, .int .i64 0, tq, .string ⟨#[]⟩, .string ⟨#[]⟩, .float .f64 4598175219545276416] 29) = wb := ⟨_, rfl⟩
  have sa : wa.heap.size = w.heap.size + 1 := by rw [← hwa]; simp
  have ba : Below w.heap.size w wa := by rw [← hwa]; exact (Below.refl _ _).alloc (Nat.le_refl _) _
  have bb : Below wa.heap.size wa wb := by rw [← hwb]; exact (Below.refl _ _).alloc (Nat.le_refl _) _
  have KR := hide (row_any 14 wb ((hg.on ba).on bb) (by unfold I64; omega))
  rw [rowV14] at KR
  have KP : Hid (∀ W, Below w.heap.size w W → Calls Tryz.prog 137 #[.float .f64 4598175219545276416] W fun e w' => e = .returned (.string ⟨#[50, 53, 101, 45, 50]⟩) ∧ Below W.heap.size W w') := fun W hW => print6 W (hs.on hW).2.1
  have ha := heap_new w (.cells #[.int .i64 14] 60)
  rw [hwa] at ha
  have hb := heap_new wa (.cells #[.int .i64 14, .int .i64 lo, .int .i64 hi, .int .i64 0, tq, .string ⟨#[]⟩, .string ⟨#[]⟩, .float .f64 4598175219545276416] 29)
  rw [hwb] at hb
  have x0 : wb.cell? ⟨w.heap.size, 0, none⟩ = some (.int .i64 14) := by rw [bb.cell (by show w.heap.size < _; omega)]; exact cell_of (j := 0) ha (by simp)
  have HREC : Hid (∀ W, Below wb.heap.size wb W → W.cell? ⟨w.heap.size + 1, 7, none⟩ = some (.float .f64 4598175219545276416) ∧ W.cell? ⟨w.heap.size + 1, 5, none⟩ = some (.string ⟨#[]⟩) ∧ W.cell? ⟨w.heap.size + 1, 6, none⟩ = some (.string ⟨#[]⟩)) := fun W hW => by
    have e := (hW.block _ (Array.getElem?_eq_some_iff.1 hb).1).trans hb
    rw [sa] at e
    exact ⟨cell_of (j := 7) e (by simp), cell_of (j := 5) e (by simp), cell_of (j := 6) e (by simp)⟩
  have HB := hide (bthen ba bb)
  clear hg hs ba bb ha hb
  generalize Cn.txt "weight" = sh at *
  go_enter Tryz.func124, Tryz.ntmps124
  go_wp2_with fail
  refine (unhide KR).mono ?_
  rintro e w1 ⟨rfl, b1⟩
  have bc : Below w1.heap.size w1 (w1.alloc (.cells #[.string sh, .int .i64 9, .int .i64 0, .int .i64 0, .int .i64 0, .int .i64 0, .string ⟨#[]⟩, .int .i64 0, .bool true] 99)) := (Below.refl _ _).alloc (Nat.le_refl _) _
  have b2 : Below ((w1.alloc (.cells #[.string sh, .int .i64 9, .int .i64 0, .int .i64 0, .int .i64 0, .int .i64 0, .string ⟨#[]⟩, .int .i64 0, .bool true] 99))).heap.size (w1.alloc (.cells #[.string sh, .int .i64 9, .int .i64 0, .int .i64 0, .int .i64 0, .int .i64 0, .string ⟨#[]⟩, .int .i64 0, .bool true] 99)) (((w1.alloc (.cells #[.string sh, .int .i64 9, .int .i64 0, .int .i64 0, .int .i64 0, .int .i64 0, .string ⟨#[]⟩, .int .i64 0, .bool true] 99))).alloc (.cells #[.string ⟨#[]⟩, .string ⟨#[]⟩] 9)) := (Below.refl _ _).alloc (Nat.le_refl _) _
  obtain ⟨z7, z5, z6⟩ := (unhide HREC) _ (bthen b1 bc)
  obtain ⟨W2, hW2⟩ : ∃ W2, ((w1.alloc (.cells #[.string sh, .int .i64 9, .int .i64 0, .int .i64 0, .int .i64 0, .int .i64 0, .string ⟨#[]⟩, .int .i64 0, .bool true] 99))).alloc (.cells #[.string ⟨#[]⟩, .string ⟨#[]⟩] 9) = W2 := ⟨_, rfl⟩
  rw [hW2] at b2
  obtain ⟨k7, _, _⟩ := (unhide HREC) _ (bthen (bthen b1 bc) b2)
  have hc := heap_new w1 (.cells #[.string sh, .int .i64 9, .int .i64 0, .int .i64 0, .int .i64 0, .int .i64 0, .string ⟨#[]⟩, .int .i64 0, .bool true] 99)
  have hc2 := (b2.block _ (Array.getElem?_eq_some_iff.1 hc).1).trans hc
  have k8 : W2.cell? ⟨w1.heap.size, 8, none⟩ = some (.bool true) := cell_of (j := 8) hc2 (by simp)
  have k7r : W2.cell? ⟨w1.heap.size, 7, none⟩ = some (.int .i64 0) := cell_of (j := 7) hc2 (by simp)
  have B2 := bthen (bthen (bthen (unhide HB) b1) bc) b2
  have hs2 := B2.size
  have HB2 := hide B2
  clear KR HREC b1 bc b2 x0 HB B2 hc hc2
  go_wp2_with (at_builtin; refine app_nil6 rfl (.tmp 19) (.tmp 27) rfl ⟨w1.heap.size + 1, 0, none⟩ 2 rfl rfl ?_)
  intro w4 g4
  have b4 : Below W2.heap.size W2 w4 := (Below.refl _ _).grown g4 (Nat.le_refl _) (fun k hk => by cases hk)
  have k8' : w4.cell? ⟨w1.heap.size, 8, none⟩ = some (.bool true) := by rw [b4.cell (lt_of_cell? k8)]; exact k8
  have k7' : w4.cell? ⟨w.heap.size + 1, 7, none⟩ = some (.float .f64 4598175219545276416) := by rw [b4.cell (lt_of_cell? k7)]; exact k7
  have B4 := bthen (unhide HB2) b4
  have K4 := hide ((unhide KP) w4 B4)
  have HB4 := hide B4
  clear KP b4 g4 B4 HB2 k7 k8 k7r z5 z6 z7 hW2
  go_wp2_with fail
  refine (unhide K4).mono ?_
  rintro e w5 ⟨rfl, b5⟩
  obtain ⟨w6, hw6⟩ : ∃ w6, w5.alloc (.cells #[.string ⟨#[50, 53, 101, 45, 50]⟩] 9) = w6 := ⟨_, rfl⟩
  have b6 : Below w5.heap.size w5 w6 := by rw [← hw6]; exact (Below.refl _ _).alloc (Nat.le_refl _) _
  have hl := one_cell6 w5 ⟨#[50, 53, 101, 45, 50]⟩
  rw [hw6] at hl
  have B6 := bthen (unhide HB4) (bthen b5 b6)
  have hs6 := B6.size
  have HL := hide hl
  have HB6 := hide B6
  clear K4 b5 b6 hl B6 HB4 k7' k8'
  go_wp2_with (at_builtin; refine app_str6 rfl (.tmp 31) (.tmp 35) rfl w.heap.size _ [] [.string ⟨#[50, 53, 101, 45, 50]⟩] ⟨w5.heap.size, 0, none⟩ 1 1 rfl rfl rfl (Ow.nil _ _ _) (unhide HL) (by simp [Value.oneCell']) (by simp) hs6 ?_)
  intro v7 w7 ow7 g7
  have HF : Hid (Ow 9 w7 w.heap.size v7 [.string ⟨#[50, 53, 101, 45, 50]⟩] ∧ Below w.heap.size w w7) := ⟨ow7, (unhide HB6).grown g7 hs6 (fun k hk => by cases hk)⟩
  obtain ⟨g9, cp9, hv9, _, _⟩ := ow_shape6 ow7 (by simp)
  subst hv9
  clear ow7 g7 HB6 HL
  go_wp2
  go_ret
  exact ⟨_, rfl, (unhide HF).1, (unhide HF).2⟩
end Go.Proofs.YtceflkeaenepcaaGreatDoor
namespace Go.Proofs.YtceflkeaenepcaaGreatDoor
open Go.RowKit
structure Ps6 (w : World) (b off cap : Nat) (ls : List (List Value)) : Prop where
  cap1 : ls.length ≤ cap
  cap2 : cap ≤ 9223372036854775807
  at' : ∀ i, i < ls.length → ∃ u, w.cell? ⟨b, off + i, none⟩ = some u ∧ Sv w u (ls.getD i [])
theorem Ps6.below {w w' : World} {b off cap : Nat} {ls : List (List Value)} (h : Ps6 w b off cap ls) (hb : Below w.heap.size w w') : Ps6 w' b off cap ls :=
  ⟨h.cap1, h.cap2, fun i hi => by
    obtain ⟨u, hu, hs⟩ := h.at' i hi
    exact ⟨u, by rw [hb.cell (lt_of_cell? hu)]; exact hu, hs.below hb⟩⟩
theorem app_run6 {P : Program} {w : World} {ops : Array Oper} {rest : List Oper} {o : Oper} {a : Act} {Q : Exit → Act → World → Prop} (hgd : o.guard = none) (s x : Operand) (t u : TypeId)
    (ho : o.op = .call { callee := .builtin .append, args := #[s, x], argTypes := #[t, u] }) (vs vx v' : Value) (w' : World) (hs : a.eval s = vs) (hx : a.eval x = vx)
    (hr : (Builtin.append_ #[t, u] o.type #[vs, vx]).run P w = .ok v' w') (h : wpList P ops Q rest (a.put o.dst v') w') : wpList P ops Q (o :: rest) a w := by
  refine wpList_plain hgd fun K hK => ?_
  unfold Oper.wp execOp
  simp only [ho, resolve, invoke, builtin, Sem.run_bind, Sem.run_pure, Result.andThen_ok, List.map_toArray, List.map_cons, List.map_nil, hs, hx, hr]
  exact hK _ _ h
set_option maxRecDepth 20000 in
set_option maxHeartbeats 1000000 in
theorem grow_str6 (n : Nat) (w : World) (hn : n ≤ 1000) (h0 : 0 < n) :
    Calls Tryz.prog 62 #[.slice none 0 0, .int .i64 n] w fun e w' => ∃ v, e = .returned v ∧ w'.ownsRow w.heap.size 9 1 v 0 [] ∧ Below w.heap.size w w' := by
  obtain ⟨i0, hi, hz0, hz1, hz2⟩ := info_parts infoS6
  have hrz := fun ty => Lib.run_append_grow_zeros (P := Tryz.prog) w 54 3 ty 9 i0 (.string ⟨#[]⟩) .i64 .i64 Tryz.underlying54 Tryz.underlying3 hi hz0 none 0 0 [] (run_firstCells_none w.drew i0.size 0 0 0) n h0 (by omega) (by omega) (by omega) (by rw [hz2]; omega) (by rw [hz2]; exact growslice_fits (by omega) (by omega))
  have hge := grownCap_ge w (0 + n) 0 9
  have hcm := grownCap_le_maxLen w (0 + n) 0 9 (by unfold maxLen; omega)
  have R : (w.drew.alloc (.cells (([] : List Value).toArray ++ Builtin.zeroCells (Value.string ⟨#[]⟩).cells n ++ Builtin.zeroCells (Value.string ⟨#[]⟩).cells (grownCap w (0 + n) 0 9 - (0 + n))) 9)).ownsRow w.heap.size 9 1 (.slice (some ⟨w.heap.size, 0, none⟩) 0 (grownCap w (0 + n) 0 9)) 0 [] := by
    refine World.ownsRow_made w.drew _ _ (Nat.le_refl _) hcm ?_
    have hz1 : (Value.string ⟨#[]⟩).cells.size = 1 := rfl
    simp only [Array.size_append, List.size_toArray, size_zeroCells, hz1, List.length_nil]
    omega
  have R2 : Below w.heap.size w (w.drew.alloc (.cells (([] : List Value).toArray ++ Builtin.zeroCells (Value.string ⟨#[]⟩).cells n ++ Builtin.zeroCells (Value.string ⟨#[]⟩).cells (grownCap w (0 + n) 0 9 - (0 + n))) 9)) :=
    (Below.refl w.heap.size w).drew.alloc (Nat.le_refl _) _
  generalize w.drew.alloc (.cells (([] : List Value).toArray ++ Builtin.zeroCells (Value.string ⟨#[]⟩).cells n ++ Builtin.zeroCells (Value.string ⟨#[]⟩).cells (grownCap w (0 + n) 0 9 - (0 + n))) 9) = w1 at *
  generalize grownCap w (0 + n) 0 9 = cp at *
  simp only [Nat.zero_add] at hrz hge
  unfold maxLen at hcm
  clear hi hz0 hz1 hz2
  go_enter Tryz.func62, Tryz.ntmps62
  go_wp2_with (at_builtin; refine app_run6 rfl (.tmp 20) (.tmp 21) 54 3 rfl (.slice none 0 0) (.int .i64 n) _ _ rfl rfl (hrz _) ?_)
  all_goals
    go_ret
    exact ⟨_, rfl, R, R2⟩
theorem flat_le6 (ls : List (List Value)) (k : Nat) : (ls.take k).flatten.length ≤ ls.flatten.length := by
  have h : ls.flatten = (ls.take k).flatten ++ (ls.drop k).flatten := by rw [← List.flatten_append, List.take_append_drop]
  rw [h, List.length_append]; omega
theorem takes_snoc6 (ls : List (List Value)) (k : Nat) (h : k < ls.length) : (ls.take (k + 1)).flatten = (ls.take k).flatten ++ ls.getD k [] := by
  rw [List.take_add_one, List.flatten_append, List.getElem?_eq_getElem h]
  simp [List.getD, List.getElem?_eq_getElem h]
set_option maxRecDepth 20000 in
set_option maxHeartbeats 1000000 in
theorem concat6 (b off cap : Nat) (ls : List (List Value)) (w : World) (hs : Ps6 w b off cap ls) (hl : ls.length ≤ 100) (htot : ls.flatten.length ≤ 1000) (h0 : 0 < ls.flatten.length) (h1 : ∀ u ∈ ls.flatten, u.oneCell' = true) :
    Calls Tryz.prog 52 #[.slice (some ⟨b, off, none⟩) ls.length cap] w fun e w' => ∃ v', e = .returned v' ∧ Ow 9 w' w.heap.size v' ls.flatten ∧ Below w.heap.size w w' := by
  obtain ⟨i0, hi, hz0, hz1, hz2⟩ := info_parts infoS6
  have HS := hide hs
  have H1 := hide h1
  have hc1 := hs.cap1
  have hc2 := hs.cap2
  clear hs h1
  go_enter Tryz.func52, Tryz.ntmps52
  go_wp2
  go_loop [3, 11] (fun n i => ∃ k : Nat, k ≤ ls.length ∧ i = .int .i64 k ∧ n = .int .i64 ((ls.take k).flatten.length : Nat)) (fun _ i => ls.length - (intOf i).toNat)
  case atStart => exact ⟨0, by omega, rfl, rfl⟩
  case round =>
    obtain ⟨k, hk, rfl, rfl⟩ := hrel
    by_cases hlt : k < ls.length
    · obtain ⟨u, hcell, hu⟩ := (unhide HS).at' k hlt
      have HSN := hide (show (ls.take (k + 1)).flatten.length = (ls.take k).flatten.length + (ls.getD k []).length by rw [takes_snoc6 ls k hlt, List.length_append])
      have hb1 := flat_le6 ls (k + 1)
      rw [unhide HSN] at hb1
      clear HS H1
      generalize ls.getD k [] = zs at *
      generalize (ls.take k).flatten.length = m at *
      obtain ⟨ao2, cp2, rfl, _, _⟩ := hu.shape
      go_wp2
      go_round
      case rel => exact ⟨k + 1, by omega, by go_num, by rw [unhide HSN]; simp⟩
      case measure => simp [intOf]; omega
    · have hk' : ls.take k = ls := List.take_of_length_le (by omega)
      rw [hk']
      have HG := hide (grow_str6 ls.flatten.length w htot h0)
      clear hk'
      obtain ⟨T, hT⟩ : ∃ T, ls.flatten.length = T := ⟨_, rfl⟩
      rw [hT] at HG h0 htot ⊢
      have HTT := hide hT
      clear hT
      go_wp2_with fail
      refine (unhide HG).mono ?_
      rintro e w1 ⟨v1, rfl, ho1, hb1⟩
      have HO1 : Hid (Ow 9 w1 w.heap.size v1 []) := ⟨by simp, ho1⟩
      have HB1 := hide hb1
      clear HG ho1 hb1
      go_wp2
      go_loopw [6, 27] (fun v i wr => ∃ k : Nat, k ≤ ls.length ∧ i = .int .i64 k ∧ Ow 9 wr w.heap.size v (ls.take k).flatten ∧ Below w.heap.size w wr) (fun _ i _ => ls.length - (intOf i).toNat)
      case atStart => exact ⟨0, by omega, rfl, by simpa using unhide HO1, unhide HB1⟩
      case round =>
        clear HO1 HB1
        obtain ⟨k, hk, rfl, hown, hb⟩ := hrel
        have hsz := hb.size
        by_cases hlt2 : k < ls.length
        · obtain ⟨u, hcell, hu⟩ := ((unhide HS).below hb).at' k hlt2
          have HSN := hide (takes_snoc6 ls k hlt2)
          have hfl := flat_le6 ls (k + 1)
          rw [unhide HSN, List.length_append, unhide HTT] at hfl
          have HON : Hid (∀ x ∈ ls.getD k [], x.oneCell' = true) := fun x hx => (unhide H1) x (by
            have : x ∈ (ls.take (k + 1)).flatten := by rw [unhide HSN]; exact List.mem_append_right _ hx
            obtain ⟨l, h1, h2⟩ := List.mem_flatten.1 this
            exact List.mem_flatten.2 ⟨l, List.mem_of_mem_take h1, h2⟩)
          have HO := hide hown
          have HB := hide hb
          have HLT : Hid (∀ j, u6.ownBlock = some j → w.heap.size ≤ j) := fun j hj => (hown.2.lt j hj).1
          clear HS H1 hown hb
          obtain ⟨zs, hzs⟩ : ∃ zs, ls.getD k [] = zs := ⟨_, rfl⟩
          rw [hzs] at hu HSN HON hfl
          clear hzs
          rcases hu.src with ⟨rfl, rfl⟩ | ⟨ad, cp2, rfl, hsrc⟩
          · have HSN2 : Hid ((ls.take (k + 1)).flatten = (ls.take k).flatten) := by rw [unhide HSN, List.append_nil]; exact rfl
            clear HSN hu
            go_wp2_with (at_builtin; refine wpList_append_own_none rfl (.tmp 31) (.tmp 32) 54 rfl w.heap.size 9 i0 1 Tryz.underlying54 hi _ _ _ rfl (unhide HO).2 rfl ?_)
            go_roundw
            case rel => exact ⟨k + 1, by omega, by go_num, by rw [unhide HSN2]; exact unhide HO, unhide HB⟩
            case measure => simp [intOf]; omega
          · have HSR := hide hsrc
            clear hu hsrc
            go_wp2_with (at_builtin; refine app_str6 rfl (.tmp 31) (.tmp 32) rfl w.heap.size _ _ zs ad zs.length cp2 rfl rfl rfl (unhide HO) (unhide HSR) (unhide HON) (by omega) hsz ?_)
            intro v' w2 ow2 g2
            rw [← unhide HSN] at ow2
            have R2 : Below w.heap.size w w2 := (unhide HB).grown g2 hsz (unhide HLT)
            have HO2 := hide ow2
            have HB2 := hide R2
            clear ow2 g2 R2 HO HB HLT HSR HON HSN
            go_wp2
            go_roundw
            case rel => exact ⟨k + 1, by omega, by go_num, unhide HO2, unhide HB2⟩
            case measure => simp [intOf]; omega
        · have hk2 : ls.take k = ls := List.take_of_length_le (by omega)
          rw [hk2] at hown
          have HF := hide (And.intro hown hb)
          clear hown hk2 hb HS H1
          go_wp2
          go_ret
          exact ⟨_, rfl, (unhide HF).1, (unhide HF).2⟩
end Go.Proofs.YtceflkeaenepcaaGreatDoor
