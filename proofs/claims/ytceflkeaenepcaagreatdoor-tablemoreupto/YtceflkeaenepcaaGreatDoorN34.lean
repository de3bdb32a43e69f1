import Derived.Test.YtceflkeaenepcaaGreatDoorN33
import Derived.Test.YtceflkeaenepcaaGreatDoorN28
import Derived.Test.YtceflkeaenepcaaGreatDoorN36
namespace Go.Proofs.YtceflkeaenepcaaGreatDoor
open Go.RowKit
def TS (b j : Nat) (w : World) : Prop := match j with
  | 0 => Dr w b (.iface 75 (.agg #[.int .i64 4])) 4 0 0 0 (.slice none 0 0) 0
  | 1 => Dr w b (.iface 75 (.agg #[.int .i64 4])) 4 65 90 0 (.slice none 0 0) 0
  | n + 2 => ∃ g cap, b < g ∧ g < w.heap.size ∧ Dr w b (.iface 75 (.agg #[.int .i64 4])) 4 65 90 (if n = 0 then 0 else 1) (.slice (some ⟨g, 0, none⟩) 1 cap) 0 ∧ Ok .i32 21 w (b + 1) (.slice (some ⟨g, 0, none⟩) 1 cap) [97]
def TW (b j : Nat) (w : World) : Prop := match j with
  | 0 => Dr w b (.iface 73 (.agg #[.int .i64 14])) 14 0 0 0 (.slice none 0 0) 0
  | 1 => Dr w b (.iface 73 (.agg #[.int .i64 14])) 14 65 65 0 (.slice none 0 0) 0
  | _ => Dr w b (.iface 73 (.agg #[.int .i64 14])) 14 65 65 0 (.slice none 0 0) 4598175219545276416
theorem Dr.keep {w w' : World} {b : Nat} {sh : Value} {k lo hi n : Int} {tq : Value} {wt : Nat} (h : Dr w b sh k lo hi n tq wt) (hk : ∀ k, b ≤ k → k < w.heap.size → w'.heap[k]? = w.heap[k]?) : Dr w' b sh k lo hi n tq wt := by
  have hl := h.lt
  unfold Dr at *
  rw [hk b (Nat.le_refl _) hl]
  exact h
theorem TS.keep (b j : Nat) (w w' : World) (h : TS b j w) (hk : ∀ k, b ≤ k → k < w.heap.size → w'.heap[k]? = w.heap[k]?) : TS b j w' := by
  match j, h with
  | 0, h => exact Dr.keep h hk
  | 1, h => exact Dr.keep h hk
  | n + 2, h =>
    obtain ⟨g, cap, h1, h2, h3, h4⟩ := h
    have h4' := h4.keep (w' := w') (fun g' hg' => by simp [Value.ownBlock] at hg'; subst hg'; exact hk g (by omega) h2)
    exact ⟨g, cap, h1, (h4'.2.2.lt g rfl).2, h3.keep hk, h4'⟩
theorem TS.lt (b j : Nat) (w : World) (h : TS b j w) : b < w.heap.size := by
  match j, h with
  | 0, h => exact Dr.lt h
  | 1, h => exact Dr.lt h
  | n + 2, h => obtain ⟨g, cap, h1, h2, h3, h4⟩ := h; exact h3.lt
theorem TW.keep (b j : Nat) (w w' : World) (h : TW b j w) (hk : ∀ k, b ≤ k → k < w.heap.size → w'.heap[k]? = w.heap[k]?) : TW b j w' := by
  match j, h with
  | 0, h => exact Dr.keep h hk
  | 1, h => exact Dr.keep h hk
  | n + 2, h => exact Dr.keep h hk
theorem TW.lt (b j : Nat) (w : World) (h : TW b j w) : b < w.heap.size := by
  match j, h with
  | 0, h => exact Dr.lt h
  | 1, h => exact Dr.lt h
  | n + 2, h => exact Dr.lt h
theorem TS.step (tx : Nat → ByteArray) (h1 : tx 1 = ⟨#[52, 49, 46, 46, 53, 65]⟩) (h2 : tx 2 = ⟨#[54, 49]⟩) (h3 : tx 3 = ⟨#[49]⟩) (b j : Nat) (w : World) (hj : j < 3) (h : TS b j w) (hg : Glob w) (hs : Sn.Glob w) :
    Calls Tryz.prog ([377, 129, 130].getD j 0) #[.pointer (some ⟨b, 0, none⟩), .string (tx (j + 1))] w fun e w' => e = .returned (.bool true) ∧ TS b (j + 1) w' ∧ Gb b w w' := by
  match j, h with
  | 0, h =>
    rw [h1]
    exact dspan _ 65 90 (by omega) (by omega) b _ _ _ _ _ _ _ w h (span_a w hs)
  | 1, h =>
    rw [h2]
    have hl := Dr.lt h
    refine (dtarget b _ _ _ _ _ _ w h hs).mono ?_
    rintro e w' ⟨rfl, g, cap, q1, q2, q3, q4⟩
    exact ⟨rfl, ⟨g, cap, by omega, (q3.2.2.lt g rfl).2, q2, q3.lower (by omega)⟩, q4⟩
  | 2, h =>
    rw [h3]
    obtain ⟨g, cap, q1, q2, q3, q4⟩ := h
    refine (dcount b _ _ _ _ _ _ w q3 hg hs).mono ?_
    rintro e w' ⟨rfl, p1, p2⟩
    have q4' := q4.keep (w' := w') (fun g' hg' => by simp [Value.ownBlock] at hg'; subst hg'; exact p2.block g q2 (by simp; omega))
    exact ⟨rfl, ⟨g, cap, q1, (q4'.2.2.lt g rfl).2, p1, q4'⟩, p2⟩
theorem TW.step (tx : Nat → ByteArray) (h1 : tx 1 = ⟨#[52, 49]⟩) (h2 : tx 2 = ⟨#[50, 53, 101, 45, 50]⟩) (b j : Nat) (w : World) (hj : j < 2) (h : TW b j w) (hs : Sn.Glob w) :
    Calls Tryz.prog ([377, 133].getD j 0) #[.pointer (some ⟨b, 0, none⟩), .string (tx (j + 1))] w fun e w' => e = .returned (.bool true) ∧ TW b (j + 1) w' ∧ Gb b w w' := by
  match j, h with
  | 0, h =>
    rw [h1]
    exact dspan _ 65 65 (by omega) (by omega) b _ _ _ _ _ _ _ w h (span_b w hs)
  | 1, h =>
    rw [h2]
    exact dweight b _ _ _ _ _ _ _ w h
theorem enters_S : ∀ j, j < [377, 129, 130].length → ∀ args w, (callFunc ([377, 129, 130].getD j 0) args).run Tryz.prog w = .ok (.enter ([377, 129, 130].getD j 0) args) w := by
  intro j hj
  match j, hj with
  | 0, _ => exact enters_of Tryz.func377 (by kernel_rfl) rfl
  | 1, _ => exact enters_of Tryz.func129 (by kernel_rfl) rfl
  | 2, _ => exact enters_of Tryz.func130 (by kernel_rfl) rfl
theorem enters_W : ∀ j, j < [377, 133].length → ∀ args w, (callFunc ([377, 133].getD j 0) args).run Tryz.prog w = .ok (.enter ([377, 133].getD j 0) args) w := by
  intro j hj
  match j, hj with
  | 0, _ => exact enters_of Tryz.func377 (by kernel_rfl) rfl
  | 1, _ => exact enters_of Tryz.func133 (by kernel_rfl) rfl
theorem readWords_shift (g cap : Nat) (en : Int) (tx : Nat → ByteArray) (ps : Nat → Int) (w : World) (hg : Glob w) (hs : Sn.Glob w) (hcap : 4 ≤ cap) (hcap2 : cap ≤ 9223372036854775807)
    (hw0 : ∀ j, j < 4 → w.cell? ⟨g, j * 2, none⟩ = some (.string (tx j))) (hw1 : ∀ j, j < 4 → w.cell? ⟨g, j * 2 + 1, none⟩ = some (.int .i64 (ps j)))
    (h0 : tx 0 = ⟨#[115, 104, 105, 102, 116]⟩) (h1 : tx 1 = ⟨#[52, 49, 46, 46, 53, 65]⟩) (h2 : tx 2 = ⟨#[54, 49]⟩) (h3 : tx 3 = ⟨#[49]⟩) :
    Calls Tryz.prog 36 #[.slice (some ⟨g, 0, none⟩) 4 cap, .int .i64 en] w fun e w' =>
      ∃ g cap, e = .returned (.tuple #[.agg #[.int .i64 4, .int .i64 65, .int .i64 90, .int .i64 1, .slice (some ⟨g, 0, none⟩) 1 cap, .string ⟨#[]⟩, .string ⟨#[]⟩, .float .f64 0], .int .i64 0, .int .i64 0]) ∧
        Ok .i32 21 w' w.heap.size (.slice (some ⟨g, 0, none⟩) 1 cap) [97] ∧ Below w.heap.size w w' := by
  refine (readWords_a 4 75 [377, 129, 130] g cap en tx ps TS w hg hs hcap hcap2 (by decide) (by decide) hw0 hw1 (fun w hg => by rw [h0]; exact kindOf_shift w hg) rfl (by decide)
    (mFamilyShifted 4) (fun b w h hg => steps_4 b _ _ _ _ _ _ w h hg) (fun b w h => h) TS.keep TS.lt (fun b j w hj h hg hs => TS.step tx h1 h2 h3 b j w hj h hg hs) enters_S (fun b w h => ?_)).mono ?_
  · obtain ⟨g, cap, _, _, q, _⟩ := h
    exact ⟨_, _, _, _, _, _, _, q⟩
  · rintro e w' ⟨b, lo, hi, n, tq, wt, rfl, ⟨g, cap, q1, q2, q3, q4⟩, hD, hb, hB⟩
    have hh : some (Obj.cells _ 108 (0, 0)) = some (Obj.cells _ 108 (0, 0)) := Eq.trans (Eq.symm hD) q3
    simp only [Option.some.injEq, Obj.cells.injEq, Array.mk.injEq, List.cons.injEq, Value.int.injEq, true_and, and_true, Value.float.injEq] at hh
    obtain ⟨_, _, e1, e2, e3, e4, e5⟩ := hh
    subst e1 e2 e3 e4 e5
    exact ⟨g, cap, rfl, q4.lower (by omega), hB⟩
theorem readWords_weight (g cap : Nat) (en : Int) (tx : Nat → ByteArray) (ps : Nat → Int) (w : World) (hg : Glob w) (hs : Sn.Glob w) (hcap : 3 ≤ cap) (hcap2 : cap ≤ 9223372036854775807)
    (hw0 : ∀ j, j < 3 → w.cell? ⟨g, j * 2, none⟩ = some (.string (tx j))) (hw1 : ∀ j, j < 3 → w.cell? ⟨g, j * 2 + 1, none⟩ = some (.int .i64 (ps j)))
    (h0 : tx 0 = ⟨#[119, 101, 105, 103, 104, 116]⟩) (h1 : tx 1 = ⟨#[52, 49]⟩) (h2 : tx 2 = ⟨#[50, 53, 101, 45, 50]⟩) :
    Calls Tryz.prog 36 #[.slice (some ⟨g, 0, none⟩) 3 cap, .int .i64 en] w fun e w' =>
      e = .returned (.tuple #[.agg #[.int .i64 14, .int .i64 65, .int .i64 65, .int .i64 0, .slice none 0 0, .string ⟨#[]⟩, .string ⟨#[]⟩, .float .f64 4598175219545276416], .int .i64 0, .int .i64 0]) ∧ Below w.heap.size w w' := by
  refine (readWords_a 14 73 [377, 133] g cap en tx ps TW w hg hs hcap hcap2 (by decide) (by decide) hw0 hw1 (fun w hg => by rw [h0]; exact kindOf_weight w hg) rfl (by decide)
    (mFamilySpanned 14) (fun b w h hg => steps_14 b _ _ _ _ _ _ w h hg) (fun b w h => h) TW.keep TW.lt (fun b j w hj h hg hs => TW.step tx h1 h2 b j w hj h hs) enters_W (fun b w h => ⟨_, _, _, _, _, _, _, h⟩)).mono ?_
  rintro e w' ⟨b, lo, hi, n, tq, wt, rfl, hT, hD, hb, hB⟩
  have hh : some (Obj.cells _ 108 (0, 0)) = some (Obj.cells _ 108 (0, 0)) := Eq.trans (Eq.symm hD) hT
  simp only [Option.some.injEq, Obj.cells.injEq, Array.mk.injEq, List.cons.injEq, Value.int.injEq, true_and, and_true, Value.float.injEq] at hh
  obtain ⟨_, _, e1, e2, e3, e4, e5⟩ := hh
  subst e1 e2 e3 e4 e5
  exact ⟨rfl, hB⟩
end Go.Proofs.YtceflkeaenepcaaGreatDoor
namespace Go.Proofs.YtceflkeaenepcaaGreatDoor
open Go.RowKit
theorem rcell_new6 (W : World) (r : Rec) (vt : Value) : ∀ j u, (rcell (r, vt))[j]? = some u → (W.alloc (.cells #[.int .i64 r.kind, .int .i64 r.lo, .int .i64 r.hi, .int .i64 r.n, vt, .string r.name, .string r.other, .float .f64 r.wt] 29)).cell? ((⟨W.heap.size, 0, none⟩ : Addr).add j) = some u := by
  intro j u hj
  have hl : j < 8 := by have := (List.getElem?_eq_some_iff.1 hj).1; simpa [rcell] using this
  have h : j = 0 ∨ j = 1 ∨ j = 2 ∨ j = 3 ∨ j = 4 ∨ j = 5 ∨ j = 6 ∨ j = 7 := by omega
  rcases h with rfl | rfl | rfl | rfl | rfl | rfl | rfl | rfl <;> (simp [rcell] at hj; subst hj; rw [addr_add]; exact obj_cell (heap_new W _) _ (by simp))
theorem rown_below6 {w w' : World} {B : Nat} {v : Value} {ps : List (Rec × Value)} (h : Rown w B v ps) (hb : Below w.heap.size w w') : Rown w' B v ps :=
  ⟨own_keep h.1 (fun g hg => hb.block g (h.1.lt g hg).2), fun p hp => (h.2 p hp).below hb⟩
theorem rcell_one6 (r : Rec) (ao : Option Addr) (ln cp : Nat) : ∀ u ∈ rcell (r, .slice ao ln cp), u.oneCell' = true := by
  intro u hu
  simp [rcell] at hu
  rcases hu with rfl | rfl | rfl | rfl | rfl | rfl | rfl | rfl <;> rfl
theorem info_rec6 : (Tryz.prog.info? 29).map (fun i => (i.zero, i.size, i.bytes)) = some (some (.agg #[.int .i64 0, .int .i64 0, .int .i64 0, .int .i64 0, .slice none 0 0, .string ⟨#[]⟩, .string ⟨#[]⟩, .float .f64 0]), 8, 96) := by kernel_rfl
set_option maxRecDepth 8000 in
set_option maxHeartbeats 4000000 in
theorem withLine_a (s : ByteArray) (hs4 : s.size ≤ 400) (r : Rec) (hr : Cn.right r = 0) (hfit : RecFit r) (m : Nat) (hm : 0 < m) (en : Int) (v : Value) (ps : List (Rec × Value)) (hps : ps.length ≤ 100) (B : Nat) (w : World) (hBw : B ≤ w.heap.size) (hg : Glob w) (hown : Rown w B v ps)
    (KW : Calls Tryz.prog 35 #[.string s] w fun e w1 => ∃ g cap a0, e = .returned (.tuple #[.slice (some ⟨g, 0, none⟩) m cap, .int .i64 en]) ∧ w1.cell? ⟨g, 1, none⟩ = some (.int .i64 a0) ∧ m ≤ cap ∧ cap ≤ 9223372036854775807 ∧ Below w.heap.size w w1 ∧
      Calls Tryz.prog 36 #[.slice (some ⟨g, 0, none⟩) m cap, .int .i64 en] w1 fun e w2 => ∃ vt, e = .returned (.tuple #[recV r vt, .int .i64 0, .int .i64 0]) ∧ Ok .i32 21 w2 w1.heap.size vt r.to ∧ Below w1.heap.size w1 w2) :
    Calls Tryz.prog 25 #[v, .string s] w fun e w' => ∃ v' vt, e = .returned (.tuple #[v', .int .i64 0, .int .i64 0]) ∧ Rown w' B v' (ps ++ [(r, vt)]) ∧ Below B w w' := by
  obtain ⟨i1, hj, hy0, hy1, hy2⟩ := info_parts info_rec6
  have hsz4 : ¬ (400 < (s.size : Int)) := by omega
  obtain ⟨va, vc, rfl, hv1, hv2⟩ : ∃ ao cap, v = .slice ao ps.length cap ∧ ps.length ≤ cap ∧ cap ≤ 9223372036854775807 := by
    rcases hown.1.2 with ⟨h1, h2⟩ | ⟨g, cap, cur, h1, _, _, h4, h5, _⟩
    · exact ⟨none, 0, by rw [h1, h2], by omega, by omega⟩
    · exact ⟨_, cap, h1, h4, by unfold maxLen at h5; omega⟩
  have hpe : ((ps.length : Int) == 4096) = false := by simp; omega
  have hme : ((m : Int) == 0) = false := by simp; omega
  have K := hide KW
  have HG := hide hg
  have HO := hide hown
  clear KW hg hown
  go_enter Tryz.func25, Tryz.ntmps25
  go_wp2_with fail
  refine (unhide K).mono ?_
  rintro e w1 ⟨g, cap, a0, rfl, c1, hc1, hc2, b1, hK⟩
  have HK := hide hK
  have HB1 := hide b1
  clear K hK b1
  go_wp2_with fail
  refine (unhide HK).mono ?_
  rintro e w2 ⟨vt, rfl, hok, b2⟩
  obtain ⟨ta, tc, rfl, ht1, ht2⟩ : ∃ ao cap, vt = .slice ao r.to.length cap ∧ r.to.length ≤ cap ∧ cap ≤ 9223372036854775807 := by
    have := hok.2.sv.shape
    simpa using this
  have HOK := hide hok
  have hfl : ∀ W a m, (store a (.float .f64 r.wt) m).run Tryz.prog W = stored Tryz.prog W a (.float .f64 r.wt) m := fun W a m => run_store Tryz.prog W a _ m rfl
  have HB2 := hide ((unhide HB1).trans (b2.mono (unhide HB1).size))
  have hl12 := (unhide HB1).size
  clear HK hok b2 HB1 c1
  unfold recV
  go_wp2_with fail
  have ba : Below w2.heap.size w2 (w2.alloc (.cells #[.int .i64 r.kind, .int .i64 r.lo, .int .i64 r.hi, .int .i64 r.n, .slice ta r.to.length tc, .string r.name, .string r.other, .float .f64 r.wt] 29)) := (Below.refl w2.heap.size w2).alloc (Nat.le_refl _) _
  have hlt : w2.heap.size < (w2.alloc (.cells #[.int .i64 r.kind, .int .i64 r.lo, .int .i64 r.hi, .int .i64 r.n, .slice ta r.to.length tc, .string r.name, .string r.other, .float .f64 r.wt] 29)).heap.size := by simp
  refine (right_any r (.slice ta r.to.length tc) _ ((unhide HG).on ((unhide HB2).trans (ba.mono (unhide HB2).size))) hfit ((unhide HOK).sk.below ba)).mono ?_
  rintro e w3 ⟨rfl, b3⟩
  rw [hr]
  have hbox : w3.heap[w2.heap.size]? = some (.cells #[.int .i64 r.kind, .int .i64 r.lo, .int .i64 r.hi, .int .i64 r.n, .slice ta r.to.length tc, .string r.name, .string r.other, .float .f64 r.wt] 29 (0, 0)) := by
    rw [b3.block _ hlt]
    exact heap_new w2 _
  have b23 : Below w2.heap.size w2 w3 := ba.trans (b3.mono ba.size)
  have q0 : w3.cell? ⟨w2.heap.size, 0, none⟩ = some (.int .i64 r.kind) := obj_cell hbox 0 (by simp)
  have q1 : w3.cell? ⟨w2.heap.size, 1, none⟩ = some (.int .i64 r.lo) := obj_cell hbox 1 (by simp)
  have q2 : w3.cell? ⟨w2.heap.size, 2, none⟩ = some (.int .i64 r.hi) := obj_cell hbox 2 (by simp)
  have q3 : w3.cell? ⟨w2.heap.size, 3, none⟩ = some (.int .i64 r.n) := obj_cell hbox 3 (by simp)
  have q4 : w3.cell? ⟨w2.heap.size, 4, none⟩ = some (.slice ta r.to.length tc) := obj_cell hbox 4 (by simp)
  have q5 : w3.cell? ⟨w2.heap.size, 5, none⟩ = some (.string r.name) := obj_cell hbox 5 (by simp)
  have q6 : w3.cell? ⟨w2.heap.size, 6, none⟩ = some (.string r.other) := obj_cell hbox 6 (by simp)
  have q7 : w3.cell? ⟨w2.heap.size, 7, none⟩ = some (.float .f64 r.wt) := obj_cell hbox 7 (by simp)
  have HOK3 : Hid (Ok .i32 21 w3 B (.slice ta r.to.length tc) r.to) := hide (((unhide HOK).below b23).lower (by omega))
  have HB3 : Hid (Below w.heap.size w w3) := hide ((unhide HB2).trans (b23.mono (unhide HB2).size))
  have HO3 : Hid (Rown w3 B (.slice va ps.length vc) ps) := hide (rown_below6 (unhide HO) (unhide HB3))
  have hsz3 := (unhide HB3).size
  clear ba hlt b3 hbox b23 HOK HB2 HO HG hl12
  go_wp2_with (at_builtin; refine wpList_append_own_at _ rfl (.tmp 48) (.tmp 50) 22 rfl B 29 i1 (.agg #[.int .i64 0, .int .i64 0, .int .i64 0, .int .i64 0, .slice none 0 0, .string ⟨#[]⟩, .string ⟨#[]⟩, .float .f64 0]) 8 96 Tryz.underlying22 hj hy0 hy1 hy2 rfl (by decide) _ _ _ rfl ((unhide HO3).1.alloc _) ⟨w3.heap.size, 0, none⟩ 1 1 (rcell (r, .slice ta r.to.length tc)) rfl rfl (rcell_new6 w3 r _) (rcell_one6 r ta _ tc) (by unfold maxLen; omega) (by omega) (by simp; omega) ?_)
  intro v4 w4 own4 gr4 _ at4
  have keep : ∀ vt' zs, Ok .i32 21 w3 B vt' zs → Ok .i32 21 w4 B vt' zs := fun vt' zs h => h.keep (fun g hg => by
    have hl := (h.2.2.lt g hg).2
    rw [gr4.block g (by simp; omega) (fun e => own_apart h.2.2 (unhide HO3).1 (by decide) hg e.symm), ((Below.refl w3.heap.size w3).alloc (Nat.le_refl _) _).block g hl])
  have HF : Hid (Rown w4 B v4 (ps ++ [(r, .slice ta r.to.length tc)]) ∧ Below B w w4) := hide (by
    refine ⟨⟨?_, fun p hp => ?_⟩, ?_⟩
    · have e1 : (ps ++ [(r, Value.slice ta r.to.length tc)]).length = ps.length + 1 := by simp
      have e2 : rcells (ps ++ [(r, Value.slice ta r.to.length tc)]) = rcells ps ++ rcell (r, .slice ta r.to.length tc) := by simp [rcells]
      rw [e1, e2]
      exact own4
    · rcases List.mem_append.1 hp with hp | hp
      · exact keep _ _ ((unhide HO3).2 p hp)
      · obtain rfl := List.mem_singleton.1 hp
        exact keep _ _ (unhide HOK3)
    · exact (((unhide HB3).mono hBw).alloc (by omega) _).grown gr4 (by simp; omega) (fun k hk => ((unhide HO3).1.lt k hk).1))
  clear keep own4 gr4 at4 HO3 HOK3 HB3 q0 q1 q2 q3 q4 q5 q6 q7 hj hy0 hy1 hy2
  go_wp2
  go_ret3
  exact ⟨v4, _, rfl, (unhide HF).1, (unhide HF).2⟩
end Go.Proofs.YtceflkeaenepcaaGreatDoor
namespace Go.Proofs.YtceflkeaenepcaaGreatDoor
open Go.RowKit
theorem words_shift6 : Scn.words (nums ⟨#[115, 104, 105, 102, 116, 32, 52, 49, 46, 46, 53, 65, 32, 54, 49, 32, 49]⟩) = [([115, 104, 105, 102, 116], 0), ([52, 49, 46, 46, 53, 65], 6), ([54, 49], 13), ([49], 16)] := by decide +kernel
theorem words_weight6 : Scn.words (nums ⟨#[119, 101, 105, 103, 104, 116, 32, 52, 49, 32, 50, 53, 101, 45, 50, 32, 35, 32, 120]⟩) = [([119, 101, 105, 103, 104, 116], 0), ([52, 49], 7), ([50, 53, 101, 45, 50], 10)] := by decide +kernel
theorem words_none6 : Scn.words (nums ⟨#[]⟩) = [] := by decide +kernel
theorem str_shift6 : strOfNums [115, 104, 105, 102, 116] = ⟨#[115, 104, 105, 102, 116]⟩ := by decide +kernel
theorem str_weight6 : strOfNums [119, 101, 105, 103, 104, 116] = ⟨#[119, 101, 105, 103, 104, 116]⟩ := by decide +kernel
theorem fit_shift : RecFit (⟨4, 65, 90, 1, [97], ⟨#[]⟩, ⟨#[]⟩, 0⟩ : Rec) := by constructor <;> first | (unfold I64; decide) | decide
theorem fit_weight : RecFit (⟨14, 65, 65, 0, [], ⟨#[]⟩, ⟨#[]⟩, 4598175219545276416⟩ : Rec) := by constructor <;> first | (unfold I64; decide) | decide
theorem shift_w (w : World) (hg : Glob w) (hs : Sn.Glob w) : Calls Tryz.prog 35 #[.string ⟨#[115, 104, 105, 102, 116, 32, 52, 49, 46, 46, 53, 65, 32, 54, 49, 32, 49]⟩] w fun e w1 => ∃ g cap a0, e = .returned (.tuple #[.slice (some ⟨g, 0, none⟩) 4 cap, .int .i64 (Scn.endA (nums ⟨#[115, 104, 105, 102, 116, 32, 52, 49, 46, 46, 53, 65, 32, 54, 49, 32, 49]⟩))]) ∧ w1.cell? ⟨g, 1, none⟩ = some (.int .i64 a0) ∧ 4 ≤ cap ∧ cap ≤ 9223372036854775807 ∧ Below w.heap.size w w1 ∧
      Calls Tryz.prog 36 #[.slice (some ⟨g, 0, none⟩) 4 cap, .int .i64 (Scn.endA (nums ⟨#[115, 104, 105, 102, 116, 32, 52, 49, 46, 46, 53, 65, 32, 54, 49, 32, 49]⟩))] w1 fun e w2 => ∃ vt, e = .returned (.tuple #[recV (⟨4, 65, 90, 1, [97], ⟨#[]⟩, ⟨#[]⟩, 0⟩ : Rec) vt, .int .i64 0, .int .i64 0]) ∧ Ok .i32 21 w2 w1.heap.size vt (⟨4, 65, 90, 1, [97], ⟨#[]⟩, ⟨#[]⟩, 0⟩ : Rec).to ∧ Below w1.heap.size w1 w2 := by
  refine (Sn.wordsC _ w hs (by decide)).mono ?_
  rintro e w1 ⟨v, rfl, own, b1⟩
  rw [words_shift6] at own
  rcases own.2 with ⟨_, h0⟩ | ⟨g, cap, cur, rfl, _, _, h4, h5, _⟩
  · simp at h0
  · have cell : ∀ j u, (Sn.wvals [([115, 104, 105, 102, 116], 0), ([52, 49, 46, 46, 53, 65], 6), ([54, 49], 13), ([49], 16)])[j]? = some u → w1.cell? ⟨g, j, none⟩ = some u := fun j u h => by
      have := own.cells (g := g) rfl j u h
      rwa [addr_add, Nat.zero_add] at this
    have h5' : cap ≤ 9223372036854775807 := by unfold maxLen at h5; omega
    refine ⟨g, cap, 0, rfl, cell 1 _ (by kernel_rfl), h4, h5', b1, ?_⟩
    refine (readWords_shift g cap _ (fun j => [⟨#[115, 104, 105, 102, 116]⟩, ⟨#[52, 49, 46, 46, 53, 65]⟩, ⟨#[54, 49]⟩, ⟨#[49]⟩].getD j ⟨#[]⟩) (fun j => [0, 6, 13, 16].getD j 0) w1 (hg.on b1) (hs.on b1) h4 h5' (fun j hj => ?_) (fun j hj => ?_) rfl rfl rfl rfl).mono ?_
    · match j, hj with
      | 0, _ => exact cell 0 _ (by kernel_rfl)
      | 1, _ => exact cell 2 _ (by kernel_rfl)
      | 2, _ => exact cell 4 _ (by kernel_rfl)
      | 3, _ => exact cell 6 _ (by kernel_rfl)
    · match j, hj with
      | 0, _ => exact cell 1 _ (by kernel_rfl)
      | 1, _ => exact cell 3 _ (by kernel_rfl)
      | 2, _ => exact cell 5 _ (by kernel_rfl)
      | 3, _ => exact cell 7 _ (by kernel_rfl)
    · rintro e w2 ⟨g', cap', rfl, hok, hb⟩
      exact ⟨_, rfl, hok, hb⟩
theorem withLine_shift (v : Value) (ps : List (Rec × Value)) (hps : ps.length ≤ 100) (B : Nat) (w : World) (hBw : B ≤ w.heap.size) (hg : Glob w) (hs : Sn.Glob w) (hown : Rown w B v ps) :
    Calls Tryz.prog 25 #[v, .string ⟨#[115, 104, 105, 102, 116, 32, 52, 49, 46, 46, 53, 65, 32, 54, 49, 32, 49]⟩] w fun e w' => ∃ v' vt, e = .returned (.tuple #[v', .int .i64 0, .int .i64 0]) ∧ Rown w' B v' (ps ++ [((⟨4, 65, 90, 1, [97], ⟨#[]⟩, ⟨#[]⟩, 0⟩ : Rec), vt)]) ∧ Below B w w' :=
  withLine_a _ (by decide) (⟨4, 65, 90, 1, [97], ⟨#[]⟩, ⟨#[]⟩, 0⟩ : Rec) (by decide +kernel) fit_shift 4 (by decide) _ v ps hps B w hBw hg hown (shift_w w hg hs)
theorem weight_w (w : World) (hg : Glob w) (hs : Sn.Glob w) : Calls Tryz.prog 35 #[.string ⟨#[119, 101, 105, 103, 104, 116, 32, 52, 49, 32, 50, 53, 101, 45, 50, 32, 35, 32, 120]⟩] w fun e w1 => ∃ g cap a0, e = .returned (.tuple #[.slice (some ⟨g, 0, none⟩) 3 cap, .int .i64 (Scn.endA (nums ⟨#[119, 101, 105, 103, 104, 116, 32, 52, 49, 32, 50, 53, 101, 45, 50, 32, 35, 32, 120]⟩))]) ∧ w1.cell? ⟨g, 1, none⟩ = some (.int .i64 a0) ∧ 3 ≤ cap ∧ cap ≤ 9223372036854775807 ∧ Below w.heap.size w w1 ∧
      Calls Tryz.prog 36 #[.slice (some ⟨g, 0, none⟩) 3 cap, .int .i64 (Scn.endA (nums ⟨#[119, 101, 105, 103, 104, 116, 32, 52, 49, 32, 50, 53, 101, 45, 50, 32, 35, 32, 120]⟩))] w1 fun e w2 => ∃ vt, e = .returned (.tuple #[recV (⟨14, 65, 65, 0, [], ⟨#[]⟩, ⟨#[]⟩, 4598175219545276416⟩ : Rec) vt, .int .i64 0, .int .i64 0]) ∧ Ok .i32 21 w2 w1.heap.size vt (⟨14, 65, 65, 0, [], ⟨#[]⟩, ⟨#[]⟩, 4598175219545276416⟩ : Rec).to ∧ Below w1.heap.size w1 w2 := by
  refine (Sn.wordsC _ w hs (by decide)).mono ?_
  rintro e w1 ⟨v, rfl, own, b1⟩
  rw [words_weight6] at own
  rcases own.2 with ⟨_, h0⟩ | ⟨g, cap, cur, rfl, _, _, h4, h5, _⟩
  · simp at h0
  · have cell : ∀ j u, (Sn.wvals [([119, 101, 105, 103, 104, 116], 0), ([52, 49], 7), ([50, 53, 101, 45, 50], 10)])[j]? = some u → w1.cell? ⟨g, j, none⟩ = some u := fun j u h => by
      have := own.cells (g := g) rfl j u h
      rwa [addr_add, Nat.zero_add] at this
    have h5' : cap ≤ 9223372036854775807 := by unfold maxLen at h5; omega
    refine ⟨g, cap, 0, rfl, cell 1 _ (by kernel_rfl), h4, h5', b1, ?_⟩
    refine (readWords_weight g cap _ (fun j => [⟨#[119, 101, 105, 103, 104, 116]⟩, ⟨#[52, 49]⟩, ⟨#[50, 53, 101, 45, 50]⟩].getD j ⟨#[]⟩) (fun j => [0, 7, 10].getD j 0) w1 (hg.on b1) (hs.on b1) h4 h5' (fun j hj => ?_) (fun j hj => ?_) rfl rfl rfl).mono ?_
    · match j, hj with
      | 0, _ => exact cell 0 _ (by kernel_rfl)
      | 1, _ => exact cell 2 _ (by kernel_rfl)
      | 2, _ => exact cell 4 _ (by kernel_rfl)
    · match j, hj with
      | 0, _ => exact cell 1 _ (by kernel_rfl)
      | 1, _ => exact cell 3 _ (by kernel_rfl)
      | 2, _ => exact cell 5 _ (by kernel_rfl)
    · rintro e w2 ⟨rfl, hb⟩
      exact ⟨_, rfl, Ok.nil _ _ _ _, hb⟩
theorem withLine_weight (v : Value) (ps : List (Rec × Value)) (hps : ps.length ≤ 100) (B : Nat) (w : World) (hBw : B ≤ w.heap.size) (hg : Glob w) (hs : Sn.Glob w) (hown : Rown w B v ps) :
    Calls Tryz.prog 25 #[v, .string ⟨#[119, 101, 105, 103, 104, 116, 32, 52, 49, 32, 50, 53, 101, 45, 50, 32, 35, 32, 120]⟩] w fun e w' => ∃ v' vt, e = .returned (.tuple #[v', .int .i64 0, .int .i64 0]) ∧ Rown w' B v' (ps ++ [((⟨14, 65, 65, 0, [], ⟨#[]⟩, ⟨#[]⟩, 4598175219545276416⟩ : Rec), vt)]) ∧ Below B w w' :=
  withLine_a _ (by decide) (⟨14, 65, 65, 0, [], ⟨#[]⟩, ⟨#[]⟩, 4598175219545276416⟩ : Rec) (by decide +kernel) fit_weight 3 (by decide) _ v ps hps B w hBw hg hown (weight_w w hg hs)
end Go.Proofs.YtceflkeaenepcaaGreatDoor
namespace Go.Proofs.YtceflkeaenepcaaGreatDoor
open Go.RowKit
def toldS : ByteArray := ⟨#[115, 104, 105, 102, 116, 32, 52, 49, 46, 46, 53, 65, 32, 54, 49, 32, 49, 10, 119, 101, 105, 103, 104, 116, 32, 52, 49, 32, 50, 53, 101, 45, 50, 32, 35, 32, 120, 10]⟩
theorem lines_told : Scn.lines (nums toldS) = [[115, 104, 105, 102, 116, 32, 52, 49, 46, 46, 53, 65, 32, 54, 49, 32, 49], [119, 101, 105, 103, 104, 116, 32, 52, 49, 32, 50, 53, 101, 45, 50, 32, 35, 32, 120]] := by decide +kernel
theorem str_line1 : strOfNums [115, 104, 105, 102, 116, 32, 52, 49, 46, 46, 53, 65, 32, 54, 49, 32, 49] = ⟨#[115, 104, 105, 102, 116, 32, 52, 49, 46, 46, 53, 65, 32, 54, 49, 32, 49]⟩ := by decide +kernel
theorem str_line2 : strOfNums [119, 101, 105, 103, 104, 116, 32, 52, 49, 32, 50, 53, 101, 45, 50, 32, 35, 32, 120] = ⟨#[119, 101, 105, 103, 104, 116, 32, 52, 49, 32, 50, 53, 101, 45, 50, 32, 35, 32, 120]⟩ := by decide +kernel
def recsT : List Rec := [(⟨4, 65, 90, 1, [97], ⟨#[]⟩, ⟨#[]⟩, 0⟩ : Rec), (⟨14, 65, 65, 0, [], ⟨#[]⟩, ⟨#[]⟩, 4598175219545276416⟩ : Rec)]
def lineT (i : Nat) : ByteArray := [⟨#[115, 104, 105, 102, 116, 32, 52, 49, 46, 46, 53, 65, 32, 54, 49, 32, 49]⟩, ⟨#[119, 101, 105, 103, 104, 116, 32, 52, 49, 32, 50, 53, 101, 45, 50, 32, 35, 32, 120]⟩].getD i ⟨#[]⟩
theorem line_step (i : Nat) (hi : i < 2) (v : Value) (ps : List (Rec × Value)) (hps : ps.map (·.1) = recsT.take i) (B : Nat) (w : World) (hBw : B ≤ w.heap.size) (hg : Glob w) (hs : Sn.Glob w) (hown : Rown w B v ps) :
    Calls Tryz.prog 25 #[v, .string (lineT i)] w fun e w' => ∃ v' ps', e = .returned (.tuple #[v', .int .i64 0, .int .i64 0]) ∧ ps'.map (·.1) = recsT.take (i + 1) ∧ Rown w' B v' ps' ∧ Below B w w' := by
  have hl : ps.length ≤ 100 := by
    have := congrArg List.length hps
    simp [recsT] at this
    omega
  match i, hi with
  | 0, _ =>
    refine (withLine_shift v ps hl B w hBw hg hs hown).mono ?_
    rintro e w' ⟨v', vt, rfl, h1, h2⟩
    exact ⟨v', _, rfl, by rw [List.map_append, hps]; rfl, h1, h2⟩
  | 1, _ =>
    refine (withLine_weight v ps hl B w hBw hg hs hown).mono ?_
    rintro e w' ⟨v', vt, rfl, h1, h2⟩
    exact ⟨v', _, rfl, by rw [List.map_append, hps]; rfl, h1, h2⟩
set_option maxRecDepth 8000 in
set_option maxHeartbeats 2000000 in
theorem parse_told (w : World) (hg : Glob w) (hs : Sn.Glob w) : Calls Tryz.prog 12 #[.string toldS] w fun e w' => ∃ v ps B, e = .returned (.tuple #[v, .agg #[.int .i64 0, .int .i64 0, .int .i64 0], .int .i64 0]) ∧ ps.map (·.1) = recsT ∧ w.heap.size ≤ B ∧ Rown w' B v ps ∧ Below w.heap.size w w' := by
  have ba : Below w.heap.size w (w.alloc (.cells #[.int .i64 0, .int .i64 0, .int .i64 0] 37)) := (Below.refl w.heap.size w).alloc (Nat.le_refl _) _
  have hsz : ¬ (262144 < (toldS.size : Int)) := by decide
  have K : Hid (Calls Tryz.prog 24 #[.string toldS] (w.alloc (.cells #[.int .i64 0, .int .i64 0, .int .i64 0] 37)) fun e w1 => ∃ g cap, e = .returned (.slice (some ⟨g, 0, none⟩) 2 cap) ∧ 2 ≤ cap ∧ cap ≤ 9223372036854775807 ∧ (∀ i, i < 2 → w1.cell? ⟨g, i, none⟩ = some (.string (lineT i))) ∧ w1.heap[w.heap.size]? = some (.cells #[.int .i64 0, .int .i64 0, .int .i64 0] 37 (0, 0)) ∧ Below w.heap.size w w1) := hide ((Sn.linesC toldS _ (hs.on ba) (by decide)).mono (by
    rintro e w1 ⟨v, rfl, own, b1⟩
    rw [lines_told] at own
    obtain ⟨g, cap, rfl, h1, h2⟩ := own_shape own.2 (by simp [Sn.txts])
    have hc := own.2.cells (g := g) rfl
    refine ⟨g, cap, rfl, h1, h2, fun i hi => ?_, ?_, ba.trans (b1.mono ba.size)⟩
    · match i, hi with
      | 0, _ => have := hc 0 (.string ⟨#[115, 104, 105, 102, 116, 32, 52, 49, 46, 46, 53, 65, 32, 54, 49, 32, 49]⟩) (by kernel_rfl); rw [addr_add] at this; exact this
      | 1, _ => have := hc 1 (.string ⟨#[119, 101, 105, 103, 104, 116, 32, 52, 49, 32, 50, 53, 101, 45, 50, 32, 35, 32, 120]⟩) (by kernel_rfl); rw [addr_add] at this; exact this
    · rw [b1.block _ (by simp)]
      exact heap_new w _))
  have hl400 : Hid (∀ i, (lineT i).size ≤ 100) := hide (by
    intro i
    match i with
    | 0 => decide
    | 1 => decide
    | n + 2 => show (⟨#[]⟩ : ByteArray).size ≤ 100; decide)
  have HG := hide hg
  have HS := hide hs
  clear hg hs ba
  generalize toldS = S at *
  go_enter Tryz.func12, Tryz.ntmps12
  go_wp2_with fail
  refine (unhide K).mono ?_
  rintro e w1 ⟨g, cap, rfl, h1, h2, hc, hp, b1⟩
  have HC := hide hc
  have HP := hide hp
  have B1 := hide b1
  have hs1 := b1.size
  have hl1 : w.heap.size < w1.heap.size := lt_of_cell? (obj_cell hp 0 (by simp))
  clear K hc hp b1
  go_wp2
  go_loopw [2, 4, 5, 6, 7, 8, 9, 10, 11, 19] (fun _ _ lv st _ _ _ _ _ iv wr => ∃ (i : Nat) (z : Int) (ps : List (Rec × Value)), iv = .int .i64 i ∧ i ≤ 2 ∧ st = .int .i64 z ∧ 0 ≤ z ∧ z ≤ 500 * i ∧ ps.map (·.1) = recsT.take i ∧ Rown wr w1.heap.size lv ps ∧ Below w1.heap.size w1 wr) (fun _ _ _ _ _ _ _ _ _ iv _ => 2 - (intOf iv).toNat)
  case atStart => exact ⟨0, 0, [], rfl, by omega, rfl, by omega, by omega, rfl, ⟨World.ownsRow_nil _ _ _ _, by simp⟩, Below.refl _ _⟩
  case round =>
    obtain ⟨i, z, ps, rfl, hi, rfl, hz0, hz1, hps, hown, hb⟩ := hrel
    have bw := (unhide B1).trans (hb.mono hs1)
    by_cases hlt : i < 2
    · have x0 := (unhide HC) i hlt
      rw [← hb.cell (lt_of_cell? x0)] at x0
      have hsi := (unhide hl400) i
      have KL := hide (line_step i hlt _ ps hps w1.heap.size wr hb.size ((unhide HG).on bw) ((unhide HS).on bw) hown)
      generalize lineT i = ti at *
      have HB := hide hb
      clear hown hps hb bw
      go_wp2_with fail
      refine (unhide KL).mono ?_
      rintro e w2 ⟨v', ps', rfl, hps', hown', hb'⟩
      have HF := hide (And.intro hps' (And.intro hown' ((unhide HB).trans hb')))
      clear KL hps' hown' hb' HB
      go_wp2
      go_roundw
      case rel => exact ⟨i + 1, z + ((ti.size : Int) + 1), ps', by go_num, by omega, by go_num, by omega, by omega, (unhide HF).1, (unhide HF).2.1, (unhide HF).2.2⟩
      case measure => simp [intOf]; omega
    · have hn : ¬ ((i : Int) < 2) := by omega
      have hpl : wr.heap[w.heap.size]? = some (.cells #[.int .i64 0, .int .i64 0, .int .i64 0] 37 (0, 0)) := by rw [hb.block _ hl1]; exact unhide HP
      have z0 : wr.cell? ⟨w.heap.size, 0, none⟩ = some (.int .i64 0) := obj_cell hpl 0 (by simp)
      have z1 : wr.cell? ⟨w.heap.size, 1, none⟩ = some (.int .i64 0) := obj_cell hpl 1 (by simp)
      have z2 : wr.cell? ⟨w.heap.size, 2, none⟩ = some (.int .i64 0) := obj_cell hpl 2 (by simp)
      have hps2 : ps.map (·.1) = recsT := by
        have : i = 2 := by omega
        rw [hps, this]; rfl
      have far : ∀ k, k ≠ w.heap.size → (((wr.setCell ⟨w.heap.size, 0, none⟩ (.int .i64 0)).setCell ⟨w.heap.size, 1, none⟩ (.int .i64 0)).setCell ⟨w.heap.size, 2, none⟩ (.int .i64 0)).heap[k]? = wr.heap[k]? := fun k hk => by rw [setCell_far6 _ hk, setCell_far6 _ hk, setCell_far6 _ hk]
      have HN : Hid ((((wr.setCell ⟨w.heap.size, 0, none⟩ (.int .i64 0)).setCell ⟨w.heap.size, 1, none⟩ (.int .i64 0)).setCell ⟨w.heap.size, 2, none⟩ (.int .i64 0)).heap[w.heap.size]? = some (.cells #[.int .i64 0, .int .i64 0, .int .i64 0] 37 (0, 0))) := hide (set_block6 (set_block6 (set_block6 hpl _) _) _)
      have HF : Hid (ps.map (·.1) = recsT ∧ w.heap.size ≤ w1.heap.size ∧ Rown (((wr.setCell ⟨w.heap.size, 0, none⟩ (.int .i64 0)).setCell ⟨w.heap.size, 1, none⟩ (.int .i64 0)).setCell ⟨w.heap.size, 2, none⟩ (.int .i64 0)) w1.heap.size u5 ps ∧ Below w.heap.size w (((wr.setCell ⟨w.heap.size, 0, none⟩ (.int .i64 0)).setCell ⟨w.heap.size, 1, none⟩ (.int .i64 0)).setCell ⟨w.heap.size, 2, none⟩ (.int .i64 0))) := hide ⟨hps2, hs1, ⟨own_keep hown.1 (fun g hg => far g (by have := (hown.1.lt g hg).1; omega)), fun p hp => (hown.2 p hp).keep (fun g hg => far g (by have := ((hown.2 p hp).2.2.lt g hg).1; omega))⟩, ((bw.trans (below_set6 (Nat.le_refl _) 0 _)).trans (below_set6 (Nat.le_refl _) 1 _)).trans (below_set6 (Nat.le_refl _) 2 _)⟩
      have hfr := frozen_of6 (j := 0) hpl
      have hfr1 := frozen_of6 (j := 1) hpl
      have hfr2 := frozen_of6 (j := 2) hpl
      clear hps hps2 hown bw hb hpl far
      go_wp2
      generalize (((wr.setCell ⟨w.heap.size, 0, none⟩ (.int .i64 0)).setCell ⟨w.heap.size, 1, none⟩ (.int .i64 0)).setCell ⟨w.heap.size, 2, none⟩ (.int .i64 0)) = W9 at *
      have y0 : W9.cell? ⟨w.heap.size, 0, none⟩ = some (.int .i64 0) := obj_cell (unhide HN) 0 (by simp)
      have y1 : W9.cell? ⟨w.heap.size, 1, none⟩ = some (.int .i64 0) := obj_cell (unhide HN) 1 (by simp)
      have y2 : W9.cell? ⟨w.heap.size, 2, none⟩ = some (.int .i64 0) := obj_cell (unhide HN) 2 (by simp)
      refine bodyPost_ret (v := .tuple #[u5, .agg #[.int .i64 0, .int .i64 0, .int .i64 0], .int .i64 0]) (by simp [results, Tryz.results12, go_sem, y0, y1, y2]) rfl ?_
      exact ⟨u5, rfl, ps, (unhide HF).1, w1.heap.size, (unhide HF).2⟩
end Go.Proofs.YtceflkeaenepcaaGreatDoor
namespace Go.Proofs.YtceflkeaenepcaaGreatDoor
open Go.RowKit
theorem clash_told : Cn.check6 [(⟨1, 1, 3, 0, [], ⟨#[]⟩, ⟨#[]⟩, 0⟩ : Rec), (⟨2, 3, 3, 0, [], ⟨#[]⟩, ⟨#[]⟩, 0⟩ : Rec)] = (1, 62) := by decide +kernel
theorem rcs_told (w : World) : Rcs (w.alloc (.cells #[.int .i64 1, .int .i64 1, .int .i64 3, .int .i64 0, .slice none 0 0, .string ⟨#[]⟩, .string ⟨#[]⟩, .float .f64 0, .int .i64 2, .int .i64 3, .int .i64 3, .int .i64 0, .slice none 0 0, .string ⟨#[]⟩, .string ⟨#[]⟩, .float .f64 0] 29)) (.slice (some ⟨w.heap.size, 0, none⟩) 2 2) [(⟨1, 1, 3, 0, [], ⟨#[]⟩, ⟨#[]⟩, 0⟩ : Rec), (⟨2, 3, 3, 0, [], ⟨#[]⟩, ⟨#[]⟩, 0⟩ : Rec)] := by
  have h := heap_new w (.cells #[.int .i64 1, .int .i64 1, .int .i64 3, .int .i64 0, .slice none 0 0, .string ⟨#[]⟩, .string ⟨#[]⟩, .float .f64 0, .int .i64 2, .int .i64 3, .int .i64 3, .int .i64 0, .slice none 0 0, .string ⟨#[]⟩, .string ⟨#[]⟩, .float .f64 0] 29)
  refine ⟨by decide, ?_, .inr ⟨w.heap.size, 0, 2, rfl, by decide, by decide, fun i hi => ?_⟩⟩
  · intro r hr
    rcases List.mem_cons.1 hr with rfl | hr
    · constructor <;> first | (unfold I64; decide) | decide
    · obtain rfl := List.mem_singleton.1 hr
      constructor <;> first | (unfold I64; decide) | decide
  · match i, hi with
    | 0, _ => exact ⟨obj_cell h 0 (by simp), obj_cell h 1 (by simp), obj_cell h 2 (by simp), obj_cell h 3 (by simp), ⟨_, obj_cell h 4 (by simp), Sk.nil _ _⟩, obj_cell h 5 (by simp), obj_cell h 6 (by simp), obj_cell h 7 (by simp)⟩
    | 1, _ => exact ⟨obj_cell h 8 (by simp), obj_cell h 9 (by simp), obj_cell h 10 (by simp), obj_cell h 11 (by simp), ⟨_, obj_cell h 12 (by simp), Sk.nil _ _⟩, obj_cell h 13 (by simp), obj_cell h 14 (by simp), obj_cell h 15 (by simp)⟩
theorem check_told (w : World) (hg : Glob w) : Calls Tryz.prog 10 #[.slice (some ⟨w.heap.size, 0, none⟩) 2 2] (w.alloc (.cells #[.int .i64 1, .int .i64 1, .int .i64 3, .int .i64 0, .slice none 0 0, .string ⟨#[]⟩, .string ⟨#[]⟩, .float .f64 0, .int .i64 2, .int .i64 3, .int .i64 3, .int .i64 0, .slice none 0 0, .string ⟨#[]⟩, .string ⟨#[]⟩, .float .f64 0] 29)) fun e w' => e = .returned (.tuple #[.int .i64 1, .int .i64 62]) ∧ Below w.heap.size w w' := by
  have ba : Below w.heap.size w (w.alloc (.cells #[.int .i64 1, .int .i64 1, .int .i64 3, .int .i64 0, .slice none 0 0, .string ⟨#[]⟩, .string ⟨#[]⟩, .float .f64 0, .int .i64 2, .int .i64 3, .int .i64 3, .int .i64 0, .slice none 0 0, .string ⟨#[]⟩, .string ⟨#[]⟩, .float .f64 0] 29)) := (Below.refl w.heap.size w).alloc (Nat.le_refl _) _
  have q := check_any _ _ _ (hg.on ba) (rcs_told w)
  rw [clash_told] at q
  refine q.mono ?_
  rintro e w' ⟨rfl, hb⟩
  exact ⟨rfl, ba.trans (hb.mono ba.size)⟩
theorem family_told (w : World) (hg : Glob w) : Calls Tryz.prog 14 #[.int .i64 15] w fun e w' => e = .returned (.int .i64 10) ∧ Below w.heap.size w w' := by
  refine (family_any 15 w hg (by unfold I64; decide)).mono ?_
  rintro e w' ⟨rfl, hb⟩
  exact ⟨rfl, hb⟩
end Go.Proofs.YtceflkeaenepcaaGreatDoor
namespace Go.Proofs.YtceflkeaenepcaaGreatDoor
open Go.RowKit
set_option maxRecDepth 8000 in
set_option maxHeartbeats 1000000 in
theorem lead_a (k lo hi n : Int) (tq : Value) (nm ot : ByteArray) (wt : Nat) (hk : I64 k) (hlo : 0 ≤ lo ∧ lo ≤ 1114111) (hhi : 0 ≤ hi ∧ hi ≤ 1114111) (w : World) (hg : Glob w) (hs : Sn.Glob w) :
    Calls Tryz.prog 120 #[.agg #[.int .i64 k], .agg #[.int .i64 k, .int .i64 lo, .int .i64 hi, .int .i64 n, tq, .string nm, .string ot, .float .f64 wt]] w fun e w' =>
      ∃ v t, nums t = Scn.pspan lo hi ∧ e = .returned v ∧ Ow 9 w' w.heap.size v [.string (Cn.rowK k).word, .string t] ∧ Below w.heap.size w w' := by
  have KR : Hid (∀ W, Below w.heap.size w W → Calls Tryz.prog 41 #[.agg #[.int .i64 k]] W fun e w1 => e = .returned (rowV (Cn.rowK k)) ∧ Below W.heap.size W w1) := hide fun W hW => row_any k W (hg.on hW) hk
  have KS : Hid (∀ W, Below w.heap.size w W → Calls Tryz.prog 134 #[.int .i32 lo, .int .i32 hi] W (Sn.TextNew W (Scn.pspan lo hi))) := hide fun W hW => Sn.pspanC lo hi W (hs.on hW) (by omega) (by omega)
  generalize Cn.rowK k = R at *
  have f0 : ∀ W, (Instr.field 99 (rowV R) 0).run Tryz.prog W = .ok (.string R.word) W := fun W => by kernel_rfl
  clear hg hs
  generalize rowV R = RV at *
  go_enter Tryz.func120, Tryz.ntmps120
  go_wp2
  have b0 : Below w.heap.size w ((w.alloc (.cells #[.int .i64 k] 60)).alloc (.cells #[.int .i64 k, .int .i64 lo, .int .i64 hi, .int .i64 n, tq, .string nm, .string ot, .float .f64 wt] 29)) := ((Below.refl w.heap.size w).alloc (Nat.le_refl _) _).alloc (by simp) _
  have hr0 : ((w.alloc (.cells #[.int .i64 k] 60)).alloc (.cells #[.int .i64 k, .int .i64 lo, .int .i64 hi, .int .i64 n, tq, .string nm, .string ot, .float .f64 wt] 29)).heap[w.heap.size + 1]? = some (.cells #[.int .i64 k, .int .i64 lo, .int .i64 hi, .int .i64 n, tq, .string nm, .string ot, .float .f64 wt] 29 (0, 0)) := by
    have := heap_new (w.alloc (.cells #[.int .i64 k] 60)) (.cells #[.int .i64 k, .int .i64 lo, .int .i64 hi, .int .i64 n, tq, .string nm, .string ot, .float .f64 wt] 29)
    rwa [show (w.alloc (.cells #[.int .i64 k] 60)).heap.size = w.heap.size + 1 by simp] at this
  have c0 : ((w.alloc (.cells #[.int .i64 k] 60)).alloc (.cells #[.int .i64 k, .int .i64 lo, .int .i64 hi, .int .i64 n, tq, .string nm, .string ot, .float .f64 wt] 29)).cell? ⟨w.heap.size, 0, none⟩ = some (.int .i64 k) := by
    rw [((Below.refl _ (w.alloc (.cells #[.int .i64 k] 60))).alloc (Nat.le_refl _) _).cell (by simp)]
    exact obj_cell (heap_new w _) 0 (by simp)
  have c1 : ((w.alloc (.cells #[.int .i64 k] 60)).alloc (.cells #[.int .i64 k, .int .i64 lo, .int .i64 hi, .int .i64 n, tq, .string nm, .string ot, .float .f64 wt] 29)).cell? ⟨w.heap.size + 1, 1, none⟩ = some (.int .i64 lo) := obj_cell hr0 1 (by simp)
  have c2 : ((w.alloc (.cells #[.int .i64 k] 60)).alloc (.cells #[.int .i64 k, .int .i64 lo, .int .i64 hi, .int .i64 n, tq, .string nm, .string ot, .float .f64 wt] 29)).cell? ⟨w.heap.size + 1, 2, none⟩ = some (.int .i64 hi) := obj_cell hr0 2 (by simp)
  have hz : ((w.alloc (.cells #[.int .i64 k] 60)).alloc (.cells #[.int .i64 k, .int .i64 lo, .int .i64 hi, .int .i64 n, tq, .string nm, .string ot, .float .f64 wt] 29)).heap.size = w.heap.size + 2 := by simp
  have HX : Hid (∀ W, Below (w.heap.size + 2) ((w.alloc (.cells #[.int .i64 k] 60)).alloc (.cells #[.int .i64 k, .int .i64 lo, .int .i64 hi, .int .i64 n, tq, .string nm, .string ot, .float .f64 wt] 29)) W → W.cell? ⟨w.heap.size, 0, none⟩ = some (.int .i64 k) ∧ W.cell? ⟨w.heap.size + 1, 1, none⟩ = some (.int .i64 lo) ∧ W.cell? ⟨w.heap.size + 1, 2, none⟩ = some (.int .i64 hi) ∧ Below w.heap.size w W ∧ w.heap.size + 2 ≤ W.heap.size) := hide fun W h => ⟨by rw [h.cell (by simp)]; exact c0, by rw [h.cell (by simp)]; exact c1, by rw [h.cell (by simp)]; exact c2, b0.trans (h.mono (by omega)), by have := h.size; omega⟩
  have S0 : Hid (Below (w.heap.size + 2) ((w.alloc (.cells #[.int .i64 k] 60)).alloc (.cells #[.int .i64 k, .int .i64 lo, .int .i64 hi, .int .i64 n, tq, .string nm, .string ot, .float .f64 wt] 29)) ((w.alloc (.cells #[.int .i64 k] 60)).alloc (.cells #[.int .i64 k, .int .i64 lo, .int .i64 hi, .int .i64 n, tq, .string nm, .string ot, .float .f64 wt] 29)).drew) := hide ((Below.refl _ _).drew)
  clear b0 hr0 c0 c1 c2 hz
  generalize ((w.alloc (.cells #[.int .i64 k] 60)).alloc (.cells #[.int .i64 k, .int .i64 lo, .int .i64 hi, .int .i64 n, tq, .string nm, .string ot, .float .f64 wt] 29)) = W0 at *
  have e1 : IntKind.i32.wrap lo = lo := by unfold IntKind.wrap; simp [IntKind.signed, IntKind.bits]; omega
  have e2 : IntKind.i32.wrap hi = hi := by unfold IntKind.wrap; simp [IntKind.signed, IntKind.bits]; omega
  refine wp_region_held_drew (S := fun w' => Below (w.heap.size + 2) W0 w') (by kernel_rfl) (unhide S0) (fun hHeld => ?_)
  refine wpAnyH_take (i := 0) (oi := { dst := some 5, op := Op.load 60 (Operand.tmp 2), type := 60, pos := "write.go:37", after := #[], guard := none }) (v := .agg #[.int .i64 k]) rfl (by kernel_rfl) (by kernel_rfl) (by kernel_rfl) (fun _ _ _ h => h) (Or.inl ⟨by rfl, ?_⟩) hHeld ?_
  · intro _ hSw
    obtain ⟨y0, y1, y2, _, _⟩ := (unhide HX) _ hSw; go_simp
  try simp only [Act.put, List.setIfInBounds_toArray, List.set_cons_zero, List.set_cons_succ]
  refine wpAnyH_take (i := 3) (oi := { dst := some 8, op := Op.fieldAddr 29 (Operand.tmp 3) 1, type := 0, pos := "write.go:37", after := #[], guard := none }) (v := .pointer (some ⟨w.heap.size + 1, 1, none⟩)) rfl (by kernel_rfl) (by kernel_rfl) (by kernel_rfl) (fun _ _ _ h => h) (Or.inl ⟨by rfl, ?_⟩) hHeld ?_
  · intro _ hSw
    go_simp
  try simp only [Act.put, List.setIfInBounds_toArray, List.set_cons_zero, List.set_cons_succ]
  refine wpAnyH_take (i := 4) (oi := { dst := some 9, op := Op.load 3 (Operand.tmp 8), type := 3, pos := "write.go:37", after := #[{ on := 3, ground := Ground.data }], guard := none }) (v := .int .i64 lo) rfl (by kernel_rfl) (by kernel_rfl) (by kernel_rfl) (fun _ _ _ h => h) (Or.inl ⟨by rfl, ?_⟩) hHeld ?_
  · intro _ hSw
    obtain ⟨y0, y1, y2, _, _⟩ := (unhide HX) _ hSw; go_simp
  try simp only [Act.put, List.setIfInBounds_toArray, List.set_cons_zero, List.set_cons_succ]
  refine wpAnyH_take (i := 5) (oi := { dst := some 10, op := Op.convert 3 21 (Operand.tmp 9), type := 21, pos := "write.go:37", after := #[{ on := 4, ground := Ground.data }], guard := none }) (v := .int .i32 lo) rfl (by kernel_rfl) (by kernel_rfl) (by kernel_rfl) (fun _ _ _ h => h) (Or.inl ⟨by rfl, ?_⟩) hHeld ?_
  · intro _ hSw
    go_simp
  try simp only [Act.put, List.setIfInBounds_toArray, List.set_cons_zero, List.set_cons_succ]
  refine wpAnyH_take (i := 6) (oi := { dst := some 11, op := Op.fieldAddr 29 (Operand.tmp 3) 2, type := 0, pos := "write.go:37", after := #[], guard := none }) (v := .pointer (some ⟨w.heap.size + 1, 2, none⟩)) rfl (by kernel_rfl) (by kernel_rfl) (by kernel_rfl) (fun _ _ _ h => h) (Or.inl ⟨by rfl, ?_⟩) hHeld ?_
  · intro _ hSw
    go_simp
  try simp only [Act.put, List.setIfInBounds_toArray, List.set_cons_zero, List.set_cons_succ]
  refine wpAnyH_take (i := 7) (oi := { dst := some 12, op := Op.load 3 (Operand.tmp 11), type := 3, pos := "write.go:37", after := #[{ on := 6, ground := Ground.data }], guard := none }) (v := .int .i64 hi) rfl (by kernel_rfl) (by kernel_rfl) (by kernel_rfl) (fun _ _ _ h => h) (Or.inl ⟨by rfl, ?_⟩) hHeld ?_
  · intro _ hSw
    obtain ⟨y0, y1, y2, _, _⟩ := (unhide HX) _ hSw; go_simp
  try simp only [Act.put, List.setIfInBounds_toArray, List.set_cons_zero, List.set_cons_succ]
  refine wpAnyH_take (i := 8) (oi := { dst := some 13, op := Op.convert 3 21 (Operand.tmp 12), type := 21, pos := "write.go:37", after := #[{ on := 7, ground := Ground.data }], guard := none }) (v := .int .i32 hi) rfl (by kernel_rfl) (by kernel_rfl) (by kernel_rfl) (fun _ _ _ h => h) (Or.inl ⟨by rfl, ?_⟩) hHeld ?_
  · intro _ hSw
    go_simp
  try simp only [Act.put, List.setIfInBounds_toArray, List.set_cons_zero, List.set_cons_succ]
  refine wpAnyH_ready (rs := [1]) (by kernel_rfl) (by simp) ?_
  refine AllReadyH.cons (o := { dst := some 6, op := Op.call { callee := Callee.value (Operand.func 41), args := #[Operand.tmp 5], argTypes := #[60] }, type := 99, pos := "write.go:37", after := #[{ on := 0, ground := Ground.data }], guard := none }) rfl (fun K hK => ?_) AllReadyH.nil
  go_simp
  refine ((unhide KR) _ ((unhide HX) _ hHeld).2.2.2.1).mono ?_
  rintro e w3 ⟨rfl, b3⟩
  refine hK.out _ _ ?_ (fun hHeld => ?_)
  · exact hHeld.trans (b3.mono ((unhide HX) _ hHeld).2.2.2.2)
  clear hK K
  try simp only [Act.put, List.setIfInBounds_toArray, List.set_cons_zero, List.set_cons_succ]
  refine wpAnyH_take (i := 2) (oi := { dst := some 7, op := Op.field 99 (Operand.tmp 6) 0, type := 9, pos := "write.go:37", after := #[{ on := 1, ground := Ground.data }], guard := none }) (v := .string R.word) rfl (by kernel_rfl) (by kernel_rfl) (by kernel_rfl) (fun _ _ _ h => h) (Or.inl ⟨by rfl, ?_⟩) hHeld ?_
  · intro _ hSw
    go_simp
  try simp only [Act.put, List.setIfInBounds_toArray, List.set_cons_zero, List.set_cons_succ]
  refine wpAnyH_ready (rs := [9]) (by kernel_rfl) (by simp) ?_
  refine AllReadyH.cons (o := { dst := some 14, op := Op.call { callee := Callee.value (Operand.func 134), args := #[Operand.tmp 10, Operand.tmp 13], argTypes := #[21, 21] }, type := 9, pos := "write.go:37", after := #[{ on := 5, ground := Ground.data }, { on := 8, ground := Ground.data }, { on := 1, ground := Ground.chain }], guard := none }) rfl (fun K hK => ?_) AllReadyH.nil
  go_simp
  refine ((unhide KS) _ ((unhide HX) _ hHeld).2.2.2.1).mono ?_
  rintro e w4 ⟨tt, hn9, rfl, b4⟩
  refine hK.out _ _ ?_ (fun hHeld => ?_)
  · exact hHeld.trans (b4.mono ((unhide HX) _ hHeld).2.2.2.2)
  clear hK K
  try simp only [Act.put, List.setIfInBounds_toArray, List.set_cons_zero, List.set_cons_succ]
  have HF : Hid (Ow 9 (w4.alloc (.cells #[.string R.word, .string tt] 9)) w.heap.size (.slice (some ⟨w4.heap.size, 0, none⟩) 2 2) [.string R.word, .string tt] ∧ Below w.heap.size w (w4.alloc (.cells #[.string R.word, .string tt] 9))) := hide ⟨⟨by simp, rfl, .inr ⟨_, 2, _, rfl, ((unhide HX) _ hHeld).2.2.2.1.size, heap_new w4 _, Nat.le_refl _, by unfold maxLen; omega, rfl, rfl⟩⟩, ((unhide HX) _ hHeld).2.2.2.1.alloc ((unhide HX) _ hHeld).2.2.2.1.size _⟩
  refine wpAnyH_ready (rs := [10]) (by kernel_rfl) (by simp) ?_
  refine AllReadyH.cons (o := { dst := some 15, op := Op.buildSlice 54 2 #[(0, Operand.tmp 7), (1, Operand.tmp 14)], type := 54, pos := "write.go:37", after := #[{ on := 2, ground := Ground.data }, { on := 9, ground := Ground.data }], guard := none }) rfl (fun K hK => ?_) AllReadyH.nil
  go_simp
  refine hK.out _ _ ?_ (fun hHeld => ?_)
  · exact hHeld.alloc ((unhide HX) _ hHeld).2.2.2.2 _
  clear hK K
  try simp only [Act.put, List.setIfInBounds_toArray, List.set_cons_zero, List.set_cons_succ]
  refine wpAnyH_take (i := 11) (oi := { dst := some 4, op := Op.assign (Operand.tmp 15), type := 54, pos := "write.go:37", after := #[{ on := 10, ground := Ground.data }, { on := 9, ground := Ground.chain }, { on := 0, ground := Ground.phase }, { on := 1, ground := Ground.phase }, { on := 2, ground := Ground.phase }, { on := 3, ground := Ground.phase }, { on := 4, ground := Ground.phase }, { on := 5, ground := Ground.phase }, { on := 6, ground := Ground.phase }, { on := 7, ground := Ground.phase }, { on := 8, ground := Ground.phase }, { on := 9, ground := Ground.phase }, { on := 10, ground := Ground.phase }], guard := none }) (v := .slice (some ⟨w4.heap.size, 0, none⟩) 2 2) rfl (by kernel_rfl) (by kernel_rfl) (by kernel_rfl) (fun _ _ _ h => h) (Or.inl ⟨by rfl, ?_⟩) hHeld ?_
  · intro _ hSw
    go_simp
  try simp only [Act.put, List.setIfInBounds_toArray, List.set_cons_zero, List.set_cons_succ]
  refine wpAnyH_done (by kernel_rfl) ?_ _
  go_wp2
  go_ret
  exact ⟨_, tt, hn9, rfl, (unhide HF).1, (unhide HF).2⟩
end Go.Proofs.YtceflkeaenepcaaGreatDoor
