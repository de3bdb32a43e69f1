/- The walk of CanonOther, out of what canon's calls are asked. -/
import Derived.Test.YteigibncdbgpmaaGreatDoorLFulls7
import Derived.Test.YteigibncdbgpmaaGreatDoorTbZ7
import Derived.Test.YteigibncdbgpmaaGreatDoorCu7
import Derived.Deep.DeepCutAuto
import Derived.Deep.CutBlock
namespace Go.Proofs.YteigibncdbgpmaaGreatDoor
open Go.RowKit

/-- Records in a row of the call's own, their lists anywhere. -/
theorem row_rcs {w : World} {B : Nat} {v : Value} {ps : List (Rec × Value)} (h : w.ownsRow B 47 8 v ps.length (rcells ps)) (h2 : ∀ p ∈ ps, Sk .i32 w p.2 p.1.to) (hl : ps.length ≤ 1000000000) (hf : ∀ p ∈ ps, RecFit p.1) : Rcs w v (ps.map (·.1)) := by
  refine ⟨by simpa using hl, fun r hr => ?_, ?_⟩
  · obtain ⟨p, hp, rfl⟩ := List.mem_map.1 hr
    exact hf p hp
  · rcases h.2 with ⟨hv, h0⟩ | ⟨g, cap, cur, hv, hg, hh, hn, hcap, hsz, htake⟩
    · have h1 : ps = [] := List.eq_nil_of_length_eq_zero h0
      exact .inl ⟨by rw [h1]; rfl, none, 0, hv, by omega⟩
    · refine .inr ⟨g, 0, cap, by rw [hv, List.length_map], by simpa using hn, by unfold maxLen at hcap; omega, fun i hi => ?_⟩
      rw [List.length_map] at hi
      have hm : ps.getD i (Cn.none, undef) ∈ ps := by simp [List.getD, hi]
      have hrec : (ps.map (·.1)).getD i Cn.none = (ps.getD i (Cn.none, undef)).1 := by simp [List.getD, hi]
      have hc : ∀ j u, j < 8 → (rcell (ps.getD i (Cn.none, undef)))[j]? = some u → w.cell? ⟨g, 0 + i * 8 + j, none⟩ = some u := by
        intro j u hj hu
        have e := h.cells (g := g) (by rw [hv]; rfl) (i * 8 + j) u (by rw [rcells_at ps i j hi hj]; exact hu)
        rw [addr_add] at e
        rw [show 0 + i * 8 + j = 0 + (i * 8 + j) by omega]; exact e
      rw [hrec]
      exact ⟨hc 0 _ (by omega) rfl, hc 1 _ (by omega) rfl, hc 2 _ (by omega) rfl, hc 3 _ (by omega) rfl, ⟨_, hc 4 _ (by omega) rfl, h2 _ hm⟩, hc 5 _ (by omega) rfl, hc 6 _ (by omega) rfl, hc 7 _ (by omega) rfl⟩
/-- What stands behind a copy that a record was put to. -/
theorem more_rcs {W w8 : World} {B gg cap : Nat} {v5 : Value} {ps : List (Rec × Value)} {q : Rec × Value} (hr : Rown W B v5 ps) (hg : W.grownBy w8 v5.ownBlock) (hq : Sk .i32 w8 q.2 q.1.to) (hl : ps.length < 1000000000) (hf : ∀ p ∈ ps, RecFit p.1) (hfq : RecFit q.1)
    (hrow : w8.ownsRow B 47 8 (.slice (some ⟨gg, 0, none⟩) (ps.length + 1) cap) (ps.length + 1) (rcells ps ++ rcell q)) : Rcs w8 (.slice (some ⟨gg, 0, none⟩) (ps.length + 1) cap) (ps.map (·.1) ++ [q.1]) := by
  have := row_rcs (ps := ps ++ [q]) (w := w8) (B := B) (v := .slice (some ⟨gg, 0, none⟩) (ps.length + 1) cap) (by rw [← rcells_snoc]; simpa using hrow) (fun p hp => by
    rcases List.mem_append.1 hp with hp | hp
    · have ho := hr.2 p hp
      refine (ho.keep fun g hgb => ?_).sk
      exact hg.block g (own_lt ho.2.2 hgb).1 (fun e => own_apart ho.2.2 hr.1 (by decide) hgb e.symm)
    · rw [List.mem_singleton.1 hp]; exact hq) (by simp; omega) (fun p hp => by
    rcases List.mem_append.1 hp with hp | hp
    · exact hf p hp
    · rw [List.mem_singleton.1 hp]; exact hfq)
  simpa using this
theorem Rown.far {w W : World} {B : Nat} {v : Value} {ps : List (Rec × Value)} (h : Rown w B v ps) (hk : ∀ k, B ≤ k → k < w.heap.size → W.heap[k]? = w.heap[k]?) : Rown W B v ps :=
  ⟨own_keep h.1 fun g hg => hk g (own_lt h.1 hg).2 (own_lt h.1 hg).1, fun p hp => (h.2 p hp).keep fun g hg => hk g (own_lt (h.2 p hp).2.2 hg).2 (own_lt (h.2 p hp).2.2 hg).1⟩
theorem Rown.on {w W : World} {B : Nat} {v : Value} {ps : List (Rec × Value)} (h : Rown w B v ps) (hb : Below w.heap.size w W) : Rown W B v ps := h.far fun k _ hk => hb.block k hk
def put8 (W : World) (b : Nat) (a0 a1 a2 a3 a4 a5 a6 a7 : Value) : World := (((((((W.setCell ⟨b, 0, none⟩ a0).setCell ⟨b, 1, none⟩ a1).setCell ⟨b, 2, none⟩ a2).setCell ⟨b, 3, none⟩ a3).setCell ⟨b, 4, none⟩ a4).setCell ⟨b, 5, none⟩ a5).setCell ⟨b, 6, none⟩ a6).setCell ⟨b, 7, none⟩ a7
theorem put8_at {W : World} {b : Nat} {c0 c1 c2 c3 c4 c5 c6 c7 : Value} {e : TypeId} (h : W.heap[b]? = some (.cells #[c0, c1, c2, c3, c4, c5, c6, c7] e (0, 0))) (a0 a1 a2 a3 a4 a5 a6 a7 : Value) : (put8 W b a0 a1 a2 a3 a4 a5 a6 a7).heap[b]? = some (.cells #[a0, a1, a2, a3, a4, a5, a6, a7] e (0, 0)) := by
  have h7 := set_block (j := 7) (set_block (j := 6) (set_block (j := 5) (set_block (j := 4) (set_block (j := 3) (set_block (j := 2) (set_block (j := 1) (set_block (j := 0) h a0) a1) a2) a3) a4) a5) a6) a7
  unfold put8
  rw [h7]
  simp only [List.setIfInBounds_toArray, List.set_cons_zero, List.set_cons_succ]
theorem put8_far {W : World} {b k : Nat} (a0 a1 a2 a3 a4 a5 a6 a7 : Value) (h : k ≠ b) : (put8 W b a0 a1 a2 a3 a4 a5 a6 a7).heap[k]? = W.heap[k]? := by
  unfold put8
  rw [set_other _ h, set_other _ h, set_other _ h, set_other _ h, set_other _ h, set_other _ h, set_other _ h, set_other _ h]
theorem put8_below {w W : World} {b : Nat} (h : Below b w W) (a0 a1 a2 a3 a4 a5 a6 a7 : Value) : Below b w (put8 W b a0 a1 a2 a3 a4 a5 a6 a7) :=
  below_set (below_set (below_set (below_set (below_set (below_set (below_set (below_set h (Nat.le_refl _) a0) (Nat.le_refl _) a1) (Nat.le_refl _) a2) (Nat.le_refl _) a3) (Nat.le_refl _) a4) (Nat.le_refl _) a5) (Nat.le_refl _) a6) (Nat.le_refl _) a7
/-- What may stand in the table besides. -/
def otherR (r : Rec) : Rec := if Cn.fam r.kind < 4 then ⟨11, 983040, 983041, 0, [], ⟨#[]⟩, ⟨#[]⟩, 0⟩ else r
theorem otherR_fam (r : Rec) : 4 ≤ Cn.fam (otherR r).kind := by
  unfold otherR
  split
  · decide
  · omega
theorem otherR_fit {r : Rec} (h : RecFit r) : RecFit (otherR r) := by
  unfold otherR
  split
  · exact ⟨by unfold I64; decide, by unfold I64; decide, by unfold I64; decide, by unfold I64; decide, by decide, by decide⟩
  · exact h
set_option maxRecDepth 20000 in
set_option maxHeartbeats 8000000 in
theorem other_any (HC : ClassC) (HO : OpenC) (HP : PrimC) (HF : FullC) (HK : CheckC) (v vt : Value) (rs : List Rec) (r : Rec) (w : World) (hg : Glob w) (hv : Rcs w v rs) (hfit : RecFit r) (hsk : Sk .i32 w vt r.to) : Calls Tryz.prog 8 #[v, recV r vt] w (Tells w true) := by
  have KT := hide (told_any HC HO HP HF HK)
  have HG : Hid (∀ W, Below w.heap.size w W → Glob W) := fun W h => hg.on h
  have hb0 : Below w.heap.size w (w.alloc (.cells #[.int .i64 r.kind, .int .i64 r.lo, .int .i64 r.hi, .int .i64 r.n, vt, .string r.name, .string r.other, .float .f64 r.wt] 47)) := (Below.refl _ _).alloc (Nat.le_refl _) _
  have K1 := hide (few_any v rs 120 (w.alloc (.cells #[.int .i64 r.kind, .int .i64 r.lo, .int .i64 r.hi, .int .i64 r.n, vt, .string r.name, .string r.other, .float .f64 r.wt] 47)) (hv.below hb0) (by omega))
  have KFA : Hid (∀ W, Below w.heap.size w W → Calls Tryz.prog 23 #[.int .i64 r.kind] W (IntB W (Cn.fam r.kind))) := fun W h => family_any r.kind W (hg.on h) hfit.kind
  have KC := hide HK
  have hh0 := alloc_at w (.cells #[.int .i64 r.kind, .int .i64 r.lo, .int .i64 r.hi, .int .i64 r.n, vt, .string r.name, .string r.other, .float .f64 r.wt] 47)
  have hsz : (w.alloc (.cells #[.int .i64 r.kind, .int .i64 r.lo, .int .i64 r.hi, .int .i64 r.n, vt, .string r.name, .string r.other, .float .f64 r.wt] 47)).heap.size = w.heap.size + 1 := by simp
  have hv1 := hv.below hb0
  clear HC HO HP HF HK hg
  obtain ⟨ao, cap, rfl, h1, h2⟩ := hv.shape
  have hlen := hv.1
  unfold recV
  replace hsz := hide hsz
  go_enter Tryz.func8, Tryz.ntmps8
  go_wp2_with fail
  refine (unhide K1).mono ?_
  rintro e1 w1 ⟨v1, ps, rfl, a1, a2, hb1⟩
  have hbw1 := bthen hb0 hb1
  have hbox1 : w1.heap[w.heap.size]? = _ := (hb1.block _ (by have := unhide hsz; omega)).trans hh0
  obtain ⟨m, m1, m3, rv, _, ao1, cap1, rfl, mc⟩ := few_both hv1 rfl a1 a2 hb1
  have x0 := cell_of (j := 0) hbox1 (by simp)
  clear K1 hv hv1 hb0 hh0
  have hrw := a2
  have hfp : ∀ p ∈ ps, RecFit p.1 := fun p hp => rv.2.1 _ (by rw [← a1]; exact List.mem_map.2 ⟨p, hp, rfl⟩)
  have hpl : ps.length ≤ 1000000000 := by have h9 := congrArg List.length a1; rw [List.length_map] at h9; rw [h9]; exact rv.1
  rw [← a1] at rv
  have hm : ps.length = m := by
    obtain ⟨ao', cap', e, _, _⟩ := rv.shape
    simp only [Value.slice.injEq, List.length_map] at e
    exact e.2.1.symm
  have h120 : ps.length ≤ 120 := by omega
  clear a2
  have e120 := a1
  clear a1
  go_wp2_with fail
  refine ((unhide KFA) w1 hbw1).mono ?_
  rintro e2 w2 ⟨rfl, hb2⟩
  have hbw2 := bthen hbw1 hb2
  have hbox2 : w2.heap[w.heap.size]? = _ := (hb2.block _ (lt_of_block hbox1)).trans hbox1
  have hsk2 := hsk.below hbw2
  have HR2 : Hid (Rown w2 (w.heap.size + 1) (.slice ao1 m cap1) ps) := by
    rw [← unhide hsz]
    exact hrw.on hb2
  clear KFA hb1 hbw1 hbox1 hb2 hsk hrw rv x0
  go_upto_if 20 with fail
  go_cut [] (fun wx => ∃ vo : Value, wx.heap[w.heap.size]? = some (.cells #[.int .i64 (otherR r).kind, .int .i64 (otherR r).lo, .int .i64 (otherR r).hi, .int .i64 (otherR r).n, vo, .string (otherR r).name, .string (otherR r).other, .float .f64 (otherR r).wt] 47 (0, 0)) ∧ Sk .i32 wx vo (otherR r).to ∧ Rown wx (w.heap.size + 1) (.slice ao1 m cap1) ps ∧ Below w.heap.size w wx)
  case first =>
    by_cases hfr : Cn.fam r.kind < 4
    · have eo : otherR r = ⟨11, 983040, 983041, 0, [], ⟨#[]⟩, ⟨#[]⟩, 0⟩ := by unfold otherR; rw [if_pos hfr]
      have hfl : ∀ W a m, (store a (.float .f64 0) m).run Tryz.prog W = stored Tryz.prog W a (.float .f64 0) m := fun W a m => run_store Tryz.prog W a _ m rfl
      have c0 := cell_of (j := 0) hbox2 (by simp)
      have z0 := frozen_of (j := 0) hbox2
      have c1 := cell_of (j := 1) hbox2 (by simp)
      have z1 := frozen_of (j := 1) hbox2
      have c2 := cell_of (j := 2) hbox2 (by simp)
      have z2 := frozen_of (j := 2) hbox2
      have c3 := cell_of (j := 3) hbox2 (by simp)
      have z3 := frozen_of (j := 3) hbox2
      have c4 := cell_of (j := 4) hbox2 (by simp)
      have z4 := frozen_of (j := 4) hbox2
      have c5 := cell_of (j := 5) hbox2 (by simp)
      have z5 := frozen_of (j := 5) hbox2
      have c6 := cell_of (j := 6) hbox2 (by simp)
      have z6 := frozen_of (j := 6) hbox2
      have c7 := cell_of (j := 7) hbox2 (by simp)
      have z7 := frozen_of (j := 7) hbox2
      have dfr := decide_eq_true hfr
      have hput := put8_at hbox2 (.int .i64 11) (.int .i64 983040) (.int .i64 983041) (.int .i64 0) (.slice none 0 0) (.string ⟨#[]⟩) (.string ⟨#[]⟩) (.float .f64 0)
      have hfar := fun k (hk : k ≠ w.heap.size) => put8_far (W := w2) (b := w.heap.size) (.int .i64 11) (.int .i64 983040) (.int .i64 983041) (.int .i64 0) (.slice none 0 0) (.string ⟨#[]⟩) (.string ⟨#[]⟩) (.float .f64 0) hk
      have hbel := put8_below (W := w2) (b := w.heap.size) hbw2 (.int .i64 11) (.int .i64 983040) (.int .i64 983041) (.int .i64 0) (.slice none 0 0) (.string ⟨#[]⟩) (.string ⟨#[]⟩) (.float .f64 0)
      have HRS : Hid (∃ vo : Value, (put8 w2 w.heap.size (.int .i64 11) (.int .i64 983040) (.int .i64 983041) (.int .i64 0) (.slice none 0 0) (.string ⟨#[]⟩) (.string ⟨#[]⟩) (.float .f64 0)).heap[w.heap.size]? = some (.cells #[.int .i64 (otherR r).kind, .int .i64 (otherR r).lo, .int .i64 (otherR r).hi, .int .i64 (otherR r).n, vo, .string (otherR r).name, .string (otherR r).other, .float .f64 (otherR r).wt] 47 (0, 0)) ∧ Sk .i32 (put8 w2 w.heap.size (.int .i64 11) (.int .i64 983040) (.int .i64 983041) (.int .i64 0) (.slice none 0 0) (.string ⟨#[]⟩) (.string ⟨#[]⟩) (.float .f64 0)) vo (otherR r).to ∧ Rown (put8 w2 w.heap.size (.int .i64 11) (.int .i64 983040) (.int .i64 983041) (.int .i64 0) (.slice none 0 0) (.string ⟨#[]⟩) (.string ⟨#[]⟩) (.float .f64 0)) (w.heap.size + 1) (.slice ao1 m cap1) ps ∧ Below w.heap.size w (put8 w2 w.heap.size (.int .i64 11) (.int .i64 983040) (.int .i64 983041) (.int .i64 0) (.slice none 0 0) (.string ⟨#[]⟩) (.string ⟨#[]⟩) (.float .f64 0))) := by
        rw [eo]
        exact ⟨.slice none 0 0, hput, Sk.nil _ _, (unhide HR2).far fun k hk _ => hfar k (by omega), hbel⟩
      clear hput hfar hbel hbox2 hsk2 HR2 eo
      unfold put8 at HRS
      go_wp2_with fail
      go_meet
      case rel => exact unhide HRS
    · have eo : otherR r = r := by unfold otherR; rw [if_neg hfr]
      have dfr := decide_eq_false hfr
      have HRS : Hid (∃ vo : Value, w2.heap[w.heap.size]? = some (.cells #[.int .i64 (otherR r).kind, .int .i64 (otherR r).lo, .int .i64 (otherR r).hi, .int .i64 (otherR r).n, vo, .string (otherR r).name, .string (otherR r).other, .float .f64 (otherR r).wt] 47 (0, 0)) ∧ Sk .i32 w2 vo (otherR r).to ∧ Rown w2 (w.heap.size + 1) (.slice ao1 m cap1) ps ∧ Below w.heap.size w w2) := by
        rw [eo]
        exact ⟨vt, hbox2, hsk2, unhide HR2, hbw2⟩
      clear hbox2 hsk2 HR2 eo
      go_wp2_with fail
      go_meet
      case rel => exact unhide HRS
  case rest =>
    clear hbox2 hsk2 HR2 hbw2
    obtain ⟨vo, hbox, hso, hro, hbw⟩ := hcut
    have hfo := otherR_fit hfit
    have hfam := otherR_fam r
    generalize otherR r = o at *
    obtain ⟨w3, hw3⟩ : ∃ x : World, x = wc := ⟨wc, rfl⟩
    subst hw3
    obtain ⟨voo, voc, rfl, _, _⟩ := hso.shape
    have hrc : Rcs w3 (.slice ao1 m cap1) (ps.map (·.1)) := hro.rcs hpl hfp
    have hwc := hbw.size
    have HBX : Hid (∀ W, Below w3.heap.size w3 W → W.cell? ⟨w.heap.size, 0, none⟩ = some (.int .i64 o.kind) ∧ W.cell? ⟨w.heap.size, 1, none⟩ = some (.int .i64 o.lo) ∧ W.cell? ⟨w.heap.size, 2, none⟩ = some (.int .i64 o.hi) ∧ W.cell? ⟨w.heap.size, 3, none⟩ = some (.int .i64 o.n) ∧ W.cell? ⟨w.heap.size, 4, none⟩ = some (.slice voo o.to.length voc) ∧ W.cell? ⟨w.heap.size, 5, none⟩ = some (.string o.name) ∧ W.cell? ⟨w.heap.size, 6, none⟩ = some (.string o.other) ∧ W.cell? ⟨w.heap.size, 7, none⟩ = some (.float .f64 o.wt) ∧ Hid (Below w3.heap.size w3 W)) := fun W h => by
      have h2 : W.heap[w.heap.size]? = _ := (h.block _ (lt_of_block hbox)).trans hbox
      exact ⟨cell_of (j := 0) h2 (by simp), cell_of (j := 1) h2 (by simp), cell_of (j := 2) h2 (by simp), cell_of (j := 3) h2 (by simp), cell_of (j := 4) h2 (by simp), cell_of (j := 5) h2 (by simp), cell_of (j := 6) h2 (by simp), cell_of (j := 7) h2 (by simp), h⟩
    have JCP : Hid (∀ W, Below w3.heap.size w3 W → Calls Tryz.prog 24 #[.slice ao1 m cap1] W (RecsNew W (ps.map (·.1)))) := fun W h => refCopied_any _ _ W (hrc.below h)
    have HSO : Hid (∀ W, Below w3.heap.size w3 W → Sk .i32 W (.slice voo o.to.length voc) o.to) := fun W h => hso.below h
    have HRC : Hid (∀ W, Below w3.heap.size w3 W → Rcs W (.slice ao1 m cap1) (ps.map (·.1))) := fun W h => hrc.below h
    have HBW := hide hbw
    have HFP := hide hfp
    have HFO := hide hfo
    have HFAM := hide hfam
    obtain ⟨i9, hi0, hz0, hz1, hz2⟩ := info_parts Tryz.info47
    clear hbox hso hro hbw hrc hfp hfo hfit hfam hsz
    have htl : o.to.length = o.to.length := rfl
    generalize o.to.length = tl at *
    clear htl
    go_upto_region 4 with fail
    go_cut [6] (fun sv wx => ∃ gg sc, sv = .slice (some ⟨gg, 0, none⟩) (m + 1) sc ∧ sc ≤ 9223372036854775807 ∧ Rcs wx sv (ps.map (·.1) ++ [o]) ∧ Below w3.heap.size w3 wx)
    case first =>
      refine wp_region_held_drew (S := fun w' => w'.cell? ⟨w.heap.size, 0, none⟩ = some (.int .i64 o.kind) ∧ w'.cell? ⟨w.heap.size, 1, none⟩ = some (.int .i64 o.lo) ∧ w'.cell? ⟨w.heap.size, 2, none⟩ = some (.int .i64 o.hi) ∧ w'.cell? ⟨w.heap.size, 3, none⟩ = some (.int .i64 o.n) ∧ w'.cell? ⟨w.heap.size, 4, none⟩ = some (.slice voo tl voc) ∧ w'.cell? ⟨w.heap.size, 5, none⟩ = some (.string o.name) ∧ w'.cell? ⟨w.heap.size, 6, none⟩ = some (.string o.other) ∧ w'.cell? ⟨w.heap.size, 7, none⟩ = some (.float .f64 o.wt) ∧ Hid (Below w3.heap.size w3 w')) (by kernel_rfl) ((unhide HBX) _ (drewB ⟨1, rfl⟩)) (fun hHeld => ?_)
      refine wpAnyH_take (i := 0) (oi := { dst := some 22, op := Op.move (Operand.tmp 5), type := 22, pos := "more.go:16", after := #[], guard := none }) (v := .slice ao1 m cap1) rfl (by kernel_rfl) (by kernel_rfl) (by kernel_rfl) (fun _ _ _ h => h) (Or.inl ⟨by rfl, ?_⟩) hHeld ?_
      · intro w hSw
        go_simp
      try simp only [Act.put, List.setIfInBounds_toArray, List.set_cons_zero, List.set_cons_succ]
      refine wpAnyH_take (i := 2) (oi := { dst := some 24, op := Op.load 47 (Operand.tmp 3), type := 47, pos := "more.go:16", after := #[], guard := none }) (v := .agg #[.int .i64 o.kind, .int .i64 o.lo, .int .i64 o.hi, .int .i64 o.n, .slice voo tl voc, .string o.name, .string o.other, .float .f64 o.wt]) rfl (by kernel_rfl) (by kernel_rfl) (by kernel_rfl) (fun _ _ _ h => h) (Or.inl ⟨by rfl, ?_⟩) hHeld ?_
      · intro w hSw
        go_simp
      try simp only [Act.put, List.setIfInBounds_toArray, List.set_cons_zero, List.set_cons_succ]
      refine wpAnyH_ready (rs := [1, 3]) (by kernel_rfl) (by simp) ?_
      refine AllReadyH.cons (o := { dst := some 23, op := Op.call { callee := Callee.value (Operand.func 24), args := #[Operand.tmp 22], argTypes := #[22] }, type := 22, pos := "more.go:16", after := #[{ on := 0, ground := Ground.data }], guard := none }) rfl (fun K hK => ?_) (AllReadyH.cons (o := { dst := some 25, op := Op.buildSlice 22 1 #[(0, Operand.tmp 24)], type := 22, pos := "more.go:16", after := #[{ on := 2, ground := Ground.data }], guard := none }) rfl (fun K hK => ?_) AllReadyH.nil)
      · have hBc := (unhide hHeld.2.2.2.2.2.2.2.2)
        go_simp
        refine ((unhide JCP) _ hBc).mono ?_
        rintro e5 w5 ⟨v5, ps5, rfl, a5, r5, hb5⟩
        have hs5 := hb5.size
        go_wp2_with fail
        refine hK.out _ _ ?_ (fun hHeld => ?_)
        · exact (unhide HBX) _ (bthen hBc hb5)
        clear hK K
        try simp only [Act.put, List.setIfInBounds_toArray, List.set_cons_zero, List.set_cons_succ]
        have hl5 : ps5.length = m := by have h9 := congrArg List.length a5; simp only [List.length_map] at h9; omega
        have hfp5 : ∀ p ∈ ps5, RecFit p.1 := fun p hp => by have h9 : p.1 ∈ ps.map (·.1) := by { rw [← a5]; exact List.mem_map.2 ⟨p, hp, rfl⟩ }; obtain ⟨p', hp', e'⟩ := List.mem_map.1 h9; rw [← e']; exact (unhide HFP) p' hp'
        refine wpAnyH_ready (rs := [3]) (by kernel_rfl) (by simp) ?_
        refine AllReadyH.cons (o := { dst := some 25, op := Op.buildSlice 22 1 #[(0, Operand.tmp 24)], type := 22, pos := "more.go:16", after := #[{ on := 2, ground := Ground.data }], guard := none }) rfl (fun K hK => ?_) AllReadyH.nil
        have hnb := alloc_at w5 (.cells #[.int .i64 o.kind, .int .i64 o.lo, .int .i64 o.hi, .int .i64 o.n, .slice voo tl voc, .string o.name, .string o.other, .float .f64 o.wt] 47)
        have hBb := (unhide hHeld.2.2.2.2.2.2.2.2)
        go_simp
        refine hK.out _ _ ?_ (fun hHeld => ?_)
        · exact (unhide HBX) _ (hBb.alloc hBb.size _)
        clear hK K
        try simp only [Act.put, List.setIfInBounds_toArray, List.set_cons_zero, List.set_cons_succ]
        have hnews : ∀ j u, ([.int .i64 o.kind, .int .i64 o.lo, .int .i64 o.hi, .int .i64 o.n, .slice voo tl voc, .string o.name, .string o.other, .float .f64 o.wt] : List Value)[j]? = some u → (w5.alloc (.cells #[.int .i64 o.kind, .int .i64 o.lo, .int .i64 o.hi, .int .i64 o.n, .slice voo tl voc, .string o.name, .string o.other, .float .f64 o.wt] 47)).cell? ((⟨w5.heap.size, 0, none⟩ : Addr).add j) = some u := World.news_of_block (cs := #[.int .i64 o.kind, .int .i64 o.lo, .int .i64 o.hi, .int .i64 o.n, .slice voo tl voc, .string o.name, .string o.other, .float .f64 o.wt]) (t := 47) (fr := (0, 0)) hnb
        have r5e := r5.on (W := w5.alloc (.cells #[.int .i64 o.kind, .int .i64 o.lo, .int .i64 o.hi, .int .i64 o.n, .slice voo tl voc, .string o.name, .string o.other, .float .f64 o.wt] 47)) ((Below.refl _ _).alloc (Nat.le_refl _) _)
        have hbase : w3.drew.heap.size ≤ (w5.alloc (.cells #[.int .i64 o.kind, .int .i64 o.lo, .int .i64 o.hi, .int .i64 o.n, .slice voo tl voc, .string o.name, .string o.other, .float .f64 o.wt] 47)).heap.size := by simp; exact Nat.le_succ_of_le hs5
        have hdr : w3.heap.size ≤ w3.drew.heap.size := Nat.le_refl _
        refine wpAnyH_ready (rs := [4]) (by kernel_rfl) (by simp) ?_
        refine AllReadyH.cons (o := { dst := some 26, op := Op.call { callee := Callee.builtin Builtin.append, args := #[Operand.tmp 23, Operand.tmp 25], argTypes := #[22, 22] }, type := 22, pos := "more.go:16", after := #[{ on := 1, ground := Ground.data }, { on := 3, ground := Ground.data }, { on := 1, ground := Ground.chain }], guard := none }) rfl (fun K hK => ?_) AllReadyH.nil
        have hBe := (unhide hHeld.2.2.2.2.2.2.2.2)
        refine step_append_lies _ (by rfl) _ _ _ (by rfl) w3.drew.heap.size 47 i9 _ 8 96 Tryz.underlying22 hi0 hz0 hz1 hz2 rfl (by omega) v5 ps5.length (rcells ps5) (by rfl) r5e.1 ⟨w5.heap.size, 0, none⟩ 1 1 [.int .i64 o.kind, .int .i64 o.lo, .int .i64 o.hi, .int .i64 o.n, .slice voo tl voc, .string o.name, .string o.other, .float .f64 o.wt] (by rfl) (by rfl) hnews (by simp [Value.oneCell']) (by omega) (by unfold maxLen; omega) (by omega) hbase _ rfl ?_
        intro gg sc w8 hrow8 hgrow hat _
        have hB8 : Below w3.heap.size w3 w8 := hBe.grown hgrow hBe.size (fun k hk => by have := (own_lt r5e.1 hk).2; omega)
        have hq8 := (unhide HSO) w8 hB8
        have hsc : sc ≤ 9223372036854775807 := by rcases hrow8.2 with ⟨h9, _⟩ | ⟨_, _, _, h9, _, _, _, h10, _⟩; · cases h9
                                                  · simp only [Value.slice.injEq] at h9; unfold maxLen at h10; omega
        have hrc8 := more_rcs (q := (o, .slice voo tl voc)) r5e hgrow hq8 (by omega) hfp5 (unhide HFO) hrow8
        rw [a5] at hrc8
        clear hrow8 hgrow hat hq8 r5e hnews
        refine hK.out _ _ ?_ (fun hHeld => ?_)
        · exact (unhide HBX) _ hB8
        clear hK K
        try simp only [Act.put, List.setIfInBounds_toArray, List.set_cons_zero, List.set_cons_succ]
        refine wpAnyH_take (i := 5) (oi := { dst := some 6, op := Op.assign (Operand.tmp 26), type := 22, pos := "more.go:16", after := #[{ on := 4, ground := Ground.data }, { on := 4, ground := Ground.chain }, { on := 0, ground := Ground.phase }, { on := 1, ground := Ground.phase }, { on := 2, ground := Ground.phase }, { on := 3, ground := Ground.phase }, { on := 4, ground := Ground.phase }], guard := none }) (v := .slice (some ⟨gg, 0, none⟩) (ps5.length + 1) sc) rfl (by kernel_rfl) (by kernel_rfl) (by kernel_rfl) (fun _ _ _ h => h) (Or.inl ⟨by rfl, ?_⟩) hHeld ?_
        · intro w hSw
          go_simp
        try simp only [Act.put, List.setIfInBounds_toArray, List.set_cons_zero, List.set_cons_succ]
        refine wpAnyH_done (by kernel_rfl) ?_ _
        rw [hl5] at hrc8 ⊢
        go_wp2_with fail
        go_meet
        case rel => exact ⟨gg, sc, rfl, hsc, hrc8, hB8⟩
      · have hnb := alloc_at w3 (.cells #[.int .i64 o.kind, .int .i64 o.lo, .int .i64 o.hi, .int .i64 o.n, .slice voo tl voc, .string o.name, .string o.other, .float .f64 o.wt] 47)
        have hBb := (unhide hHeld.2.2.2.2.2.2.2.2)
        go_simp
        refine hK.out _ _ ?_ (fun hHeld => ?_)
        · exact (unhide HBX) _ (bthen ((Below.refl _ _).alloc (Nat.le_refl _) _) (drewB ⟨1, rfl⟩))
        clear hK K
        try simp only [Act.put, List.setIfInBounds_toArray, List.set_cons_zero, List.set_cons_succ]
        refine wpAnyH_ready (rs := [1]) (by kernel_rfl) (by simp) ?_
        refine AllReadyH.cons (o := { dst := some 23, op := Op.call { callee := Callee.value (Operand.func 24), args := #[Operand.tmp 22], argTypes := #[22] }, type := 22, pos := "more.go:16", after := #[{ on := 0, ground := Ground.data }], guard := none }) rfl (fun K hK => ?_) AllReadyH.nil
        have hBc := (unhide hHeld.2.2.2.2.2.2.2.2)
        go_simp
        refine ((unhide JCP) _ hBc).mono ?_
        rintro e5 w5 ⟨v5, ps5, rfl, a5, r5, hb5⟩
        have hs5 := hb5.size
        go_wp2_with fail
        refine hK.out _ _ ?_ (fun hHeld => ?_)
        · exact (unhide HBX) _ (bthen hBc hb5)
        clear hK K
        try simp only [Act.put, List.setIfInBounds_toArray, List.set_cons_zero, List.set_cons_succ]
        have hl5 : ps5.length = m := by have h9 := congrArg List.length a5; simp only [List.length_map] at h9; omega
        have hfp5 : ∀ p ∈ ps5, RecFit p.1 := fun p hp => by have h9 : p.1 ∈ ps.map (·.1) := by { rw [← a5]; exact List.mem_map.2 ⟨p, hp, rfl⟩ }; obtain ⟨p', hp', e'⟩ := List.mem_map.1 h9; rw [← e']; exact (unhide HFP) p' hp'
        have hnews : ∀ j u, ([.int .i64 o.kind, .int .i64 o.lo, .int .i64 o.hi, .int .i64 o.n, .slice voo tl voc, .string o.name, .string o.other, .float .f64 o.wt] : List Value)[j]? = some u → w5.cell? ((⟨w3.heap.size, 0, none⟩ : Addr).add j) = some u := World.news_of_block (cs := #[.int .i64 o.kind, .int .i64 o.lo, .int .i64 o.hi, .int .i64 o.n, .slice voo tl voc, .string o.name, .string o.other, .float .f64 o.wt]) (t := 47) (fr := (0, 0)) ((hb5.block _ (by exact lt_of_block hnb)).trans hnb)
        have r5e := r5
        have hbase : (w3.alloc (.cells #[.int .i64 o.kind, .int .i64 o.lo, .int .i64 o.hi, .int .i64 o.n, .slice voo tl voc, .string o.name, .string o.other, .float .f64 o.wt] 47)).drew.heap.size ≤ w5.heap.size := hs5
        have hdr : w3.heap.size ≤ (w3.alloc (.cells #[.int .i64 o.kind, .int .i64 o.lo, .int .i64 o.hi, .int .i64 o.n, .slice voo tl voc, .string o.name, .string o.other, .float .f64 o.wt] 47)).drew.heap.size := hBc.size
        refine wpAnyH_ready (rs := [4]) (by kernel_rfl) (by simp) ?_
        refine AllReadyH.cons (o := { dst := some 26, op := Op.call { callee := Callee.builtin Builtin.append, args := #[Operand.tmp 23, Operand.tmp 25], argTypes := #[22, 22] }, type := 22, pos := "more.go:16", after := #[{ on := 1, ground := Ground.data }, { on := 3, ground := Ground.data }, { on := 1, ground := Ground.chain }], guard := none }) rfl (fun K hK => ?_) AllReadyH.nil
        have hBe := (unhide hHeld.2.2.2.2.2.2.2.2)
        refine step_append_lies _ (by rfl) _ _ _ (by rfl) (w3.alloc (.cells #[.int .i64 o.kind, .int .i64 o.lo, .int .i64 o.hi, .int .i64 o.n, .slice voo tl voc, .string o.name, .string o.other, .float .f64 o.wt] 47)).drew.heap.size 47 i9 _ 8 96 Tryz.underlying22 hi0 hz0 hz1 hz2 rfl (by omega) v5 ps5.length (rcells ps5) (by rfl) r5e.1 ⟨w3.heap.size, 0, none⟩ 1 1 [.int .i64 o.kind, .int .i64 o.lo, .int .i64 o.hi, .int .i64 o.n, .slice voo tl voc, .string o.name, .string o.other, .float .f64 o.wt] (by rfl) (by rfl) hnews (by simp [Value.oneCell']) (by omega) (by unfold maxLen; omega) (by omega) hbase _ rfl ?_
        intro gg sc w8 hrow8 hgrow hat _
        have hB8 : Below w3.heap.size w3 w8 := hBe.grown hgrow hBe.size (fun k hk => by have := (own_lt r5e.1 hk).2; omega)
        have hq8 := (unhide HSO) w8 hB8
        have hsc : sc ≤ 9223372036854775807 := by rcases hrow8.2 with ⟨h9, _⟩ | ⟨_, _, _, h9, _, _, _, h10, _⟩; · cases h9
                                                  · simp only [Value.slice.injEq] at h9; unfold maxLen at h10; omega
        have hrc8 := more_rcs (q := (o, .slice voo tl voc)) r5e hgrow hq8 (by omega) hfp5 (unhide HFO) hrow8
        rw [a5] at hrc8
        clear hrow8 hgrow hat hq8 r5e hnews
        refine hK.out _ _ ?_ (fun hHeld => ?_)
        · exact (unhide HBX) _ hB8
        clear hK K
        try simp only [Act.put, List.setIfInBounds_toArray, List.set_cons_zero, List.set_cons_succ]
        refine wpAnyH_take (i := 5) (oi := { dst := some 6, op := Op.assign (Operand.tmp 26), type := 22, pos := "more.go:16", after := #[{ on := 4, ground := Ground.data }, { on := 4, ground := Ground.chain }, { on := 0, ground := Ground.phase }, { on := 1, ground := Ground.phase }, { on := 2, ground := Ground.phase }, { on := 3, ground := Ground.phase }, { on := 4, ground := Ground.phase }], guard := none }) (v := .slice (some ⟨gg, 0, none⟩) (ps5.length + 1) sc) rfl (by kernel_rfl) (by kernel_rfl) (by kernel_rfl) (fun _ _ _ h => h) (Or.inl ⟨by rfl, ?_⟩) hHeld ?_
        · intro w hSw
          go_simp
        try simp only [Act.put, List.setIfInBounds_toArray, List.set_cons_zero, List.set_cons_succ]
        refine wpAnyH_done (by kernel_rfl) ?_ _
        rw [hl5] at hrc8 ⊢
        go_wp2_with fail
        go_meet
        case rel => exact ⟨gg, sc, rfl, hsc, hrc8, hB8⟩
    case rest =>
      obtain ⟨gg, sc, rfl, hsc, hrw, hBd⟩ := hcut
      obtain ⟨w6, hw6⟩ : ∃ x : World, x = wc := ⟨wc, rfl⟩
      subst hw6
      have hbw6 := bthen (unhide HBW) hBd
      have hin6 := (unhide HRC) w6 hBd
      have hlx : (ps.map (·.1)).length = m := by rw [List.length_map]; exact hm
      have P1 := Cn.other_no (l := ps.map (·.1)) (r := o)
      have P2 := Cn.other (l := ps.map (·.1)) (r := o) (unhide HFAM)
      rw [hlx] at P2
      have J1 := hide (check_any _ _ w6 ((unhide HG) _ hbw6) hin6)
      have J2 : Hid (∀ W, Below w6.heap.size w6 W → Calls Tryz.prog 25 #[.slice (some ⟨gg, 0, none⟩) (m + 1) sc] W (PairIB W (Cn.check6 (ps.map (·.1) ++ [o])))) := fun W h => check_any _ _ W ((unhide HG) _ (bthen hbw6 h)) (hrw.below h)
      have J3 : Hid (∀ W, Below w6.heap.size w6 W → Calls Tryz.prog 21 #[.slice ao1 m cap1] W (CheckB W (Cn.check (ps.map (·.1))))) := fun W h => (unhide KC) _ _ W ((unhide HG) _ (bthen hbw6 h)) (hin6.below h)
      have J4 : Hid (∀ W, Below w6.heap.size w6 W → Calls Tryz.prog 21 #[.slice (some ⟨gg, 0, none⟩) (m + 1) sc] W (CheckB W (Cn.check (ps.map (·.1) ++ [o])))) := fun W h => (unhide KC) _ _ W ((unhide HG) _ (bthen hbw6 h)) (hrw.below h)
      have JT : Hid (∀ W, Below w6.heap.size w6 W → Calls Tryz.prog 17 #[] W (Tells W true)) := fun W h => (unhide KT) W ((unhide HG) _ (bthen hbw6 h))
      replace hbw6 := hide hbw6
      clear KT HG KC HBX JCP HSO HRC HBW HFP HFO HFAM hrw hBd hin6 hlx
      generalize Cn.check6 (ps.map (·.1) ++ [o]) = y at *
      generalize Cn.check6 (ps.map (·.1)) = x at *
      generalize Cn.check (ps.map (·.1) ++ [o]) = d at *
      generalize Cn.check (ps.map (·.1)) = c at *
      obtain ⟨xi, xe⟩ := x
      obtain ⟨yi, ye⟩ := y
      obtain ⟨ci, ce⟩ := c
      obtain ⟨di, de⟩ := d
      simp only at P1 P2
      have HP1 := hide P1
      have HP2 := hide P2
      clear P1 P2
      go_wp2_with fail
      refine (unhide J1).mono ?_
      rintro e7 w7 ⟨rfl, hb7⟩
      clear J1
      go_wp2_with fail
      refine ((unhide J2) w7 hb7).mono ?_
      rintro e8 w8 ⟨rfl, hb8⟩
      clear J2
      have hB8 := bthen hb7 hb8
      by_cases hx : xe = 0
      · subst hx
        by_cases hy : ye = 0
        · subst hy
          obtain ⟨hde, hat⟩ := (unhide HP2) rfl rfl
          subst hde
          clear HP1 HP2
          go_wp2_with fail
          refine ((unhide J3) w8 hB8).mono ?_
          rintro e9 w9 ⟨rfl, hb9⟩
          have hB9 := bthen hB8 hb9
          clear J3
          go_wp2_with fail
          refine ((unhide J4) w9 hB9).mono ?_
          rintro e10 w10 ⟨rfl, hb10⟩
          have hB10 := bthen hB9 hb10
          clear J4 hb7 hb8 hb9 hb10 hB8 hB9
          by_cases hcm : ci = m
          · have d1 : ((ci : Int) == (m : Int)) = true := by simp [hcm]
            have hw : IntKind.i64.wrap ((ci : Int) + 1) = (ci : Int) + 1 := IntWalk.i64_in _ ⟨by omega, by omega⟩
            rw [if_pos hcm] at hat
            have d2 : (de == de) = true := beq_self_eq_true _
            by_cases hd0 : de = 0
            · subst hd0
              go_wp2_with fail
              refine ((unhide JT) w10 hB10).mono ?_
              rintro e11 w11 ⟨rfl, hb11⟩
              have HF : Tells w true (.returned (.bool true)) w11 := ⟨rfl, bthen (bthen (unhide hbw6) hB10) hb11⟩
              clear JT hb11 hB10 hbw6
              go_wp2
              go_ret
              exact HF
            · have d3 : (de == 0) = false := beq_eq_false_iff_ne.2 hd0
              have d4 : ((ci : Int) + 1 == (di : Int)) = true := by rw [hat.resolve_left hd0]; simp
              clear hat hcm
              go_wp2_with fail
              refine ((unhide JT) w10 hB10).mono ?_
              rintro e11 w11 ⟨rfl, hb11⟩
              have HF : Tells w true (.returned (.bool true)) w11 := ⟨rfl, bthen (bthen (unhide hbw6) hB10) hb11⟩
              clear JT hb11 hB10 hbw6
              go_wp2
              go_ret
              exact HF
          · have d1 : ((ci : Int) == (m : Int)) = false := beq_eq_false_iff_ne.2 (by omega)
            rw [if_neg hcm] at hat
            have d2 : (de == de) = true := beq_self_eq_true _
            by_cases hd0 : de = 0
            · subst hd0
              go_wp2_with fail
              refine ((unhide JT) w10 hB10).mono ?_
              rintro e11 w11 ⟨rfl, hb11⟩
              have HF : Tells w true (.returned (.bool true)) w11 := ⟨rfl, bthen (bthen (unhide hbw6) hB10) hb11⟩
              clear JT hb11 hB10 hbw6
              go_wp2
              go_ret
              exact HF
            · have d3 : (de == 0) = false := beq_eq_false_iff_ne.2 hd0
              have d4 : ((ci : Int) == (di : Int)) = true := by rw [hat.resolve_left hd0]; simp
              clear hat hcm
              go_wp2_with fail
              refine ((unhide JT) w10 hB10).mono ?_
              rintro e11 w11 ⟨rfl, hb11⟩
              have HF : Tells w true (.returned (.bool true)) w11 := ⟨rfl, bthen (bthen (unhide hbw6) hB10) hb11⟩
              clear JT hb11 hB10 hbw6
              go_wp2
              go_ret
              exact HF
        · have d1 : (ye != 0) = true := by simp [hy]
          have d2 : (ye == 0) = false := beq_eq_false_iff_ne.2 hy
          clear HP1 HP2 J3 J4 hb7 hb8
          have hB10 := hB8
          obtain ⟨w10, hw10⟩ : ∃ x : World, x = w8 := ⟨w8, rfl⟩
          subst hw10
          go_wp2_with fail
          refine ((unhide JT) w10 hB10).mono ?_
          rintro e11 w11 ⟨rfl, hb11⟩
          have HF : Tells w true (.returned (.bool true)) w11 := ⟨rfl, bthen (bthen (unhide hbw6) hB10) hb11⟩
          clear JT hb11 hB10 hbw6
          go_wp2
          go_ret
          exact HF
      · have hy : ye ≠ 0 := (unhide HP1) hx
        have d1 : (xe != 0) = true := by simp [hx]
        have d2 : (xe == 0) = false := beq_eq_false_iff_ne.2 hx
        have d3 : (ye != 0) = true := by simp [hy]
        have d4 : (ye == 0) = false := beq_eq_false_iff_ne.2 hy
        clear HP1 HP2 J3 J4 hb7 hb8
        have hB10 := hB8
        obtain ⟨w10, hw10⟩ : ∃ x : World, x = w8 := ⟨w8, rfl⟩
        subst hw10
        go_wp2_with fail
        refine ((unhide JT) w10 hB10).mono ?_
        rintro e11 w11 ⟨rfl, hb11⟩
        have HF : Tells w true (.returned (.bool true)) w11 := ⟨rfl, bthen (bthen (unhide hbw6) hB10) hb11⟩
        clear JT hb11 hB10 hbw6
        go_wp2
        go_ret
        exact HF
end Go.Proofs.YteigibncdbgpmaaGreatDoor
