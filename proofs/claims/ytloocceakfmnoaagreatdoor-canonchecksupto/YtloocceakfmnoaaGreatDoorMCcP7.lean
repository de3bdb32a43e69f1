/- newIndex: its loop. -/
import Derived.Test.YtloocceakfmnoaaGreatDoorGq9
namespace Go.Proofs.YtloocceakfmnoaaGreatDoor
open Go.RowKit
open Go.ChangeMaps (setBlock)

theorem Rsh.shape {w0 W : World} {v : Value} {xs : List Sp} (h : Rsh w0 W v xs) : ∃ ao cap, v = .slice ao xs.length cap ∧ xs.length ≤ cap ∧ cap ≤ 9223372036854775807 := by
  rcases h.1.2 with ⟨rfl, h0⟩ | ⟨g, cap, cur, rfl, _, _, hn, hcap, _⟩
  · exact ⟨none, 0, by rw [h0], by omega, by omega⟩
  · exact ⟨_, cap, rfl, hn, by unfold maxLen at hcap; omega⟩
theorem filter_snoc (p : Rec → Bool) (l : List Rec) (r : Rec) : (l ++ [r]).filter p = l.filter p ++ (if p r then [r] else []) := by
  rw [List.filter_append]
  cases h : p r <;> simp [h]
def is6 (r : Rec) : Bool := decide (r.kind = 6)
def is78 (r : Rec) : Bool := decide (r.kind = 7 ∨ r.kind = 8)
/-- The index of a list's first records. -/
def Made (w0 wr : World) (l : List Rec) (k : Nat) : Prop := ∃ (cv ov : Value) (cxs oxs : List Sp), NI w0 wr (Cn.firstP (l.take k)) cv ov cxs oxs ∧ cxs.map (·.1) = (l.take k).filter is6 ∧ oxs.map (·.1) = (l.take k).filter is78
theorem Made.next {w0 wr : World} {l : List Rec} {k : Nat} {r : Rec} {cv ov : Value} {cxs oxs cxs' oxs' : List Sp} {c : Int → Int → Option Int} (htk : l.take (k + 1) = l.take k ++ [r])
    (h : NI w0 wr c cv ov cxs' oxs') (hc : c = Cn.firstP (l.take k ++ [r])) (e1 : cxs.map (·.1) = (l.take k).filter is6) (e2 : oxs.map (·.1) = (l.take k).filter is78)
    (h1 : cxs'.map (·.1) = cxs.map (·.1) ++ (if is6 r then [r] else [])) (h2 : oxs'.map (·.1) = oxs.map (·.1) ++ (if is78 r then [r] else [])) : Made w0 wr l (k + 1) := by
  subst hc
  exact ⟨cv, ov, cxs', oxs', by rw [htk]; exact h, by rw [htk, filter_snoc, h1, e1], by rw [htk, filter_snoc, h2, e2]⟩
theorem made_len {l : List Rec} {k : Nat} {cxs oxs : List Sp} (e1 : cxs.map (·.1) = (l.take k).filter is6) (e2 : oxs.map (·.1) = (l.take k).filter is78) (hl : l.length ≤ 4096) : cxs.length ≤ 4096 ∧ oxs.length ≤ 4096 := by
  have h1 := congrArg List.length e1
  have h2 := congrArg List.length e2
  rw [List.length_map] at h1 h2
  have g1 := List.length_filter_le is6 (l.take k)
  have g2 := List.length_filter_le is78 (l.take k)
  have g3 : (l.take k).length ≤ l.length := by simp; omega
  omega
theorem new_cells (W : World) (r : Rec) (tao : Option Addr) (tcap : Nat) (n : Nat) (hn : W.heap.size = n) : ∀ j u, (encR (r, tao, r.to.length, tcap))[j]? = some u → (W.alloc (.cells #[.int .i64 r.kind, .int .i64 r.lo, .int .i64 r.hi, .int .i64 r.n, .slice tao r.to.length tcap, .string r.name, .string r.other, .float .f64 r.wt] 60)).cell? ((⟨n, 0, none⟩ : Addr).add j) = some u := rec_new2 W n hn r (.slice tao r.to.length tcap)
theorem cell_far7 {W : World} {r L j : Nat} {v : Value} (o : Obj) (h : L ≠ r) (hc : W.cell? ⟨L, j, none⟩ = some v) : (setBlock W r o).cell? ⟨L, j, none⟩ = some v := by
  rw [World.cell?_of_block (setB_far W o h)]; exact hc
theorem mem_getD {xs : List Int} {i : Nat} (h : i < xs.length) : xs.getD i 0 ∈ xs := by simp [List.getD, h]
def IndexB (w0 : World) (l : List Rec) (e : Ending) (w' : World) : Prop := ∃ cv ov cs os, e = .returned (xV cv ov (.map (some (w0.heap.size + 1)))) ∧ Idx l w' cv ov cs os ∧ PAt w' (w0.heap.size + 1) (Cn.firstP l) ∧ Below w0.heap.size w0 w'
/-- The index as it begins. -/
def nw (w0 : World) : World := ((w0.alloc (.cells #[.slice none 0 0, .slice none 0 0, .map none] 67)).alloc (.map #[] 0)).alloc (.cells #[.slice none 0 0, .slice none 0 0, .map (some (w0.heap.size + 1))] 67)
theorem nw_ni (w0 : World) : NI w0 (nw w0) (fun _ _ => none) (.slice none 0 0) (.slice none 0 0) [] [] := by
  have e : (nw w0).heap = ((w0.heap.push (.cells #[.slice none 0 0, .slice none 0 0, .map none] 67 (0, 0))).push (.map #[] 0)).push (.cells #[.slice none 0 0, .slice none 0 0, .map (some (w0.heap.size + 1))] 67 (0, 0)) := rfl
  refine ⟨?_, ⟨#[], 0, ?_, pempty⟩, ?_, ⟨World.ownsRow_nil _ _ _ _, fun _ h => by cases h⟩, ⟨World.ownsRow_nil _ _ _ _, fun _ h => by cases h⟩, fun g h => by simp [Value.ownBlock] at h, ?_⟩
  · rw [e, Array.getElem?_push, Array.getElem?_push, Array.getElem?_push]; simp; omega
  · rw [e, Array.getElem?_push, Array.getElem?_push]; simp
  · rw [e, Array.getElem?_push]; simp
  · exact (((Below.refl _ _).alloc (Nat.le_refl _) _).alloc (by simp) _).alloc (by simp; omega) _
set_option maxRecDepth 20000 in
set_option maxHeartbeats 16000000 in
theorem newIndex_any (v : Value) (l : List Rec) (w0 : World) (hv : Rcs w0 v l) (hok : (Cn.check6 l).2 = 0) : Calls Tryz.prog 46 #[v] w0 (IndexB w0 l) := by
  obtain ⟨i1, hj, hy0, hy1, hy2⟩ := info_parts Tryz.info60
  have hmm := @run_makeMap Tryz.prog
  obtain ⟨hl, hright⟩ := Cn.check6_all hok
  have HR7 : Hid (∀ i, i < l.length → (l.getD i Cn.none).kind = 7 → (l.getD i Cn.none).to.length = 2 ∧ Rune ((l.getD i Cn.none).to.getD 0 0) ∧ Rune ((l.getD i Cn.none).to.getD 1 0)) := fun i hi h7 => by
    have hm : l.getD i Cn.none ∈ l := by simp [List.getD, hi]
    have hlist := (Cn.right_decomp (hright _ hm) h7).2.2
    obtain ⟨⟨g1, g2⟩, g3⟩ := Cn.list_parts hlist
    refine ⟨by omega, ?_, ?_⟩
    · have := g3 ((l.getD i Cn.none).to.getD 0 0) (mem_getD (by omega))
      have := of_decide_eq_true this
      unfold Rune; omega
    · have := g3 ((l.getD i Cn.none).to.getD 1 0) (mem_getD (by omega))
      have := of_decide_eq_true this
      unfold Rune; omega
  have HFit := hide (fun i hi => hv.fit (i := i) hi)
  have HV := hide hv
  have HTake : Hid (∀ k, k < l.length → l.take (k + 1) = l.take k ++ [l.getD k Cn.none]) := fun k hk => by
    rw [List.take_add_one]; simp [List.getD, hk]
  have HTL : Hid (∀ k, k < l.length → (l.take k).length = k) := fun k hk => by simp; omega
  have HEND : Hid (∀ w', Made w0 w' l l.length → Made w0 w' l l.length) := fun _ h => h
  have HNI := hide (nw_ni w0)
  have HOK := hide hok
  have HRT := hide hright
  obtain ⟨ao, cap, rfl, hc1, hc2⟩ := hv.shape
  clear hv hok hright
  go_enter Tryz.func46, Tryz.ntmps46
  go_wp2
  go_loopw [4, 5, 6, 7, 12] (fun _ _ _ _ i wr => ∃ k : Nat, i = .int .i64 k ∧ k ≤ l.length ∧ Hid (Made w0 wr l k)) (fun _ _ _ _ i _ => l.length - (intOf i).toNat)
  case atStart => exact ⟨0, rfl, by omega, ⟨_, _, [], [], unhide HNI, by simp, by simp⟩⟩
  case round =>
    clear HNI
    obtain ⟨k, rfl, hk, HMADE⟩ := hrel
    by_cases hlt : k < l.length
    · obtain ⟨cv, ov, cxs, oxs, hni, e1, e2⟩ := unhide HMADE
      obtain ⟨hcl, hol⟩ := made_len e1 e2 hl
      obtain ⟨b, off, cap', ev, _, _, hcells⟩ := (unhide HV).place (by omega)
      simp only [Value.slice.injEq] at ev
      obtain ⟨rfl, _, rfl⟩ := ev
      have hrec0 := hcells k hlt
      have hrec := hrec0.below hni.bel
      obtain ⟨vt, x40, hsk0⟩ := hrec0.to
      have hfit := (unhide HFit) k hlt
      have htk := (unhide HTake) k hlt
      have htl := (unhide HTL) k hlt
      have h7 := (unhide HR7) k hlt
      obtain ⟨tao, tcap, rfl, _, _⟩ := hsk0.shape
      have x4 : wr.cell? ⟨b, off + k * 8 + 4, none⟩ = some (.slice tao (l.getD k Cn.none).to.length tcap) := by rw [hni.bel.cell (lt_of_cell? x40)]; exact x40
      obtain ⟨x0, x1, x2, x3, _, x5, x6, x7⟩ := hrec
      generalize l.getD k Cn.none = r at *
      have HSK := hide hsk0
      have hsp : Sk .i32 w0 (sval (r, tao, r.to.length, tcap)) r.to ∧ RecFit r := ⟨hsk0, hfit⟩
      have HSP := hide hsp
      have hB1 : Below wr.heap.size wr (wr.alloc (.cells #[.int .i64 r.kind, .int .i64 r.lo, .int .i64 r.hi, .int .i64 r.n, .slice tao r.to.length tcap, .string r.name, .string r.other, .float .f64 r.wt] 60)) := (Below.refl _ _).alloc (Nat.le_refl _) _
      have hni1 := hni.below hB1
      have hs1 : (wr.alloc (.cells #[.int .i64 r.kind, .int .i64 r.lo, .int .i64 r.hi, .int .i64 r.n, .slice tao r.to.length tcap, .string r.name, .string r.other, .float .f64 r.wt] 60)).heap.size = wr.heap.size + 1 := by simp
      have HNEXT := hide (fun W c cv' ov' cxs' oxs' (h : NI w0 W c cv' ov' cxs' oxs') hc h1 h2 => Made.next (wr := W) (c := c) (cv := cv') (ov := ov') (cxs' := cxs') (oxs' := oxs') htk h hc e1 e2 h1 h2)
      have hbs := hni.bel.size
      obtain ⟨cao, ccap, rfl, hcc1, hcc2⟩ := hni.hc.shape
      obtain ⟨oao, ocap, rfl, hoc1, hoc2⟩ := hni.ho.shape
      have hfl : ∀ W a m, (store a (.float .f64 r.wt) m).run Tryz.prog W = stored Tryz.prog W a (.float .f64 r.wt) m := fun W a m => run_store Tryz.prog W a _ m rfl
      have HONE := hide (encR_one (r, tao, r.to.length, tcap))
      have HNI1 := hide hni1
      clear hrec0 hcells x40 hsk0 hfit htk hni e1 e2 hsp HMADE HFit HTake HTL HR7 HV HOK HRT HEND hni1
      by_cases k6 : r.kind = 6
      · have HNIW := HNI1
        clear h7
        obtain ⟨kd, lo, hi, nn, to, nm, ot, wt⟩ := r
        dsimp only at *
        subst k6
        have y0 : (wr.alloc (.cells #[.int .i64 6, .int .i64 lo, .int .i64 hi, .int .i64 nn, .slice tao to.length tcap, .string nm, .string ot, .float .f64 wt] 60)).cell? ⟨w0.heap.size + 1 + 1, 0, none⟩ = some (.slice cao cxs.length ccap) := cell_of (j := 0) (unhide HNIW).hx (by show 0 < 3; omega)
        have HROW : Hid (∀ o, ((wr.alloc (.cells #[.int .i64 6, .int .i64 lo, .int .i64 hi, .int .i64 nn, .slice tao to.length tcap, .string nm, .string ot, .float .f64 wt] 60)).alloc o).ownsRow w0.heap.size 60 8 (.slice cao cxs.length ccap) cxs.length (cxs.flatMap encR)) := fun o => (unhide HNIW).hc.1.alloc o
        have HNEW := hide (new_cells (wr.alloc (.cells #[.int .i64 6, .int .i64 lo, .int .i64 hi, .int .i64 nn, .slice tao to.length tcap, .string nm, .string ot, .float .f64 wt] 60)) (⟨6, lo, hi, nn, to, nm, ot, wt⟩ : Rec) tao tcap (wr.heap.size + 1) (by first | rfl | exact hs1))
        have HSTEP := hide (fun o v' w1 a b c => (unhide HNIW).classes (o := o) (v' := v') (w1 := w1) (unhide HSP) a b c)
        have hbsz := (unhide HNIW).bel.size
        clear HNIW HSP HNI1
        go_wp2_with (at_builtin; refine wpList_append_own_at _ rfl (.tmp 22) (.tmp 24) 22 rfl w0.heap.size 60 i1 (.agg #[.int .i64 0, .int .i64 0, .int .i64 0, .int .i64 0, .slice none 0 0, .string ⟨#[]⟩, .string ⟨#[]⟩, .float .f64 0]) 8 96 Tryz.underlying22 hj hy0 hy1 hy2 rfl (by decide) _ _ _ rfl ((unhide HROW) _) ⟨wr.heap.size + 1, 0, none⟩ 1 1 (encR ((⟨6, lo, hi, nn, to, nm, ot, wt⟩ : Rec), tao, to.length, tcap)) rfl rfl (unhide HNEW) (unhide HONE) (by unfold maxLen; omega) (by omega) (by simp; omega) ?_)
        intro v' w9 hrow9 hg9 _ hat9
        obtain ⟨hb9, hw9⟩ := (unhide HSTEP) _ v' w9 hrow9 hg9 (by first | exact hat9 | simpa using hat9)
        have HM2 : Hid (Made w0 (w9.setCell ⟨w0.heap.size + 1 + 1, 0, none⟩ v') l (k + 1)) := (unhide HNEXT) _ _ _ _ _ _ hw9 (Cn.firstP_other (by simp)).symm (by simp [is6]) (by simp [is78])
        obtain ⟨ao9, cap9, rfl, _, _⟩ := hw9.hc.shape
        have z0 : w9.cell? ⟨w0.heap.size + 1 + 1, 0, none⟩ = some (.slice cao cxs.length ccap) := cell_of (j := 0) hb9 (by show 0 < 3; omega)
        have zf := frozen_of (j := 0) hb9
        clear HROW HNEW HSTEP hrow9 hg9 hat9 hb9 hw9 HNEXT HONE y0
        generalize (cxs ++ [((⟨6, lo, hi, nn, to, nm, ot, wt⟩ : Rec), tao, to.length, tcap)]).length = m9 at *
        go_wp2
        go_roundw
        case rel => exact ⟨k + 1, by go_num, by omega, HM2⟩
        case measure => simp [intOf]; omega
      · have q6 : (r.kind == 6) = false := beq_eq_false_iff_ne.2 k6
        by_cases k7 : r.kind = 7
        · obtain ⟨hto2, hra, hrb⟩ := h7 k7
          clear q6 h7
          obtain ⟨kd, lo, hi, nn, to, nm, ot, wt⟩ := r
          dsimp only at *
          subst k7
          have hbxh : (wr.alloc (.cells #[.int .i64 7, .int .i64 lo, .int .i64 hi, .int .i64 nn, .slice tao to.length tcap, .string nm, .string ot, .float .f64 wt] 60)).heap[wr.heap.size]? = some (.cells #[.int .i64 7, .int .i64 lo, .int .i64 hi, .int .i64 nn, .slice tao to.length tcap, .string nm, .string ot, .float .f64 wt] 60 (0, 0)) := by
            show (wr.heap.push _)[wr.heap.size]? = _
            simp
          have HBX : Hid (∀ W : World, W.heap[wr.heap.size]? = some (.cells #[.int .i64 7, .int .i64 lo, .int .i64 hi, .int .i64 nn, .slice tao to.length tcap, .string nm, .string ot, .float .f64 wt] 60 (0, 0)) → W.cell? ⟨wr.heap.size, 0, none⟩ = some (.int .i64 7) ∧ W.cell? ⟨wr.heap.size, 1, none⟩ = some (.int .i64 lo) ∧ W.cell? ⟨wr.heap.size, 2, none⟩ = some (.int .i64 hi) ∧ W.cell? ⟨wr.heap.size, 3, none⟩ = some (.int .i64 nn) ∧ W.cell? ⟨wr.heap.size, 4, none⟩ = some (.slice tao to.length tcap) ∧ W.cell? ⟨wr.heap.size, 5, none⟩ = some (.string nm) ∧ W.cell? ⟨wr.heap.size, 6, none⟩ = some (.string ot) ∧ W.cell? ⟨wr.heap.size, 7, none⟩ = some (.float .f64 wt)) := fun W hW => ⟨cell_of (j := 0) hW (by show 0 < 8; omega), cell_of (j := 1) hW (by show 1 < 8; omega), cell_of (j := 2) hW (by show 2 < 8; omega), cell_of (j := 3) hW (by show 3 < 8; omega), cell_of (j := 4) hW (by show 4 < 8; omega), cell_of (j := 5) hW (by show 5 < 8; omega), cell_of (j := 6) hW (by show 6 < 8; omega), cell_of (j := 7) hW (by show 7 < 8; omega)⟩
          have HBH : Hid (∀ W : World, Below (wr.alloc (.cells #[.int .i64 7, .int .i64 lo, .int .i64 hi, .int .i64 nn, .slice tao to.length tcap, .string nm, .string ot, .float .f64 wt] 60)).heap.size (wr.alloc (.cells #[.int .i64 7, .int .i64 lo, .int .i64 hi, .int .i64 nn, .slice tao to.length tcap, .string nm, .string ot, .float .f64 wt] 60)) W → W.heap[wr.heap.size]? = some (.cells #[.int .i64 7, .int .i64 lo, .int .i64 hi, .int .i64 nn, .slice tao to.length tcap, .string nm, .string ot, .float .f64 wt] 60 (0, 0))) := fun W hW => by rw [hW.block _ (by rw [hs1]; omega)]; exact hbxh
          have HNIB : Hid (∀ W : World, Below (wr.alloc (.cells #[.int .i64 7, .int .i64 lo, .int .i64 hi, .int .i64 nn, .slice tao to.length tcap, .string nm, .string ot, .float .f64 wt] 60)).heap.size (wr.alloc (.cells #[.int .i64 7, .int .i64 lo, .int .i64 hi, .int .i64 nn, .slice tao to.length tcap, .string nm, .string ot, .float .f64 wt] 60)) W → NI w0 W (Cn.firstP (l.take k)) (.slice cao cxs.length ccap) (.slice oao oxs.length ocap) cxs oxs) := fun W hW => (unhide HNI1).below hW
          have HS : Hid (∀ W : World, Below (wr.alloc (.cells #[.int .i64 7, .int .i64 lo, .int .i64 hi, .int .i64 nn, .slice tao to.length tcap, .string nm, .string ot, .float .f64 wt] 60)).heap.size (wr.alloc (.cells #[.int .i64 7, .int .i64 lo, .int .i64 hi, .int .i64 nn, .slice tao to.length tcap, .string nm, .string ot, .float .f64 wt] 60)) W → (W.cell? ⟨wr.heap.size, 0, none⟩ = some (.int .i64 7) ∧ W.cell? ⟨wr.heap.size, 1, none⟩ = some (.int .i64 lo) ∧ W.cell? ⟨wr.heap.size, 2, none⟩ = some (.int .i64 hi) ∧ W.cell? ⟨wr.heap.size, 3, none⟩ = some (.int .i64 nn) ∧ W.cell? ⟨wr.heap.size, 4, none⟩ = some (.slice tao to.length tcap) ∧ W.cell? ⟨wr.heap.size, 5, none⟩ = some (.string nm) ∧ W.cell? ⟨wr.heap.size, 6, none⟩ = some (.string ot) ∧ W.cell? ⟨wr.heap.size, 7, none⟩ = some (.float .f64 wt) ∧ W.cell? ⟨w0.heap.size + 1 + 1, 2, none⟩ = some (.map (some (w0.heap.size + 1))) ∧ Hid (Below (wr.alloc (.cells #[.int .i64 7, .int .i64 lo, .int .i64 hi, .int .i64 nn, .slice tao to.length tcap, .string nm, .string ot, .float .f64 wt] 60)).heap.size (wr.alloc (.cells #[.int .i64 7, .int .i64 lo, .int .i64 hi, .int .i64 nn, .slice tao to.length tcap, .string nm, .string ot, .float .f64 wt] 60)) W))) := fun W hW => by
            obtain ⟨s0, s1, s2, s3, s4, s5, s6, s7⟩ := (unhide HBX) W ((unhide HBH) W hW)
            exact ⟨s0, s1, s2, s3, s4, s5, s6, s7, cell_of (j := 2) ((unhide HNIB) W hW).hx (by show 2 < 3; omega), hW⟩
          have KPO : Hid (∀ W : World, Below w0.heap.size w0 W → Calls Tryz.prog 75 #[.agg #[.int .i64 7, .int .i64 lo, .int .i64 hi, .int .i64 nn, .slice tao to.length tcap, .string nm, .string ot, .float .f64 wt]] W (fun e w' => e = .returned (pk2 (to.getD 0 0) (to.getD 1 0)) ∧ Below W.heap.size W w')) := fun W hW => pairOf_any (⟨7, lo, hi, nn, to, nm, ot, wt⟩ : Rec) _ W ((unhide HSK).below hW) hto2
          have HLK : Hid (∀ W : World, Below (wr.alloc (.cells #[.int .i64 7, .int .i64 lo, .int .i64 hi, .int .i64 nn, .slice tao to.length tcap, .string nm, .string ot, .float .f64 wt] 60)).heap.size (wr.alloc (.cells #[.int .i64 7, .int .i64 lo, .int .i64 hi, .int .i64 nn, .slice tao to.length tcap, .string nm, .string ot, .float .f64 wt] 60)) W → (Instr.lookup 65 (.map (some (w0.heap.size + 1))) (pk2 (to.getD 0 0) (to.getD 1 0)) true).run Tryz.prog W = .ok (.tuple #[.int .i64 ((Cn.firstP (l.take k) (to.getD 0 0) (to.getD 1 0)).getD 0), .bool (Cn.firstP (l.take k) (to.getD 0 0) (to.getD 1 0)).isSome]) W) := fun W hW => (look_ok ((unhide HNIB) W hW).hm hra hrb).1
          have HKN : Hid ((Cn.firstP (l.take k) (to.getD 0 0) (to.getD 1 0)).isSome = true → Cn.firstP (l.take k ++ [(⟨7, lo, hi, nn, to, nm, ot, wt⟩ : Rec)]) = Cn.firstP (l.take k)) := fun h => Cn.firstP_known (r := (⟨7, lo, hi, nn, to, nm, ot, wt⟩ : Rec)) h
          have HUP : Hid ((Cn.firstP (l.take k) (to.getD 0 0) (to.getD 1 0)).isSome = false → ∀ W : World, Below (wr.alloc (.cells #[.int .i64 7, .int .i64 lo, .int .i64 hi, .int .i64 nn, .slice tao to.length tcap, .string nm, .string ot, .float .f64 wt] 60)).heap.size (wr.alloc (.cells #[.int .i64 7, .int .i64 lo, .int .i64 hi, .int .i64 nn, .slice tao to.length tcap, .string nm, .string ot, .float .f64 wt] 60)) W → ∃ es' clock', (Instr.mapUpdate 65 (.map (some (w0.heap.size + 1))) (pk2 (to.getD 0 0) (to.getD 1 0)) (.int .i64 (k : Int))).run Tryz.prog W = .ok () (setBlock W (w0.heap.size + 1) (.map es' clock')) ∧ NI w0 (setBlock W (w0.heap.size + 1) (.map es' clock')) (Cn.firstP (l.take k ++ [(⟨7, lo, hi, nn, to, nm, ot, wt⟩ : Rec)])) (.slice cao cxs.length ccap) (.slice oao oxs.length ocap) cxs oxs) := fun h W hW => by
            have hn : Cn.firstP (l.take k) (to.getD 0 0) (to.getD 1 0) = none := by simpa using h
            obtain ⟨es', cl', g1, g2⟩ := run_update ((unhide HNIB) W hW).hm hra hrb hn (k : Int)
            have hup5 := ((unhide HNIB) W hW).upd g2
            have e5 := Cn.firstP_new (r := (⟨7, lo, hi, nn, to, nm, ot, wt⟩ : Rec)) (l := l.take k) rfl hn
            rw [htl] at e5
            refine ⟨es', cl', g1, ?_⟩
            rw [e5]
            exact hup5
          have HWB : Hid (∀ W : World, Below (wr.alloc (.cells #[.int .i64 7, .int .i64 lo, .int .i64 hi, .int .i64 nn, .slice tao to.length tcap, .string nm, .string ot, .float .f64 wt] 60)).heap.size (wr.alloc (.cells #[.int .i64 7, .int .i64 lo, .int .i64 hi, .int .i64 nn, .slice tao to.length tcap, .string nm, .string ot, .float .f64 wt] 60)) W → Below w0.heap.size w0 W) := fun W hW => ((unhide HNIB) W hW).bel
          clear hbxh HSK hto2 htl
          generalize (Cn.firstP (l.take k) (to.getD 0 0) (to.getD 1 0)).getD 0 = zf at *
          generalize (Cn.firstP (l.take k) (to.getD 0 0) (to.getD 1 0)).isSome = kn at *
          generalize to.getD 0 0 = pa at *
          generalize to.getD 1 0 = pb at *
          unfold pk2 at *
          have hd1 : Below (wr.alloc (.cells #[.int .i64 7, .int .i64 lo, .int .i64 hi, .int .i64 nn, .slice tao to.length tcap, .string nm, .string ot, .float .f64 wt] 60)).heap.size (wr.alloc (.cells #[.int .i64 7, .int .i64 lo, .int .i64 hi, .int .i64 nn, .slice tao to.length tcap, .string nm, .string ot, .float .f64 wt] 60)) (wr.alloc (.cells #[.int .i64 7, .int .i64 lo, .int .i64 hi, .int .i64 nn, .slice tao to.length tcap, .string nm, .string ot, .float .f64 wt] 60)).drew := drewB ⟨1, rfl⟩
          have HFST := hide ((unhide HS) _ hd1)
          have KP1 := hide ((unhide KPO) _ ((unhide HWB) _ hd1))
          go_wp2
          refine wp_region_held_drew (S := fun w' => w'.cell? ⟨wr.heap.size, 0, none⟩ = some (.int .i64 7) ∧ w'.cell? ⟨wr.heap.size, 1, none⟩ = some (.int .i64 lo) ∧ w'.cell? ⟨wr.heap.size, 2, none⟩ = some (.int .i64 hi) ∧ w'.cell? ⟨wr.heap.size, 3, none⟩ = some (.int .i64 nn) ∧ w'.cell? ⟨wr.heap.size, 4, none⟩ = some (.slice tao to.length tcap) ∧ w'.cell? ⟨wr.heap.size, 5, none⟩ = some (.string nm) ∧ w'.cell? ⟨wr.heap.size, 6, none⟩ = some (.string ot) ∧ w'.cell? ⟨wr.heap.size, 7, none⟩ = some (.float .f64 wt) ∧ w'.cell? ⟨w0.heap.size + 1 + 1, 2, none⟩ = some (.map (some (w0.heap.size + 1))) ∧ Hid (Below (wr.alloc (.cells #[.int .i64 7, .int .i64 lo, .int .i64 hi, .int .i64 nn, .slice tao to.length tcap, .string nm, .string ot, .float .f64 wt] 60)).heap.size (wr.alloc (.cells #[.int .i64 7, .int .i64 lo, .int .i64 hi, .int .i64 nn, .slice tao to.length tcap, .string nm, .string ot, .float .f64 wt] 60)) w')) (by kernel_rfl) (unhide HFST) (fun hHeld => ?_)
          refine wpAnyH_take (i := 0) (oi := { dst := some 30, op := Op.fieldAddr 67 (Operand.tmp 3) 2, type := 0, pos := "check.go:28", after := #[], guard := none }) (v := .pointer (some ⟨w0.heap.size + 1 + 1, 2, none⟩)) rfl (by kernel_rfl) (by kernel_rfl) (by kernel_rfl) (fun _ _ _ h => h) (Or.inl ⟨by rfl, ?_⟩) hHeld ?_
          · intro w hSw
            obtain ⟨s0, s1, s2, s3, s4, s5, s6, s7, s8, s9⟩ := hSw; go_simp
          try simp only [Act.put, List.setIfInBounds_toArray, List.set_cons_zero, List.set_cons_succ]
          refine wpAnyH_take (i := 1) (oi := { dst := some 31, op := Op.load 65 (Operand.tmp 30), type := 65, pos := "check.go:28", after := #[{ on := 0, ground := Ground.data }], guard := none }) (v := .map (some (w0.heap.size + 1))) rfl (by kernel_rfl) (by kernel_rfl) (by kernel_rfl) (fun _ _ _ h => h) (Or.inl ⟨by rfl, ?_⟩) hHeld ?_
          · intro w hSw
            obtain ⟨s0, s1, s2, s3, s4, s5, s6, s7, s8, s9⟩ := hSw; go_simp
          try simp only [Act.put, List.setIfInBounds_toArray, List.set_cons_zero, List.set_cons_succ]
          refine wpAnyH_take (i := 2) (oi := { dst := some 32, op := Op.load 60 (Operand.tmp 5), type := 60, pos := "check.go:28", after := #[], guard := none }) (v := .agg #[.int .i64 7, .int .i64 lo, .int .i64 hi, .int .i64 nn, .slice tao to.length tcap, .string nm, .string ot, .float .f64 wt]) rfl (by kernel_rfl) (by kernel_rfl) (by kernel_rfl) (fun _ _ _ h => h) (Or.inl ⟨by rfl, ?_⟩) hHeld ?_
          · intro w hSw
            obtain ⟨s0, s1, s2, s3, s4, s5, s6, s7, s8, s9⟩ := hSw; go_simp
          try simp only [Act.put, List.setIfInBounds_toArray, List.set_cons_zero, List.set_cons_succ]
          refine wpAnyH_ready (rs := [3]) (by kernel_rfl) (by simp) ?_
          refine AllReadyH.cons (o := { dst := some 33, op := Op.call { callee := Callee.value (Operand.func 75), args := #[Operand.tmp 32], argTypes := #[60] }, type := 122, pos := "check.go:28", after := #[{ on := 2, ground := Ground.data }], guard := none }) rfl (fun K hK => ?_) AllReadyH.nil
          go_simp
          refine (unhide KP1).mono ?_
          rintro e W2 ⟨rfl, hb2⟩
          have hB2 : Below (wr.alloc (.cells #[.int .i64 7, .int .i64 lo, .int .i64 hi, .int .i64 nn, .slice tao to.length tcap, .string nm, .string ot, .float .f64 wt] 60)).heap.size (wr.alloc (.cells #[.int .i64 7, .int .i64 lo, .int .i64 hi, .int .i64 nn, .slice tao to.length tcap, .string nm, .string ot, .float .f64 wt] 60)) W2 := bthen hd1 hb2
          have HF2 := hide ((unhide HS) W2 hB2)
          refine hK.out _ _ ?_ (fun hHeld => ?_)
          · exact unhide HF2
          clear hK K
          try simp only [Act.put, List.setIfInBounds_toArray, List.set_cons_zero, List.set_cons_succ]
          refine wpAnyH_take (i := 4) (oi := { dst := some 34, op := Op.lookup 65 (Operand.tmp 31) (Operand.tmp 33) true, type := 121, pos := "check.go:28", after := #[{ on := 1, ground := Ground.data }, { on := 3, ground := Ground.data }], guard := none }) (v := .tuple #[.int .i64 zf, .bool kn]) rfl (by kernel_rfl) (by kernel_rfl) (by kernel_rfl) (fun _ _ _ h => h) (Or.inl ⟨by rfl, ?_⟩) hHeld ?_
          · intro w hSw
            obtain ⟨s0, s1, s2, s3, s4, s5, s6, s7, s8, s9⟩ := hSw; have hlk := (unhide HLK) w (unhide s9); go_simp
          try simp only [Act.put, List.setIfInBounds_toArray, List.set_cons_zero, List.set_cons_succ]
          refine wpAnyH_take (i := 5) (oi := { dst := some 29, op := Op.move (Operand.tmp 34), type := 121, pos := "check.go:28", after := #[{ on := 4, ground := Ground.data }], guard := none }) (v := .tuple #[.int .i64 zf, .bool kn]) rfl (by kernel_rfl) (by kernel_rfl) (by kernel_rfl) (fun _ _ _ h => h) (Or.inl ⟨by rfl, ?_⟩) hHeld ?_
          · intro w hSw
            go_simp
          try simp only [Act.put, List.setIfInBounds_toArray, List.set_cons_zero, List.set_cons_succ]
          refine wpAnyH_take (i := 6) (oi := { dst := some 35, op := Op.extract (Operand.tmp 29) 0, type := 3, pos := "check.go:28", after := #[{ on := 5, ground := Ground.data }], guard := none }) (v := .int .i64 zf) rfl (by kernel_rfl) (by kernel_rfl) (by kernel_rfl) (fun _ _ _ h => h) (Or.inl ⟨by rfl, ?_⟩) hHeld ?_
          · intro w hSw
            go_simp
          try simp only [Act.put, List.setIfInBounds_toArray, List.set_cons_zero, List.set_cons_succ]
          refine wpAnyH_take (i := 7) (oi := { dst := some 36, op := Op.extract (Operand.tmp 29) 1, type := 4, pos := "check.go:28", after := #[{ on := 5, ground := Ground.data }, { on := 8, ground := Ground.gcOnly Departure.lateStores }], guard := none }) (v := .bool kn) rfl (by kernel_rfl) (by kernel_rfl) (by kernel_rfl) (fun _ _ _ h => h) (Or.inl ⟨by rfl, ?_⟩) hHeld ?_
          · intro w hSw
            go_simp
          try simp only [Act.put, List.setIfInBounds_toArray, List.set_cons_zero, List.set_cons_succ]
          refine wpAnyH_take (i := 8) (oi := { dst := some 6, op := Op.assign (Operand.tmp 35), type := 3, pos := "check.go:28", after := #[{ on := 6, ground := Ground.data }, { on := 3, ground := Ground.chain }, { on := 0, ground := Ground.phase }, { on := 1, ground := Ground.phase }, { on := 2, ground := Ground.phase }, { on := 3, ground := Ground.phase }, { on := 4, ground := Ground.phase }, { on := 5, ground := Ground.phase }, { on := 6, ground := Ground.phase }, { on := 7, ground := Ground.textOnly Departure.lateStores }], guard := none }) (v := .int .i64 zf) rfl (by kernel_rfl) (by kernel_rfl) (by kernel_rfl) (fun _ _ _ h => h) (Or.inl ⟨by rfl, ?_⟩) hHeld ?_
          · intro w hSw
            go_simp
          try simp only [Act.put, List.setIfInBounds_toArray, List.set_cons_zero, List.set_cons_succ]
          refine wpAnyH_take (i := 9) (oi := { dst := some 7, op := Op.assign (Operand.tmp 36), type := 4, pos := "check.go:28", after := #[{ on := 7, ground := Ground.data }, { on := 8, ground := Ground.chain }, { on := 0, ground := Ground.phase }, { on := 1, ground := Ground.phase }, { on := 2, ground := Ground.phase }, { on := 3, ground := Ground.phase }, { on := 4, ground := Ground.phase }, { on := 5, ground := Ground.phase }, { on := 6, ground := Ground.phase }, { on := 7, ground := Ground.phase }, { on := 8, ground := Ground.phase }], guard := none }) (v := .bool kn) rfl (by kernel_rfl) (by kernel_rfl) (by kernel_rfl) (fun _ _ _ h => h) (Or.inl ⟨by rfl, ?_⟩) hHeld ?_
          · intro w hSw
            go_simp
          try simp only [Act.put, List.setIfInBounds_toArray, List.set_cons_zero, List.set_cons_succ]
          refine wpAnyH_done (by kernel_rfl) ?_ _
          obtain ⟨t0, t1, t2, t3, t4, t5, t6, t7, t8, _⟩ := unhide HF2
          clear HF2 HFST KP1 hHeld
          cases kn
          · obtain hup := (unhide HUP) rfl
            have hd2 : Below (wr.alloc (.cells #[.int .i64 7, .int .i64 lo, .int .i64 hi, .int .i64 nn, .slice tao to.length tcap, .string nm, .string ot, .float .f64 wt] 60)).heap.size (wr.alloc (.cells #[.int .i64 7, .int .i64 lo, .int .i64 hi, .int .i64 nn, .slice tao to.length tcap, .string nm, .string ot, .float .f64 wt] 60)) W2.drew := bthen hB2 (drewB ⟨1, rfl⟩)
            have HFST : Hid (W2.drew.cell? ⟨wr.heap.size, 0, none⟩ = some (.int .i64 7) ∧ W2.drew.cell? ⟨wr.heap.size, 1, none⟩ = some (.int .i64 lo) ∧ W2.drew.cell? ⟨wr.heap.size, 2, none⟩ = some (.int .i64 hi) ∧ W2.drew.cell? ⟨wr.heap.size, 3, none⟩ = some (.int .i64 nn) ∧ W2.drew.cell? ⟨wr.heap.size, 4, none⟩ = some (.slice tao to.length tcap) ∧ W2.drew.cell? ⟨wr.heap.size, 5, none⟩ = some (.string nm) ∧ W2.drew.cell? ⟨wr.heap.size, 6, none⟩ = some (.string ot) ∧ W2.drew.cell? ⟨wr.heap.size, 7, none⟩ = some (.float .f64 wt) ∧ W2.drew.cell? ⟨w0.heap.size + 1 + 1, 2, none⟩ = some (.map (some (w0.heap.size + 1)))) := by
              obtain ⟨s0, s1, s2, s3, s4, s5, s6, s7, s8, _⟩ := (unhide HS) _ hd2
              exact ⟨s0, s1, s2, s3, s4, s5, s6, s7, s8⟩
            have KP2 := hide ((unhide KPO) _ ((unhide HWB) _ hd2))
            have HUP2 := hide hup
            clear hup
            go_wp2
            refine wp_region_held_drew (S := fun w' => w'.cell? ⟨wr.heap.size, 0, none⟩ = some (.int .i64 7) ∧ w'.cell? ⟨wr.heap.size, 1, none⟩ = some (.int .i64 lo) ∧ w'.cell? ⟨wr.heap.size, 2, none⟩ = some (.int .i64 hi) ∧ w'.cell? ⟨wr.heap.size, 3, none⟩ = some (.int .i64 nn) ∧ w'.cell? ⟨wr.heap.size, 4, none⟩ = some (.slice tao to.length tcap) ∧ w'.cell? ⟨wr.heap.size, 5, none⟩ = some (.string nm) ∧ w'.cell? ⟨wr.heap.size, 6, none⟩ = some (.string ot) ∧ w'.cell? ⟨wr.heap.size, 7, none⟩ = some (.float .f64 wt) ∧ w'.cell? ⟨w0.heap.size + 1 + 1, 2, none⟩ = some (.map (some (w0.heap.size + 1)))) (by kernel_rfl) (unhide HFST) (fun hHeld => ?_)
            refine wpAnyH_take (i := 0) (oi := { dst := some 39, op := Op.fieldAddr 67 (Operand.tmp 3) 2, type := 0, pos := "check.go:29", after := #[], guard := none }) (v := .pointer (some ⟨w0.heap.size + 1 + 1, 2, none⟩)) rfl (by kernel_rfl) (by kernel_rfl) (by kernel_rfl) (fun _ _ _ h => h) (Or.inl ⟨by rfl, ?_⟩) hHeld ?_
            · intro w hSw
              obtain ⟨s0, s1, s2, s3, s4, s5, s6, s7, s8⟩ := hSw; go_simp
            try simp only [Act.put, List.setIfInBounds_toArray, List.set_cons_zero, List.set_cons_succ]
            refine wpAnyH_take (i := 1) (oi := { dst := some 40, op := Op.load 65 (Operand.tmp 39), type := 65, pos := "check.go:29", after := #[{ on := 0, ground := Ground.data }], guard := none }) (v := .map (some (w0.heap.size + 1))) rfl (by kernel_rfl) (by kernel_rfl) (by kernel_rfl) (fun _ _ _ h => h) (Or.inl ⟨by rfl, ?_⟩) hHeld ?_
            · intro w hSw
              obtain ⟨s0, s1, s2, s3, s4, s5, s6, s7, s8⟩ := hSw; go_simp
            try simp only [Act.put, List.setIfInBounds_toArray, List.set_cons_zero, List.set_cons_succ]
            refine wpAnyH_take (i := 2) (oi := { dst := some 41, op := Op.load 60 (Operand.tmp 5), type := 60, pos := "check.go:29", after := #[], guard := none }) (v := .agg #[.int .i64 7, .int .i64 lo, .int .i64 hi, .int .i64 nn, .slice tao to.length tcap, .string nm, .string ot, .float .f64 wt]) rfl (by kernel_rfl) (by kernel_rfl) (by kernel_rfl) (fun _ _ _ h => h) (Or.inl ⟨by rfl, ?_⟩) hHeld ?_
            · intro w hSw
              obtain ⟨s0, s1, s2, s3, s4, s5, s6, s7, s8⟩ := hSw; go_simp
            try simp only [Act.put, List.setIfInBounds_toArray, List.set_cons_zero, List.set_cons_succ]
            refine wpAnyH_take (i := 4) (oi := { dst := some 43, op := Op.move (Operand.tmp 4), type := 3, pos := "check.go:29", after := #[], guard := none }) (v := .int .i64 (k : Int)) rfl (by kernel_rfl) (by kernel_rfl) (by kernel_rfl) (fun _ _ _ h => h) (Or.inl ⟨by rfl, ?_⟩) hHeld ?_
            · intro w hSw
              go_simp
            try simp only [Act.put, List.setIfInBounds_toArray, List.set_cons_zero, List.set_cons_succ]
            refine wpAnyH_ready (rs := [3]) (by kernel_rfl) (by simp) ?_
            refine AllReadyH.cons (o := { dst := some 42, op := Op.call { callee := Callee.value (Operand.func 75), args := #[Operand.tmp 41], argTypes := #[60] }, type := 122, pos := "check.go:29", after := #[{ on := 2, ground := Ground.data }], guard := none }) rfl (fun K hK => ?_) AllReadyH.nil
            go_simp
            refine (unhide KP2).mono ?_
            rintro e W3 ⟨rfl, hb3⟩
            have hB3 : Below (wr.alloc (.cells #[.int .i64 7, .int .i64 lo, .int .i64 hi, .int .i64 nn, .slice tao to.length tcap, .string nm, .string ot, .float .f64 wt] 60)).heap.size (wr.alloc (.cells #[.int .i64 7, .int .i64 lo, .int .i64 hi, .int .i64 nn, .slice tao to.length tcap, .string nm, .string ot, .float .f64 wt] 60)) W3 := bthen hd2 hb3
            obtain ⟨es5, cl5, hu5, hni5⟩ := (unhide HUP2) W3 hB3
            have HNI5 := hide hni5
            have HF3 : Hid (W3.cell? ⟨wr.heap.size, 0, none⟩ = some (.int .i64 7) ∧ W3.cell? ⟨wr.heap.size, 1, none⟩ = some (.int .i64 lo) ∧ W3.cell? ⟨wr.heap.size, 2, none⟩ = some (.int .i64 hi) ∧ W3.cell? ⟨wr.heap.size, 3, none⟩ = some (.int .i64 nn) ∧ W3.cell? ⟨wr.heap.size, 4, none⟩ = some (.slice tao to.length tcap) ∧ W3.cell? ⟨wr.heap.size, 5, none⟩ = some (.string nm) ∧ W3.cell? ⟨wr.heap.size, 6, none⟩ = some (.string ot) ∧ W3.cell? ⟨wr.heap.size, 7, none⟩ = some (.float .f64 wt) ∧ W3.cell? ⟨w0.heap.size + 1 + 1, 2, none⟩ = some (.map (some (w0.heap.size + 1)))) := by
              obtain ⟨s0, s1, s2, s3, s4, s5, s6, s7, s8, _⟩ := (unhide HS) _ hB3
              exact ⟨s0, s1, s2, s3, s4, s5, s6, s7, s8⟩
            have HF5 : Hid ((setBlock W3 (w0.heap.size + 1) (.map es5 cl5)).cell? ⟨wr.heap.size, 0, none⟩ = some (.int .i64 7) ∧ (setBlock W3 (w0.heap.size + 1) (.map es5 cl5)).cell? ⟨wr.heap.size, 1, none⟩ = some (.int .i64 lo) ∧ (setBlock W3 (w0.heap.size + 1) (.map es5 cl5)).cell? ⟨wr.heap.size, 2, none⟩ = some (.int .i64 hi) ∧ (setBlock W3 (w0.heap.size + 1) (.map es5 cl5)).cell? ⟨wr.heap.size, 3, none⟩ = some (.int .i64 nn) ∧ (setBlock W3 (w0.heap.size + 1) (.map es5 cl5)).cell? ⟨wr.heap.size, 4, none⟩ = some (.slice tao to.length tcap) ∧ (setBlock W3 (w0.heap.size + 1) (.map es5 cl5)).cell? ⟨wr.heap.size, 5, none⟩ = some (.string nm) ∧ (setBlock W3 (w0.heap.size + 1) (.map es5 cl5)).cell? ⟨wr.heap.size, 6, none⟩ = some (.string ot) ∧ (setBlock W3 (w0.heap.size + 1) (.map es5 cl5)).cell? ⟨wr.heap.size, 7, none⟩ = some (.float .f64 wt) ∧ (setBlock W3 (w0.heap.size + 1) (.map es5 cl5)).cell? ⟨w0.heap.size + 1 + 1, 2, none⟩ = some (.map (some (w0.heap.size + 1)))) := by
              obtain ⟨s0, s1, s2, s3, s4, s5, s6, s7, s8, _⟩ := (unhide HS) _ hB3
              have hne : wr.heap.size ≠ w0.heap.size + 1 := by have := heap_lt (unhide HNI1).hx; rw [hs1] at this; omega
              have hne2 : w0.heap.size + 2 ≠ w0.heap.size + 1 := by omega
              exact ⟨cell_far7 _ hne s0, cell_far7 _ hne s1, cell_far7 _ hne s2, cell_far7 _ hne s3, cell_far7 _ hne s4, cell_far7 _ hne s5, cell_far7 _ hne s6, cell_far7 _ hne s7, cell_far7 _ hne2 s8⟩
            clear hni5
            refine hK.out _ _ ?_ (fun hHeld => ?_)
            · exact unhide HF3
            clear hK K
            try simp only [Act.put, List.setIfInBounds_toArray, List.set_cons_zero, List.set_cons_succ]
            refine wpAnyH_ready (rs := [5]) (by kernel_rfl) (by simp) ?_
            refine AllReadyH.cons (o := { dst := none, op := Op.mapUpdate 65 (Operand.tmp 40) (Operand.tmp 42) (Operand.tmp 43), type := 0, pos := "check.go:29", after := #[{ on := 1, ground := Ground.data }, { on := 3, ground := Ground.data }, { on := 4, ground := Ground.data }, { on := 3, ground := Ground.chain }, { on := 0, ground := Ground.phase }, { on := 1, ground := Ground.phase }, { on := 2, ground := Ground.phase }, { on := 3, ground := Ground.phase }, { on := 4, ground := Ground.phase }], guard := none }) rfl (fun K hK => ?_) AllReadyH.nil
            go_simp
            refine hK.out _ _ ?_ (fun hHeld => ?_)
            · exact unhide HF5
            clear hK K
            try simp only [Act.put, List.setIfInBounds_toArray, List.set_cons_zero, List.set_cons_succ]
            refine wpAnyH_done (by kernel_rfl) ?_ _
            obtain ⟨u0, u1, u2, u3, u4, u5, u6, u7, u8⟩ := unhide HF5
            have HNIW := HNI5
            clear HF5 HF3 HFST KP2 hHeld HUP2 HUP HKN HLK HS HBX HBH HNIB KPO HWB t0 t1 t2 t3 t4 t5 t6 t7 t8 HNI5 hu5 hB3 hd2 hB2 hd1
            generalize setBlock W3 (w0.heap.size + 1) (.map es5 cl5) = W5 at *
            have y0 : W5.cell? ⟨w0.heap.size + 1 + 1, 1, none⟩ = some (.slice oao oxs.length ocap) := cell_of (j := 1) (unhide HNIW).hx (by show 1 < 3; omega)
            have HROW : Hid (∀ o, (W5.alloc o).ownsRow w0.heap.size 60 8 (.slice oao oxs.length ocap) oxs.length (oxs.flatMap encR)) := fun o => (unhide HNIW).ho.1.alloc o
            have HNEW := hide (new_cells W5 (⟨7, lo, hi, nn, to, nm, ot, wt⟩ : Rec) tao tcap (W5.heap.size) (by first | rfl | exact hs1))
            have HSTEP := hide (fun o v' w1 a b c => (unhide HNIW).opens (o := o) (v' := v') (w1 := w1) (unhide HSP) a b c)
            have hbsz := (unhide HNIW).bel.size
            clear HNIW HSP HNI1
            go_wp2_with (at_builtin; refine wpList_append_own_at _ rfl (.tmp 45) (.tmp 47) 22 rfl w0.heap.size 60 i1 (.agg #[.int .i64 0, .int .i64 0, .int .i64 0, .int .i64 0, .slice none 0 0, .string ⟨#[]⟩, .string ⟨#[]⟩, .float .f64 0]) 8 96 Tryz.underlying22 hj hy0 hy1 hy2 rfl (by decide) _ _ _ rfl ((unhide HROW) _) ⟨W5.heap.size, 0, none⟩ 1 1 (encR ((⟨7, lo, hi, nn, to, nm, ot, wt⟩ : Rec), tao, to.length, tcap)) rfl rfl (unhide HNEW) (unhide HONE) (by unfold maxLen; omega) (by omega) (by simp; omega) ?_)
            intro v' w9 hrow9 hg9 _ hat9
            obtain ⟨hb9, hw9⟩ := (unhide HSTEP) _ v' w9 hrow9 hg9 (by first | exact hat9 | simpa using hat9)
            have HM2 : Hid (Made w0 (w9.setCell ⟨w0.heap.size + 1 + 1, 1, none⟩ v') l (k + 1)) := (unhide HNEXT) _ _ _ _ _ _ hw9 rfl (by simp [is6]) (by simp [is78])
            obtain ⟨ao9, cap9, rfl, _, _⟩ := hw9.ho.shape
            have z0 : w9.cell? ⟨w0.heap.size + 1 + 1, 1, none⟩ = some (.slice oao oxs.length ocap) := cell_of (j := 1) hb9 (by show 1 < 3; omega)
            have zf := frozen_of (j := 1) hb9
            clear HROW HNEW HSTEP hrow9 hg9 hat9 hb9 hw9 HNEXT HONE y0
            generalize (oxs ++ [((⟨7, lo, hi, nn, to, nm, ot, wt⟩ : Rec), tao, to.length, tcap)]).length = m9 at *
            go_wp2
            go_roundw
            case rel => exact ⟨k + 1, by go_num, by omega, HM2⟩
            case measure => simp [intOf]; omega
          · have hkn := (unhide HKN) rfl
            have HNIW := hide ((unhide HNIB) W2 hB2)
            clear HUP HKN HLK HS HBX HBH HNIB KPO HWB hB2 hd1
            have y0 : W2.cell? ⟨w0.heap.size + 1 + 1, 1, none⟩ = some (.slice oao oxs.length ocap) := cell_of (j := 1) (unhide HNIW).hx (by show 1 < 3; omega)
            have HROW : Hid (∀ o, (W2.alloc o).ownsRow w0.heap.size 60 8 (.slice oao oxs.length ocap) oxs.length (oxs.flatMap encR)) := fun o => (unhide HNIW).ho.1.alloc o
            have HNEW := hide (new_cells W2 (⟨7, lo, hi, nn, to, nm, ot, wt⟩ : Rec) tao tcap (W2.heap.size) (by first | rfl | exact hs1))
            have HSTEP := hide (fun o v' w1 a b c => (unhide HNIW).opens (o := o) (v' := v') (w1 := w1) (unhide HSP) a b c)
            have hbsz := (unhide HNIW).bel.size
            clear HNIW HSP HNI1
            go_wp2_with (at_builtin; refine wpList_append_own_at _ rfl (.tmp 45) (.tmp 47) 22 rfl w0.heap.size 60 i1 (.agg #[.int .i64 0, .int .i64 0, .int .i64 0, .int .i64 0, .slice none 0 0, .string ⟨#[]⟩, .string ⟨#[]⟩, .float .f64 0]) 8 96 Tryz.underlying22 hj hy0 hy1 hy2 rfl (by decide) _ _ _ rfl ((unhide HROW) _) ⟨W2.heap.size, 0, none⟩ 1 1 (encR ((⟨7, lo, hi, nn, to, nm, ot, wt⟩ : Rec), tao, to.length, tcap)) rfl rfl (unhide HNEW) (unhide HONE) (by unfold maxLen; omega) (by omega) (by simp; omega) ?_)
            intro v' w9 hrow9 hg9 _ hat9
            obtain ⟨hb9, hw9⟩ := (unhide HSTEP) _ v' w9 hrow9 hg9 (by first | exact hat9 | simpa using hat9)
            have HM2 : Hid (Made w0 (w9.setCell ⟨w0.heap.size + 1 + 1, 1, none⟩ v') l (k + 1)) := (unhide HNEXT) _ _ _ _ _ _ hw9 hkn.symm (by simp [is6]) (by simp [is78])
            obtain ⟨ao9, cap9, rfl, _, _⟩ := hw9.ho.shape
            have z0 : w9.cell? ⟨w0.heap.size + 1 + 1, 1, none⟩ = some (.slice oao oxs.length ocap) := cell_of (j := 1) hb9 (by show 1 < 3; omega)
            have zf := frozen_of (j := 1) hb9
            clear HROW HNEW HSTEP hrow9 hg9 hat9 hb9 hw9 HNEXT HONE y0
            generalize (oxs ++ [((⟨7, lo, hi, nn, to, nm, ot, wt⟩ : Rec), tao, to.length, tcap)]).length = m9 at *
            go_wp2
            go_roundw
            case rel => exact ⟨k + 1, by go_num, by omega, HM2⟩
            case measure => simp [intOf]; omega
        · have q7 : (r.kind == 7) = false := beq_eq_false_iff_ne.2 k7
          clear h7
          by_cases k8 : r.kind = 8
          · have HNIW := HNI1
            clear q6 q7
            obtain ⟨kd, lo, hi, nn, to, nm, ot, wt⟩ := r
            dsimp only at *
            subst k8
            have y0 : (wr.alloc (.cells #[.int .i64 8, .int .i64 lo, .int .i64 hi, .int .i64 nn, .slice tao to.length tcap, .string nm, .string ot, .float .f64 wt] 60)).cell? ⟨w0.heap.size + 1 + 1, 1, none⟩ = some (.slice oao oxs.length ocap) := cell_of (j := 1) (unhide HNIW).hx (by show 1 < 3; omega)
            have HROW : Hid (∀ o, ((wr.alloc (.cells #[.int .i64 8, .int .i64 lo, .int .i64 hi, .int .i64 nn, .slice tao to.length tcap, .string nm, .string ot, .float .f64 wt] 60)).alloc o).ownsRow w0.heap.size 60 8 (.slice oao oxs.length ocap) oxs.length (oxs.flatMap encR)) := fun o => (unhide HNIW).ho.1.alloc o
            have HNEW := hide (new_cells (wr.alloc (.cells #[.int .i64 8, .int .i64 lo, .int .i64 hi, .int .i64 nn, .slice tao to.length tcap, .string nm, .string ot, .float .f64 wt] 60)) (⟨8, lo, hi, nn, to, nm, ot, wt⟩ : Rec) tao tcap (wr.heap.size + 1) (by first | rfl | exact hs1))
            have HSTEP := hide (fun o v' w1 a b c => (unhide HNIW).opens (o := o) (v' := v') (w1 := w1) (unhide HSP) a b c)
            have hbsz := (unhide HNIW).bel.size
            clear HNIW HSP HNI1
            go_wp2_with (at_builtin; refine wpList_append_own_at _ rfl (.tmp 53) (.tmp 55) 22 rfl w0.heap.size 60 i1 (.agg #[.int .i64 0, .int .i64 0, .int .i64 0, .int .i64 0, .slice none 0 0, .string ⟨#[]⟩, .string ⟨#[]⟩, .float .f64 0]) 8 96 Tryz.underlying22 hj hy0 hy1 hy2 rfl (by decide) _ _ _ rfl ((unhide HROW) _) ⟨wr.heap.size + 1, 0, none⟩ 1 1 (encR ((⟨8, lo, hi, nn, to, nm, ot, wt⟩ : Rec), tao, to.length, tcap)) rfl rfl (unhide HNEW) (unhide HONE) (by unfold maxLen; omega) (by omega) (by simp; omega) ?_)
            intro v' w9 hrow9 hg9 _ hat9
            obtain ⟨hb9, hw9⟩ := (unhide HSTEP) _ v' w9 hrow9 hg9 (by first | exact hat9 | simpa using hat9)
            have HM2 : Hid (Made w0 (w9.setCell ⟨w0.heap.size + 1 + 1, 1, none⟩ v') l (k + 1)) := (unhide HNEXT) _ _ _ _ _ _ hw9 (Cn.firstP_other (by simp)).symm (by simp [is6]) (by simp [is78])
            obtain ⟨ao9, cap9, rfl, _, _⟩ := hw9.ho.shape
            have z0 : w9.cell? ⟨w0.heap.size + 1 + 1, 1, none⟩ = some (.slice oao oxs.length ocap) := cell_of (j := 1) hb9 (by show 1 < 3; omega)
            have zf := frozen_of (j := 1) hb9
            clear HROW HNEW HSTEP hrow9 hg9 hat9 hb9 hw9 HNEXT HONE y0
            generalize (oxs ++ [((⟨8, lo, hi, nn, to, nm, ot, wt⟩ : Rec), tao, to.length, tcap)]).length = m9 at *
            go_wp2
            go_roundw
            case rel => exact ⟨k + 1, by go_num, by omega, HM2⟩
            case measure => simp [intOf]; omega
          · have q8 : (r.kind == 8) = false := beq_eq_false_iff_ne.2 k8
            have HM2 : Hid (Made w0 (wr.alloc (.cells #[.int .i64 r.kind, .int .i64 r.lo, .int .i64 r.hi, .int .i64 r.n, .slice tao r.to.length tcap, .string r.name, .string r.other, .float .f64 r.wt] 60)) l (k + 1)) := (unhide HNEXT) _ _ _ _ cxs oxs (unhide HNI1) (Cn.firstP_other (by omega)).symm (by simp [is6, k6]) (by simp [is78, k7, k8])
            clear HNEXT HNI1 HSP HONE
            go_wp2
            go_roundw
            case rel => exact ⟨k + 1, by go_num, by omega, HM2⟩
            case measure => simp [intOf]; omega
    · obtain rfl : k = l.length := by omega
      obtain ⟨cv, ov, cxs, oxs, hni, e1, e2⟩ := unhide HMADE
      obtain ⟨hcl, hol⟩ := made_len e1 e2 hl
      rw [List.take_length] at hni e1 e2
      have K1 := hide (sort_any w0 wr cv cxs hni.hc (by omega))
      obtain ⟨cao, ccap, rfl, _, _⟩ := hni.hc.shape
      obtain ⟨oao, ocap, rfl, _, _⟩ := hni.ho.shape
      have y0 : wr.cell? ⟨w0.heap.size + 1 + 1, 0, none⟩ = some (.slice cao cxs.length ccap) := cell_of (j := 0) hni.hx (by show 0 < 3; omega)
      have hfarc := hni.far hni.hc
      have hclt : ∀ g, (Value.slice cao cxs.length ccap).ownBlock = some g → g < wr.heap.size := fun g hg => (hni.hc.1.lt g hg).2
      have HFC := hide hfarc
      have HLT := hide hclt
      clear hfarc hclt
      have HFO := hide (hni.far hni.ho)
      have HNI := hide hni
      clear HMADE HFit HTake HTL HR7 HV HEND hni
      go_wp2_with fail
      refine (unhide K1).mono ?_
      rintro e w1 ⟨rfl, xs', hp1, hs1, hx1, hg1⟩
      have hni := unhide HNI
      have k1 : ∀ g, g < wr.heap.size → (Value.slice cao cxs.length ccap).ownBlock ≠ some g → w1.heap[g]? = wr.heap[g]? := fun g a b => hg1.block g a (fun e => b e.symm)
      have hx1' : w1.heap[w0.heap.size + 2]? = some (.cells #[.slice cao cxs.length ccap, .slice oao oxs.length ocap, .map (some (w0.heap.size + 1))] 67 (0, 0)) := by rw [k1 _ (heap_lt hni.hx) (fun e => ((unhide HFC) _ e).2.2 rfl)]; exact hni.hx
      have hr1' : w1.heap[w0.heap.size]? = some (.cells #[.slice none 0 0, .slice none 0 0, .map none] 67 (0, 0)) := by rw [k1 _ (heap_lt hni.hr) (fun e => ((unhide HFC) _ e).1 rfl)]; exact hni.hr
      obtain ⟨es, cl, hm, hmo⟩ := hni.hm
      have hm1' : w1.heap[w0.heap.size + 1]? = some (.map es cl) := by rw [k1 _ (heap_lt hm) (fun e => ((unhide HFC) _ e).2.1 rfl)]; exact hm
      have ho1 : Rsh w0 w1 (.slice oao oxs.length ocap) oxs := hni.ho.keep fun g hg => k1 g (hni.ho.1.lt g hg).2 (fun e => hni.ap g e hg)
      have hb1 : Below w0.heap.size w0 w1 := hni.bel.trans ⟨hg1.os, hg1.tape, hg1.output, hg1.size, fun g hg => k1 g (by have := hni.bel.size; omega) (fun e => by have := (hni.hc.1.lt g e).1; omega)⟩
      have K2 := hide (sort_any w0 w1 _ oxs ho1 (by omega))
      have y1 : w1.cell? ⟨w0.heap.size + 1 + 1, 1, none⟩ = some (.slice oao oxs.length ocap) := cell_of (j := 1) hx1' (by show 1 < 3; omega)
      have hap := hni.ap
      have HX1 := hide hx1
      have HP1 := hide hp1
      have HSO1 := hide hs1
      have HAP := hide hap
      have hsz1 := hg1.size
      clear K1 y0 hp1 hs1 hx1 hg1 k1 hm hni HNI hap
      go_wp2_with fail
      refine (unhide K2).mono ?_
      rintro e w2 ⟨rfl, ys', hp2, hs2, hx2, hg2⟩
      have k2 : ∀ g, g < w1.heap.size → (Value.slice oao oxs.length ocap).ownBlock ≠ some g → w2.heap[g]? = w1.heap[g]? := fun g a b => hg2.block g a (fun e => b e.symm)
      have hx2' : w2.heap[w0.heap.size + 2]? = some (.cells #[.slice cao cxs.length ccap, .slice oao oxs.length ocap, .map (some (w0.heap.size + 1))] 67 (0, 0)) := by rw [k2 _ (heap_lt hx1') (fun e => ((unhide HFO) _ e).2.2 rfl)]; exact hx1'
      have hr2' : w2.heap[w0.heap.size]? = some (.cells #[.slice none 0 0, .slice none 0 0, .map none] 67 (0, 0)) := by rw [k2 _ (heap_lt hr1') (fun e => ((unhide HFO) _ e).1 rfl)]; exact hr1'
      have hm2' : w2.heap[w0.heap.size + 1]? = some (.map es cl) := by rw [k2 _ (heap_lt hm1') (fun e => ((unhide HFO) _ e).2.1 rfl)]; exact hm1'
      have hb2 : Below w0.heap.size w0 w2 := hb1.trans ⟨hg2.os, hg2.tape, hg2.output, hg2.size, fun g hg => k2 g (by have := hb1.size; omega) (fun e => by have := (ho1.1.lt g e).1; omega)⟩
      have hcx : Rsx w0 w2 (.slice cao cxs.length ccap) xs' := (unhide HX1).keep hg2.size fun g hg => k2 g (by have := (unhide HLT) g hg; have := hsz1; omega) (fun e => (unhide HAP) g hg e)
      have z0 : w2.cell? ⟨w0.heap.size + 1 + 1, 0, none⟩ = some (.slice cao cxs.length ccap) := cell_of (j := 0) hx2' (by show 0 < 3; omega)
      have z1 : w2.cell? ⟨w0.heap.size + 1 + 1, 1, none⟩ = some (.slice oao oxs.length ocap) := cell_of (j := 1) hx2' (by show 1 < 3; omega)
      have z2 : w2.cell? ⟨w0.heap.size + 1 + 1, 2, none⟩ = some (.map (some (w0.heap.size + 1))) := cell_of (j := 2) hx2' (by show 2 < 3; omega)
      have r0 : w2.cell? ⟨w0.heap.size, 0, none⟩ = some (.slice none 0 0) := cell_of (j := 0) hr2' (by show 0 < 3; omega)
      have r1 : w2.cell? ⟨w0.heap.size, 1, none⟩ = some (.slice none 0 0) := cell_of (j := 1) hr2' (by show 1 < 3; omega)
      have r2 : w2.cell? ⟨w0.heap.size, 2, none⟩ = some (.map none) := cell_of (j := 2) hr2' (by show 2 < 3; omega)
      have f0 := frozen_of (j := 0) hr2'
      have f1 := frozen_of (j := 1) hr2'
      have f2 := frozen_of (j := 2) hr2'
      have HX2 := hide hx2
      have HCX := hide hcx
      have HP2 := hide hp2
      have HSO2 := hide hs2
      have HB2 := hide hb2
      have HR2 := hide hr2'
      have HM2 := hide hm2'
      clear K2 y1 k2 hx1' hr1' hm1' hg2 HX1 HAP ho1 hb1 hx2 hcx hp2 hs2 hb2 hr2' hm2' hx2'
      go_wp2
      have g1 : (w2.setCell ⟨w0.heap.size, 0, none⟩ (.slice cao cxs.length ccap)).heap[w0.heap.size]? = some (.cells #[.slice cao cxs.length ccap, .slice none 0 0, .map none] 67 (0, 0)) := by rw [set_block (unhide HR2)]; rfl
      have g2 : ((w2.setCell ⟨w0.heap.size, 0, none⟩ (.slice cao cxs.length ccap)).setCell ⟨w0.heap.size, 1, none⟩ (.slice oao oxs.length ocap)).heap[w0.heap.size]? = some (.cells #[.slice cao cxs.length ccap, .slice oao oxs.length ocap, .map none] 67 (0, 0)) := by rw [set_block g1]; rfl
      have g3 : (((w2.setCell ⟨w0.heap.size, 0, none⟩ (.slice cao cxs.length ccap)).setCell ⟨w0.heap.size, 1, none⟩ (.slice oao oxs.length ocap)).setCell ⟨w0.heap.size, 2, none⟩ (.map (some (w0.heap.size + 1)))).heap[w0.heap.size]? = some (.cells #[.slice cao cxs.length ccap, .slice oao oxs.length ocap, .map (some (w0.heap.size + 1))] 67 (0, 0)) := by rw [set_block g2]; rfl
      have hk9 : ∀ g, g ≠ w0.heap.size → (((w2.setCell ⟨w0.heap.size, 0, none⟩ (.slice cao cxs.length ccap)).setCell ⟨w0.heap.size, 1, none⟩ (.slice oao oxs.length ocap)).setCell ⟨w0.heap.size, 2, none⟩ (.map (some (w0.heap.size + 1)))).heap[g]? = w2.heap[g]? := fun g h => by rw [set_other _ h, set_other _ h, set_other _ h]
      have hb9 : Below w0.heap.size w0 (((w2.setCell ⟨w0.heap.size, 0, none⟩ (.slice cao cxs.length ccap)).setCell ⟨w0.heap.size, 1, none⟩ (.slice oao oxs.length ocap)).setCell ⟨w0.heap.size, 2, none⟩ (.map (some (w0.heap.size + 1)))) := below_set (below_set (below_set (unhide HB2) (Nat.le_refl _) _) (Nat.le_refl _) _) (Nat.le_refl _) _
      have hs9 : w2.heap.size ≤ (((w2.setCell ⟨w0.heap.size, 0, none⟩ (.slice cao cxs.length ccap)).setCell ⟨w0.heap.size, 1, none⟩ (.slice oao oxs.length ocap)).setCell ⟨w0.heap.size, 2, none⟩ (.map (some (w0.heap.size + 1)))).heap.size := by rw [set_size, set_size, set_size]; exact Nat.le_refl _
      generalize (((w2.setCell ⟨w0.heap.size, 0, none⟩ (.slice cao cxs.length ccap)).setCell ⟨w0.heap.size, 1, none⟩ (.slice oao oxs.length ocap)).setCell ⟨w0.heap.size, 2, none⟩ (.map (some (w0.heap.size + 1)))) = w9 at *
      have c0 : w9.cell? ⟨w0.heap.size, 0, none⟩ = some (.slice cao cxs.length ccap) := cell_of (j := 0) g3 (by show 0 < 3; omega)
      have c1 : w9.cell? ⟨w0.heap.size, 1, none⟩ = some (.slice oao oxs.length ocap) := cell_of (j := 1) g3 (by show 1 < 3; omega)
      have c2 : w9.cell? ⟨w0.heap.size, 2, none⟩ = some (.map (some (w0.heap.size + 1))) := cell_of (j := 2) g3 (by show 2 < 3; omega)
      have a1 := (unhide HCX).keep hs9 (fun g hg => hk9 g ((unhide HFC) g hg).1)
      have a2 := (unhide HX2).keep hs9 (fun g hg => hk9 g ((unhide HFO) g hg).1)
      have l1 : xs'.length ≤ 1000000000 := by have := (unhide HP1).length_eq; omega
      have l2 : ys'.length ≤ 1000000000 := by have := (unhide HP2).length_eq; omega
      obtain ⟨o1, m1⟩ := Cn.sorted_ordered (f := 2) (.inl rfl) (cs := xs'.map (·.1)) (p := is6) (unhide HOK) (fun r => ⟨fun h => by rw [of_decide_eq_true h]; decide, fun h => decide_eq_true (Cn.fam_two h)⟩) (e1 ▸ (unhide HP1).map _) (List.pairwise_map.2 (unhide HSO1))
      obtain ⟨o2, m2⟩ := Cn.sorted_ordered (f := 3) (.inr rfl) (cs := ys'.map (·.1)) (p := is78) (unhide HOK) (fun r => ⟨fun h => by rcases of_decide_eq_true h with e | e <;> (rw [e]; decide), fun h => decide_eq_true (Cn.fam_three' h)⟩) (e2 ▸ (unhide HP2).map _) (List.pairwise_map.2 (unhide HSO2))
      have HF : IndexB w0 l (.returned (.agg #[.slice cao cxs.length ccap, .slice oao oxs.length ocap, .map (some (w0.heap.size + 1))])) w9 := ⟨_, _, _, _, rfl, ⟨a1.rcs hb9 l1, a2.rcs hb9 l2, o1, o2, m1, m2, unhide HOK⟩, ⟨es, cl, by rw [hk9 _ (by omega)]; exact unhide HM2, hmo⟩, hb9⟩
      clear a1 a2 o1 o2 m1 m2 g3 hk9 hb9 hs9
      refine bodyPost_ret (show _ = Result.ok (.agg #[.slice cao cxs.length ccap, .slice oao oxs.length ocap, .map (some (w0.heap.size + 1))]) w9 by simp [results, Tryz.results46, go_sem, c0, c1, c2]) rfl ?_
      exact HF
end Go.Proofs.YtloocceakfmnoaaGreatDoor
