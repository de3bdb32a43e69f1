import Derived.Test.YtloocceakfmnoaaGreatDoorGb9
import Derived.Deep.RegionWith
import Derived.Test.YtloocceakfmnoaaGreatDoorGa9
/- The contract of the document's own Copied: the walk. -/
namespace Go.Proofs.YtloocceakfmnoaaGreatDoor
open Go.RowKit

/-- The eight cells of a new block. -/
def rarr (r : Rec) (vt : Value) : Array Value := #[.int .i64 r.kind, .int .i64 r.lo, .int .i64 r.hi, .int .i64 r.n, vt, .string r.name, .string r.other, .float .f64 r.wt]
theorem rec_new (W : World) (r : Rec) (vt : Value) : ∀ j u, (rcell (r, vt))[j]? = some u → (W.alloc (.cells (rarr r vt) 60)).cell? ((⟨W.heap.size, 0, none⟩ : Addr).add j) = some u := by
  intro j u hj
  have hlt : j < 8 := by
    rcases Nat.lt_or_ge j 8 with h | h
    · exact h
    · rw [List.getElem?_eq_none (by simp [rcell]; omega)] at hj; cases hj
  rw [addr_add, Nat.zero_add]
  have e : (rarr r vt).toList = rcell (r, vt) := rfl
  simp only [World.cell?, World.alloc]
  simp
  rw [← Array.getElem?_toList, e]
  exact hj
theorem rec_new2 (W : World) (n : Nat) (hn : W.heap.size = n) (r : Rec) (vt : Value) : ∀ j u, (rcell (r, vt))[j]? = some u → (W.alloc (.cells #[.int .i64 r.kind, .int .i64 r.lo, .int .i64 r.hi, .int .i64 r.n, vt, .string r.name, .string r.other, .float .f64 r.wt] 60)).cell? ((⟨n, 0, none⟩ : Addr).add j) = some u := by
  subst hn
  exact rec_new W r vt
theorem rec_one (r : Rec) {vt : Value} (h : vt.oneCell' = true) : ∀ u ∈ rcell (r, vt), u.oneCell' = true := by
  intro u hu
  simp only [rcell, List.mem_cons, List.mem_nil_iff, or_false] at hu
  rcases hu with rfl | rfl | rfl | rfl | rfl | rfl | rfl | rfl <;> first | rfl | exact h
theorem set_other {w : World} {g j k : Nat} (v : Value) (h : k ≠ g) : (w.setCell ⟨g, j, none⟩ v).heap[k]? = w.heap[k]? := Below.heap_setCell _ _ _ _ (fun e => h e)
theorem below_set {B : Nat} {a w : World} (h : Below B a w) {g j : Nat} (hg : B ≤ g) (v : Value) : Below B a (w.setCell ⟨g, j, none⟩ v) := by
  refine h.trans ⟨?_, ?_, ?_, ?_, fun k hk => set_other v (by omega)⟩
  all_goals first | rfl | (unfold World.setCell; split <;> first | rfl | simp)
theorem set_size (w : World) (g j : Nat) (v : Value) : (w.setCell ⟨g, j, none⟩ v).heap.size = w.heap.size := by
  unfold World.setCell; split <;> first | rfl | simp
/-- One more record: what stands behind the two appends. -/
theorem copied_more {w wr w9 w10 : World} {mv v9 v10 : Value} {ps : List (Rec × Value)} {r : Rec} {vt : Value} {o : Obj} (hown : Rown wr w.heap.size mv ps) (hbel : Below w.heap.size w wr)
    (hok9 : Ok .i32 21 w9 w.heap.size v9 r.to) (hg9 : (wr.alloc (.cells (rarr r vt) 60)).grownBy w9 (Value.slice none 0 0).ownBlock)
    (hrow : w10.ownsRow w.heap.size 60 8 v10 (ps.length + 1) (rcells ps ++ rcell (r, v9))) (hg10 : ((w9.setCell ⟨wr.heap.size, 4, none⟩ v9).alloc o).grownBy w10 mv.ownBlock) :
    Rown w10 w.heap.size v10 (ps ++ [(r, v9)]) ∧ Below w.heap.size w w10 := by
  have hB := hbel.size
  have s9 : (wr.alloc (.cells (rarr r vt) 60)).heap.size ≤ w9.heap.size := hg9.size
  have s9' : wr.heap.size + 1 ≤ w9.heap.size := by simpa using s9
  have k9 : ∀ g, g < wr.heap.size + 1 → w9.heap[g]? = (wr.alloc (.cells (rarr r vt) 60)).heap[g]? := fun g hg => hg9.block g (by simpa using hg) (by simp [Value.ownBlock])
  have kA : ∀ g, g < wr.heap.size → (wr.alloc (.cells (rarr r vt) 60)).heap[g]? = wr.heap[g]? := fun g hg => ((Below.refl wr.heap.size wr).alloc (Nat.le_refl _) _).block g hg
  have hbox : w9.heap[wr.heap.size]? = some (.cells (rarr r vt) 60 (0, 0)) := by
    rw [k9 _ (by omega)]
    show (wr.heap.push _)[wr.heap.size]? = _
    simp
  have m9 : w9.ownsRow w.heap.size 60 8 mv ps.length (rcells ps) := own_keep hown.1 (fun g h => by rw [k9 g (by have := (hown.1.lt g h).2; omega), kA g (hown.1.lt g h).2])
  have k10 : ∀ g, g < w9.heap.size → g ≠ wr.heap.size → mv.ownBlock ≠ some g → w10.heap[g]? = w9.heap[g]? := fun g hg h1 h2 => by
    have e1 := hg10.block g (by simp; omega) (fun e => h2 e.symm)
    rw [e1]
    have e2 : ((w9.setCell ⟨wr.heap.size, 4, none⟩ v9).alloc o).heap[g]? = (w9.setCell ⟨wr.heap.size, 4, none⟩ v9).heap[g]? := ((Below.refl _ _).alloc (Nat.le_refl _) _).block g (by rw [set_size]; exact hg)
    rw [e2, set_other v9 h1]
  refine ⟨⟨?_, fun p hp => ?_⟩, ?_⟩
  · rw [rcells_snoc] at hrow
    simpa using hrow
  · rcases List.mem_append.1 hp with hp | hp
    · have hop := hown.2 p hp
      refine hop.keep fun g h => ?_
      have hlt := (hop.2.2.lt g h).2
      rw [k10 g (by omega) (by omega) (own_apart hop.2.2 hown.1 (by decide) h), k9 g (by omega), kA g hlt]
    · simp only [List.mem_singleton] at hp
      subst hp
      refine hok9.keep fun g h => ?_
      have hlt := (hok9.2.2.lt g h).2
      refine k10 g hlt (fun e => ?_) (own_apart hok9.2.2 m9 (by decide) h)
      rcases hok9.2.2.2 with ⟨hv, _⟩ | ⟨g', cap, cur, hv, _, hh, _⟩
      · rw [hv] at h; cases h
      · rw [hv] at h
        simp [Value.ownBlock] at h
        rw [h, e, hbox] at hh
        simp at hh
  · have b1 : Below w.heap.size w w9 := (hbel.alloc hB _).grown hg9 (by simp; omega) (fun k hk => by simp [Value.ownBlock] at hk)
    have b2 := below_set b1 (g := wr.heap.size) (j := 4) hB v9
    exact (b2.alloc (by rw [set_size]; omega) o).grown hg10 (by simp; omega) (fun k hk => (hown.1.lt k hk).1)
theorem copied_nil {w wr w10 : World} {mv v10 : Value} {ps : List (Rec × Value)} {r : Rec} {o1 o : Obj} (hown : Rown wr w.heap.size mv ps) (hbel : Below w.heap.size w wr) (hto : r.to = [])
    (hrow : w10.ownsRow w.heap.size 60 8 v10 (ps.length + 1) (rcells ps ++ rcell (r, .slice none 0 0))) (hg10 : ((wr.alloc o1).alloc o).grownBy w10 mv.ownBlock) :
    Rown w10 w.heap.size v10 (ps ++ [(r, .slice none 0 0)]) ∧ Below w.heap.size w w10 := by
  have hB := hbel.size
  refine ⟨⟨?_, fun p hp => ?_⟩, ?_⟩
  · rw [rcells_snoc] at hrow
    simpa using hrow
  · rcases List.mem_append.1 hp with hp | hp
    · have hop := hown.2 p hp
      refine hop.keep fun g h => ?_
      have hlt := (hop.2.2.lt g h).2
      rw [hg10.block g (by simp; omega) (fun e => own_apart hop.2.2 hown.1 (by decide) h e.symm)]
      exact (((Below.refl wr.heap.size wr).alloc (Nat.le_refl _) o1).alloc (by simp) o).block g hlt
    · simp only [List.mem_singleton] at hp
      subst hp
      show Ok .i32 21 w10 w.heap.size (.slice none 0 0) r.to
      rw [hto]
      exact Ok.nil _ _ _ _
  · exact ((hbel.alloc hB _).alloc (by simp; omega) o).grown hg10 (by simp; omega) (fun k hk => (hown.1.lt k hk).1)
set_option maxRecDepth 8000 in
set_option maxHeartbeats 8000000 in
theorem refCopied_any (v : Value) (rs : List Rec) (w : World) (hv : Rcs w v rs) : Calls Tryz.prog 42 #[v] w (RecsNew w rs) := by
  obtain ⟨i0, hi, hz0, hz1, hz2⟩ := info_parts Tryz.info21
  obtain ⟨i1, hj, hy0, hy1, hy2⟩ := info_parts Tryz.info60
  have hlen := hv.1
  have HFit := hide (fun i hi => hv.fit (i := i) hi)
  rcases Nat.eq_zero_or_pos rs.length with n0 | n0
  · obtain ⟨ao, cap, rfl, _, _⟩ := hv.shape
    obtain rfl : rs = [] := List.eq_nil_of_length_eq_zero n0
    have HF : RecsNew w [] (.returned (.slice none 0 0)) w := ⟨_, [], rfl, rfl, ⟨World.ownsRow_nil _ _ _ _, fun _ h => (by cases h)⟩, Below.refl _ _⟩
    clear hv HFit
    go_enter Tryz.func42, Tryz.ntmps42
    go_wp2
    refine wp_loop_rounds 1 ?_
    rw [rounds_succ]
    go_wp2
    go_ret
    exact HF
  · obtain ⟨b, off, cap, rfl, hl1, hl2, hcells⟩ := hv.place n0
    have HC : Hid (∀ i, i < rs.length → ∀ W, Below w.heap.size w W → RecAt W b (off + i * 8) (rs.getD i Cn.none)) := fun i hi W hb => (hcells i hi).below hb
    have HTake : Hid (∀ k, k < rs.length → rs.take (k + 1) = rs.take k ++ [rs.getD k Cn.none]) := fun k hk => by
      rw [List.take_add_one]; simp [List.getD, hk]
    clear hv hcells
    go_enter Tryz.func42, Tryz.ntmps42
    go_wp2
    go_loopw [3, 4, 5, 6] (fun mv iv _ _ wr => ∃ (k : Nat) (ps : List (Rec × Value)), iv = .int .i64 k ∧ k ≤ rs.length ∧ ps.map (·.1) = rs.take k ∧ ps.length = k ∧ Rown wr w.heap.size mv ps ∧ Below w.heap.size w wr) (fun _ iv _ _ _ => rs.length - (intOf iv).toNat)
    case atStart => exact ⟨0, [], rfl, by omega, by simp, rfl, ⟨World.ownsRow_nil _ _ _ _, fun _ h => (by cases h)⟩, Below.refl _ _⟩
    case round =>
      obtain ⟨k, ps, rfl, hk, hps, hpl, hown, hbel⟩ := hrel
      by_cases hlt : k < rs.length
      · have hrec := (unhide HC) k hlt wr hbel
        have hfit := (unhide HFit) k hlt
        have htk := (unhide HTake) k hlt
        rw [← hps] at htk
        have hto := hfit.len
        have HTK := hide htk
        clear HFit HTake htk hps hfit
        generalize rs.getD k Cn.none = r at *
        obtain ⟨x0, x1, x2, x3, ⟨vt, x4, hsk⟩, x5, x6, x7⟩ := hrec
        have hB := hbel.size
        have hskf := hsk.1
        rcases hsk.2.src with ⟨hnil, rfl⟩ | ⟨ad, tcap, rfl, hsrc⟩
        · obtain hto0 : r.to = [] := by simpa using hnil
          have hX : ∀ o, (wr.alloc o).cell? ⟨b, off + k * 8 + 4, none⟩ = some (.slice none 0 0) := fun o => by
            rw [Below.cell ((Below.refl wr.heap.size wr).alloc (Nat.le_refl _) o) (lt_of_cell? x4)]; exact x4
          have hfl : ∀ W a m, (store a (.float .f64 r.wt) m).run Tryz.prog W = stored Tryz.prog W a (.float .f64 r.wt) m := fun W a m => run_store Tryz.prog W a _ m rfl
          have hM : ∀ o o2, ((wr.alloc o).alloc o2).ownsRow w.heap.size 60 8 u3 ps.length (rcells ps) := fun o o2 => (hown.1.alloc o).alloc o2
          have HM := hide hM
          have HMORE : Hid (∀ o v10 w10, World.ownsRow w10 w.heap.size 60 8 v10 (ps.length + 1) (rcells ps ++ rcell (r, .slice none 0 0)) → ((wr.alloc (.cells #[.int .i64 r.kind, .int .i64 r.lo, .int .i64 r.hi, .int .i64 r.n, .slice none 0 0, .string r.name, .string r.other, .float .f64 r.wt] 60)).alloc o).grownBy w10 u3.ownBlock → Rown w10 w.heap.size v10 (ps ++ [(r, .slice none 0 0)]) ∧ Below w.heap.size w w10) := fun o v10 w10 a b => copied_nil hown hbel hto0 a b
          have HNEW := hide (rec_new2 (wr.alloc (.cells #[.int .i64 r.kind, .int .i64 r.lo, .int .i64 r.hi, .int .i64 r.n, .slice none 0 0, .string r.name, .string r.other, .float .f64 r.wt] 60)) (wr.heap.size + 1) (by simp) r (.slice none 0 0))
          have HONE := hide (rec_one r (vt := .slice none 0 0) rfl)
          clear hM hown hbel hsk
          go_wp2_with (first | (at_builtin; refine wpList_append_own_none rfl (.tmp 17) (.tmp 22) 38 rfl w.heap.size 21 i0 1 Tryz.underlying38 hi _ _ _ rfl (World.ownsRow_nil _ _ _ _) rfl ?_) | (at_builtin; refine wpList_append_own _ rfl (.tmp 25) (.tmp 27) 22 rfl w.heap.size 60 i1 (.agg #[.int .i64 0, .int .i64 0, .int .i64 0, .int .i64 0, .slice none 0 0, .string ⟨#[]⟩, .string ⟨#[]⟩, .float .f64 0]) 8 96 Tryz.underlying22 hj hy0 hy1 hy2 rfl (by decide) _ _ _ rfl ((unhide HM) _ _) ⟨wr.heap.size + 1, 0, none⟩ 1 1 (rcell (r, .slice none 0 0)) rfl rfl (unhide HNEW) (unhide HONE) (by unfold maxLen; omega) (by omega) (by simp; omega) ?_))
          intro v10 w10 hrow10 hg10 _
          obtain ⟨hR, hBW⟩ := (unhide HMORE) _ v10 w10 (by rw [hpl]; exact hrow10) hg10
          have HR := hide hR
          clear HMORE HM HNEW HONE hrow10 hg10 hR
          go_wp2
          go_roundw
          case rel => exact ⟨k + 1, ps ++ [(r, .slice none 0 0)], by go_num, by omega, by rw [unhide HTK]; simp, by simp [hpl], unhide HR, hBW⟩
          case measure => simp [intOf]; omega
        · have hml : (r.to.map (Value.int .i32)).length = r.to.length := List.length_map _
          rw [hml] at x4
          have hX : ∀ o, (wr.alloc o).cell? ⟨b, off + k * 8 + 4, none⟩ = some (.slice (some ad) r.to.length tcap) := fun o => by
            rw [Below.cell ((Below.refl wr.heap.size wr).alloc (Nat.le_refl _) o) (lt_of_cell? x4)]; exact x4
          have hS : ∀ o, ∀ j u, (r.to.map (Value.int .i32))[j]? = some u → (wr.alloc o).cell? (ad.add j) = some u := fun o j u hu => by
            have h := hsrc j u hu
            rw [Below.cell ((Below.refl wr.heap.size wr).alloc (Nat.le_refl _) o) (World.block_lt_of_cell? _ _ h)]; exact h
          have HS := hide hS
          have hfl : ∀ W a m, (store a (.float .f64 r.wt) m).run Tryz.prog W = stored Tryz.prog W a (.float .f64 r.wt) m := fun W a m => run_store Tryz.prog W a _ m rfl
          clear hS hsrc hsk
          go_wp2_with (at_builtin; refine wpList_append_own _ rfl (.tmp 17) (.tmp 22) 38 rfl w.heap.size 21 i0 (.int .i32 0) 1 4 Tryz.underlying38 hi hz0 hz1 hz2 rfl (by decide) _ _ _ rfl (World.ownsRow_nil _ _ _ _) ad r.to.length tcap (r.to.map (Value.int .i32)) rfl (by simp) ((unhide HS) _) (fun u hu => by obtain ⟨z, _, rfl⟩ := List.mem_map.1 hu; rfl) (by unfold maxLen; omega) (by omega) (by simp; omega) ?_)
          intro v9 w9 hrow9 hg9 _
          have hok9 : Ok .i32 21 w9 w.heap.size v9 r.to := Ok.of hskf (by omega) hrow9 (by simp) (by simp)
          have hbox : w9.heap[wr.heap.size]? = some (.cells (rarr r (.slice (some ad) r.to.length tcap)) 60 (0, 0)) := by
            rw [hg9.block _ (by simp) (by simp [Value.ownBlock])]
            show (wr.heap.push _)[wr.heap.size]? = _
            simp [rarr]
          have s9 : wr.heap.size + 1 ≤ w9.heap.size := by simpa using hg9.size
          obtain ⟨ao9, cap9, hv9, _, _⟩ := hok9.sk.shape
          subst hv9
          have hM : ∀ o, ((w9.setCell ⟨wr.heap.size, 4, none⟩ (.slice ao9 r.to.length cap9)).alloc o).ownsRow w.heap.size 60 8 u3 ps.length (rcells ps) := fun o => by
            refine World.ownsRow.alloc (own_keep hown.1 fun g h => ?_) o
            have hlt9 := (hown.1.lt g h).2
            rw [set_other _ (by omega), hg9.block g (by simp; omega) (by simp [Value.ownBlock])]
            exact ((Below.refl wr.heap.size wr).alloc (Nat.le_refl _) _).block g hlt9
          have HM := hide hM
          have HMORE : Hid (∀ o v10 w10, World.ownsRow w10 w.heap.size 60 8 v10 (ps.length + 1) (rcells ps ++ rcell (r, .slice ao9 r.to.length cap9)) → ((w9.setCell ⟨wr.heap.size, 4, none⟩ (.slice ao9 r.to.length cap9)).alloc o).grownBy w10 u3.ownBlock → Rown w10 w.heap.size v10 (ps ++ [(r, .slice ao9 r.to.length cap9)]) ∧ Below w.heap.size w w10) := fun o v10 w10 a b => copied_more hown hbel hok9 hg9 a b
          have y0 := cell_of (j := 0) hbox (by show _ < 8; omega)
          have y1 := cell_of (j := 1) hbox (by show _ < 8; omega)
          have y2 := cell_of (j := 2) hbox (by show _ < 8; omega)
          have y3 := cell_of (j := 3) hbox (by show _ < 8; omega)
          have y4 := cell_of (j := 4) hbox (by show _ < 8; omega)
          have y5 := cell_of (j := 5) hbox (by show _ < 8; omega)
          have y6 := cell_of (j := 6) hbox (by show _ < 8; omega)
          have y7 := cell_of (j := 7) hbox (by show _ < 8; omega)
          have yf := frozen_of (j := 4) hbox
          have z0 : w9.cell? ⟨wr.heap.size, 0, none⟩ = some (.int .i64 r.kind) := y0
          have z1 : w9.cell? ⟨wr.heap.size, 1, none⟩ = some (.int .i64 r.lo) := y1
          have z2 : w9.cell? ⟨wr.heap.size, 2, none⟩ = some (.int .i64 r.hi) := y2
          have z3 : w9.cell? ⟨wr.heap.size, 3, none⟩ = some (.int .i64 r.n) := y3
          have z4 : w9.cell? ⟨wr.heap.size, 4, none⟩ = some (.slice (some ad) r.to.length tcap) := y4
          have z5 : w9.cell? ⟨wr.heap.size, 5, none⟩ = some (.string r.name) := y5
          have z6 : w9.cell? ⟨wr.heap.size, 6, none⟩ = some (.string r.other) := y6
          have z7 : w9.cell? ⟨wr.heap.size, 7, none⟩ = some (.float .f64 r.wt) := y7
          have hnew := rec_new2 (w9.setCell ⟨wr.heap.size, 4, none⟩ (.slice ao9 r.to.length cap9)) w9.heap.size (set_size _ _ _ _) r (.slice ao9 r.to.length cap9)
          have hone := rec_one r (vt := .slice ao9 r.to.length cap9) rfl
          have HNEW := hide hnew
          have HONE := hide hone
          clear hM hnew hone hrow9 hg9 hok9 hbox y0 y1 y2 y3 y4 y5 y6 y7 hown hbel
          go_wp2_with (at_builtin; refine wpList_append_own _ rfl (.tmp 25) (.tmp 27) 22 rfl w.heap.size 60 i1 (.agg #[.int .i64 0, .int .i64 0, .int .i64 0, .int .i64 0, .slice none 0 0, .string ⟨#[]⟩, .string ⟨#[]⟩, .float .f64 0]) 8 96 Tryz.underlying22 hj hy0 hy1 hy2 rfl (by decide) _ _ _ rfl ((unhide HM) _) ⟨w9.heap.size, 0, none⟩ 1 1 (rcell (r, .slice ao9 r.to.length cap9)) rfl rfl (unhide HNEW) (unhide HONE) (by unfold maxLen; omega) (by omega) (by simp; omega) ?_)
          intro v10 w10 hrow10 hg10 _
          obtain ⟨hR, hBW⟩ := (unhide HMORE) _ v10 w10 (by rw [hpl]; exact hrow10) hg10
          have HR := hide hR
          clear HMORE HM HNEW HONE hrow10 hg10 hR
          go_wp2
          go_roundw
          case rel => exact ⟨k + 1, ps ++ [(r, .slice ao9 r.to.length cap9)], by go_num, by omega, by rw [unhide HTK]; simp, by simp [hpl], unhide HR, hBW⟩
          case measure => simp [intOf]; omega
      · obtain rfl : k = rs.length := by omega
        rw [List.take_length] at hps
        have HF : RecsNew w rs (.returned u3) wr := ⟨u3, ps, rfl, hps, hown, hbel⟩
        clear hps hown HC HFit HTake
        go_wp2
        go_ret
        exact HF
end Go.Proofs.YtloocceakfmnoaaGreatDoor
/- The document's own SameRecord and Same, of records that are the same. -/
namespace Go.Proofs.YtloocceakfmnoaaGreatDoor
open Go.RowKit

theorem run_bits (b : Nat) (w : World) : (callFunc 64 #[.float .f64 b]).run Tryz.prog w = .ok (.value (.int .u64 b)) w := by
  rw [run_callFunc_extern (e := Extern.MathFloatBits.float64bits) Tryz.func64 (by kernel_rfl) (by kernel_rfl) (by kernel_rfl) (by kernel_rfl)]
  rfl
theorem bits_any (b : Nat) (w : World) : Calls Tryz.prog 29 #[.float .f64 b] w fun e w' => e = .returned (.int .u64 b) ∧ w' = w := by
  have h := fun w => run_bits b w
  go_enter Tryz.func29, Tryz.ntmps29
  go_wp2
  go_ret
  exact ⟨rfl, rfl⟩
theorem self_beq (t : ByteArray) : (t.toList == t.toList) = true := beq_self_eq_true _
/-- A bool; what was there stays. -/
theorem sk_drew {w : World} {v : Value} {zs : List Int} (h : Sk .i32 w v zs) (n : Nat) : Sk .i32 (w.drewN n) v zs := h.below (drewB ⟨n, rfl⟩)
set_option maxRecDepth 4000 in
set_option maxHeartbeats 4000000 in
theorem sameRecord_eq (r : Rec) (va vb : Value) (w : World) (ha : Sk .i32 w va r.to) (hb : Sk .i32 w vb r.to) (hl : r.to.length ≤ 1000000000) : Calls Tryz.prog 57 #[recV r va, recV r vb] w (BoolB w true) := by
  have HB := hide (fun w => bits_any r.wt w)
  have KA : Hid (∀ o1 o2 n, Calls Tryz.prog 21 #[va, vb] (((w.alloc o1).alloc o2).drewN n) (Draws (((w.alloc o1).alloc o2).drewN n) true)) := fun o1 o2 n => by
    have hbw : Below w.heap.size w ((w.alloc o1).alloc o2) := ((Below.refl _ _).alloc (Nat.le_refl _) _).alloc (by simp) _
    exact same3_eq va vb r.to _ (sk_drew (ha.below hbw) n) (sk_drew (hb.below hbw) n) hl
  obtain ⟨ao, ca, rfl, _, _⟩ := ha.shape
  obtain ⟨bo, cb, rfl, _, _⟩ := hb.shape
  unfold recV
  have q1 := self_beq r.name
  have q2 := self_beq r.other
  clear ha hb
  generalize r.kind = kd at *
  generalize r.n = n at *
  generalize r.lo = lo at *
  generalize r.hi = hi at *
  generalize r.name = nm at *
  generalize r.other = ot at *
  generalize r.wt = wt at *
  generalize r.to.length = tl at *
  have q3 : (kd == kd) = true := beq_self_eq_true _
  have q4 : (lo == lo) = true := beq_self_eq_true _
  have q5 : (hi == hi) = true := beq_self_eq_true _
  have q6 : (n == n) = true := beq_self_eq_true _
  have q7 : ((wt : Int) == (wt : Int)) = true := beq_self_eq_true _
  go_enter Tryz.func57, Tryz.ntmps57
  go_wp2
  go_big_quiet (first | exact Calls.quiet_of ((unhide KA) _ _ _) | exact Calls.quiet_of_same ((unhide HB) _))
  go_wp2
  go_ret
  exact ⟨rfl, (((Below.refl _ _).alloc (Nat.le_refl _) _).alloc (by simp) _).trans ((drewB ⟨_, rfl⟩).mono (by simp; omega))⟩
end Go.Proofs.YtloocceakfmnoaaGreatDoor
/- The document's own Same, of records that are the same. -/
namespace Go.Proofs.YtloocceakfmnoaaGreatDoor
open Go.RowKit

set_option maxRecDepth 4000 in
set_option maxHeartbeats 4000000 in
theorem sameRecs_eq (v u : Value) (rs : List Rec) (w : World) (hv : Rcs w v rs) (hu : Rcs w u rs) : Calls Tryz.prog 13 #[v, u] w (BoolB w true) := by
  have hlen := hv.1
  rcases Nat.eq_zero_or_pos rs.length with h0 | h0
  · obtain ⟨ao, cap, rfl, _, _⟩ := hv.shape
    obtain ⟨ao', cap', rfl, _, _⟩ := hu.shape
    rw [h0]
    clear hv hu
    go_enter Tryz.func13, Tryz.ntmps13
    go_wp2
    refine wp_loop_rounds 1 ?_
    rw [rounds_succ]
    go_wp2
    go_ret
    exact ⟨rfl, Below.refl _ _⟩
  · have HFit := hide (fun i hi => hv.fit (i := i) hi)
    obtain ⟨b, off, cap, rfl, hc1, hc2, hc⟩ := hv.place h0
    obtain ⟨b', off', cap', rfl, hc1', hc2', hc'⟩ := hu.place h0
    have HC : Hid (∀ i, i < rs.length → ∀ W, Below w.heap.size w W → RecAt W b (off + i * 8) (rs.getD i Cn.none) ∧ RecAt W b' (off' + i * 8) (rs.getD i Cn.none)) := fun i hi W hb => ⟨(hc i hi).below hb, (hc' i hi).below hb⟩
    have qn : ((rs.length : Int) != (rs.length : Int)) = false := by simp
    clear hv hu hc hc'
    go_enter Tryz.func13, Tryz.ntmps13
    go_wp2
    go_loopw [5] (fun i wr => ∃ k : Nat, i = .int .i64 k ∧ k ≤ rs.length ∧ Below w.heap.size w wr) (fun i _ => rs.length - (intOf i).toNat)
    case atStart => exact ⟨0, rfl, by omega, Below.refl _ _⟩
    case round =>
      obtain ⟨k, rfl, hk, hbel⟩ := hrel
      by_cases hlt : k < rs.length
      · obtain ⟨hA, hB⟩ := (unhide HC) k hlt wr hbel
        have hf := (unhide HFit) k hlt
        have hto := hf.len
        clear HC HFit hf
        generalize rs.getD k Cn.none = r at *
        obtain ⟨x0, x1, x2, x3, ⟨va, x4, ska⟩, x5, x6, x7⟩ := hA
        obtain ⟨y0, y1, y2, y3, ⟨vb, y4, skb⟩, y5, y6, y7⟩ := hB
        have KR : Hid (∀ n, Calls Tryz.prog 57 #[recV r va, recV r vb] (wr.drewN n) (BoolB (wr.drewN n) true)) := fun n => sameRecord_eq r va vb _ (sk_drew ska n) (sk_drew skb n) hto
        unfold recV at KR
        obtain ⟨ao, ca, rfl, _, _⟩ := ska.shape
        obtain ⟨bo, cb, rfl, _, _⟩ := skb.shape
        clear ska skb
        generalize r.kind = kd at *
        generalize r.n = n at *
        generalize r.lo = lo at *
        generalize r.hi = hi at *
        generalize r.name = nm at *
        generalize r.other = ot at *
        generalize r.wt = wt at *
        generalize r.to.length = tl at *
        go_wp2
        go_region_with (refine ((unhide KR) _).mono ?_; rintro e w1 ⟨rfl, hb1⟩)
        all_goals
          have hbw : Below w.heap.size w w1 := hbel.trans (Below.mono (bthen (drewB ⟨_, rfl⟩) hb1) hbel.size)
          clear hb1
          go_wp2
          go_roundw
          case rel => exact ⟨k + 1, by go_num, by omega, hbw⟩
          case measure => simp [intOf]; omega
      · clear HC HFit
        go_wp2
        go_ret
        exact ⟨rfl, hbel⟩
end Go.Proofs.YtloocceakfmnoaaGreatDoor
/- Full decompositions and right tables, as plain functions. -/
namespace Go.Proofs.YtloocceakfmnoaaGreatDoor.Cn

/-- 7.2: the way down from a number; how many steps are left. -/
def walk (l : List Rec) : Nat → List Int → Int → List Int → List Int × Int
  | 0, way, c, out => if opn l c = [] then (if 32 ≤ out.length then ([], 2) else (out ++ [c], 0)) else if c ∈ way then ([], 72) else ([], 73)
  | f + 1, way, c, out =>
    if opn l c = [] then (if 32 ≤ out.length then ([], 2) else (out ++ [c], 0)) else if c ∈ way then ([], 72)
    else (opn l c).foldl (fun s d => if s.2 = 0 then walk l f (way ++ [c]) d s.1 else s) (out, 0)
def full (l : List Rec) (c : Int) : List Int × Int := walk l 16 [] c []
def nameL (b : ByteArray) : Bool := match b.data.toList.map (·.toNat) with
  | [a, b, c, d] => decide (65 ≤ a ∧ a ≤ 90 ∧ 97 ≤ b ∧ b ≤ 122 ∧ 97 ≤ c ∧ c ≤ 122 ∧ 97 ≤ d ∧ d ≤ 122)
  | _ => false
def weight (u : Nat) : Bool := decide (u ≤ 9218868437227405312)
def scalar (c : Int) : Bool := decide (0 ≤ c ∧ c ≤ 1114111 ∧ ¬ (55296 ≤ c ∧ c ≤ 57343))
def list (x : List Int) (least most : Nat) : Bool := decide (least ≤ x.length ∧ x.length ≤ most) && x.all scalar
/-- Which fields are there: N, To, Name, Other, Weight. -/
def bare (r : Rec) (n to name other w : Bool) : Bool :=
  (n || decide (r.n = 0)) && (to || decide (r.to.length = 0)) && (name || decide (r.name.size = 0)) && (other || decide (r.other.size = 0)) && (w || decide (r.wt = 0))
/-- 6.1. -/
def right (r : Rec) : Int :=
  if fam r.kind = 0 then 60
  else if r.kind = 15 then (if r.lo = 0 ∧ r.hi = 0 ∧ bare r false false true true true = true ∧ nameL r.name = true ∧ nameL r.other = true ∧ r.name ≠ r.other ∧ weight r.wt = true then 0 else 61)
  else if (decide (0 ≤ r.lo ∧ r.lo ≤ r.hi ∧ r.hi ≤ 1114111) && (
    if r.kind = 1 ∨ r.kind = 2 ∨ r.kind = 11 then bare r false false false false false
    else if r.kind = 3 then bare r false true false false false && list r.to 1 24
    else if r.kind = 4 then bare r true true false false false && decide (1 ≤ r.n ∧ r.n ≤ 64) && list r.to 1 1 && decide (r.to.getD 0 0 + r.hi - r.lo ≤ 1114111 ∧ (r.to.getD 0 0 + r.hi - r.lo < 55296 ∨ 57343 < r.to.getD 0 0))
    else if r.kind = 5 then decide (r.lo = r.hi) && scalar r.lo && bare r false true false false false && list r.to 0 24
    else if r.kind = 13 then decide (r.lo = r.hi) && scalar r.lo && bare r false true false false false && list r.to 1 24
    else if r.kind = 6 then bare r true false false false false && decide (1 ≤ r.n ∧ r.n ≤ 254)
    else if r.kind = 7 then decide (r.lo = r.hi) && scalar r.lo && bare r false true false false false && list r.to 2 2
    else if r.kind = 8 then decide (r.lo = r.hi) && scalar r.lo && bare r false true false false false && list r.to 1 2
    else if r.kind = 9 then bare r true false false false false && decide (0 ≤ r.n ∧ r.n ≤ 10)
    else if r.kind = 10 then bare r true false false false false && decide (0 ≤ r.n ∧ r.n ≤ 5)
    else if r.kind = 12 then bare r false false true false false && nameL r.name
    else bare r false false false false true && weight r.wt)) = true then 0 else 61
def clashA (b : Rec) (s hi : Int) : Nat → Int → Bool
  | 0, _ => false
  | k + 1, c => if c ≤ hi then (speaks b c || clashA b s hi k (c + s)) else false
/-- Do two right records speak of one thing? -/
def clash (a b : Rec) : Bool :=
  if fam a.kind ≠ fam b.kind then false
  else if a.kind = 15 then decide ((a.name = b.name ∧ a.other = b.other) ∨ (a.name = b.other ∧ a.other = b.name))
  else clashA b (step a) (min a.hi b.hi) 64 (if a.lo < max a.lo b.lo then a.lo + (max a.lo b.lo - a.lo + step a - 1) / step a * step a else a.lo)
def rightA : Nat → List Rec → Option (Nat × Int)
  | _, [] => Option.none
  | i, r :: l => if right r = 0 then rightA (i + 1) l else some (i, right r)
def twiceA (l : List Rec) : Nat → List Rec → Option Nat
  | _, [] => Option.none
  | i, r :: m => if (l.take i).any (fun k => clash k r) then some i else twiceA l (i + 1) m
/-- 6.3. -/
def check6 (l : List Rec) : Nat × Int :=
  if 4096 < l.length then (0, 3) else match rightA 0 l with
    | some x => x
    | Option.none => match twiceA l 0 l with
      | some i => (i, 62)
      | Option.none => (0, 0)
def covers (r : Rec) (lo hi : Int) : Bool := decide (r.lo ≤ hi ∧ lo ≤ r.hi)
def jl (c : Int) : Bool := decide (4352 ≤ c ∧ c ≤ 4370)
def jv (c : Int) : Bool := decide (4449 ≤ c ∧ c ≤ 4469)
def jt (c : Int) : Bool := decide (4520 ≤ c ∧ c ≤ 4546)
def fallsA (l : List Rec) : List Int → Bool
  | a :: b :: r => (decide (cls l b ≠ 0 ∧ cls l b < cls l a)) || fallsA l (b :: r)
  | _ => false
def pair (l : List Rec) (i : Nat) (r : Rec) : Bool :=
  !(decide (cls l r.lo ≠ 0) || decide (cls l (r.to.getD 0 0) ≠ 0) || decide (opn l (r.to.getD 1 0) ≠ []) || (decide (opn l (r.to.getD 0 0) ≠ []) && (prim l (r.to.getD 0 0)).isNone) || decide (r.to.getD 1 0 < 128) || decide (r.to.getD 0 0 = 46)) &&
  !((l.take i).any fun k => decide (k.kind = 7 ∧ k.to.getD 0 0 = r.to.getD 0 0 ∧ k.to.getD 1 0 = r.to.getD 1 0))
/-- What is wrong with one record of a list. -/
def record (l : List Rec) (i : Nat) (r : Rec) : Int :=
  if fam r.kind ≠ 2 ∧ fam r.kind ≠ 3 then 0
  else if covers r 0 127 then 70
  else if covers r 4352 4370 || covers r 4449 4469 || covers r 4520 4546 || covers r 44032 55203 then 71
  else if r.kind = 7 ∧ ((jl (r.to.getD 0 0) && jv (r.to.getD 1 0)) || (syl (r.to.getD 0 0) && decide ((r.to.getD 0 0 - 44032) % 28 = 0) && jt (r.to.getD 1 0))) = true then 71
  else if fam r.kind = 2 then 0
  else if (full l r.lo).2 ≠ 0 then (full l r.lo).2
  else if fallsA l (full l r.lo).1 then 75
  else if r.kind = 7 ∧ pair l i r = false then 74
  else 0
def recordA (l : List Rec) : Nat → List Rec → Option (Nat × Int)
  | _, [] => Option.none
  | i, r :: m => if record l i r = 0 then recordA l (i + 1) m else some (i, record l i r)
def plain (l : List Rec) (c : Int) : Bool := match hit l 1 c with | some r => decide (r.kind = 1) | Option.none => false
def baseOf (c : Int) : Bool := decide (c = 45 ∨ c = 46 ∨ (48 ≤ c ∧ c ≤ 57) ∨ 97 ≤ c)
def baseA (l : List Rec) : Nat → Int → Bool
  | 0, _ => true
  | k + 1, c => (!(baseOf c) || plain l c) && baseA l k (c + 1)
/-- 7.3. -/
def check (l : List Rec) : Nat × Int :=
  if (check6 l).2 ≠ 0 then check6 l else match recordA l 0 l with
    | some x => x
    | Option.none => if baseA l 78 45 then (0, 0) else (l.length, 70)
/-- The least right table, and one that composes. -/
def base : List Rec := [⟨1, 97, 122, 0, [], ⟨#[]⟩, ⟨#[]⟩, 0⟩, ⟨1, 48, 57, 0, [], ⟨#[]⟩, ⟨#[]⟩, 0⟩, ⟨1, 45, 46, 0, [], ⟨#[]⟩, ⟨#[]⟩, 0⟩, ⟨7, 192, 192, 0, [65, 768], ⟨#[]⟩, ⟨#[]⟩, 0⟩, ⟨6, 768, 768, 230, [], ⟨#[]⟩, ⟨#[]⟩, 0⟩]
set_option maxRecDepth 100000 in
theorem base_check : check base = (0, 0) := by decide +kernel
set_option maxRecDepth 100000 in
theorem base_full : full base 192 = ([65, 768], 0) := by decide +kernel
set_option maxRecDepth 100000 in
theorem base_tail : check (base.drop 1) = (4, 70) := by decide +kernel
theorem base_prim : prim [] 44033 = some (44032, 4520) := by decide +kernel
theorem base_cls : cls base 768 = 230 := by decide +kernel
theorem base_opn : (opn base 44032).length = 2 := by decide +kernel
end Go.Proofs.YtloocceakfmnoaaGreatDoor.Cn
/- What calls over records are asked, as words: runes, an error, a place. -/
namespace Go.Proofs.YtloocceakfmnoaaGreatDoor
open Go.RowKit

def Rune (c : Int) : Prop := -2147483648 ≤ c ∧ c ≤ 2147483647
/-- Runes and an error. -/
def FullB (w : World) (r : List Int × Int) (e : Ending) (w' : World) : Prop := ∃ v, e = .returned (.tuple #[v, .int .i64 r.2]) ∧ Ok .i32 21 w' w.heap.size v r.1 ∧ Below w.heap.size w w'
def CheckB (w : World) (r : Nat × Int) (e : Ending) (w' : World) : Prop := e = .returned (.tuple #[.int .i64 (r.1 : Int), .int .i64 r.2]) ∧ Below w.heap.size w w'
def Tells (w : World) (b : Bool) (e : Ending) (w' : World) : Prop := e = .returned (.bool b) ∧ Below w.heap.size w w'

theorem Rcs.nil (w : World) : Rcs w (.slice none 0 0) [] := ⟨by simp, fun _ h => (by cases h), .inl ⟨rfl, none, 0, rfl, by omega⟩⟩
/-- All but the first. -/
theorem Rcs.tail {w : World} {b off len cap : Nat} {rs : List Rec} (h : Rcs w (.slice (some ⟨b, off, none⟩) len cap) rs) (hl : 0 < len) (hlr : rs.length = len) : Rcs w (.slice (some ⟨b, off + 8, none⟩) (len - 1) (cap - 1)) (rs.drop 1) := by
  obtain ⟨h1, h2, h3⟩ := h
  refine ⟨by simp; omega, fun r hr => h2 r (List.mem_of_mem_drop hr), ?_⟩
  rcases h3 with ⟨rfl, ao', cap', hv, hm⟩ | ⟨b', off', cap', hv, hl', hm, hc⟩
  · simp at hlr; omega
  · simp only [Value.slice.injEq, Option.some.injEq, Addr.mk.injEq, and_true] at hv
    obtain ⟨⟨rfl, rfl⟩, _, rfl⟩ := hv
    refine .inr ⟨b, off + 8, cap - 1, by simp [hlr], by simp; omega, by omega, fun i hi => ?_⟩
    have := hc (i + 1) (by simp at hi; omega)
    rw [show (rs.drop 1).getD i Cn.none = rs.getD (i + 1) Cn.none by simp [List.getD], show off + 8 + i * 8 = off + (i + 1) * 8 by omega]
    exact this
def RFullC : Prop := ∀ (v : Value) (rs : List Rec) (c : Int) (w : World), Rcs w v rs → Rune c → Calls Tryz.prog 92 #[v, .int .i32 c] w (FullB w (Cn.full rs c))
theorem rune_of {w : World} {v : Value} {zs : List Int} (h : Sk .i32 w v zs) {i : Nat} (hi : i < zs.length) : Rune (zs.getD i 0) := by
  have := h.1 (zs.getD i 0) (by simp [List.getD, hi])
  unfold Rune
  simpa [IntKind.min, IntKind.max, IntKind.signed, IntKind.bits] using this
def RCheckC : Prop := ∀ (v : Value) (rs : List Rec) (w : World), Rcs w v rs → Calls Tryz.prog 11 #[v] w (CheckB w (Cn.check rs))
end Go.Proofs.YtloocceakfmnoaaGreatDoor
/- What canon's calls are asked; the statements' own base, few, told. -/
namespace Go.Proofs.YtloocceakfmnoaaGreatDoor
open Go.RowKit

def ClassC : Prop := ∀ (v : Value) (rs : List Rec) (c : Int) (w : World), Glob w → Rcs w v rs → Rune c → Calls Tryz.prog 55 #[v, .int .i32 c] w (IntB w (Cn.cls rs c))
def OpenC : Prop := ∀ (v : Value) (rs : List Rec) (c : Int) (w : World), Glob w → Rcs w v rs → Rune c → Calls Tryz.prog 56 #[v, .int .i32 c] w (RunesNew w (Cn.opn rs c))
def PrimC : Prop := ∀ (v : Value) (rs : List Rec) (c : Int) (w : World), Glob w → Rcs w v rs → Rune c → Calls Tryz.prog 54 #[v, .int .i32 c] w (PairB w (Cn.prim rs c))
def FullC : Prop := ∀ (v : Value) (rs : List Rec) (c : Int) (w : World), Glob w → Rcs w v rs → Rune c → Calls Tryz.prog 53 #[v, .int .i32 c] w (FullB w (Cn.full rs c))
def CheckC : Prop := ∀ (v : Value) (rs : List Rec) (w : World), Glob w → Rcs w v rs → Calls Tryz.prog 10 #[v] w (CheckB w (Cn.check rs))
/-- The records of base, each with its list. -/
def basePs (n : Nat) : List (Rec × Value) := [(⟨1, 97, 122, 0, [], ⟨#[]⟩, ⟨#[]⟩, 0⟩, .slice none 0 0), (⟨1, 48, 57, 0, [], ⟨#[]⟩, ⟨#[]⟩, 0⟩, .slice none 0 0), (⟨1, 45, 46, 0, [], ⟨#[]⟩, ⟨#[]⟩, 0⟩, .slice none 0 0), (⟨7, 192, 192, 0, [65, 768], ⟨#[]⟩, ⟨#[]⟩, 0⟩, .slice (some ⟨n, 0, none⟩) 2 2), (⟨6, 768, 768, 230, [], ⟨#[]⟩, ⟨#[]⟩, 0⟩, .slice none 0 0)]
def baseRow (n : Nat) : Array Value := (rcells (basePs n)).toArray
theorem base_fit : ∀ p ∈ Cn.base, RecFit p := by
  intro p hp
  simp only [Cn.base, List.mem_cons, List.mem_nil_iff, or_false] at hp
  rcases hp with rfl | rfl | rfl | rfl | rfl <;> exact ⟨by unfold I64; decide, by unfold I64; decide, by unfold I64; decide, by unfold I64; decide, by decide, by decide⟩
theorem base_rcs (w : World) : Rcs ((w.alloc (.cells #[.int .i32 65, .int .i32 768] 21)).alloc (.cells (baseRow w.heap.size) 60)) (.slice (some ⟨w.heap.size + 1, 0, none⟩) 5 5) Cn.base := by
  have hr : Rown ((w.alloc (.cells #[.int .i32 65, .int .i32 768] 21)).alloc (.cells (baseRow w.heap.size) 60)) w.heap.size (.slice (some ⟨w.heap.size + 1, 0, none⟩) 5 5) (basePs w.heap.size) := by
    have hl : (rcells (basePs w.heap.size)).length = 40 := by rw [rcells_length]; rfl
    refine ⟨⟨by rw [hl]; rfl, .inr ⟨w.heap.size + 1, 5, baseRow w.heap.size, rfl, by omega, ?_, Nat.le_refl _, by unfold maxLen; omega, ?_, ?_⟩⟩, fun p hp => ?_⟩
    · show ((w.heap.push _).push _)[w.heap.size + 1]? = _
      rw [Array.getElem?_push]
      simp
    · unfold baseRow
      rw [List.size_toArray, hl]
    · unfold baseRow
      exact List.take_of_length_le (by rw [hl]; exact Nat.le_refl _)
    · simp only [basePs, List.mem_cons, List.mem_nil_iff, or_false] at hp
      rcases hp with rfl | rfl | rfl | rfl | rfl
      · exact Ok.nil _ _ _ _
      · exact Ok.nil _ _ _ _
      · exact Ok.nil _ _ _ _
      · exact (ok_two w 65 768 (by omega) (by omega)).below ((Below.refl _ _).alloc (Nat.le_refl _) _)
      · exact Ok.nil _ _ _ _
  exact hr.rcs (by show 5 ≤ _; omega) (fun p hp => base_fit p.1 (List.mem_map.2 ⟨p, hp, rfl⟩))
set_option maxHeartbeats 1000000 in
theorem base_any (w : World) : Calls Tryz.prog 52 #[] w (fun e w' => ∃ b cap, e = .returned (.slice (some ⟨b, 0, none⟩) 5 cap) ∧ 5 ≤ cap ∧ cap ≤ 9223372036854775807 ∧ Rcs w' (.slice (some ⟨b, 0, none⟩) 5 cap) Cn.base ∧ Below w.heap.size w w') := by
  have h := base_rcs w
  go_enter Tryz.func52, Tryz.ntmps52
  go_wp2
  go_ret
  exact ⟨w.heap.size + 1, 5, rfl, by decide, by decide, h, ((Below.refl _ _).alloc (Nat.le_refl _) _).alloc (by simp) _⟩
set_option maxHeartbeats 4000000 in
theorem told_any (HC : ClassC) (HO : OpenC) (HP : PrimC) (HF : FullC) (HK : CheckC) (w : World) (hg : Glob w) : Calls Tryz.prog 12 #[] w (Tells w true) := by
  have HG : Hid (∀ W, Below w.heap.size w W → Glob W) := fun W h => hg.on h
  clear hg
  have KB := hide (fun w => base_any w)
  have K1 := hide HC
  have K2 := hide HO
  have K3 := hide HP
  have K4 := hide HF
  have K5 := hide HK
  clear HC HO HP HF HK
  go_enter Tryz.func12, Tryz.ntmps12
  go_wp2_with fail
  refine ((unhide KB) w).mono ?_
  rintro e1 w1 ⟨b1, c1, rfl, p1, q1, r1, hb1⟩
  have hB := hb1
  have J := (unhide K5) _ _ w1 ((unhide HG) _ hB) r1
  rw [Cn.base_check] at J
  have HJ := hide J
  clear J r1
  go_wp2_with fail
  refine (unhide HJ).mono ?_
  rintro e2 w2 ⟨rfl, hb2⟩
  clear HJ
  go_wp2_with fail
  refine ((unhide KB) w2).mono ?_
  rintro e3 w3 ⟨b3, c3, rfl, p3, q3, r3, hb3⟩
  have hB := bthen (bthen hB hb2) hb3
  have J := (unhide K4) _ _ 192 w3 ((unhide HG) _ hB) r3 (by unfold Rune; omega)
  rw [Cn.base_full] at J
  have HJ := hide J
  clear J r3
  go_wp2_with fail
  refine (unhide HJ).mono ?_
  rintro e4 w4 ⟨v4, rfl, ok4, hb4⟩
  clear HJ
  have hB := bthen hB hb4
  have J := (unhide K3) _ _ 44033 w4 ((unhide HG) _ hB) (Rcs.nil w4) (by unfold Rune; omega)
  rw [Cn.base_prim] at J
  have HJ := hide J
  clear J
  go_wp2_with fail
  refine (unhide HJ).mono ?_
  rintro e5 w5 ⟨rfl, hb5⟩
  clear HJ
  go_wp2_with fail
  refine ((unhide KB) w5).mono ?_
  rintro e6 w6 ⟨b6, c6, rfl, p6, q6, r6, hb6⟩
  have hB := bthen (bthen hB hb5) hb6
  have J := (unhide K5) _ _ w6 ((unhide HG) _ hB) (r6.tail (by omega) rfl)
  rw [Cn.base_tail] at J
  have HJ := hide J
  clear J r6
  go_wp2_with fail
  refine (unhide HJ).mono ?_
  rintro e7 w7 ⟨rfl, hb7⟩
  clear HJ
  have ok7 := (((ok4.below hb5).below hb6).below hb7).sk
  obtain ⟨xb, xoff, xcap, rfl, hx1, hx2, hxc⟩ := ok7.place (by decide)
  have y1 := hxc 1 (by decide)
  have y1b : w7.cell? ⟨xb, xoff + 1, none⟩ = some (.int .i32 768) := y1
  have hl2 : ([65, 768] : List Int).length = 2 := rfl
  rw [hl2] at hx1 ⊢
  clear ok4 ok7 hxc y1 hl2
  go_wp2_with fail
  refine ((unhide KB) w7).mono ?_
  rintro e8 w8 ⟨b8, c8, rfl, p8, q8, r8, hb8⟩
  have hB := bthen (bthen hB hb7) hb8
  have J := (unhide K1) _ _ 768 w8 ((unhide HG) _ hB) r8 (by unfold Rune; omega)
  rw [Cn.base_cls] at J
  have HJ := hide J
  clear J r8 y1b
  go_wp2_with fail
  refine (unhide HJ).mono ?_
  rintro e9 w9 ⟨rfl, hb9⟩
  clear HJ
  go_wp2_with fail
  refine ((unhide KB) w9).mono ?_
  rintro e10 w10 ⟨b10, c10, rfl, p10, q10, r10, hb10⟩
  have hB := bthen (bthen hB hb9) hb10
  have HJ := hide ((unhide K2) _ _ 44032 w10 ((unhide HG) _ hB) r10 (by unfold Rune; omega))
  clear r10
  go_wp2_with fail
  refine (unhide HJ).mono ?_
  rintro e11 w11 ⟨v11, rfl, ok11, hb11⟩
  obtain ⟨ao11, cap11, rfl, _, _⟩ := ok11.sk.shape
  rw [Cn.base_opn]
  have HF : Tells w true (.returned (.bool true)) w11 := ⟨rfl, bthen (bthen (bthen (bthen (bthen (bthen (bthen (bthen (bthen (bthen hb1 hb2) hb3) hb4) hb5) hb6) hb7) hb8) hb9) hb10) hb11⟩
  clear HJ ok11 KB K1 K2 K3 K4 K5
  go_wp2
  go_ret
  exact HF
/-- At most so many records, in memory of their own. -/
theorem few_any (v : Value) (rs : List Rec) (m : Nat) (w : World) (hv : Rcs w v rs) (hm : m ≤ 1000) : Calls Tryz.prog 9 #[v, .int .i64 (m : Int)] w (RecsNew w (rs.take m)) := by
  have hlen := hv.1
  obtain ⟨ao, cap, rfl, h1, h2⟩ := hv.shape
  by_cases hle : rs.length ≤ m
  · have hmn : min (rs.length : Int) (m : Int) = (rs.length : Int) := by omega
    have ht : rs.take m = rs.take rs.length := by rw [List.take_of_length_le hle, List.take_length]
    have K := hide (refCopied_any _ _ w (hv.head (Nat.le_refl _)))
    rw [ht]
    clear hv ht
    go_enter Tryz.func9, Tryz.ntmps9
    go_wp2_with fail
    refine (unhide K).mono ?_
    rintro e w1 ⟨v1, ps, rfl, a1, a2, a3⟩
    have HF : RecsNew w (rs.take rs.length) (.returned v1) w1 := ⟨v1, ps, rfl, a1, a2, a3⟩
    clear K a1 a2 a3
    go_wp2
    go_ret
    exact HF
  · have hmn : min (rs.length : Int) (m : Int) = (m : Int) := by omega
    have K := hide (refCopied_any _ _ w (hv.head (k := m) (by omega)))
    clear hv
    go_enter Tryz.func9, Tryz.ntmps9
    go_wp2_with fail
    refine (unhide K).mono ?_
    rintro e w1 ⟨v1, ps, rfl, a1, a2, a3⟩
    have HF : RecsNew w (rs.take m) (.returned v1) w1 := ⟨v1, ps, rfl, a1, a2, a3⟩
    clear K a1 a2 a3
    go_wp2
    go_ret
    exact HF
/-- What few tells, and what was handed in, cut to as many. -/
theorem few_both {w w1 : World} {ao : Option Addr} {len cap : Nat} {rs : List Rec} {v1 : Value} {ps : List (Rec × Value)} (hv : Rcs w (.slice ao len cap) rs) (hlen : rs.length = len) (hp : ps.map (·.1) = rs.take 120) (hr : Rown w1 w.heap.size v1 ps) (hb : Below w.heap.size w w1) :
    ∃ m : Nat, m ≤ len ∧ m ≤ 120 ∧ Rcs w1 v1 (rs.take 120) ∧ Rcs w1 (.slice ao m cap) (rs.take 120) ∧ (∃ ao1 cap1, v1 = .slice ao1 m cap1 ∧ cap1 ≤ 9223372036854775807) := by
  refine ⟨(rs.take 120).length, by simp; omega, by simp; omega, ?_, ?_, ?_⟩
  · rw [← hp]
    refine hr.rcs ?_ (fun p hp' => ?_)
    · have := congrArg List.length hp
      rw [List.length_map] at this
      rw [this]; simp; omega
    · have : p.1 ∈ ps.map (·.1) := List.mem_map.2 ⟨p, hp', rfl⟩
      rw [hp] at this
      exact hv.2.1 _ (List.mem_of_mem_take this)
  · have h := (hv.head (k := (rs.take 120).length) (by simp; omega)).below hb
    have e : rs.take (rs.take 120).length = rs.take 120 := by
      rw [List.length_take]
      rcases Nat.le_total rs.length 120 with h | h
      · rw [Nat.min_eq_right h, List.take_of_length_le h, List.take_length]
      · rw [Nat.min_eq_left h]
    rw [e] at h
    exact h
  · have hl : ps.length = (rs.take 120).length := by rw [← hp, List.length_map]
    rcases hr.1.2 with ⟨rfl, h0⟩ | ⟨g, cap1, cur, rfl, _, _, _, hc, _⟩
    · exact ⟨none, 0, by rw [← hl, h0], by omega⟩
    · exact ⟨_, cap1, by rw [hl], by unfold maxLen at hc; omega⟩
end Go.Proofs.YtloocceakfmnoaaGreatDoor
