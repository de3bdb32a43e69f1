import Derived.Test.YtceflkeaenepcaaGreatDoorN2
import Derived.Deep.RegionWith
namespace Go.Proofs.YtceflkeaenepcaaGreatDoor
open Go.RowKit
def rarr (r : Rec) (vt : Value) : Array Value := #[.int .i64 r.kind, .int .i64 r.lo, .int .i64 r.hi, .int .i64 r.n, vt, .string r.name, .string r.other, .float .f64 r.wt]
theorem rec_new (W : World) (r : Rec) (vt : Value) : ∀ j u, (rcell (r, vt))[j]? = some u → (W.alloc (.cells (rarr r vt) 29)).cell? ((⟨W.heap.size, 0, none⟩ : Addr).add j) = some u := by
  intro j u hj
  have hlt : j < 8 := by
    rcases Nat.lt_or_ge j 8 with h | h
    · exact h
    · rw [List.getElem?_eq_none (by simp [rcell]; omega)] at hj; cases hj
  rw [addr_add, Nat.zero_add]
  have e : (rarr r vt).toList = rcell (r, vt) := rfl
  simp only [World.cell?, World.alloc]
  simp
  rw [← Array.getElem?_toList, e]
  exact hj
theorem rec_new2 (W : World) (n : Nat) (hn : W.heap.size = n) (r : Rec) (vt : Value) : ∀ j u, (rcell (r, vt))[j]? = some u → (W.alloc (.cells #[.int .i64 r.kind, .int .i64 r.lo, .int .i64 r.hi, .int .i64 r.n, vt, .string r.name, .string r.other, .float .f64 r.wt] 29)).cell? ((⟨n, 0, none⟩ : Addr).add j) = some u := by
  subst hn
  exact rec_new W r vt
theorem rec_one (r : Rec) {vt : Value} (h : vt.oneCell' = true) : ∀ u ∈ rcell (r, vt), u.oneCell' = true := by
  intro u hu
  simp only [rcell, List.mem_cons, List.mem_nil_iff, or_false] at hu
  rcases hu with rfl | rfl | rfl | rfl | rfl | rfl | rfl | rfl <;> first | rfl | exact h
theorem set_other {w : World} {g j k : Nat} (v : Value) (h : k ≠ g) : (w.setCell ⟨g, j, none⟩ v).heap[k]? = w.heap[k]? := Below.heap_setCell _ _ _ _ (fun e => h e)
theorem below_set {B : Nat} {a w : World} (h : Below B a w) {g j : Nat} (hg : B ≤ g) (v : Value) : Below B a (w.setCell ⟨g, j, none⟩ v) := by
  refine h.trans ⟨?_, ?_, ?_, ?_, fun k hk => set_other v (by omega)⟩
  all_goals first | rfl | (unfold World.setCell; split <;> first | rfl | simp)
theorem set_size (w : World) (g j : Nat) (v : Value) : (w.setCell ⟨g, j, none⟩ v).heap.size = w.heap.size := by
  unfold World.setCell; split <;> first | rfl | simp
theorem copied_more {w wr w9 w10 : World} {mv v9 v10 : Value} {ps : List (Rec × Value)} {r : Rec} {vt : Value} {o : Obj} (hown : Rown wr w.heap.size mv ps) (hbel : Below w.heap.size w wr)
    (hok9 : Ok .i32 21 w9 w.heap.size v9 r.to) (hg9 : (wr.alloc (.cells (rarr r vt) 29)).grownBy w9 (Value.slice none 0 0).ownBlock)
    (hrow : w10.ownsRow w.heap.size 29 8 v10 (ps.length + 1) (rcells ps ++ rcell (r, v9))) (hg10 : ((w9.setCell ⟨wr.heap.size, 4, none⟩ v9).alloc o).grownBy w10 mv.ownBlock) :
    Rown w10 w.heap.size v10 (ps ++ [(r, v9)]) ∧ Below w.heap.size w w10 := by
  have hB := hbel.size
  have s9 : (wr.alloc (.cells (rarr r vt) 29)).heap.size ≤ w9.heap.size := hg9.size
  have s9' : wr.heap.size + 1 ≤ w9.heap.size := by simpa using s9
  have k9 : ∀ g, g < wr.heap.size + 1 → w9.heap[g]? = (wr.alloc (.cells (rarr r vt) 29)).heap[g]? := fun g hg => hg9.block g (by simpa using hg) (by simp [Value.ownBlock])
  have kA : ∀ g, g < wr.heap.size → (wr.alloc (.cells (rarr r vt) 29)).heap[g]? = wr.heap[g]? := fun g hg => ((Below.refl wr.heap.size wr).alloc (Nat.le_refl _) _).block g hg
  have hbox : w9.heap[wr.heap.size]? = some (.cells (rarr r vt) 29 (0, 0)) := by
    rw [k9 _ (by omega)]
    show (wr.heap.push _)[wr.heap.size]? = _
    simp
  have m9 : w9.ownsRow w.heap.size 29 8 mv ps.length (rcells ps) := own_keep hown.1 (fun g h => by rw [k9 g (by have := (hown.1.lt g h).2; omega), kA g (hown.1.lt g h).2])
  have k10 : ∀ g, g < w9.heap.size → g ≠ wr.heap.size → mv.ownBlock ≠ some g → w10.heap[g]? = w9.heap[g]? := fun g hg h1 h2 => by
    have e1 := hg10.block g (by simp; omega) (fun e => h2 e.symm)
    rw [e1]
    have e2 : ((w9.setCell ⟨wr.heap.size, 4, none⟩ v9).alloc o).heap[g]? = (w9.setCell ⟨wr.heap.size, 4, none⟩ v9).heap[g]? := ((Below.refl _ _).alloc (Nat.le_refl _) _).block g (by rw [set_size]; exact hg)
    rw [e2, set_other v9 h1]
  refine ⟨⟨?_, fun p hp => ?_⟩, ?_⟩
  · rw [rcells_snoc] at hrow
    simpa using hrow
  · rcases List.mem_append.1 hp with hp | hp
    · have hop := hown.2 p hp
      refine hop.keep fun g h => ?_
      have hlt := (hop.2.2.lt g h).2
      rw [k10 g (by omega) (by omega) (own_apart hop.2.2 hown.1 (by decide) h), k9 g (by omega), kA g hlt]
    · simp only [List.mem_singleton] at hp
      subst hp
      refine hok9.keep fun g h => ?_
      have hlt := (hok9.2.2.lt g h).2
      refine k10 g hlt (fun e => ?_) (own_apart hok9.2.2 m9 (by decide) h)
      rcases hok9.2.2.2 with ⟨hv, _⟩ | ⟨g', cap, cur, hv, _, hh, _⟩
      · rw [hv] at h; cases h
      · rw [hv] at h
        simp [Value.ownBlock] at h
        rw [h, e, hbox] at hh
        simp at hh
  · have b1 : Below w.heap.size w w9 := (hbel.alloc hB _).grown hg9 (by simp; omega) (fun k hk => by simp [Value.ownBlock] at hk)
    have b2 := below_set b1 (g := wr.heap.size) (j := 4) hB v9
    exact (b2.alloc (by rw [set_size]; omega) o).grown hg10 (by simp; omega) (fun k hk => (hown.1.lt k hk).1)
theorem copied_nil {w wr w10 : World} {mv v10 : Value} {ps : List (Rec × Value)} {r : Rec} {o1 o : Obj} (hown : Rown wr w.heap.size mv ps) (hbel : Below w.heap.size w wr) (hto : r.to = [])
    (hrow : w10.ownsRow w.heap.size 29 8 v10 (ps.length + 1) (rcells ps ++ rcell (r, .slice none 0 0))) (hg10 : ((wr.alloc o1).alloc o).grownBy w10 mv.ownBlock) :
    Rown w10 w.heap.size v10 (ps ++ [(r, .slice none 0 0)]) ∧ Below w.heap.size w w10 := by
  have hB := hbel.size
  refine ⟨⟨?_, fun p hp => ?_⟩, ?_⟩
  · rw [rcells_snoc] at hrow
    simpa using hrow
  · rcases List.mem_append.1 hp with hp | hp
    · have hop := hown.2 p hp
      refine hop.keep fun g h => ?_
      have hlt := (hop.2.2.lt g h).2
      rw [hg10.block g (by simp; omega) (fun e => own_apart hop.2.2 hown.1 (by decide) h e.symm)]
      exact (((Below.refl wr.heap.size wr).alloc (Nat.le_refl _) o1).alloc (by simp) o).block g hlt
    · simp only [List.mem_singleton] at hp
      subst hp
      show Ok .i32 21 w10 w.heap.size (.slice none 0 0) r.to
      rw [hto]
      exact Ok.nil _ _ _ _
  · exact ((hbel.alloc hB _).alloc (by simp; omega) o).grown hg10 (by simp; omega) (fun k hk => (hown.1.lt k hk).1)
set_option maxRecDepth 8000 in
set_option maxHeartbeats 8000000 in
theorem refCopied_any (v : Value) (rs : List Rec) (w : World) (hv : Rcs w v rs) : Calls Tryz.prog 9 #[v] w (RecsNew w rs) := by
  obtain ⟨i0, hi, hz0, hz1, hz2⟩ := info_parts Tryz.info21
  obtain ⟨i1, hj, hy0, hy1, hy2⟩ := info_parts Tryz.info29
  have hlen := hv.1
  have HFit := hide (fun i hi => hv.fit (i := i) hi)
  rcases Nat.eq_zero_or_pos rs.length with n0 | n0
  · obtain ⟨ao, cap, rfl, _, _⟩ := hv.shape
    obtain rfl : rs = [] := List.eq_nil_of_length_eq_zero n0
    have HF : RecsNew w [] (.returned (.slice none 0 0)) w := ⟨_, [], rfl, rfl, ⟨World.ownsRow_nil _ _ _ _, fun _ h => (by cases h)⟩, Below.refl _ _⟩
    clear hv HFit
    go_enter Tryz.func9, Tryz.ntmps9
    go_wp2
    refine wp_loop_rounds 1 ?_
    rw [rounds_succ]
    go_wp2
    go_ret
    exact HF
  · obtain ⟨b, off, cap, rfl, hl1, hl2, hcells⟩ := hv.place n0
    have HC : Hid (∀ i, i < rs.length → ∀ W, Below w.heap.size w W → RecAt W b (off + i * 8) (rs.getD i Cn.none)) := fun i hi W hb => (hcells i hi).below hb
    have HTake : Hid (∀ k, k < rs.length → rs.take (k + 1) = rs.take k ++ [rs.getD k Cn.none]) := fun k hk => by
      rw [List.take_add_one]; simp [List.getD, hk]
    clear hv hcells
    go_enter Tryz.func9, Tryz.ntmps9
    go_wp2
    go_loopw [3, 4, 5, 6] (fun mv iv _ _ wr => ∃ (k : Nat) (ps : List (Rec × Value)), iv = .int .i64 k ∧ k ≤ rs.length ∧ ps.map (·.1) = rs.take k ∧ ps.length = k ∧ Rown wr w.heap.size mv ps ∧ Below w.heap.size w wr) (fun _ iv _ _ _ => rs.length - (intOf iv).toNat)
    case atStart => exact ⟨0, [], rfl, by omega, by simp, rfl, ⟨World.ownsRow_nil _ _ _ _, fun _ h => (by cases h)⟩, Below.refl _ _⟩
    case round =>
      obtain ⟨k, ps, rfl, hk, hps, hpl, hown, hbel⟩ := hrel
      by_cases hlt : k < rs.length
      · have hrec := (unhide HC) k hlt wr hbel
        have hfit := (unhide HFit) k hlt
        have htk := (unhide HTake) k hlt
        rw [← hps] at htk
        have hto := hfit.len
        have HTK := hide htk
        clear HFit HTake htk hps hfit
        generalize rs.getD k Cn.none = r at *
        obtain ⟨x0, x1, x2, x3, ⟨vt, x4, hsk⟩, x5, x6, x7⟩ := hrec
        have hB := hbel.size
        have hskf := hsk.1
        rcases hsk.2.src with ⟨hnil, rfl⟩ | ⟨ad, tcap, rfl, hsrc⟩
        · obtain hto0 : r.to = [] := by simpa using hnil
          have hX : ∀ o, (wr.alloc o).cell? ⟨b, off + k * 8 + 4, none⟩ = some (.slice none 0 0) := fun o => by
            rw [Below.cell ((Below.refl wr.heap.size wr).alloc (Nat.le_refl _) o) (lt_of_cell? x4)]; exact x4
          have hfl : ∀ W a m, (store a (.float .f64 r.wt) m).run Tryz.prog W = stored Tryz.prog W a (.float .f64 r.wt) m := fun W a m => run_store Tryz.prog W a _ m rfl
          have hM : ∀ o o2, ((wr.alloc o).alloc o2).ownsRow w.heap.size 29 8 u3 ps.length (rcells ps) := fun o o2 => (hown.1.alloc o).alloc o2
          have HM := hide hM
          have HMORE : Hid (∀ o v10 w10, World.ownsRow w10 w.heap.size 29 8 v10 (ps.length + 1) (rcells ps ++ rcell (r, .slice none 0 0)) → ((wr.alloc (.cells #[.int .i64 r.kind, .int .i64 r.lo, .int .i64 r.hi, .int .i64 r.n, .slice none 0 0, .string r.name, .string r.other, .float .f64 r.wt] 29)).alloc o).grownBy w10 u3.ownBlock → Rown w10 w.heap.size v10 (ps ++ [(r, .slice none 0 0)]) ∧ Below w.heap.size w w10) := fun o v10 w10 a b => copied_nil hown hbel hto0 a b
          have HNEW := hide (rec_new2 (wr.alloc (.cells #[.int .i64 r.kind, .int .i64 r.lo, .int .i64 r.hi, .int .i64 r.n, .slice none 0 0, .string r.name, .string r.other, .float .f64 r.wt] 29)) (wr.heap.size + 1) (by simp) r (.slice none 0 0))
          have HONE := hide (rec_one r (vt := .slice none 0 0) rfl)
          clear hM hown hbel hsk
          go_wp2_with (first | (at_builtin; refine wpList_append_own_none rfl (.tmp 17) (.tmp 22) 26 rfl w.heap.size 21 i0 1 Tryz.underlying26 hi _ _ _ rfl (World.ownsRow_nil _ _ _ _) rfl ?_) | (at_builtin; refine wpList_append_own _ rfl (.tmp 25) (.tmp 27) 22 rfl w.heap.size 29 i1 (.agg #[.int .i64 0, .int .i64 0, .int .i64 0, .int .i64 0, .slice none 0 0, .string ⟨#[]⟩, .string ⟨#[]⟩, .float .f64 0]) 8 96 Tryz.underlying22 hj hy0 hy1 hy2 rfl (by decide) _ _ _ rfl ((unhide HM) _ _) ⟨wr.heap.size + 1, 0, none⟩ 1 1 (rcell (r, .slice none 0 0)) rfl rfl (unhide HNEW) (unhide HONE) (by unfold maxLen; omega) (by omega) (by simp; omega) ?_))
          intro v10 w10 hrow10 hg10 _
          obtain ⟨hR, hBW⟩ := (unhide HMORE) _ v10 w10 (by rw [hpl]; exact hrow10) hg10
          have HR := hide hR
          clear HMORE HM HNEW HONE hrow10 hg10 hR
          go_wp2
          go_roundw
          case rel => exact ⟨k + 1, ps ++ [(r, .slice none 0 0)], by go_num, by omega, by rw [unhide HTK]; simp, by simp [hpl], unhide HR, hBW⟩
          case measure => simp [intOf]; omega
        · have hml : (r.to.map (Value.int .i32)).length = r.to.length := List.length_map _
          rw [hml] at x4
          have hX : ∀ o, (wr.alloc o).cell? ⟨b, off + k * 8 + 4, none⟩ = some (.slice (some ad) r.to.length tcap) := fun o => by
            rw [Below.cell ((Below.refl wr.heap.size wr).alloc (Nat.le_refl _) o) (lt_of_cell? x4)]; exact x4
          have hS : ∀ o, ∀ j u, (r.to.map (Value.int .i32))[j]? = some u → (wr.alloc o).cell? (ad.add j) = some u := fun o j u hu => by
            have h := hsrc j u hu
            rw [Below.cell ((Below.refl wr.heap.size wr).alloc (Nat.le_refl _) o) (World.block_lt_of_cell? _ _ h)]; exact h
          have HS := hide hS
          have hfl : ∀ W a m, (store a (.float .f64 r.wt) m).run Tryz.prog W = stored Tryz.prog W a (.float .f64 r.wt) m := fun W a m => run_store Tryz.prog W a _ m rfl
          clear hS hsrc hsk
          go_wp2_with (at_builtin; refine wpList_append_own _ rfl (.tmp 17) (.tmp 22) 26 rfl w.heap.size 21 i0 (.int .i32 0) 1 4 Tryz.underlying26 hi hz0 hz1 hz2 rfl (by decide) _ _ _ rfl (World.ownsRow_nil _ _ _ _) ad r.to.length tcap (r.to.map (Value.int .i32)) rfl (by simp) ((unhide HS) _) (fun u hu => by obtain ⟨z, _, rfl⟩ := List.mem_map.1 hu; rfl) (by unfold maxLen; omega) (by omega) (by simp; omega) ?_)
          intro v9 w9 hrow9 hg9 _
          have hok9 : Ok .i32 21 w9 w.heap.size v9 r.to := Ok.of hskf (by omega) hrow9 (by simp) (by simp)
          have hbox : w9.heap[wr.heap.size]? = some (.cells (rarr r (.slice (some ad) r.to.length tcap)) 29 (0, 0)) := by
            rw [hg9.block _ (by simp) (by simp [Value.ownBlock])]
            show (wr.heap.push _)[wr.heap.size]? = _
            simp [rarr]
          have s9 : wr.heap.size + 1 ≤ w9.heap.size := by simpa using hg9.size
          obtain ⟨ao9, cap9, hv9, _, _⟩ := hok9.sk.shape
          subst hv9
          have hM : ∀ o, ((w9.setCell ⟨wr.heap.size, 4, none⟩ (.slice ao9 r.to.length cap9)).alloc o).ownsRow w.heap.size 29 8 u3 ps.length (rcells ps) := fun o => by
            refine World.ownsRow.alloc (own_keep hown.1 fun g h => ?_) o
            have hlt9 := (hown.1.lt g h).2
            rw [set_other _ (by omega), hg9.block g (by simp; omega) (by simp [Value.ownBlock])]
            exact ((Below.refl wr.heap.size wr).alloc (Nat.le_refl _) _).block g hlt9
          have HM := hide hM
          have HMORE : Hid (∀ o v10 w10, World.ownsRow w10 w.heap.size 29 8 v10 (ps.length + 1) (rcells ps ++ rcell (r, .slice ao9 r.to.length cap9)) → ((w9.setCell ⟨wr.heap.size, 4, none⟩ (.slice ao9 r.to.length cap9)).alloc o).grownBy w10 u3.ownBlock → Rown w10 w.heap.size v10 (ps ++ [(r, .slice ao9 r.to.length cap9)]) ∧ Below w.heap.size w w10) := fun o v10 w10 a b => copied_more hown hbel hok9 hg9 a b
          have y0 := cell_of (j := 0) hbox (by show _ < 8; omega)
          have y1 := cell_of (j := 1) hbox (by show _ < 8; omega)
          have y2 := cell_of (j := 2) hbox (by show _ < 8; omega)
          have y3 := cell_of (j := 3) hbox (by show _ < 8; omega)
          have y4 := cell_of (j := 4) hbox (by show _ < 8; omega)
          have y5 := cell_of (j := 5) hbox (by show _ < 8; omega)
          have y6 := cell_of (j := 6) hbox (by show _ < 8; omega)
          have y7 := cell_of (j := 7) hbox (by show _ < 8; omega)
          have yf := frozen_of (j := 4) hbox
          have z0 : w9.cell? ⟨wr.heap.size, 0, none⟩ = some (.int .i64 r.kind) := y0
          have z1 : w9.cell? ⟨wr.heap.size, 1, none⟩ = some (.int .i64 r.lo) := y1
          have z2 : w9.cell? ⟨wr.heap.size, 2, none⟩ = some (.int .i64 r.hi) := y2
          have z3 : w9.cell? ⟨wr.heap.size, 3, none⟩ = some (.int .i64 r.n) := y3
          have z4 : w9.cell? ⟨wr.heap.size, 4, none⟩ = some (.slice (some ad) r.to.length tcap) := y4
          have z5 : w9.cell? ⟨wr.heap.size, 5, none⟩ = some (.string r.name) := y5
          have z6 : w9.cell? ⟨wr.heap.size, 6, none⟩ = some (.string r.other) := y6
          have z7 : w9.cell? ⟨wr.heap.size, 7, none⟩ = some (.float .f64 r.wt) := y7
          have hnew := rec_new2 (w9.setCell ⟨wr.heap.size, 4, none⟩ (.slice ao9 r.to.length cap9)) w9.heap.size (set_size _ _ _ _) r (.slice ao9 r.to.length cap9)
          have hone := rec_one r (vt := .slice ao9 r.to.length cap9) rfl
          have HNEW := hide hnew
          have HONE := hide hone
          clear hM hnew hone hrow9 hg9 hok9 hbox y0 y1 y2 y3 y4 y5 y6 y7 hown hbel
          go_wp2_with (at_builtin; refine wpList_append_own _ rfl (.tmp 25) (.tmp 27) 22 rfl w.heap.size 29 i1 (.agg #[.int .i64 0, .int .i64 0, .int .i64 0, .int .i64 0, .slice none 0 0, .string ⟨#[]⟩, .string ⟨#[]⟩, .float .f64 0]) 8 96 Tryz.underlying22 hj hy0 hy1 hy2 rfl (by decide) _ _ _ rfl ((unhide HM) _) ⟨w9.heap.size, 0, none⟩ 1 1 (rcell (r, .slice ao9 r.to.length cap9)) rfl rfl (unhide HNEW) (unhide HONE) (by unfold maxLen; omega) (by omega) (by simp; omega) ?_)
          intro v10 w10 hrow10 hg10 _
          obtain ⟨hR, hBW⟩ := (unhide HMORE) _ v10 w10 (by rw [hpl]; exact hrow10) hg10
          have HR := hide hR
          clear HMORE HM HNEW HONE hrow10 hg10 hR
          go_wp2
          go_roundw
          case rel => exact ⟨k + 1, ps ++ [(r, .slice ao9 r.to.length cap9)], by go_num, by omega, by rw [unhide HTK]; simp, by simp [hpl], unhide HR, hBW⟩
          case measure => simp [intOf]; omega
      · obtain rfl : k = rs.length := by omega
        rw [List.take_length] at hps
        have HF : RecsNew w rs (.returned u3) wr := ⟨u3, ps, rfl, hps, hown, hbel⟩
        clear hps hown HC HFit HTake
        go_wp2
        go_ret
        exact HF
end Go.Proofs.YtceflkeaenepcaaGreatDoor
namespace Go.Proofs.YtceflkeaenepcaaGreatDoor
open Go.RowKit
theorem run_bits (b : Nat) (w : World) : (callFunc 42 #[.float .f64 b]).run Tryz.prog w = .ok (.value (.int .u64 b)) w := by
  rw [run_callFunc_extern (e := Extern.MathFloatBits.float64bits) Tryz.func42 (by kernel_rfl) (by kernel_rfl) (by kernel_rfl) (by kernel_rfl)]
  rfl
theorem bits_any (b : Nat) (w : World) : Calls Tryz.prog 29 #[.float .f64 b] w fun e w' => e = .returned (.int .u64 b) ∧ w' = w := by
  have h := fun w => run_bits b w
  go_enter Tryz.func29, Tryz.ntmps29
  go_wp2
  go_ret
  exact ⟨rfl, rfl⟩
theorem self_beq (t : ByteArray) : (t.toList == t.toList) = true := beq_self_eq_true _
theorem sk_drew {w : World} {v : Value} {zs : List Int} (h : Sk .i32 w v zs) (n : Nat) : Sk .i32 (w.drewN n) v zs := h.below (drewB ⟨n, rfl⟩)
set_option maxRecDepth 4000 in
set_option maxHeartbeats 4000000 in
theorem sameRecord_eq (r : Rec) (va vb : Value) (w : World) (ha : Sk .i32 w va r.to) (hb : Sk .i32 w vb r.to) (hl : r.to.length ≤ 1000000000) : Calls Tryz.prog 17 #[recV r va, recV r vb] w (BoolB w true) := by
  have HB := hide (fun w => bits_any r.wt w)
  have KA : Hid (∀ o1 o2 n, Calls Tryz.prog 30 #[va, vb] (((w.alloc o1).alloc o2).drewN n) (Draws (((w.alloc o1).alloc o2).drewN n) true)) := fun o1 o2 n => by
    have hbw : Below w.heap.size w ((w.alloc o1).alloc o2) := ((Below.refl _ _).alloc (Nat.le_refl _) _).alloc (by simp) _
    exact same3_eq va vb r.to _ (sk_drew (ha.below hbw) n) (sk_drew (hb.below hbw) n) hl
  obtain ⟨ao, ca, rfl, _, _⟩ := ha.shape
  obtain ⟨bo, cb, rfl, _, _⟩ := hb.shape
  unfold recV
  have q1 := self_beq r.name
  have q2 := self_beq r.other
  clear ha hb
  generalize r.kind = kd at *
  generalize r.n = n at *
  generalize r.lo = lo at *
  generalize r.hi = hi at *
  generalize r.name = nm at *
  generalize r.other = ot at *
  generalize r.wt = wt at *
  generalize r.to.length = tl at *
  have q3 : (kd == kd) = true := beq_self_eq_true _
  have q4 : (lo == lo) = true := beq_self_eq_true _
  have q5 : (hi == hi) = true := beq_self_eq_true _
  have q6 : (n == n) = true := beq_self_eq_true _
  have q7 : ((wt : Int) == (wt : Int)) = true := beq_self_eq_true _
  go_enter Tryz.func17, Tryz.ntmps17
  go_wp2
  go_big_quiet (first | exact Calls.quiet_of ((unhide KA) _ _ _) | exact Calls.quiet_of_same ((unhide HB) _))
  go_wp2
  go_ret
  exact ⟨rfl, (((Below.refl _ _).alloc (Nat.le_refl _) _).alloc (by simp) _).trans ((drewB ⟨_, rfl⟩).mono (by simp; omega))⟩
end Go.Proofs.YtceflkeaenepcaaGreatDoor
namespace Go.Proofs.YtceflkeaenepcaaGreatDoor
open Go.RowKit
set_option maxRecDepth 4000 in
set_option maxHeartbeats 4000000 in
theorem sameRecs_eq (v u : Value) (rs : List Rec) (w : World) (hv : Rcs w v rs) (hu : Rcs w u rs) : Calls Tryz.prog 8 #[v, u] w (BoolB w true) := by
  have hlen := hv.1
  rcases Nat.eq_zero_or_pos rs.length with h0 | h0
  · obtain ⟨ao, cap, rfl, _, _⟩ := hv.shape
    obtain ⟨ao', cap', rfl, _, _⟩ := hu.shape
    rw [h0]
    clear hv hu
    go_enter Tryz.func8, Tryz.ntmps8
    go_wp2
    refine wp_loop_rounds 1 ?_
    rw [rounds_succ]
    go_wp2
    go_ret
    exact ⟨rfl, Below.refl _ _⟩
  · have HFit := hide (fun i hi => hv.fit (i := i) hi)
    obtain ⟨b, off, cap, rfl, hc1, hc2, hc⟩ := hv.place h0
    obtain ⟨b', off', cap', rfl, hc1', hc2', hc'⟩ := hu.place h0
    have HC : Hid (∀ i, i < rs.length → ∀ W, Below w.heap.size w W → RecAt W b (off + i * 8) (rs.getD i Cn.none) ∧ RecAt W b' (off' + i * 8) (rs.getD i Cn.none)) := fun i hi W hb => ⟨(hc i hi).below hb, (hc' i hi).below hb⟩
    have qn : ((rs.length : Int) != (rs.length : Int)) = false := by simp
    clear hv hu hc hc'
    go_enter Tryz.func8, Tryz.ntmps8
    go_wp2
    go_loopw [5] (fun i wr => ∃ k : Nat, i = .int .i64 k ∧ k ≤ rs.length ∧ Below w.heap.size w wr) (fun i _ => rs.length - (intOf i).toNat)
    case atStart => exact ⟨0, rfl, by omega, Below.refl _ _⟩
    case round =>
      obtain ⟨k, rfl, hk, hbel⟩ := hrel
      by_cases hlt : k < rs.length
      · obtain ⟨hA, hB⟩ := (unhide HC) k hlt wr hbel
        have hf := (unhide HFit) k hlt
        have hto := hf.len
        clear HC HFit hf
        generalize rs.getD k Cn.none = r at *
        obtain ⟨x0, x1, x2, x3, ⟨va, x4, ska⟩, x5, x6, x7⟩ := hA
        obtain ⟨y0, y1, y2, y3, ⟨vb, y4, skb⟩, y5, y6, y7⟩ := hB
        have KR : Hid (∀ n, Calls Tryz.prog 17 #[recV r va, recV r vb] (wr.drewN n) (BoolB (wr.drewN n) true)) := fun n => sameRecord_eq r va vb _ (sk_drew ska n) (sk_drew skb n) hto
        unfold recV at KR
        obtain ⟨ao, ca, rfl, _, _⟩ := ska.shape
        obtain ⟨bo, cb, rfl, _, _⟩ := skb.shape
        clear ska skb
        generalize r.kind = kd at *
        generalize r.n = n at *
        generalize r.lo = lo at *
        generalize r.hi = hi at *
        generalize r.name = nm at *
        generalize r.other = ot at *
        generalize r.wt = wt at *
        generalize r.to.length = tl at *
        go_wp2
        go_region_with (refine ((unhide KR) _).mono ?_; rintro e w1 ⟨rfl, hb1⟩)
        all_goals
          have hbw : Below w.heap.size w w1 := hbel.trans (Below.mono (bthen (drewB ⟨_, rfl⟩) hb1) hbel.size)
          clear hb1
          go_wp2
          go_roundw
          case rel => exact ⟨k + 1, by go_num, by omega, hbw⟩
          case measure => simp [intOf]; omega
      · clear HC HFit
        go_wp2
        go_ret
        exact ⟨rfl, hbel⟩
end Go.Proofs.YtceflkeaenepcaaGreatDoor
