import Derived.Test.YtceflkeaenepcaaGreatDoorN30
import Derived.Deep.DeepCutAuto
import Derived.Deep.CutBlock
import Derived.Lib.MinMaxS
namespace Go.Proofs.YtceflkeaenepcaaGreatDoor
open Go.RowKit
theorem infoRun : (Tryz.prog.info? 47).map (fun i => (i.zero, i.size, i.bytes)) = some (some (.agg #[.int .i64 0, .int .i64 0, .int .i64 0]), 3, 24) := by kernel_rfl
def TwB (w : World) (B L rr : Nat) (fs : Nat → List Run) (c : ByteArray → ByteArray → Int) (f : Nat) (x : Run) (e : Ending) (w' : World) : Prop := e = .returned (.bool ((fs f).any fun y => x.meets y)) ∧ (∃ vs', LG w' B L rr vs' (upd fs f (fs f ++ [x])) c) ∧ Below B w w'
set_option maxRecDepth 20000 in
set_option maxHeartbeats 8000000 in
theorem twice_core (T fp : Nat) (r : Rec) (vt : Value) (w : World) (B L rr f : Nat) (vs : Nat → Value) (fs : Nat → List Run) (c : ByteArray → ByteArray → Int)
    (hlg : LG w B L rr vs fs c) (hBw : B ≤ w.heap.size) (hf : f < 11) (hlen : (fs f).length < 100000) (h15 : r.kind ≠ 15) (hx : (runR r).ok) (hxs : ∀ y ∈ fs f, y.ok)
    (KF : ∀ W, Below w.heap.size w W → Calls Tryz.prog 14 #[.int .i64 r.kind] W (IntB W (f : Int)))
    (KSH : ∀ W, Calls Tryz.prog 22 #[.int .i64 r.kind] W (fun e w' => e = .returned (.iface T (.agg #[.int .i64 r.kind])) ∧ Below W.heap.size W w'))
    (hm : ∀ W, (method 543 T (.agg #[.int .i64 r.kind]) "endonym/table.spoken").run Tryz.prog W = .ok (fp, .agg #[.int .i64 r.kind]) W)
    (eg : ∀ args W, (callFunc fp args).run Tryz.prog W = .ok (.enter fp args) W)
    (KP : ∀ W, Calls Tryz.prog fp #[shV r.kind, recV r vt] W (fun e w' => e = .returned (runV r.lo r.hi (stepP r)) ∧ Below W.heap.size W w')) :
    Calls Tryz.prog 32 #[.pointer (some ⟨L, 0, none⟩), recV r vt] w (TwB w B L rr fs c f (runR r)) := by
  have KC : Hid (∀ W, Below w.heap.size w W → Calls Tryz.prog 44 #[vs f, .func (.func 45) #[runV r.lo r.hi (stepP r)] #[]] W (BoolB W ((fs f).any fun y => (runR r).meets y))) := fun W h => containsRuns_any (runR r) (vs f) (fs f) W (((hlg.on h).rows f hf).rns) hx hxs
  have HLG := hide hlg
  have HM : Hid (∀ (W w8 : World) (gg cap : Nat), (∀ k, k < w.heap.size → W.heap[k]? = w.heap[k]?) → w.heap.size ≤ W.heap.size → W.grownBy w8 (vs f).ownBlock → ((vs f).ownBlock = some gg ∨ gg = W.heap.size) → w8.ownsRow B 47 3 (.slice (some ⟨gg, 0, none⟩) ((fs f).length + 1) cap) ((fs f).length + 1) (ncells (fs f) ++ [.int .i64 r.lo, .int .i64 r.hi, .int .i64 (stepP r)]) →
      LG (w8.setCell ⟨L, f, none⟩ (.slice (some ⟨gg, 0, none⟩) ((fs f).length + 1) cap)) B L rr (upd vs f (.slice (some ⟨gg, 0, none⟩) ((fs f).length + 1) cap)) (upd fs f (fs f ++ [runR r])) c) := fun W w8 gg cap a1 a2 a3 a4 a5 => hlg.more (x := runR r) hf hlen a1 a2 a3 a4 a5
  replace KF := hide KF
  replace KSH := hide KSH
  replace KP := hide KP
  have hq : (r.kind == 15) = false := beq_eq_false_iff_ne.2 h15
  have eg2 := enters_meets
  clear hx hxs h15
  have HT : Hid (∀ w', (∃ vs', LG w' B L rr vs' (upd fs f (fs f ++ [runR r])) c) → Below B w w' → TwB w B L rr fs c f (runR r) (.returned (.bool ((fs f).any fun y => (runR r).meets y))) w') := fun w' a b => ⟨rfl, a, b⟩
  generalize (fs f).any (fun y => (runR r).meets y) = known at KC HT
  generalize runR r = rx at *
  generalize TwB w B L rr fs c f rx = PP at *
  generalize hst : stepP r = st at *
  unfold recV shV runV at *
  generalize r.kind = kd at *
  generalize r.n = n at *
  generalize r.lo = lo at *
  generalize r.hi = hi at *
  generalize r.name = nm at *
  generalize r.other = ot at *
  generalize r.wt = wt at *
  have hb0 : Below w.heap.size w (w.alloc (.cells #[.int .i64 kd, .int .i64 lo, .int .i64 hi, .int .i64 n, vt, .string nm, .string ot, .float .f64 wt] 29)) := (Below.refl _ _).alloc (Nat.le_refl _) _
  have hh0 : (w.alloc (.cells #[.int .i64 kd, .int .i64 lo, .int .i64 hi, .int .i64 n, vt, .string nm, .string ot, .float .f64 wt] 29)).heap[w.heap.size]? = some (.cells #[.int .i64 kd, .int .i64 lo, .int .i64 hi, .int .i64 n, vt, .string nm, .string ot, .float .f64 wt] 29 (0, 0)) := by
    show (w.heap.push _)[w.heap.size]? = _
    simp
  have hsz : (w.alloc (.cells #[.int .i64 kd, .int .i64 lo, .int .i64 hi, .int .i64 n, vt, .string nm, .string ot, .float .f64 wt] 29)).heap.size = w.heap.size + 1 := by simp
  replace hsz := hide hsz
  go_enter Tryz.func32, Tryz.ntmps32
  go_upto_region 3 with fail
  generalize (w.alloc (.cells #[.int .i64 kd, .int .i64 lo, .int .i64 hi, .int .i64 n, vt, .string nm, .string ot, .float .f64 wt] 29)) = W1 at *
  have SM : Hid (∀ W, Below W1.heap.size W1 W → W.cell? ⟨w.heap.size, 0, none⟩ = some (.int .i64 kd) ∧ W.cell? ⟨w.heap.size, 1, none⟩ = some (.int .i64 lo) ∧ W.cell? ⟨w.heap.size, 2, none⟩ = some (.int .i64 hi) ∧ W.cell? ⟨w.heap.size, 3, none⟩ = some (.int .i64 n) ∧ W.cell? ⟨w.heap.size, 4, none⟩ = some (vt) ∧ W.cell? ⟨w.heap.size, 5, none⟩ = some (.string nm) ∧ W.cell? ⟨w.heap.size, 6, none⟩ = some (.string ot) ∧ W.cell? ⟨w.heap.size, 7, none⟩ = some (.float .f64 wt) ∧ Hid (Below W1.heap.size W1 W)) := fun W h => by
    have h2 : W.heap[w.heap.size]? = _ := (h.block _ (by have := unhide hsz; omega)).trans hh0
    exact ⟨cell_of (j := 0) h2 (by simp), cell_of (j := 1) h2 (by simp), cell_of (j := 2) h2 (by simp), cell_of (j := 3) h2 (by simp), cell_of (j := 4) h2 (by simp), cell_of (j := 5) h2 (by simp), cell_of (j := 6) h2 (by simp), cell_of (j := 7) h2 (by simp), h⟩
  have SI : Hid (∀ W, (W.cell? ⟨w.heap.size, 0, none⟩ = some (.int .i64 kd) ∧ W.cell? ⟨w.heap.size, 1, none⟩ = some (.int .i64 lo) ∧ W.cell? ⟨w.heap.size, 2, none⟩ = some (.int .i64 hi) ∧ W.cell? ⟨w.heap.size, 3, none⟩ = some (.int .i64 n) ∧ W.cell? ⟨w.heap.size, 4, none⟩ = some (vt) ∧ W.cell? ⟨w.heap.size, 5, none⟩ = some (.string nm) ∧ W.cell? ⟨w.heap.size, 6, none⟩ = some (.string ot) ∧ W.cell? ⟨w.heap.size, 7, none⟩ = some (.float .f64 wt) ∧ Hid (Below W1.heap.size W1 W)) → Below W1.heap.size W1 W) := fun W h => h.2.2.2.2.2.2.2.2
  go_cut [5, 6] (fun fv pv wx => fv = .int .i64 (f : Int) ∧ ∃ g, pv = .pointer (some ⟨g, 0, none⟩) ∧ W1.heap.size ≤ g ∧ wx.heap[g]? = some (.cells #[.int .i64 lo, .int .i64 hi, .int .i64 st] 47 (0, 0)) ∧ Below W1.heap.size W1 wx)
  case first =>
    refine wp_region_held_drew (S := fun w' => w'.cell? ⟨w.heap.size, 0, none⟩ = some (.int .i64 kd) ∧ w'.cell? ⟨w.heap.size, 1, none⟩ = some (.int .i64 lo) ∧ w'.cell? ⟨w.heap.size, 2, none⟩ = some (.int .i64 hi) ∧ w'.cell? ⟨w.heap.size, 3, none⟩ = some (.int .i64 n) ∧ w'.cell? ⟨w.heap.size, 4, none⟩ = some (vt) ∧ w'.cell? ⟨w.heap.size, 5, none⟩ = some (.string nm) ∧ w'.cell? ⟨w.heap.size, 6, none⟩ = some (.string ot) ∧ w'.cell? ⟨w.heap.size, 7, none⟩ = some (.float .f64 wt) ∧ Hid (Below W1.heap.size W1 w')) (by kernel_rfl) ((unhide SM) _ (drewB ⟨1, rfl⟩)) (fun hHeld => ?_)
    refine wpAnyH_take (i := 0) (oi := { dst := some 23, op := Op.fieldAddr 29 (Operand.tmp 3) 0, type := 0, pos := "check.go:71", after := #[], guard := none }) (v := .pointer (some ⟨w.heap.size, 0, none⟩)) rfl (by kernel_rfl) (by kernel_rfl) (by kernel_rfl) (fun _ _ _ h => h) (Or.inl ⟨by rfl, ?_⟩) hHeld ?_
    · intro w hSw
      go_simp
    try simp only [Act.put, List.setIfInBounds_toArray, List.set_cons_zero, List.set_cons_succ]
    refine wpAnyH_take (i := 1) (oi := { dst := some 24, op := Op.load 3 (Operand.tmp 23), type := 3, pos := "check.go:71", after := #[{ on := 0, ground := Ground.data }], guard := none }) (v := .int .i64 kd) rfl (by kernel_rfl) (by kernel_rfl) (by kernel_rfl) (fun _ _ _ h => h) (Or.inl ⟨by rfl, ?_⟩) hHeld ?_
    · intro w hSw
      go_simp
    try simp only [Act.put, List.setIfInBounds_toArray, List.set_cons_zero, List.set_cons_succ]
    refine wpAnyH_take (i := 3) (oi := { dst := some 26, op := Op.fieldAddr 29 (Operand.tmp 3) 0, type := 0, pos := "check.go:71", after := #[], guard := none }) (v := .pointer (some ⟨w.heap.size, 0, none⟩)) rfl (by kernel_rfl) (by kernel_rfl) (by kernel_rfl) (fun _ _ _ h => h) (Or.inl ⟨by rfl, ?_⟩) hHeld ?_
    · intro w hSw
      go_simp
    try simp only [Act.put, List.setIfInBounds_toArray, List.set_cons_zero, List.set_cons_succ]
    refine wpAnyH_take (i := 4) (oi := { dst := some 27, op := Op.load 3 (Operand.tmp 26), type := 3, pos := "check.go:71", after := #[{ on := 3, ground := Ground.data }], guard := none }) (v := .int .i64 kd) rfl (by kernel_rfl) (by kernel_rfl) (by kernel_rfl) (fun _ _ _ h => h) (Or.inl ⟨by rfl, ?_⟩) hHeld ?_
    · intro w hSw
      go_simp
    try simp only [Act.put, List.setIfInBounds_toArray, List.set_cons_zero, List.set_cons_succ]
    refine wpAnyH_take (i := 6) (oi := { dst := some 29, op := Op.load 29 (Operand.tmp 3), type := 29, pos := "check.go:71", after := #[], guard := none }) (v := .agg #[.int .i64 kd, .int .i64 lo, .int .i64 hi, .int .i64 n, vt, .string nm, .string ot, .float .f64 wt]) rfl (by kernel_rfl) (by kernel_rfl) (by kernel_rfl) (fun _ _ _ h => h) (Or.inl ⟨by rfl, ?_⟩) hHeld ?_
    · intro w hSw
      go_simp
    try simp only [Act.put, List.setIfInBounds_toArray, List.set_cons_zero, List.set_cons_succ]
    refine wpAnyH_ready (rs := [2, 8]) (by kernel_rfl) (by simp) ?_
    refine AllReadyH.cons (o := { dst := some 25, op := Op.call { callee := Callee.value (Operand.func 14), args := #[Operand.tmp 24], argTypes := #[3] }, type := 3, pos := "check.go:71", after := #[{ on := 1, ground := Ground.data }], guard := none }) rfl (fun K hK => ?_) (AllReadyH.cons (o := { dst := some 6, op := Op.alloc 47, type := 0, pos := "check.go:71", after := #[], guard := none }) rfl (fun K hK => ?_) AllReadyH.nil)
    · go_simp
      refine ((unhide KF) _ (bthen hb0 ((unhide SI) _ hHeld))).mono ?_
      rintro e w2 ⟨rfl, hb2⟩
      go_wp2_with fail
      refine hK.out _ _ ?_ (fun hHeld => ?_)
      · exact (unhide SM) _ (bthen ((unhide SI) _ hHeld) hb2)
      clear hK K
      try simp only [Act.put, List.setIfInBounds_toArray, List.set_cons_zero, List.set_cons_succ]
      refine wpAnyH_ready (rs := [5, 8]) (by kernel_rfl) (by simp) ?_
      refine AllReadyH.cons (o := { dst := some 28, op := Op.call { callee := Callee.value (Operand.func 22), args := #[Operand.tmp 27], argTypes := #[3] }, type := 49, pos := "check.go:71", after := #[{ on := 4, ground := Ground.data }, { on := 2, ground := Ground.chain }], guard := none }) rfl (fun K hK => ?_) (AllReadyH.cons (o := { dst := some 6, op := Op.alloc 47, type := 0, pos := "check.go:71", after := #[], guard := none }) rfl (fun K hK => ?_) AllReadyH.nil)
      · go_simp
        refine ((unhide KSH) _).mono ?_
        rintro e w3 ⟨rfl, hb3⟩
        go_wp2_with fail
        refine hK.out _ _ ?_ (fun hHeld => ?_)
        · exact (unhide SM) _ (bthen ((unhide SI) _ hHeld) hb3)
        clear hK K
        try simp only [Act.put, List.setIfInBounds_toArray, List.set_cons_zero, List.set_cons_succ]
        refine wpAnyH_ready (rs := [7, 8]) (by kernel_rfl) (by simp) ?_
        refine AllReadyH.cons (o := { dst := some 30, op := Op.call { callee := Callee.invoke (Operand.tmp 28) "endonym/table.spoken", args := #[Operand.tmp 29], argTypes := #[29] }, type := 47, pos := "check.go:71", after := #[{ on := 5, ground := Ground.data }, { on := 6, ground := Ground.data }, { on := 5, ground := Ground.chain }], guard := none }) rfl (fun K hK => ?_) (AllReadyH.cons (o := { dst := some 6, op := Op.alloc 47, type := 0, pos := "check.go:71", after := #[], guard := none }) rfl (fun K hK => ?_) AllReadyH.nil)
        · go_simp
          refine ((unhide KP) _).mono ?_
          rintro e w4 ⟨rfl, hb4⟩
          go_wp2_with fail
          refine hK.out _ _ ?_ (fun hHeld => ?_)
          · exact (unhide SM) _ (bthen ((unhide SI) _ hHeld) hb4)
          clear hK K
          try simp only [Act.put, List.setIfInBounds_toArray, List.set_cons_zero, List.set_cons_succ]
          refine wpAnyH_ready (rs := [8]) (by kernel_rfl) (by simp) ?_
          refine AllReadyH.cons (o := { dst := some 6, op := Op.alloc 47, type := 0, pos := "check.go:71", after := #[], guard := none }) rfl (fun K hK => ?_) AllReadyH.nil
          have hOld := hHeld
          have hge : W1.heap.size ≤ w4.heap.size := ((unhide SI) _ hHeld).size
          have hg : (w4.alloc (.cells #[.int .i64 0, .int .i64 0, .int .i64 0] 47)).heap[w4.heap.size]? = some (.cells #[.int .i64 0, .int .i64 0, .int .i64 0] 47 (0, 0)) := alloc_at w4 _
          go_simp
          refine hK.out _ _ ?_ (fun hHeld => ?_)
          · exact (unhide SM) _ (((unhide SI) _ hHeld).alloc ((unhide SI) _ hHeld).size _)
          clear hK K
          try simp only [Act.put, List.setIfInBounds_toArray, List.set_cons_zero, List.set_cons_succ]
          refine wpAnyH_take (i := 9) (oi := { dst := some 5, op := Op.assign (Operand.tmp 25), type := 3, pos := "check.go:71", after := #[{ on := 2, ground := Ground.data }, { on := 7, ground := Ground.chain }, { on := 0, ground := Ground.phase }, { on := 1, ground := Ground.phase }, { on := 2, ground := Ground.phase }, { on := 3, ground := Ground.textOnly Departure.lateStores }, { on := 4, ground := Ground.textOnly Departure.lateStores }, { on := 5, ground := Ground.textOnly Departure.lateStoresUnsure }, { on := 6, ground := Ground.textOnly Departure.lateStores }, { on := 7, ground := Ground.textOnly Departure.lateStoresUnsure }, { on := 8, ground := Ground.phase }], guard := none }) (v := .int .i64 (f : Int)) rfl (by kernel_rfl) (by kernel_rfl) (by kernel_rfl) (fun _ _ _ h => h) (Or.inl ⟨by rfl, ?_⟩) hHeld ?_
          · intro w hSw
            go_simp
          try simp only [Act.put, List.setIfInBounds_toArray, List.set_cons_zero, List.set_cons_succ]
          have c0 := cell_of (j := 0) hg (by simp)
          have z0 := frozen_of (j := 0) hg
          have c1 := cell_of (j := 1) hg (by simp)
          have z1 := frozen_of (j := 1) hg
          have c2 := cell_of (j := 2) hg (by simp)
          have z2 := frozen_of (j := 2) hg
          refine wpAnyH_ready (rs := [10]) (by kernel_rfl) (by simp) ?_
          refine AllReadyH.cons (o := { dst := none, op := Op.store 47 (Operand.tmp 6) (Operand.tmp 30), type := 0, pos := "check.go:71", after := #[{ on := 8, ground := Ground.data }, { on := 7, ground := Ground.data }, { on := 9, ground := Ground.chain }, { on := 0, ground := Ground.phase }, { on := 1, ground := Ground.phase }, { on := 2, ground := Ground.phase }, { on := 3, ground := Ground.phase }, { on := 4, ground := Ground.phase }, { on := 5, ground := Ground.phase }, { on := 6, ground := Ground.phase }, { on := 7, ground := Ground.phase }, { on := 8, ground := Ground.phase }, { on := 9, ground := Ground.phase }], guard := none }) rfl (fun K hK => ?_) AllReadyH.nil
          have hBf : Below W1.heap.size W1 (w4.alloc (.cells #[.int .i64 lo, .int .i64 hi, .int .i64 st] 47)) := ((unhide SI) _ hOld).alloc ((unhide SI) _ hOld).size _
          have hgf := alloc_at w4 (.cells #[.int .i64 lo, .int .i64 hi, .int .i64 st] 47)
          go_simp
          refine hK.out _ _ ?_ (fun hHeld => ?_)
          · exact (unhide SM) _ hBf
          clear hK K
          try simp only [Act.put, List.setIfInBounds_toArray, List.set_cons_zero, List.set_cons_succ]
          refine wpAnyH_done (by kernel_rfl) ?_ _
          go_wp2_with fail
          go_meet
          case rel => exact ⟨rfl, _, rfl, hge, hgf, hBf⟩
        · have hOld := hHeld
          have hge : W1.heap.size ≤ w3.heap.size := ((unhide SI) _ hHeld).size
          have hg : (w3.alloc (.cells #[.int .i64 0, .int .i64 0, .int .i64 0] 47)).heap[w3.heap.size]? = some (.cells #[.int .i64 0, .int .i64 0, .int .i64 0] 47 (0, 0)) := alloc_at w3 _
          go_simp
          refine hK.out _ _ ?_ (fun hHeld => ?_)
          · exact (unhide SM) _ (((unhide SI) _ hHeld).alloc ((unhide SI) _ hHeld).size _)
          clear hK K
          try simp only [Act.put, List.setIfInBounds_toArray, List.set_cons_zero, List.set_cons_succ]
          refine wpAnyH_ready (rs := [7]) (by kernel_rfl) (by simp) ?_
          refine AllReadyH.cons (o := { dst := some 30, op := Op.call { callee := Callee.invoke (Operand.tmp 28) "endonym/table.spoken", args := #[Operand.tmp 29], argTypes := #[29] }, type := 47, pos := "check.go:71", after := #[{ on := 5, ground := Ground.data }, { on := 6, ground := Ground.data }, { on := 5, ground := Ground.chain }], guard := none }) rfl (fun K hK => ?_) AllReadyH.nil
          go_simp
          refine ((unhide KP) _).mono ?_
          rintro e w4 ⟨rfl, hb4⟩
          go_wp2_with fail
          refine hK.out _ _ ?_ (fun hHeld => ?_)
          · exact (unhide SM) _ (bthen ((unhide SI) _ hHeld) hb4)
          clear hK K
          try simp only [Act.put, List.setIfInBounds_toArray, List.set_cons_zero, List.set_cons_succ]
          have hg := (hb4.block _ (lt_of_block hg)).trans hg
          refine wpAnyH_take (i := 9) (oi := { dst := some 5, op := Op.assign (Operand.tmp 25), type := 3, pos := "check.go:71", after := #[{ on := 2, ground := Ground.data }, { on := 7, ground := Ground.chain }, { on := 0, ground := Ground.phase }, { on := 1, ground := Ground.phase }, { on := 2, ground := Ground.phase }, { on := 3, ground := Ground.textOnly Departure.lateStores }, { on := 4, ground := Ground.textOnly Departure.lateStores }, { on := 5, ground := Ground.textOnly Departure.lateStoresUnsure }, { on := 6, ground := Ground.textOnly Departure.lateStores }, { on := 7, ground := Ground.textOnly Departure.lateStoresUnsure }, { on := 8, ground := Ground.phase }], guard := none }) (v := .int .i64 (f : Int)) rfl (by kernel_rfl) (by kernel_rfl) (by kernel_rfl) (fun _ _ _ h => h) (Or.inl ⟨by rfl, ?_⟩) hHeld ?_
          · intro w hSw
            go_simp
          try simp only [Act.put, List.setIfInBounds_toArray, List.set_cons_zero, List.set_cons_succ]
          have c0 := cell_of (j := 0) hg (by simp)
          have z0 := frozen_of (j := 0) hg
          have c1 := cell_of (j := 1) hg (by simp)
          have z1 := frozen_of (j := 1) hg
          have c2 := cell_of (j := 2) hg (by simp)
          have z2 := frozen_of (j := 2) hg
          refine wpAnyH_ready (rs := [10]) (by kernel_rfl) (by simp) ?_
          refine AllReadyH.cons (o := { dst := none, op := Op.store 47 (Operand.tmp 6) (Operand.tmp 30), type := 0, pos := "check.go:71", after := #[{ on := 8, ground := Ground.data }, { on := 7, ground := Ground.data }, { on := 9, ground := Ground.chain }, { on := 0, ground := Ground.phase }, { on := 1, ground := Ground.phase }, { on := 2, ground := Ground.phase }, { on := 3, ground := Ground.phase }, { on := 4, ground := Ground.phase }, { on := 5, ground := Ground.phase }, { on := 6, ground := Ground.phase }, { on := 7, ground := Ground.phase }, { on := 8, ground := Ground.phase }, { on := 9, ground := Ground.phase }], guard := none }) rfl (fun K hK => ?_) AllReadyH.nil
          have hBf := below_set (j := 2) (below_set (j := 1) (below_set (j := 0) ((unhide SI) _ hHeld) hge (.int .i64 lo)) hge (.int .i64 hi)) hge (.int .i64 st)
          have hgf := set_block (j := 2) (set_block (j := 1) (set_block (j := 0) hg (.int .i64 lo)) (.int .i64 hi)) (.int .i64 st)
          go_simp
          refine hK.out _ _ ?_ (fun hHeld => ?_)
          · exact (unhide SM) _ hBf
          clear hK K
          try simp only [Act.put, List.setIfInBounds_toArray, List.set_cons_zero, List.set_cons_succ]
          refine wpAnyH_done (by kernel_rfl) ?_ _
          go_wp2_with fail
          go_meet
          case rel => exact ⟨rfl, _, rfl, hge, hgf, hBf⟩
      · have hOld := hHeld
        have hge : W1.heap.size ≤ w2.heap.size := ((unhide SI) _ hHeld).size
        have hg : (w2.alloc (.cells #[.int .i64 0, .int .i64 0, .int .i64 0] 47)).heap[w2.heap.size]? = some (.cells #[.int .i64 0, .int .i64 0, .int .i64 0] 47 (0, 0)) := alloc_at w2 _
        go_simp
        refine hK.out _ _ ?_ (fun hHeld => ?_)
        · exact (unhide SM) _ (((unhide SI) _ hHeld).alloc ((unhide SI) _ hHeld).size _)
        clear hK K
        try simp only [Act.put, List.setIfInBounds_toArray, List.set_cons_zero, List.set_cons_succ]
        refine wpAnyH_ready (rs := [5]) (by kernel_rfl) (by simp) ?_
        refine AllReadyH.cons (o := { dst := some 28, op := Op.call { callee := Callee.value (Operand.func 22), args := #[Operand.tmp 27], argTypes := #[3] }, type := 49, pos := "check.go:71", after := #[{ on := 4, ground := Ground.data }, { on := 2, ground := Ground.chain }], guard := none }) rfl (fun K hK => ?_) AllReadyH.nil
        go_simp
        refine ((unhide KSH) _).mono ?_
        rintro e w3 ⟨rfl, hb3⟩
        go_wp2_with fail
        refine hK.out _ _ ?_ (fun hHeld => ?_)
        · exact (unhide SM) _ (bthen ((unhide SI) _ hHeld) hb3)
        clear hK K
        try simp only [Act.put, List.setIfInBounds_toArray, List.set_cons_zero, List.set_cons_succ]
        have hg := (hb3.block _ (lt_of_block hg)).trans hg
        refine wpAnyH_ready (rs := [7]) (by kernel_rfl) (by simp) ?_
        refine AllReadyH.cons (o := { dst := some 30, op := Op.call { callee := Callee.invoke (Operand.tmp 28) "endonym/table.spoken", args := #[Operand.tmp 29], argTypes := #[29] }, type := 47, pos := "check.go:71", after := #[{ on := 5, ground := Ground.data }, { on := 6, ground := Ground.data }, { on := 5, ground := Ground.chain }], guard := none }) rfl (fun K hK => ?_) AllReadyH.nil
        go_simp
        refine ((unhide KP) _).mono ?_
        rintro e w4 ⟨rfl, hb4⟩
        go_wp2_with fail
        refine hK.out _ _ ?_ (fun hHeld => ?_)
        · exact (unhide SM) _ (bthen ((unhide SI) _ hHeld) hb4)
        clear hK K
        try simp only [Act.put, List.setIfInBounds_toArray, List.set_cons_zero, List.set_cons_succ]
        have hg := (hb4.block _ (lt_of_block hg)).trans hg
        refine wpAnyH_take (i := 9) (oi := { dst := some 5, op := Op.assign (Operand.tmp 25), type := 3, pos := "check.go:71", after := #[{ on := 2, ground := Ground.data }, { on := 7, ground := Ground.chain }, { on := 0, ground := Ground.phase }, { on := 1, ground := Ground.phase }, { on := 2, ground := Ground.phase }, { on := 3, ground := Ground.textOnly Departure.lateStores }, { on := 4, ground := Ground.textOnly Departure.lateStores }, { on := 5, ground := Ground.textOnly Departure.lateStoresUnsure }, { on := 6, ground := Ground.textOnly Departure.lateStores }, { on := 7, ground := Ground.textOnly Departure.lateStoresUnsure }, { on := 8, ground := Ground.phase }], guard := none }) (v := .int .i64 (f : Int)) rfl (by kernel_rfl) (by kernel_rfl) (by kernel_rfl) (fun _ _ _ h => h) (Or.inl ⟨by rfl, ?_⟩) hHeld ?_
        · intro w hSw
          go_simp
        try simp only [Act.put, List.setIfInBounds_toArray, List.set_cons_zero, List.set_cons_succ]
        have c0 := cell_of (j := 0) hg (by simp)
        have z0 := frozen_of (j := 0) hg
        have c1 := cell_of (j := 1) hg (by simp)
        have z1 := frozen_of (j := 1) hg
        have c2 := cell_of (j := 2) hg (by simp)
        have z2 := frozen_of (j := 2) hg
        refine wpAnyH_ready (rs := [10]) (by kernel_rfl) (by simp) ?_
        refine AllReadyH.cons (o := { dst := none, op := Op.store 47 (Operand.tmp 6) (Operand.tmp 30), type := 0, pos := "check.go:71", after := #[{ on := 8, ground := Ground.data }, { on := 7, ground := Ground.data }, { on := 9, ground := Ground.chain }, { on := 0, ground := Ground.phase }, { on := 1, ground := Ground.phase }, { on := 2, ground := Ground.phase }, { on := 3, ground := Ground.phase }, { on := 4, ground := Ground.phase }, { on := 5, ground := Ground.phase }, { on := 6, ground := Ground.phase }, { on := 7, ground := Ground.phase }, { on := 8, ground := Ground.phase }, { on := 9, ground := Ground.phase }], guard := none }) rfl (fun K hK => ?_) AllReadyH.nil
        have hBf := below_set (j := 2) (below_set (j := 1) (below_set (j := 0) ((unhide SI) _ hHeld) hge (.int .i64 lo)) hge (.int .i64 hi)) hge (.int .i64 st)
        have hgf := set_block (j := 2) (set_block (j := 1) (set_block (j := 0) hg (.int .i64 lo)) (.int .i64 hi)) (.int .i64 st)
        go_simp
        refine hK.out _ _ ?_ (fun hHeld => ?_)
        · exact (unhide SM) _ hBf
        clear hK K
        try simp only [Act.put, List.setIfInBounds_toArray, List.set_cons_zero, List.set_cons_succ]
        refine wpAnyH_done (by kernel_rfl) ?_ _
        go_wp2_with fail
        go_meet
        case rel => exact ⟨rfl, _, rfl, hge, hgf, hBf⟩
    · have hOld := hHeld
      have hge : W1.heap.size ≤ W1.heap.size := ((unhide SI) _ hHeld).size
      have hg : (W1.drew.alloc (.cells #[.int .i64 0, .int .i64 0, .int .i64 0] 47)).heap[W1.heap.size]? = some (.cells #[.int .i64 0, .int .i64 0, .int .i64 0] 47 (0, 0)) := alloc_at W1.drew _
      go_simp
      refine hK.out _ _ ?_ (fun hHeld => ?_)
      · exact (unhide SM) _ (((unhide SI) _ hHeld).alloc ((unhide SI) _ hHeld).size _)
      clear hK K
      try simp only [Act.put, List.setIfInBounds_toArray, List.set_cons_zero, List.set_cons_succ]
      refine wpAnyH_ready (rs := [2]) (by kernel_rfl) (by simp) ?_
      refine AllReadyH.cons (o := { dst := some 25, op := Op.call { callee := Callee.value (Operand.func 14), args := #[Operand.tmp 24], argTypes := #[3] }, type := 3, pos := "check.go:71", after := #[{ on := 1, ground := Ground.data }], guard := none }) rfl (fun K hK => ?_) AllReadyH.nil
      go_simp
      refine ((unhide KF) _ (bthen hb0 ((unhide SI) _ hHeld))).mono ?_
      rintro e w2 ⟨rfl, hb2⟩
      go_wp2_with fail
      refine hK.out _ _ ?_ (fun hHeld => ?_)
      · exact (unhide SM) _ (bthen ((unhide SI) _ hHeld) hb2)
      clear hK K
      try simp only [Act.put, List.setIfInBounds_toArray, List.set_cons_zero, List.set_cons_succ]
      have hg := (hb2.block _ (lt_of_block hg)).trans hg
      refine wpAnyH_ready (rs := [5]) (by kernel_rfl) (by simp) ?_
      refine AllReadyH.cons (o := { dst := some 28, op := Op.call { callee := Callee.value (Operand.func 22), args := #[Operand.tmp 27], argTypes := #[3] }, type := 49, pos := "check.go:71", after := #[{ on := 4, ground := Ground.data }, { on := 2, ground := Ground.chain }], guard := none }) rfl (fun K hK => ?_) AllReadyH.nil
      go_simp
      refine ((unhide KSH) _).mono ?_
      rintro e w3 ⟨rfl, hb3⟩
      go_wp2_with fail
      refine hK.out _ _ ?_ (fun hHeld => ?_)
      · exact (unhide SM) _ (bthen ((unhide SI) _ hHeld) hb3)
      clear hK K
      try simp only [Act.put, List.setIfInBounds_toArray, List.set_cons_zero, List.set_cons_succ]
      have hg := (hb3.block _ (lt_of_block hg)).trans hg
      refine wpAnyH_ready (rs := [7]) (by kernel_rfl) (by simp) ?_
      refine AllReadyH.cons (o := { dst := some 30, op := Op.call { callee := Callee.invoke (Operand.tmp 28) "endonym/table.spoken", args := #[Operand.tmp 29], argTypes := #[29] }, type := 47, pos := "check.go:71", after := #[{ on := 5, ground := Ground.data }, { on := 6, ground := Ground.data }, { on := 5, ground := Ground.chain }], guard := none }) rfl (fun K hK => ?_) AllReadyH.nil
      go_simp
      refine ((unhide KP) _).mono ?_
      rintro e w4 ⟨rfl, hb4⟩
      go_wp2_with fail
      refine hK.out _ _ ?_ (fun hHeld => ?_)
      · exact (unhide SM) _ (bthen ((unhide SI) _ hHeld) hb4)
      clear hK K
      try simp only [Act.put, List.setIfInBounds_toArray, List.set_cons_zero, List.set_cons_succ]
      have hg := (hb4.block _ (lt_of_block hg)).trans hg
      refine wpAnyH_take (i := 9) (oi := { dst := some 5, op := Op.assign (Operand.tmp 25), type := 3, pos := "check.go:71", after := #[{ on := 2, ground := Ground.data }, { on := 7, ground := Ground.chain }, { on := 0, ground := Ground.phase }, { on := 1, ground := Ground.phase }, { on := 2, ground := Ground.phase }, { on := 3, ground := Ground.textOnly Departure.lateStores }, { on := 4, ground := Ground.textOnly Departure.lateStores }, { on := 5, ground := Ground.textOnly Departure.lateStoresUnsure }, { on := 6, ground := Ground.textOnly Departure.lateStores }, { on := 7, ground := Ground.textOnly Departure.lateStoresUnsure }, { on := 8, ground := Ground.phase }], guard := none }) (v := .int .i64 (f : Int)) rfl (by kernel_rfl) (by kernel_rfl) (by kernel_rfl) (fun _ _ _ h => h) (Or.inl ⟨by rfl, ?_⟩) hHeld ?_
      · intro w hSw
        go_simp
      try simp only [Act.put, List.setIfInBounds_toArray, List.set_cons_zero, List.set_cons_succ]
      have c0 := cell_of (j := 0) hg (by simp)
      have z0 := frozen_of (j := 0) hg
      have c1 := cell_of (j := 1) hg (by simp)
      have z1 := frozen_of (j := 1) hg
      have c2 := cell_of (j := 2) hg (by simp)
      have z2 := frozen_of (j := 2) hg
      refine wpAnyH_ready (rs := [10]) (by kernel_rfl) (by simp) ?_
      refine AllReadyH.cons (o := { dst := none, op := Op.store 47 (Operand.tmp 6) (Operand.tmp 30), type := 0, pos := "check.go:71", after := #[{ on := 8, ground := Ground.data }, { on := 7, ground := Ground.data }, { on := 9, ground := Ground.chain }, { on := 0, ground := Ground.phase }, { on := 1, ground := Ground.phase }, { on := 2, ground := Ground.phase }, { on := 3, ground := Ground.phase }, { on := 4, ground := Ground.phase }, { on := 5, ground := Ground.phase }, { on := 6, ground := Ground.phase }, { on := 7, ground := Ground.phase }, { on := 8, ground := Ground.phase }, { on := 9, ground := Ground.phase }], guard := none }) rfl (fun K hK => ?_) AllReadyH.nil
      have hBf := below_set (j := 2) (below_set (j := 1) (below_set (j := 0) ((unhide SI) _ hHeld) hge (.int .i64 lo)) hge (.int .i64 hi)) hge (.int .i64 st)
      have hgf := set_block (j := 2) (set_block (j := 1) (set_block (j := 0) hg (.int .i64 lo)) (.int .i64 hi)) (.int .i64 st)
      go_simp
      refine hK.out _ _ ?_ (fun hHeld => ?_)
      · exact (unhide SM) _ hBf
      clear hK K
      try simp only [Act.put, List.setIfInBounds_toArray, List.set_cons_zero, List.set_cons_succ]
      refine wpAnyH_done (by kernel_rfl) ?_ _
      go_wp2_with fail
      go_meet
      case rel => exact ⟨rfl, _, rfl, hge, hgf, hBf⟩
  case rest =>
    obtain ⟨rfl, g, rfl, hgW, hgc, hBc⟩ := hcut
    obtain ⟨w5, hw5⟩ : ∃ x : World, x = wc := ⟨wc, rfl⟩
    subst hw5
    have hbwc := bthen hb0 hBc
    have SM4 : Hid (∀ W, Below w5.heap.size w5 W → W.cell? ⟨L, f, none⟩ = some (vs f) ∧ W.cell? ⟨g, 0, none⟩ = some (.int .i64 lo) ∧ W.cell? ⟨g, 1, none⟩ = some (.int .i64 hi) ∧ W.cell? ⟨g, 2, none⟩ = some (.int .i64 st) ∧ Hid (Below w5.heap.size w5 W)) := fun W h => by
      have h2 : W.heap[g]? = _ := (h.block _ (lt_of_block hgc)).trans hgc
      exact ⟨((unhide HLG).on (bthen hbwc h)).cell hf, cell_of (j := 0) h2 (by simp), cell_of (j := 1) h2 (by simp), cell_of (j := 2) h2 (by simp), h⟩
    have hgl := lt_of_block hgc
    replace hgc := hide hgc
    replace hbwc := hide hbwc
    clear KF KSH KP SM SI hBc hb0 hh0 hsz hgW
    have i0 : (0 : Int) ≤ (f : Int) := by omega
    have i1 : (f : Int) < 11 := by omega
    go_upto_region 4 with fail
    go_cut [7] (fun kv wx => kv = .bool known ∧ Below w5.heap.size w5 wx)
    case first =>
      refine wp_region_held_drew (S := fun w' => w'.cell? ⟨L, f, none⟩ = some (vs f) ∧ w'.cell? ⟨g, 0, none⟩ = some (.int .i64 lo) ∧ w'.cell? ⟨g, 1, none⟩ = some (.int .i64 hi) ∧ w'.cell? ⟨g, 2, none⟩ = some (.int .i64 st) ∧ Hid (Below w5.heap.size w5 w')) (by kernel_rfl) ((unhide SM4) _ (drewB ⟨1, rfl⟩)) (fun hHeld => ?_)
      refine wpAnyH_take (i := 0) (oi := { dst := some 31, op := Op.move (Operand.tmp 0), type := 66, pos := "check.go:72", after := #[], guard := none }) (v := .pointer (some ⟨L, 0, none⟩)) rfl (by kernel_rfl) (by kernel_rfl) (by kernel_rfl) (fun _ _ _ h => h) (Or.inl ⟨by rfl, ?_⟩) hHeld ?_
      · intro w hSw
        go_simp
      try simp only [Act.put, List.setIfInBounds_toArray, List.set_cons_zero, List.set_cons_succ]
      refine wpAnyH_take (i := 1) (oi := { dst := some 32, op := Op.move (Operand.tmp 5), type := 3, pos := "check.go:72", after := #[], guard := none }) (v := .int .i64 (f : Int)) rfl (by kernel_rfl) (by kernel_rfl) (by kernel_rfl) (fun _ _ _ h => h) (Or.inl ⟨by rfl, ?_⟩) hHeld ?_
      · intro w hSw
        go_simp
      try simp only [Act.put, List.setIfInBounds_toArray, List.set_cons_zero, List.set_cons_succ]
      refine wpAnyH_take (i := 2) (oi := { dst := some 33, op := Op.nilCheck (Operand.tmp 31), type := 0, pos := "check.go:72", after := #[{ on := 0, ground := Ground.data }], guard := none }) (v := .pointer (some ⟨L, 0, none⟩)) rfl (by kernel_rfl) (by kernel_rfl) (by kernel_rfl) (fun _ _ _ h => h) (Or.inl ⟨by rfl, ?_⟩) hHeld ?_
      · intro w hSw
        go_simp
      try simp only [Act.put, List.setIfInBounds_toArray, List.set_cons_zero, List.set_cons_succ]
      refine wpAnyH_take (i := 3) (oi := { dst := some 34, op := Op.fieldAddr 71 (Operand.tmp 33) 0, type := 0, pos := "check.go:72", after := #[{ on := 2, ground := Ground.data }], guard := none }) (v := .pointer (some ⟨L, 0, none⟩)) rfl (by kernel_rfl) (by kernel_rfl) (by kernel_rfl) (fun _ _ _ h => h) (Or.inl ⟨by rfl, ?_⟩) hHeld ?_
      · intro w hSw
        go_simp
      try simp only [Act.put, List.setIfInBounds_toArray, List.set_cons_zero, List.set_cons_succ]
      refine wpAnyH_take (i := 4) (oi := { dst := some 35, op := Op.indexAddr 69 (Operand.tmp 34) (Operand.tmp 32), type := 0, pos := "check.go:72", after := #[{ on := 3, ground := Ground.data }, { on := 1, ground := Ground.data }], guard := none }) (v := .pointer (some ⟨L, f, none⟩)) rfl (by kernel_rfl) (by kernel_rfl) (by kernel_rfl) (fun _ _ _ h => h) (Or.inl ⟨by rfl, ?_⟩) hHeld ?_
      · intro w hSw
        go_simp
      try simp only [Act.put, List.setIfInBounds_toArray, List.set_cons_zero, List.set_cons_succ]
      refine wpAnyH_take (i := 5) (oi := { dst := some 36, op := Op.load 68 (Operand.tmp 35), type := 68, pos := "check.go:72", after := #[{ on := 4, ground := Ground.data }], guard := none }) (v := vs f) rfl (by kernel_rfl) (by kernel_rfl) (by kernel_rfl) (fun _ _ _ h => h) (Or.inl ⟨by rfl, ?_⟩) hHeld ?_
      · intro w hSw
        go_simp
      try simp only [Act.put, List.setIfInBounds_toArray, List.set_cons_zero, List.set_cons_succ]
      refine wpAnyH_take (i := 6) (oi := { dst := some 37, op := Op.load 47 (Operand.tmp 6), type := 47, pos := "check.go:72", after := #[], guard := none }) (v := .agg #[.int .i64 lo, .int .i64 hi, .int .i64 st]) rfl (by kernel_rfl) (by kernel_rfl) (by kernel_rfl) (fun _ _ _ h => h) (Or.inl ⟨by rfl, ?_⟩) hHeld ?_
      · intro w hSw
        go_simp
      try simp only [Act.put, List.setIfInBounds_toArray, List.set_cons_zero, List.set_cons_succ]
      refine wpAnyH_take (i := 7) (oi := { dst := some 38, op := Op.makeFunc (Fn.func 45) #[Operand.tmp 37] #[], type := 103, pos := "check.go:72", after := #[{ on := 6, ground := Ground.data }], guard := none }) (v := .func (.func 45) #[.agg #[.int .i64 lo, .int .i64 hi, .int .i64 st]] #[]) rfl (by kernel_rfl) (by kernel_rfl) (by kernel_rfl) (fun _ _ _ h => h) (Or.inl ⟨by rfl, ?_⟩) hHeld ?_
      · intro w hSw
        go_simp
      try simp only [Act.put, List.setIfInBounds_toArray, List.set_cons_zero, List.set_cons_succ]
      refine wpAnyH_ready (rs := [8]) (by kernel_rfl) (by simp) ?_
      refine AllReadyH.cons (o := { dst := some 39, op := Op.call { callee := Callee.value (Operand.func 44), args := #[Operand.tmp 36, Operand.tmp 38], argTypes := #[68, 103] }, type := 4, pos := "check.go:72", after := #[{ on := 5, ground := Ground.data }, { on := 7, ground := Ground.data }], guard := none }) rfl (fun K hK => ?_) AllReadyH.nil
      go_simp
      refine ((unhide KC) _ (bthen (unhide hbwc) (unhide hHeld.2.2.2.2))).mono ?_
      rintro e w2 ⟨rfl, hb2⟩
      go_wp2_with fail
      refine hK.out _ _ ?_ (fun hHeld => ?_)
      · exact (unhide SM4) _ (bthen (unhide hHeld.2.2.2.2) hb2)
      clear hK K
      try simp only [Act.put, List.setIfInBounds_toArray, List.set_cons_zero, List.set_cons_succ]
      refine wpAnyH_take (i := 9) (oi := { dst := some 7, op := Op.assign (Operand.tmp 39), type := 4, pos := "check.go:72", after := #[{ on := 8, ground := Ground.data }, { on := 8, ground := Ground.chain }, { on := 0, ground := Ground.phase }, { on := 1, ground := Ground.phase }, { on := 2, ground := Ground.phase }, { on := 3, ground := Ground.phase }, { on := 4, ground := Ground.phase }, { on := 5, ground := Ground.phase }, { on := 6, ground := Ground.phase }, { on := 7, ground := Ground.phase }, { on := 8, ground := Ground.phase }], guard := none }) (v := .bool known) rfl (by kernel_rfl) (by kernel_rfl) (by kernel_rfl) (fun _ _ _ h => h) (Or.inl ⟨by rfl, ?_⟩) hHeld ?_
      · intro w hSw
        go_simp
      try simp only [Act.put, List.setIfInBounds_toArray, List.set_cons_zero, List.set_cons_succ]
      refine wpAnyH_done (by kernel_rfl) ?_ _
      go_wp2_with fail
      go_meet
      case rel => exact ⟨rfl, unhide hHeld.2.2.2.2⟩
    case rest =>
      obtain ⟨rfl, hBd⟩ := hcut
      obtain ⟨wd, hwd⟩ : ∃ x : World, x = wc := ⟨wc, rfl⟩
      subst hwd
      have hbd := bthen (unhide hbwc) hBd
      have hbe : Below w.heap.size w (wd.alloc (.cells #[.int .i64 lo, .int .i64 hi, .int .i64 st] 47)).drew := bthen (hbd.alloc hbd.size _) (drewB ⟨1, rfl⟩)
      have hdW : Below w5.heap.size w5 wd.drew := bthen hBd (drewB ⟨1, rfl⟩)
      obtain ⟨yd, r0, r1, r2, _⟩ := (unhide SM4) wd.drew hdW
      obtain ⟨ye, _⟩ := (unhide SM4) (wd.alloc (.cells #[.int .i64 lo, .int .i64 hi, .int .i64 st] 47)).drew (bthen (hBd.alloc hBd.size _) (drewB ⟨1, rfl⟩))
      have hrow := (((unhide HLG).on hbe).rows f hf).2
      have hown : ∀ k, (vs f).ownBlock = some k → k < w.heap.size ∧ B ≤ k := fun k hk => own_lt ((unhide HLG).rows f hf).2 hk
      have hLlt : L < w.heap.size := lt_of_cell? ((unhide HLG).cell hf)
      have hLne : some L ≠ (vs f).ownBlock := fun e => ((unhide HLG).far f hf L e.symm).1 rfl
      have hBL := (unhide HLG).bl
      have hsize : w.heap.size ≤ wd.heap.size := hbd.size
      have hkept := hbe.block
      have hLc := ((unhide HLG).on hbe).blk
      obtain ⟨i9, hi0, hz0, hz1, hz2⟩ := info_parts infoRun
      have hnews : ∀ j u, [Value.int .i64 lo, .int .i64 hi, .int .i64 st][j]? = some u → (wd.alloc (.cells #[.int .i64 lo, .int .i64 hi, .int .i64 st] 47)).drew.cell? ((⟨wd.heap.size, 0, none⟩ : Addr).add j) = some u := World.news_of_block (cs := #[.int .i64 lo, .int .i64 hi, .int .i64 st]) (t := 47) (fr := (0, 0)) (alloc_at wd _)
      have hH : (wd.alloc (.cells #[.int .i64 lo, .int .i64 hi, .int .i64 st] 47)).drew.heap.size = wd.heap.size + 1 := by
        show (wd.heap.push _).size = _
        simp
      replace hLc := hide hLc
      have hBE : Hid (B ≤ (wd.alloc (.cells #[.int .i64 lo, .int .i64 hi, .int .i64 st] 47)).drew.heap.size) := by
        show B ≤ _
        rw [hH]; omega
      have hLE : Hid (L < (wd.alloc (.cells #[.int .i64 lo, .int .i64 hi, .int .i64 st] 47)).drew.heap.size) := by
        show L < _
        rw [hH]; omega
      have ye2 : (wd.alloc (.cells #[.int .i64 lo, .int .i64 hi, .int .i64 st] 47)).cell? ⟨L, f, none⟩ = some (vs f) := ye
      replace hH := hide hH
      replace hown := hide hown
      replace hkept := hide hkept
      replace hbe := hide hbe
      clear KC SM4 HLG hlg hgc hbwc hBd hdW hbd eg2 hm eg
      go_upto_region 5 with fail
      refine wp_region_any (by kernel_rfl) ?_
      change wpAny _ _ _ _ _ _ _ (World.drew _)
      refine wpAny_take (i := 0) (oi := { dst := some 40, op := Op.move (Operand.tmp 0), type := 66, pos := "check.go:73", after := #[], guard := none }) (v := .pointer (some ⟨L, 0, none⟩)) rfl (by kernel_rfl) (by kernel_rfl) (by kernel_rfl) (fun _ _ _ h => h) (Or.inl ⟨by rfl, ?_⟩) ?_
      · intro w; go_simp
      try simp only [Act.put, List.setIfInBounds_toArray, List.set_cons_zero, List.set_cons_succ]
      refine wpAny_take (i := 1) (oi := { dst := some 41, op := Op.move (Operand.tmp 5), type := 3, pos := "check.go:73", after := #[], guard := none }) (v := .int .i64 (f : Int)) rfl (by kernel_rfl) (by kernel_rfl) (by kernel_rfl) (fun _ _ _ h => h) (Or.inl ⟨by rfl, ?_⟩) ?_
      · intro w; go_simp
      try simp only [Act.put, List.setIfInBounds_toArray, List.set_cons_zero, List.set_cons_succ]
      refine wpAny_take (i := 2) (oi := { dst := some 42, op := Op.move (Operand.tmp 0), type := 66, pos := "check.go:73", after := #[], guard := none }) (v := .pointer (some ⟨L, 0, none⟩)) rfl (by kernel_rfl) (by kernel_rfl) (by kernel_rfl) (fun _ _ _ h => h) (Or.inl ⟨by rfl, ?_⟩) ?_
      · intro w; go_simp
      try simp only [Act.put, List.setIfInBounds_toArray, List.set_cons_zero, List.set_cons_succ]
      refine wpAny_take (i := 3) (oi := { dst := some 43, op := Op.move (Operand.tmp 5), type := 3, pos := "check.go:73", after := #[], guard := none }) (v := .int .i64 (f : Int)) rfl (by kernel_rfl) (by kernel_rfl) (by kernel_rfl) (fun _ _ _ h => h) (Or.inl ⟨by rfl, ?_⟩) ?_
      · intro w; go_simp
      try simp only [Act.put, List.setIfInBounds_toArray, List.set_cons_zero, List.set_cons_succ]
      refine wpAny_take (i := 4) (oi := { dst := some 44, op := Op.nilCheck (Operand.tmp 42), type := 0, pos := "check.go:73", after := #[{ on := 2, ground := Ground.data }], guard := none }) (v := .pointer (some ⟨L, 0, none⟩)) rfl (by kernel_rfl) (by kernel_rfl) (by kernel_rfl) (fun _ _ _ h => h) (Or.inl ⟨by rfl, ?_⟩) ?_
      · intro w; go_simp
      try simp only [Act.put, List.setIfInBounds_toArray, List.set_cons_zero, List.set_cons_succ]
      refine wpAny_take (i := 5) (oi := { dst := some 45, op := Op.fieldAddr 71 (Operand.tmp 44) 0, type := 0, pos := "check.go:73", after := #[{ on := 4, ground := Ground.data }], guard := none }) (v := .pointer (some ⟨L, 0, none⟩)) rfl (by kernel_rfl) (by kernel_rfl) (by kernel_rfl) (fun _ _ _ h => h) (Or.inl ⟨by rfl, ?_⟩) ?_
      · intro w; go_simp
      try simp only [Act.put, List.setIfInBounds_toArray, List.set_cons_zero, List.set_cons_succ]
      refine wpAny_take (i := 6) (oi := { dst := some 46, op := Op.indexAddr 69 (Operand.tmp 45) (Operand.tmp 43), type := 0, pos := "check.go:73", after := #[{ on := 5, ground := Ground.data }, { on := 3, ground := Ground.data }], guard := none }) (v := .pointer (some ⟨L, f, none⟩)) rfl (by kernel_rfl) (by kernel_rfl) (by kernel_rfl) (fun _ _ _ h => h) (Or.inl ⟨by rfl, ?_⟩) ?_
      · intro w; go_simp
      try simp only [Act.put, List.setIfInBounds_toArray, List.set_cons_zero, List.set_cons_succ]
      refine wpAny_take (i := 11) (oi := { dst := some 51, op := Op.nilCheck (Operand.tmp 40), type := 0, pos := "check.go:73", after := #[{ on := 0, ground := Ground.data }], guard := none }) (v := .pointer (some ⟨L, 0, none⟩)) rfl (by kernel_rfl) (by kernel_rfl) (by kernel_rfl) (fun _ _ _ h => h) (Or.inl ⟨by rfl, ?_⟩) ?_
      · intro w; go_simp
      try simp only [Act.put, List.setIfInBounds_toArray, List.set_cons_zero, List.set_cons_succ]
      refine wpAny_take (i := 12) (oi := { dst := some 52, op := Op.fieldAddr 71 (Operand.tmp 51) 0, type := 0, pos := "check.go:73", after := #[{ on := 11, ground := Ground.data }], guard := none }) (v := .pointer (some ⟨L, 0, none⟩)) rfl (by kernel_rfl) (by kernel_rfl) (by kernel_rfl) (fun _ _ _ h => h) (Or.inl ⟨by rfl, ?_⟩) ?_
      · intro w; go_simp
      try simp only [Act.put, List.setIfInBounds_toArray, List.set_cons_zero, List.set_cons_succ]
      refine wpAny_ready (rs := [7, 8]) (by kernel_rfl) (by simp) ?_
      refine AllReady.cons (o := { dst := some 47, op := Op.load 68 (Operand.tmp 46), type := 68, pos := "check.go:73", after := #[{ on := 6, ground := Ground.data }], guard := none }) rfl (fun K hK => ?_) (AllReady.cons (o := { dst := some 48, op := Op.load 47 (Operand.tmp 6), type := 47, pos := "check.go:73", after := #[], guard := none }) rfl (fun K hK => ?_) AllReady.nil)
      · go_simp
        refine hK _ _ ?_
        clear hK K
        try simp only [Act.put, List.setIfInBounds_toArray, List.set_cons_zero, List.set_cons_succ]
        refine wpAny_ready (rs := [8]) (by kernel_rfl) (by simp) ?_
        refine AllReady.cons (o := { dst := some 48, op := Op.load 47 (Operand.tmp 6), type := 47, pos := "check.go:73", after := #[], guard := none }) rfl (fun K hK => ?_) AllReady.nil
        go_simp
        refine hK _ _ ?_
        clear hK K
        try simp only [Act.put, List.setIfInBounds_toArray, List.set_cons_zero, List.set_cons_succ]
        refine wpAny_ready (rs := [9]) (by kernel_rfl) (by simp) ?_
        refine AllReady.cons (o := { dst := some 49, op := Op.buildSlice 68 1 #[(0, Operand.tmp 48)], type := 68, pos := "check.go:73", after := #[{ on := 8, ground := Ground.data }], guard := none }) rfl (fun K hK => ?_) AllReady.nil
        go_simp
        refine hK _ _ ?_
        clear hK K
        try simp only [Act.put, List.setIfInBounds_toArray, List.set_cons_zero, List.set_cons_succ]
        refine wpAny_ready (rs := [10]) (by kernel_rfl) (by simp) ?_
        refine AllReady.cons (o := { dst := some 50, op := Op.call { callee := Callee.builtin Builtin.append, args := #[Operand.tmp 47, Operand.tmp 49], argTypes := #[68, 68] }, type := 68, pos := "check.go:73", after := #[{ on := 7, ground := Ground.data }, { on := 9, ground := Ground.data }], guard := none }) rfl (fun K hK => ?_) AllReady.nil
        refine step_append_lies _ (by rfl) _ _ _ (by rfl) B 47 i9 _ 3 24 Tryz.underlying68 hi0 hz0 hz1 hz2 rfl (by omega) (vs f) (fs f).length (ncells (fs f)) (by rfl) hrow ⟨wd.heap.size, 0, none⟩ 1 1 [.int .i64 lo, .int .i64 hi, .int .i64 st] (by rfl) (by rfl) hnews (by simp [Value.oneCell']) (by omega) (by unfold maxLen; omega) (by omega) (unhide hBE) (wd.heap.size + 1) (unhide hH) ?_
        intro gg cap w8 hrow8 hgrow hat _
        refine hK _ _ ?_
        clear hK K
        try simp only [Act.put, List.setIfInBounds_toArray, List.set_cons_zero, List.set_cons_succ]
        have hLG := (unhide HM) (wd.alloc (.cells #[.int .i64 lo, .int .i64 hi, .int .i64 st] 47)).drew w8 gg cap (unhide hkept) (unhide hbe).size hgrow (by rw [unhide hH]; exact hat) hrow8
        have hb8 : Below B w w8 := ((unhide hbe).mono hBw).grown hgrow (unhide hBE) (fun k hk => ((unhide hown) k hk).2)
        have hb9 := below_set (j := f) hb8 hBL (.slice (some ⟨gg, 0, none⟩) ((fs f).length + 1) cap)
        obtain ⟨cur, q1, q2, _, _⟩ := unhide hLc
        have q8 : w8.heap[L]? = _ := (hgrow.block L (unhide hLE) hLne).trans q1
        have c8 := cell_of (j := f) q8 (by omega)
        have z8 := frozen_of (j := f) q8
        have HF := hide ((unhide HT) _ ⟨_, hLG⟩ hb9)
        clear hLG hb8 hb9 q8 q1 hrow8 hgrow hat
        refine wpAny_take (i := 13) (oi := { dst := some 53, op := Op.indexAddr 69 (Operand.tmp 52) (Operand.tmp 41), type := 0, pos := "check.go:73", after := #[{ on := 12, ground := Ground.data }, { on := 1, ground := Ground.data }, { on := 0, ground := Ground.phase }, { on := 1, ground := Ground.phase }, { on := 2, ground := Ground.phase }, { on := 3, ground := Ground.phase }, { on := 4, ground := Ground.phase }, { on := 5, ground := Ground.phase }, { on := 6, ground := Ground.phase }, { on := 7, ground := Ground.phase }, { on := 8, ground := Ground.phase }, { on := 9, ground := Ground.phase }, { on := 10, ground := Ground.phase }], guard := none }) (v := .pointer (some ⟨L, f, none⟩)) rfl (by kernel_rfl) (by kernel_rfl) (by kernel_rfl) (fun _ _ _ h => h) (Or.inl ⟨by rfl, ?_⟩) ?_
        · intro w; go_simp
        try simp only [Act.put, List.setIfInBounds_toArray, List.set_cons_zero, List.set_cons_succ]
        refine wpAny_ready (rs := [14]) (by kernel_rfl) (by simp) ?_
        refine AllReady.cons (o := { dst := none, op := Op.store 68 (Operand.tmp 53) (Operand.tmp 50), type := 0, pos := "check.go:73", after := #[{ on := 13, ground := Ground.data }, { on := 10, ground := Ground.data }, { on := 10, ground := Ground.chain }, { on := 0, ground := Ground.phase }, { on := 1, ground := Ground.phase }, { on := 2, ground := Ground.phase }, { on := 3, ground := Ground.phase }, { on := 4, ground := Ground.phase }, { on := 5, ground := Ground.phase }, { on := 6, ground := Ground.phase }, { on := 7, ground := Ground.phase }, { on := 8, ground := Ground.phase }, { on := 9, ground := Ground.phase }, { on := 10, ground := Ground.phase }], guard := none }) rfl (fun K hK => ?_) AllReady.nil
        go_simp
        refine hK _ _ ?_
        clear hK K
        try simp only [Act.put, List.setIfInBounds_toArray, List.set_cons_zero, List.set_cons_succ]
        refine wpAny_done (by kernel_rfl) ?_ _
        clear HM HT yd ye ye2 r0 r1 r2 hrow hnews
        go_wp2
        exact unhide HF
      · go_simp
        refine hK _ _ ?_
        clear hK K
        try simp only [Act.put, List.setIfInBounds_toArray, List.set_cons_zero, List.set_cons_succ]
        refine wpAny_ready (rs := [7, 9]) (by kernel_rfl) (by simp) ?_
        refine AllReady.cons (o := { dst := some 47, op := Op.load 68 (Operand.tmp 46), type := 68, pos := "check.go:73", after := #[{ on := 6, ground := Ground.data }], guard := none }) rfl (fun K hK => ?_) (AllReady.cons (o := { dst := some 49, op := Op.buildSlice 68 1 #[(0, Operand.tmp 48)], type := 68, pos := "check.go:73", after := #[{ on := 8, ground := Ground.data }], guard := none }) rfl (fun K hK => ?_) AllReady.nil)
        · go_simp
          refine hK _ _ ?_
          clear hK K
          try simp only [Act.put, List.setIfInBounds_toArray, List.set_cons_zero, List.set_cons_succ]
          refine wpAny_ready (rs := [9]) (by kernel_rfl) (by simp) ?_
          refine AllReady.cons (o := { dst := some 49, op := Op.buildSlice 68 1 #[(0, Operand.tmp 48)], type := 68, pos := "check.go:73", after := #[{ on := 8, ground := Ground.data }], guard := none }) rfl (fun K hK => ?_) AllReady.nil
          go_simp
          refine hK _ _ ?_
          clear hK K
          try simp only [Act.put, List.setIfInBounds_toArray, List.set_cons_zero, List.set_cons_succ]
          refine wpAny_ready (rs := [10]) (by kernel_rfl) (by simp) ?_
          refine AllReady.cons (o := { dst := some 50, op := Op.call { callee := Callee.builtin Builtin.append, args := #[Operand.tmp 47, Operand.tmp 49], argTypes := #[68, 68] }, type := 68, pos := "check.go:73", after := #[{ on := 7, ground := Ground.data }, { on := 9, ground := Ground.data }], guard := none }) rfl (fun K hK => ?_) AllReady.nil
          refine step_append_lies _ (by rfl) _ _ _ (by rfl) B 47 i9 _ 3 24 Tryz.underlying68 hi0 hz0 hz1 hz2 rfl (by omega) (vs f) (fs f).length (ncells (fs f)) (by rfl) hrow ⟨wd.heap.size, 0, none⟩ 1 1 [.int .i64 lo, .int .i64 hi, .int .i64 st] (by rfl) (by rfl) hnews (by simp [Value.oneCell']) (by omega) (by unfold maxLen; omega) (by omega) (unhide hBE) (wd.heap.size + 1) (unhide hH) ?_
          intro gg cap w8 hrow8 hgrow hat _
          refine hK _ _ ?_
          clear hK K
          try simp only [Act.put, List.setIfInBounds_toArray, List.set_cons_zero, List.set_cons_succ]
          have hLG := (unhide HM) (wd.alloc (.cells #[.int .i64 lo, .int .i64 hi, .int .i64 st] 47)).drew w8 gg cap (unhide hkept) (unhide hbe).size hgrow (by rw [unhide hH]; exact hat) hrow8
          have hb8 : Below B w w8 := ((unhide hbe).mono hBw).grown hgrow (unhide hBE) (fun k hk => ((unhide hown) k hk).2)
          have hb9 := below_set (j := f) hb8 hBL (.slice (some ⟨gg, 0, none⟩) ((fs f).length + 1) cap)
          obtain ⟨cur, q1, q2, _, _⟩ := unhide hLc
          have q8 : w8.heap[L]? = _ := (hgrow.block L (unhide hLE) hLne).trans q1
          have c8 := cell_of (j := f) q8 (by omega)
          have z8 := frozen_of (j := f) q8
          have HF := hide ((unhide HT) _ ⟨_, hLG⟩ hb9)
          clear hLG hb8 hb9 q8 q1 hrow8 hgrow hat
          refine wpAny_take (i := 13) (oi := { dst := some 53, op := Op.indexAddr 69 (Operand.tmp 52) (Operand.tmp 41), type := 0, pos := "check.go:73", after := #[{ on := 12, ground := Ground.data }, { on := 1, ground := Ground.data }, { on := 0, ground := Ground.phase }, { on := 1, ground := Ground.phase }, { on := 2, ground := Ground.phase }, { on := 3, ground := Ground.phase }, { on := 4, ground := Ground.phase }, { on := 5, ground := Ground.phase }, { on := 6, ground := Ground.phase }, { on := 7, ground := Ground.phase }, { on := 8, ground := Ground.phase }, { on := 9, ground := Ground.phase }, { on := 10, ground := Ground.phase }], guard := none }) (v := .pointer (some ⟨L, f, none⟩)) rfl (by kernel_rfl) (by kernel_rfl) (by kernel_rfl) (fun _ _ _ h => h) (Or.inl ⟨by rfl, ?_⟩) ?_
          · intro w; go_simp
          try simp only [Act.put, List.setIfInBounds_toArray, List.set_cons_zero, List.set_cons_succ]
          refine wpAny_ready (rs := [14]) (by kernel_rfl) (by simp) ?_
          refine AllReady.cons (o := { dst := none, op := Op.store 68 (Operand.tmp 53) (Operand.tmp 50), type := 0, pos := "check.go:73", after := #[{ on := 13, ground := Ground.data }, { on := 10, ground := Ground.data }, { on := 10, ground := Ground.chain }, { on := 0, ground := Ground.phase }, { on := 1, ground := Ground.phase }, { on := 2, ground := Ground.phase }, { on := 3, ground := Ground.phase }, { on := 4, ground := Ground.phase }, { on := 5, ground := Ground.phase }, { on := 6, ground := Ground.phase }, { on := 7, ground := Ground.phase }, { on := 8, ground := Ground.phase }, { on := 9, ground := Ground.phase }, { on := 10, ground := Ground.phase }], guard := none }) rfl (fun K hK => ?_) AllReady.nil
          go_simp
          refine hK _ _ ?_
          clear hK K
          try simp only [Act.put, List.setIfInBounds_toArray, List.set_cons_zero, List.set_cons_succ]
          refine wpAny_done (by kernel_rfl) ?_ _
          clear HM HT yd ye ye2 r0 r1 r2 hrow hnews
          go_wp2
          exact unhide HF
        · go_simp
          refine hK _ _ ?_
          clear hK K
          try simp only [Act.put, List.setIfInBounds_toArray, List.set_cons_zero, List.set_cons_succ]
          refine wpAny_ready (rs := [7]) (by kernel_rfl) (by simp) ?_
          refine AllReady.cons (o := { dst := some 47, op := Op.load 68 (Operand.tmp 46), type := 68, pos := "check.go:73", after := #[{ on := 6, ground := Ground.data }], guard := none }) rfl (fun K hK => ?_) AllReady.nil
          go_simp
          refine hK _ _ ?_
          clear hK K
          try simp only [Act.put, List.setIfInBounds_toArray, List.set_cons_zero, List.set_cons_succ]
          refine wpAny_ready (rs := [10]) (by kernel_rfl) (by simp) ?_
          refine AllReady.cons (o := { dst := some 50, op := Op.call { callee := Callee.builtin Builtin.append, args := #[Operand.tmp 47, Operand.tmp 49], argTypes := #[68, 68] }, type := 68, pos := "check.go:73", after := #[{ on := 7, ground := Ground.data }, { on := 9, ground := Ground.data }], guard := none }) rfl (fun K hK => ?_) AllReady.nil
          refine step_append_lies _ (by rfl) _ _ _ (by rfl) B 47 i9 _ 3 24 Tryz.underlying68 hi0 hz0 hz1 hz2 rfl (by omega) (vs f) (fs f).length (ncells (fs f)) (by rfl) hrow ⟨wd.heap.size, 0, none⟩ 1 1 [.int .i64 lo, .int .i64 hi, .int .i64 st] (by rfl) (by rfl) hnews (by simp [Value.oneCell']) (by omega) (by unfold maxLen; omega) (by omega) (unhide hBE) (wd.heap.size + 1) (unhide hH) ?_
          intro gg cap w8 hrow8 hgrow hat _
          refine hK _ _ ?_
          clear hK K
          try simp only [Act.put, List.setIfInBounds_toArray, List.set_cons_zero, List.set_cons_succ]
          have hLG := (unhide HM) (wd.alloc (.cells #[.int .i64 lo, .int .i64 hi, .int .i64 st] 47)).drew w8 gg cap (unhide hkept) (unhide hbe).size hgrow (by rw [unhide hH]; exact hat) hrow8
          have hb8 : Below B w w8 := ((unhide hbe).mono hBw).grown hgrow (unhide hBE) (fun k hk => ((unhide hown) k hk).2)
          have hb9 := below_set (j := f) hb8 hBL (.slice (some ⟨gg, 0, none⟩) ((fs f).length + 1) cap)
          obtain ⟨cur, q1, q2, _, _⟩ := unhide hLc
          have q8 : w8.heap[L]? = _ := (hgrow.block L (unhide hLE) hLne).trans q1
          have c8 := cell_of (j := f) q8 (by omega)
          have z8 := frozen_of (j := f) q8
          have HF := hide ((unhide HT) _ ⟨_, hLG⟩ hb9)
          clear hLG hb8 hb9 q8 q1 hrow8 hgrow hat
          refine wpAny_take (i := 13) (oi := { dst := some 53, op := Op.indexAddr 69 (Operand.tmp 52) (Operand.tmp 41), type := 0, pos := "check.go:73", after := #[{ on := 12, ground := Ground.data }, { on := 1, ground := Ground.data }, { on := 0, ground := Ground.phase }, { on := 1, ground := Ground.phase }, { on := 2, ground := Ground.phase }, { on := 3, ground := Ground.phase }, { on := 4, ground := Ground.phase }, { on := 5, ground := Ground.phase }, { on := 6, ground := Ground.phase }, { on := 7, ground := Ground.phase }, { on := 8, ground := Ground.phase }, { on := 9, ground := Ground.phase }, { on := 10, ground := Ground.phase }], guard := none }) (v := .pointer (some ⟨L, f, none⟩)) rfl (by kernel_rfl) (by kernel_rfl) (by kernel_rfl) (fun _ _ _ h => h) (Or.inl ⟨by rfl, ?_⟩) ?_
          · intro w; go_simp
          try simp only [Act.put, List.setIfInBounds_toArray, List.set_cons_zero, List.set_cons_succ]
          refine wpAny_ready (rs := [14]) (by kernel_rfl) (by simp) ?_
          refine AllReady.cons (o := { dst := none, op := Op.store 68 (Operand.tmp 53) (Operand.tmp 50), type := 0, pos := "check.go:73", after := #[{ on := 13, ground := Ground.data }, { on := 10, ground := Ground.data }, { on := 10, ground := Ground.chain }, { on := 0, ground := Ground.phase }, { on := 1, ground := Ground.phase }, { on := 2, ground := Ground.phase }, { on := 3, ground := Ground.phase }, { on := 4, ground := Ground.phase }, { on := 5, ground := Ground.phase }, { on := 6, ground := Ground.phase }, { on := 7, ground := Ground.phase }, { on := 8, ground := Ground.phase }, { on := 9, ground := Ground.phase }, { on := 10, ground := Ground.phase }], guard := none }) rfl (fun K hK => ?_) AllReady.nil
          go_simp
          refine hK _ _ ?_
          clear hK K
          try simp only [Act.put, List.setIfInBounds_toArray, List.set_cons_zero, List.set_cons_succ]
          refine wpAny_done (by kernel_rfl) ?_ _
          clear HM HT yd ye ye2 r0 r1 r2 hrow hnews
          go_wp2
          exact unhide HF
end Go.Proofs.YtceflkeaenepcaaGreatDoor
namespace Go.Proofs.YtceflkeaenepcaaGreatDoor
open Go.RowKit
open Go.Lib (minS maxS run_min_strs run_max_strs)
theorem ba_inj {a b : ByteArray} (h : a.data.toList = b.data.toList) : a = b := by
  cases a; cases b
  simp_all
theorem kp_two (a b : ByteArray) : (minS a b = a ∧ maxS a b = b) ∨ (minS a b = b ∧ maxS a b = a) := by
  unfold minS maxS
  by_cases h : a.data.toList < b.data.toList
  · rw [if_pos (.inl h), if_pos h]; exact .inl ⟨rfl, rfl⟩
  · by_cases h2 : a.data.toList = b.data.toList
    · rw [if_pos (.inr h2), if_neg h]; exact .inl ⟨rfl, ba_inj h2⟩
    · rw [if_neg (fun e => e.elim h h2), if_neg h]; exact .inr ⟨rfl, rfl⟩
theorem kp_symm (a b : ByteArray) : minS a b = minS b a ∧ maxS a b = maxS b a := by
  unfold minS maxS
  by_cases h : a.data.toList < b.data.toList
  · have h2 : ¬ b.data.toList < a.data.toList := fun e => List.lt_irrefl _ (List.lt_trans h e)
    have h3 : ¬ b.data.toList = a.data.toList := fun e => by rw [e] at h; exact List.lt_irrefl _ h
    rw [if_pos (.inl h), if_pos h, if_neg (fun e => e.elim h2 h3), if_neg h2]; exact ⟨rfl, rfl⟩
  · by_cases h2 : a.data.toList = b.data.toList
    · obtain rfl := ba_inj h2; exact ⟨rfl, rfl⟩
    · have h3 : b.data.toList < a.data.toList := by
        rcases Std.le_total (a := a.data.toList) (b := b.data.toList) with hh | hh
        · exact absurd (Std.lt_of_le_of_ne hh h2) h
        · exact Std.lt_of_le_of_ne hh (fun e => h2 e.symm)
      rw [if_neg (fun e => e.elim h h2), if_neg h, if_pos (.inl h3), if_pos h3]; exact ⟨rfl, rfl⟩
theorem kp_iff (a b a' b' : ByteArray) : (minS a b = minS a' b' ∧ maxS a b = maxS a' b') ↔ ((a = a' ∧ b = b') ∨ (a = b' ∧ b = a')) := by
  constructor
  · rintro ⟨h1, h2⟩
    rcases kp_two a b with ⟨x, y⟩ | ⟨x, y⟩ <;> rcases kp_two a' b' with ⟨x', y'⟩ | ⟨x', y'⟩ <;> rw [x, x'] at h1 <;> rw [y, y'] at h2
    · exact .inl ⟨h1, h2⟩
    · exact .inr ⟨h1, h2⟩
    · exact .inr ⟨h2, h1⟩
    · exact .inl ⟨h2, h1⟩
  · rintro (⟨rfl, rfl⟩ | ⟨rfl, rfl⟩)
    · exact ⟨rfl, rfl⟩
    · exact kp_symm a b
def TwM (w : World) (B L rr : Nat) (fs : Nat → List Run) (c : ByteArray → ByteArray → Int) (a b : ByteArray) (e : Ending) (w' : World) : Prop := e = .returned (.bool (decide (0 < c (minS a b) (maxS a b)))) ∧ (∃ vs', LG w' B L rr vs' fs (incr c (minS a b) (maxS a b))) ∧ Below B w w'
theorem sh_min {a b : ByteArray} (ha : Sh a) (hb : Sh b) : Sh (minS a b) ∧ Sh (maxS a b) := by
  rcases kp_two a b with ⟨x, y⟩ | ⟨x, y⟩ <;> rw [x, y]
  · exact ⟨ha, hb⟩
  · exact ⟨hb, ha⟩
set_option maxRecDepth 20000 in
set_option maxHeartbeats 4000000 in
theorem twiceMix_any (r : Rec) (vt : Value) (w : World) (B L rr : Nat) (vs : Nat → Value) (fs : Nat → List Run) (c : ByteArray → ByteArray → Int)
    (hlg : LG w B L rr vs fs c) (hBw : B ≤ w.heap.size) (h15 : r.kind = 15) (ha : Sh r.name) (hb : Sh r.other) (hc : ∀ x y, 0 ≤ c x y ∧ c x y ≤ 100000) : Calls Tryz.prog 32 #[.pointer (some ⟨L, 0, none⟩), recV r vt] w (TwM w B L rr fs c r.name r.other) := by
  unfold recV
  rw [h15]
  obtain ⟨s1, s2⟩ := sh_min ha hb
  generalize r.n = n
  generalize r.lo = lo
  generalize r.hi = hi
  generalize r.name = nm at *
  generalize r.other = ot at *
  generalize r.wt = wt
  have hb0 : Below w.heap.size w (w.alloc (.cells #[.int .i64 15, .int .i64 lo, .int .i64 hi, .int .i64 n, vt, .string nm, .string ot, .float .f64 wt] 29)) := (Below.refl _ _).alloc (Nat.le_refl _) _
  have hlg1 := hlg.on hb0
  have K := hide (mixed_any L rr (minS nm ot) (maxS nm ot) c _ hlg1.mcell hlg1.lr hlg1.map s1 s2 (hc _ _))
  have HM : Hid (∀ W, MAt W rr (incr c (minS nm ot) (maxS nm ot)) → But rr (w.alloc (.cells #[.int .i64 15, .int .i64 lo, .int .i64 hi, .int .i64 n, vt, .string nm, .string ot, .float .f64 wt] 29)) W → TwM w B L rr fs c nm ot (.returned (.bool (decide (0 < c (minS nm ot) (maxS nm ot))))) W) := fun W m b => ⟨rfl, ⟨vs, hlg1.mixed m b⟩, (hb0.mono hBw).trans (b.below B hlg.br)⟩
  have e1 := fun W ts t => run_min_strs (P := Tryz.prog) W ts t nm ot
  have e2 := fun W ts t => run_max_strs (P := Tryz.prog) W ts t nm ot
  clear hlg hlg1 hc s1 s2 ha hb
  go_enter Tryz.func32, Tryz.ntmps32
  go_wp2_with fail
  refine (unhide K).mono ?_
  rintro e w1 ⟨rfl, m1, b1⟩
  have HF := hide ((unhide HM) w1 m1 b1)
  clear K HM m1 b1
  go_wp2
  go_ret
  exact unhide HF
end Go.Proofs.YtceflkeaenepcaaGreatDoor
