import Derived.Test.YtceflkeaenepcaaGreatDoorN2
namespace Go.Proofs.YtceflkeaenepcaaGreatDoor
open Go.RowKit
def spokenF (k : Int) : Nat := if k = 4 then 382 else 125
theorem spoken_any (k : Int) (r : Rec) (vt : Value) (w : World) (hk : r.kind = k) : Calls Tryz.prog (spokenF k) #[shV k, recV r vt] w (fun e w' => e = .returned (runV r.lo r.hi (stepP r)) ∧ Below w.heap.size w w') := by
  unfold spokenF stepP
  by_cases h4 : k = 4
  · rw [if_pos h4, if_pos (hk.trans h4)]
    exact shiftedSpoken_any k r vt w
  · rw [if_neg h4, if_neg (fun e => h4 (hk.symm.trans e))]
    exact sharedSpoken_any k r vt w
set_option maxRecDepth 20000 in
set_option maxHeartbeats 4000000 in
theorem find1_any (r : Rec) (vt : Value) (f c : Int) (B C : Nat) (w : World) (hf : RecFit r) (hg : Glob w) (hB : w.cell? ⟨B, 0, none⟩ = some (.int .i64 f)) (hC : w.cell? ⟨C, 0, none⟩ = some (.int .i32 c)) (hfi : 0 < f ∧ f < 10) (hc : -2147483648 ≤ c ∧ c ≤ 2147483647) :
    Calls Tryz.prog 21 #[recV r vt, .pointer (some ⟨B, 0, none⟩), .pointer (some ⟨C, 0, none⟩)] w (BoolB w (decide (Cn.fam r.kind = f) && Cn.speaks r c)) := by
  have hkb := hf.kind
  have hlb := hf.lo
  have hhb := hf.hi
  have hnb := hf.n
  have hsb : I64 (stepP r) := by
    unfold stepP
    split
    · exact hnb
    · unfold I64; omega
  by_cases hfam : Cn.fam r.kind = f
  · have hk15 : r.kind ≠ 15 := fun e => by rw [e, show Cn.fam 15 = 10 by decide] at hfam; omega
    have e : (decide (Cn.fam r.kind = f) && Cn.speaks r c) = hasB r.lo r.hi (stepP r) c := by rw [decide_eq_true hfam, hasB_speaks r c hk15]; rfl
    rw [e]
    subst hfam
    have KF : Hid (∀ W, Below w.heap.size w W → Calls Tryz.prog 14 #[.int .i64 r.kind] W (IntB W (Cn.fam r.kind))) := fun W h => family_any r.kind W (hg.on h) hkb
    have KS : Hid (∀ W, Calls Tryz.prog 22 #[.int .i64 r.kind] W (fun e w' => e = .returned (shape r.kind) ∧ Below W.heap.size W w')) := fun W => shapeOf_any r.kind W hkb
    have KP : Hid (∀ W, Calls Tryz.prog (spokenF r.kind) #[shV r.kind, recV r vt] W (fun e w' => e = .returned (runV r.lo r.hi (stepP r)) ∧ Below W.heap.size W w')) := fun W => spoken_any r.kind r vt W rfl
    have KH : Hid (∀ W, Calls Tryz.prog 23 #[runV r.lo r.hi (stepP r), .int .i64 c] W (BoolB W (hasB r.lo r.hi (stepP r) c))) := fun W => has_any _ _ _ _ W hlb hhb hsb ⟨by omega, by omega⟩
    have hq : (Cn.fam r.kind == Cn.fam r.kind) = true := beq_self_eq_true _
    generalize hasB r.lo r.hi (stepP r) c = res at *
    generalize stepP r = st at *
    generalize Cn.fam r.kind = fr at *
    clear hf hg e
    unfold recV shape shV runV at *
    have hwc : IntKind.i64.wrap c = c := IntWalk.i64_in _ ⟨by omega, by omega⟩
    by_cases h4 : r.kind = 4
    · rw [if_pos h4] at KS
      have hF : spokenF r.kind = 382 := by unfold spokenF; rw [if_pos h4]
      rw [hF] at KP
      have hm := mSpokenShifted r.kind
      clear hF h4
      generalize r.kind = kd at *
      generalize r.n = n at *
      generalize r.lo = lo at *
      generalize r.hi = hi at *
      generalize r.name = nm at *
      generalize r.other = ot at *
      generalize r.wt = wt at *
      have hb0 : Below w.heap.size w (w.alloc (.cells #[.int .i64 kd, .int .i64 lo, .int .i64 hi, .int .i64 n, vt, .string nm, .string ot, .float .f64 wt] 29)) := (Below.refl _ _).alloc (Nat.le_refl _) _
      have hh0 : (w.alloc (.cells #[.int .i64 kd, .int .i64 lo, .int .i64 hi, .int .i64 n, vt, .string nm, .string ot, .float .f64 wt] 29)).heap[w.heap.size]? = some (.cells #[.int .i64 kd, .int .i64 lo, .int .i64 hi, .int .i64 n, vt, .string nm, .string ot, .float .f64 wt] 29 (0, 0)) := by
        show (w.heap.push _)[w.heap.size]? = _
        simp
      go_enter Tryz.func21, Tryz.ntmps21
      go_wp2
      generalize (w.alloc (.cells #[.int .i64 kd, .int .i64 lo, .int .i64 hi, .int .i64 n, vt, .string nm, .string ot, .float .f64 wt] 29)) = W0 at *
      have SM : Hid (∀ W, Below W0.heap.size W0 W → W.cell? ⟨B, 0, none⟩ = some (.int .i64 fr) ∧ W.cell? ⟨C, 0, none⟩ = some (.int .i32 c) ∧ W.cell? ⟨w.heap.size, 0, none⟩ = some (.int .i64 kd) ∧ W.cell? ⟨w.heap.size, 1, none⟩ = some (.int .i64 lo) ∧ W.cell? ⟨w.heap.size, 2, none⟩ = some (.int .i64 hi) ∧ W.cell? ⟨w.heap.size, 3, none⟩ = some (.int .i64 n) ∧ W.cell? ⟨w.heap.size, 4, none⟩ = some (vt) ∧ W.cell? ⟨w.heap.size, 5, none⟩ = some (.string nm) ∧ W.cell? ⟨w.heap.size, 6, none⟩ = some (.string ot) ∧ W.cell? ⟨w.heap.size, 7, none⟩ = some (.float .f64 wt) ∧ Hid (Below W0.heap.size W0 W)) := fun W h => by
        have h1 : Below w.heap.size w W := bthen hb0 h
        have h2 : W.heap[w.heap.size]? = _ := (h.block _ (by
          rcases Nat.lt_or_ge w.heap.size W0.heap.size with a | a
          · exact a
          · rw [Array.getElem?_eq_none a] at hh0; cases hh0)).trans hh0
        exact ⟨by rw [h1.cell (lt_of_cell? hB)]; exact hB, by rw [h1.cell (lt_of_cell? hC)]; exact hC, cell_of (j := 0) h2 (by simp), cell_of (j := 1) h2 (by simp), cell_of (j := 2) h2 (by simp), cell_of (j := 3) h2 (by simp), cell_of (j := 4) h2 (by simp), cell_of (j := 5) h2 (by simp), cell_of (j := 6) h2 (by simp), cell_of (j := 7) h2 (by simp), h⟩
      have SI : Hid (∀ W, (W.cell? ⟨B, 0, none⟩ = some (.int .i64 fr) ∧ W.cell? ⟨C, 0, none⟩ = some (.int .i32 c) ∧ W.cell? ⟨w.heap.size, 0, none⟩ = some (.int .i64 kd) ∧ W.cell? ⟨w.heap.size, 1, none⟩ = some (.int .i64 lo) ∧ W.cell? ⟨w.heap.size, 2, none⟩ = some (.int .i64 hi) ∧ W.cell? ⟨w.heap.size, 3, none⟩ = some (.int .i64 n) ∧ W.cell? ⟨w.heap.size, 4, none⟩ = some (vt) ∧ W.cell? ⟨w.heap.size, 5, none⟩ = some (.string nm) ∧ W.cell? ⟨w.heap.size, 6, none⟩ = some (.string ot) ∧ W.cell? ⟨w.heap.size, 7, none⟩ = some (.float .f64 wt) ∧ Hid (Below W0.heap.size W0 W)) → Below W0.heap.size W0 W) := fun W h => h.2.2.2.2.2.2.2.2.2.2
      clear hB hC
      refine wp_region_held_drew (S := fun w' => w'.cell? ⟨B, 0, none⟩ = some (.int .i64 fr) ∧ w'.cell? ⟨C, 0, none⟩ = some (.int .i32 c) ∧ w'.cell? ⟨w.heap.size, 0, none⟩ = some (.int .i64 kd) ∧ w'.cell? ⟨w.heap.size, 1, none⟩ = some (.int .i64 lo) ∧ w'.cell? ⟨w.heap.size, 2, none⟩ = some (.int .i64 hi) ∧ w'.cell? ⟨w.heap.size, 3, none⟩ = some (.int .i64 n) ∧ w'.cell? ⟨w.heap.size, 4, none⟩ = some (vt) ∧ w'.cell? ⟨w.heap.size, 5, none⟩ = some (.string nm) ∧ w'.cell? ⟨w.heap.size, 6, none⟩ = some (.string ot) ∧ w'.cell? ⟨w.heap.size, 7, none⟩ = some (.float .f64 wt) ∧ Hid (Below W0.heap.size W0 w')) (by kernel_rfl) ((unhide SM) _ (drewB ⟨1, rfl⟩)) (fun hHeld => ?_)
      refine wpAnyH_take (i := 0) (oi := { dst := some 5, op := Op.fieldAddr 29 (Operand.tmp 3) 0, type := 0, pos := "table.go:40", after := #[], guard := none }) (v := .pointer (some ⟨w.heap.size, 0, none⟩)) rfl (by kernel_rfl) (by kernel_rfl) (by kernel_rfl) (fun _ _ _ h => h) (Or.inl ⟨by rfl, ?_⟩) hHeld ?_
      · intro w hSw
        go_simp
      try simp only [Act.put, List.setIfInBounds_toArray, List.set_cons_zero, List.set_cons_succ]
      refine wpAnyH_take (i := 1) (oi := { dst := some 6, op := Op.load 3 (Operand.tmp 5), type := 3, pos := "table.go:40", after := #[{ on := 0, ground := Ground.data }], guard := none }) (v := .int .i64 kd) rfl (by kernel_rfl) (by kernel_rfl) (by kernel_rfl) (fun _ _ _ h => h) (Or.inl ⟨by rfl, ?_⟩) hHeld ?_
      · intro w hSw
        go_simp
      try simp only [Act.put, List.setIfInBounds_toArray, List.set_cons_zero, List.set_cons_succ]
      refine wpAnyH_take (i := 3) (oi := { dst := some 8, op := Op.load 3 (Operand.tmp 1), type := 3, pos := "table.go:40", after := #[], guard := none }) (v := .int .i64 fr) rfl (by kernel_rfl) (by kernel_rfl) (by kernel_rfl) (fun _ _ _ h => h) (Or.inl ⟨by rfl, ?_⟩) hHeld ?_
      · intro w hSw
        go_simp
      try simp only [Act.put, List.setIfInBounds_toArray, List.set_cons_zero, List.set_cons_succ]
      refine wpAnyH_ready (rs := [2]) (by kernel_rfl) (by simp) ?_
      refine AllReadyH.cons (o := { dst := some 7, op := Op.call { callee := Callee.value (Operand.func 14), args := #[Operand.tmp 6], argTypes := #[3] }, type := 3, pos := "table.go:40", after := #[{ on := 1, ground := Ground.data }], guard := none }) rfl (fun K hK => ?_) AllReadyH.nil
      go_simp
      refine ((unhide KF) _ (bthen hb0 ((unhide SI) _ hHeld))).mono ?_
      rintro e w1 ⟨rfl, hb1⟩
      go_wp2_with fail
      refine hK.out _ _ ?_ (fun hHeld => ?_)
      · exact (unhide SM) _ (bthen ((unhide SI) _ hHeld) hb1)
      clear hK K
      try simp only [Act.put, List.setIfInBounds_toArray, List.set_cons_zero, List.set_cons_succ]
      refine wpAnyH_take (i := 4) (oi := { dst := some 9, op := Op.binOp BinOp.eql 3 (Operand.tmp 7) (Operand.tmp 8) 3, type := 4, pos := "table.go:40", after := #[{ on := 2, ground := Ground.data }, { on := 3, ground := Ground.data }], guard := none }) (v := .bool true) rfl (by kernel_rfl) (by kernel_rfl) (by kernel_rfl) (fun _ _ _ h => h) (Or.inl ⟨by rfl, ?_⟩) hHeld ?_
      · intro w hSw
        go_simp
      try simp only [Act.put, List.setIfInBounds_toArray, List.set_cons_zero, List.set_cons_succ]
      refine wpAnyH_take (i := 5) (oi := { dst := some 10, op := Op.move (Operand.tmp 9), type := 4, pos := "table.go:40", after := #[{ on := 4, ground := Ground.data }, { on := 2, ground := Ground.chain }], guard := none }) (v := .bool true) rfl (by kernel_rfl) (by kernel_rfl) (by kernel_rfl) (fun _ _ _ h => h) (Or.inl ⟨by rfl, ?_⟩) hHeld ?_
      · intro w hSw
        go_simp
      try simp only [Act.put, List.setIfInBounds_toArray, List.set_cons_zero, List.set_cons_succ]
      refine wpAnyH_take (i := 6) (oi := { dst := some 11, op := Op.fieldAddr 29 (Operand.tmp 3) 0, type := 0, pos := "table.go:40", after := #[{ on := 5, ground := Ground.guard }], guard := some (5, true) }) (v := .pointer (some ⟨w.heap.size, 0, none⟩)) rfl (by kernel_rfl) (by kernel_rfl) (by kernel_rfl) (fun _ _ _ h => h) (Or.inl ⟨by rfl, ?_⟩) hHeld ?_
      · intro w hSw
        go_simp
      try simp only [Act.put, List.setIfInBounds_toArray, List.set_cons_zero, List.set_cons_succ]
      refine wpAnyH_take (i := 7) (oi := { dst := some 12, op := Op.load 3 (Operand.tmp 11), type := 3, pos := "table.go:40", after := #[{ on := 6, ground := Ground.data }, { on := 5, ground := Ground.guard }], guard := some (5, true) }) (v := .int .i64 kd) rfl (by kernel_rfl) (by kernel_rfl) (by kernel_rfl) (fun _ _ _ h => h) (Or.inl ⟨by rfl, ?_⟩) hHeld ?_
      · intro w hSw
        go_simp
      try simp only [Act.put, List.setIfInBounds_toArray, List.set_cons_zero, List.set_cons_succ]
      refine wpAnyH_take (i := 9) (oi := { dst := some 14, op := Op.load 29 (Operand.tmp 3), type := 29, pos := "table.go:40", after := #[{ on := 5, ground := Ground.guard }], guard := some (5, true) }) (v := .agg #[.int .i64 kd, .int .i64 lo, .int .i64 hi, .int .i64 n, vt, .string nm, .string ot, .float .f64 wt]) rfl (by kernel_rfl) (by kernel_rfl) (by kernel_rfl) (fun _ _ _ h => h) (Or.inl ⟨by rfl, ?_⟩) hHeld ?_
      · intro w hSw
        go_simp
      try simp only [Act.put, List.setIfInBounds_toArray, List.set_cons_zero, List.set_cons_succ]
      refine wpAnyH_take (i := 11) (oi := { dst := some 16, op := Op.load 21 (Operand.tmp 2), type := 21, pos := "table.go:40", after := #[{ on := 5, ground := Ground.guard }], guard := some (5, true) }) (v := .int .i32 c) rfl (by kernel_rfl) (by kernel_rfl) (by kernel_rfl) (fun _ _ _ h => h) (Or.inl ⟨by rfl, ?_⟩) hHeld ?_
      · intro w hSw
        go_simp
      try simp only [Act.put, List.setIfInBounds_toArray, List.set_cons_zero, List.set_cons_succ]
      refine wpAnyH_take (i := 12) (oi := { dst := some 17, op := Op.convert 21 3 (Operand.tmp 16), type := 3, pos := "table.go:40", after := #[{ on := 11, ground := Ground.data }, { on := 5, ground := Ground.guard }], guard := some (5, true) }) (v := .int .i64 c) rfl (by kernel_rfl) (by kernel_rfl) (by kernel_rfl) (fun _ _ _ h => h) (Or.inl ⟨by rfl, ?_⟩) hHeld ?_
      · intro w hSw
        go_simp
      try simp only [Act.put, List.setIfInBounds_toArray, List.set_cons_zero, List.set_cons_succ]
      refine wpAnyH_ready (rs := [8]) (by kernel_rfl) (by simp) ?_
      refine AllReadyH.cons (o := { dst := some 13, op := Op.call { callee := Callee.value (Operand.func 22), args := #[Operand.tmp 12], argTypes := #[3] }, type := 49, pos := "table.go:40", after := #[{ on := 7, ground := Ground.data }, { on := 5, ground := Ground.chain }, { on := 5, ground := Ground.guard }], guard := some (5, true) }) rfl (fun K hK => ?_) AllReadyH.nil
      go_simp
      refine ((unhide KS) _).mono ?_
      rintro e w2 ⟨rfl, hb2⟩
      go_wp2_with fail
      refine hK.out _ _ ?_ (fun hHeld => ?_)
      · exact (unhide SM) _ (bthen ((unhide SI) _ hHeld) hb2)
      clear hK K
      try simp only [Act.put, List.setIfInBounds_toArray, List.set_cons_zero, List.set_cons_succ]
      refine wpAnyH_ready (rs := [10]) (by kernel_rfl) (by simp) ?_
      refine AllReadyH.cons (o := { dst := some 15, op := Op.call { callee := Callee.invoke (Operand.tmp 13) "endonym/table.spoken", args := #[Operand.tmp 14], argTypes := #[29] }, type := 47, pos := "table.go:40", after := #[{ on := 8, ground := Ground.data }, { on := 9, ground := Ground.data }, { on := 8, ground := Ground.chain }, { on := 5, ground := Ground.guard }], guard := some (5, true) }) rfl (fun K hK => ?_) AllReadyH.nil
      go_simp
      refine ((unhide KP) _).mono ?_
      rintro e w3 ⟨rfl, hb3⟩
      go_wp2_with fail
      refine hK.out _ _ ?_ (fun hHeld => ?_)
      · exact (unhide SM) _ (bthen ((unhide SI) _ hHeld) hb3)
      clear hK K
      try simp only [Act.put, List.setIfInBounds_toArray, List.set_cons_zero, List.set_cons_succ]
      refine wpAnyH_ready (rs := [13]) (by kernel_rfl) (by simp) ?_
      refine AllReadyH.cons (o := { dst := some 18, op := Op.call { callee := Callee.value (Operand.func 23), args := #[Operand.tmp 15, Operand.tmp 17], argTypes := #[47, 3] }, type := 4, pos := "table.go:40", after := #[{ on := 10, ground := Ground.data }, { on := 12, ground := Ground.data }, { on := 10, ground := Ground.chain }, { on := 5, ground := Ground.guard }], guard := some (5, true) }) rfl (fun K hK => ?_) AllReadyH.nil
      go_simp
      refine ((unhide KH) _).mono ?_
      rintro e w4 ⟨rfl, hb4⟩
      go_wp2_with fail
      refine hK.out _ _ ?_ (fun hHeld => ?_)
      · exact (unhide SM) _ (bthen ((unhide SI) _ hHeld) hb4)
      clear hK K
      try simp only [Act.put, List.setIfInBounds_toArray, List.set_cons_zero, List.set_cons_succ]
      refine wpAnyH_take (i := 14) (oi := { dst := some 19, op := Op.pick (Operand.tmp 10) (Operand.tmp 18) (Operand.const (Value.bool false)), type := 4, pos := "table.go:40", after := #[{ on := 5, ground := Ground.data }, { on := 13, ground := Ground.data }], guard := none }) (v := .bool res) rfl (by kernel_rfl) (by kernel_rfl) (by kernel_rfl) (fun _ _ _ h => h) (Or.inl ⟨by rfl, ?_⟩) hHeld ?_
      · intro w hSw
        go_simp
      try simp only [Act.put, List.setIfInBounds_toArray, List.set_cons_zero, List.set_cons_succ]
      refine wpAnyH_take (i := 15) (oi := { dst := some 4, op := Op.assign (Operand.tmp 19), type := 4, pos := "table.go:40", after := #[{ on := 14, ground := Ground.data }, { on := 13, ground := Ground.chain }, { on := 0, ground := Ground.phase }, { on := 1, ground := Ground.phase }, { on := 2, ground := Ground.phase }, { on := 3, ground := Ground.phase }, { on := 4, ground := Ground.phase }, { on := 5, ground := Ground.phase }, { on := 6, ground := Ground.phase }, { on := 7, ground := Ground.phase }, { on := 8, ground := Ground.phase }, { on := 9, ground := Ground.phase }, { on := 10, ground := Ground.phase }, { on := 11, ground := Ground.phase }, { on := 12, ground := Ground.phase }, { on := 13, ground := Ground.phase }, { on := 14, ground := Ground.phase }], guard := none }) (v := .bool res) rfl (by kernel_rfl) (by kernel_rfl) (by kernel_rfl) (fun _ _ _ h => h) (Or.inl ⟨by rfl, ?_⟩) hHeld ?_
      · intro w hSw
        go_simp
      try simp only [Act.put, List.setIfInBounds_toArray, List.set_cons_zero, List.set_cons_succ]
      refine wpAnyH_done (by kernel_rfl) ?_ _
      have HF : BoolB w res (.returned (.bool res)) w4 := ⟨rfl, bthen hb0 ((unhide SI) _ hHeld)⟩
      clear hHeld KF KS KP KH SM SI
      go_wp2
      go_ret
      exact HF
    · have hF : spokenF r.kind = 125 := by unfold spokenF; rw [if_neg h4]
      rw [hF] at KP
      rw [if_neg h4] at KS
      by_cases h5 : r.kind = 5 ∨ r.kind = 7 ∨ r.kind = 8 ∨ r.kind = 13
      · rw [if_pos h5] at KS
        have hm := mSpokenSingle r.kind
        clear hF h4 h5
        generalize r.kind = kd at *
        generalize r.n = n at *
        generalize r.lo = lo at *
        generalize r.hi = hi at *
        generalize r.name = nm at *
        generalize r.other = ot at *
        generalize r.wt = wt at *
        have hb0 : Below w.heap.size w (w.alloc (.cells #[.int .i64 kd, .int .i64 lo, .int .i64 hi, .int .i64 n, vt, .string nm, .string ot, .float .f64 wt] 29)) := (Below.refl _ _).alloc (Nat.le_refl _) _
        have hh0 : (w.alloc (.cells #[.int .i64 kd, .int .i64 lo, .int .i64 hi, .int .i64 n, vt, .string nm, .string ot, .float .f64 wt] 29)).heap[w.heap.size]? = some (.cells #[.int .i64 kd, .int .i64 lo, .int .i64 hi, .int .i64 n, vt, .string nm, .string ot, .float .f64 wt] 29 (0, 0)) := by
          show (w.heap.push _)[w.heap.size]? = _
          simp
        go_enter Tryz.func21, Tryz.ntmps21
        go_wp2
        generalize (w.alloc (.cells #[.int .i64 kd, .int .i64 lo, .int .i64 hi, .int .i64 n, vt, .string nm, .string ot, .float .f64 wt] 29)) = W0 at *
        have SM : Hid (∀ W, Below W0.heap.size W0 W → W.cell? ⟨B, 0, none⟩ = some (.int .i64 fr) ∧ W.cell? ⟨C, 0, none⟩ = some (.int .i32 c) ∧ W.cell? ⟨w.heap.size, 0, none⟩ = some (.int .i64 kd) ∧ W.cell? ⟨w.heap.size, 1, none⟩ = some (.int .i64 lo) ∧ W.cell? ⟨w.heap.size, 2, none⟩ = some (.int .i64 hi) ∧ W.cell? ⟨w.heap.size, 3, none⟩ = some (.int .i64 n) ∧ W.cell? ⟨w.heap.size, 4, none⟩ = some (vt) ∧ W.cell? ⟨w.heap.size, 5, none⟩ = some (.string nm) ∧ W.cell? ⟨w.heap.size, 6, none⟩ = some (.string ot) ∧ W.cell? ⟨w.heap.size, 7, none⟩ = some (.float .f64 wt) ∧ Hid (Below W0.heap.size W0 W)) := fun W h => by
          have h1 : Below w.heap.size w W := bthen hb0 h
          have h2 : W.heap[w.heap.size]? = _ := (h.block _ (by
            rcases Nat.lt_or_ge w.heap.size W0.heap.size with a | a
            · exact a
            · rw [Array.getElem?_eq_none a] at hh0; cases hh0)).trans hh0
          exact ⟨by rw [h1.cell (lt_of_cell? hB)]; exact hB, by rw [h1.cell (lt_of_cell? hC)]; exact hC, cell_of (j := 0) h2 (by simp), cell_of (j := 1) h2 (by simp), cell_of (j := 2) h2 (by simp), cell_of (j := 3) h2 (by simp), cell_of (j := 4) h2 (by simp), cell_of (j := 5) h2 (by simp), cell_of (j := 6) h2 (by simp), cell_of (j := 7) h2 (by simp), h⟩
        have SI : Hid (∀ W, (W.cell? ⟨B, 0, none⟩ = some (.int .i64 fr) ∧ W.cell? ⟨C, 0, none⟩ = some (.int .i32 c) ∧ W.cell? ⟨w.heap.size, 0, none⟩ = some (.int .i64 kd) ∧ W.cell? ⟨w.heap.size, 1, none⟩ = some (.int .i64 lo) ∧ W.cell? ⟨w.heap.size, 2, none⟩ = some (.int .i64 hi) ∧ W.cell? ⟨w.heap.size, 3, none⟩ = some (.int .i64 n) ∧ W.cell? ⟨w.heap.size, 4, none⟩ = some (vt) ∧ W.cell? ⟨w.heap.size, 5, none⟩ = some (.string nm) ∧ W.cell? ⟨w.heap.size, 6, none⟩ = some (.string ot) ∧ W.cell? ⟨w.heap.size, 7, none⟩ = some (.float .f64 wt) ∧ Hid (Below W0.heap.size W0 W)) → Below W0.heap.size W0 W) := fun W h => h.2.2.2.2.2.2.2.2.2.2
        clear hB hC
        refine wp_region_held_drew (S := fun w' => w'.cell? ⟨B, 0, none⟩ = some (.int .i64 fr) ∧ w'.cell? ⟨C, 0, none⟩ = some (.int .i32 c) ∧ w'.cell? ⟨w.heap.size, 0, none⟩ = some (.int .i64 kd) ∧ w'.cell? ⟨w.heap.size, 1, none⟩ = some (.int .i64 lo) ∧ w'.cell? ⟨w.heap.size, 2, none⟩ = some (.int .i64 hi) ∧ w'.cell? ⟨w.heap.size, 3, none⟩ = some (.int .i64 n) ∧ w'.cell? ⟨w.heap.size, 4, none⟩ = some (vt) ∧ w'.cell? ⟨w.heap.size, 5, none⟩ = some (.string nm) ∧ w'.cell? ⟨w.heap.size, 6, none⟩ = some (.string ot) ∧ w'.cell? ⟨w.heap.size, 7, none⟩ = some (.float .f64 wt) ∧ Hid (Below W0.heap.size W0 w')) (by kernel_rfl) ((unhide SM) _ (drewB ⟨1, rfl⟩)) (fun hHeld => ?_)
        refine wpAnyH_take (i := 0) (oi := { dst := some 5, op := Op.fieldAddr 29 (Operand.tmp 3) 0, type := 0, pos := "table.go:40", after := #[], guard := none }) (v := .pointer (some ⟨w.heap.size, 0, none⟩)) rfl (by kernel_rfl) (by kernel_rfl) (by kernel_rfl) (fun _ _ _ h => h) (Or.inl ⟨by rfl, ?_⟩) hHeld ?_
        · intro w hSw
          go_simp
        try simp only [Act.put, List.setIfInBounds_toArray, List.set_cons_zero, List.set_cons_succ]
        refine wpAnyH_take (i := 1) (oi := { dst := some 6, op := Op.load 3 (Operand.tmp 5), type := 3, pos := "table.go:40", after := #[{ on := 0, ground := Ground.data }], guard := none }) (v := .int .i64 kd) rfl (by kernel_rfl) (by kernel_rfl) (by kernel_rfl) (fun _ _ _ h => h) (Or.inl ⟨by rfl, ?_⟩) hHeld ?_
        · intro w hSw
          go_simp
        try simp only [Act.put, List.setIfInBounds_toArray, List.set_cons_zero, List.set_cons_succ]
        refine wpAnyH_take (i := 3) (oi := { dst := some 8, op := Op.load 3 (Operand.tmp 1), type := 3, pos := "table.go:40", after := #[], guard := none }) (v := .int .i64 fr) rfl (by kernel_rfl) (by kernel_rfl) (by kernel_rfl) (fun _ _ _ h => h) (Or.inl ⟨by rfl, ?_⟩) hHeld ?_
        · intro w hSw
          go_simp
        try simp only [Act.put, List.setIfInBounds_toArray, List.set_cons_zero, List.set_cons_succ]
        refine wpAnyH_ready (rs := [2]) (by kernel_rfl) (by simp) ?_
        refine AllReadyH.cons (o := { dst := some 7, op := Op.call { callee := Callee.value (Operand.func 14), args := #[Operand.tmp 6], argTypes := #[3] }, type := 3, pos := "table.go:40", after := #[{ on := 1, ground := Ground.data }], guard := none }) rfl (fun K hK => ?_) AllReadyH.nil
        go_simp
        refine ((unhide KF) _ (bthen hb0 ((unhide SI) _ hHeld))).mono ?_
        rintro e w1 ⟨rfl, hb1⟩
        go_wp2_with fail
        refine hK.out _ _ ?_ (fun hHeld => ?_)
        · exact (unhide SM) _ (bthen ((unhide SI) _ hHeld) hb1)
        clear hK K
        try simp only [Act.put, List.setIfInBounds_toArray, List.set_cons_zero, List.set_cons_succ]
        refine wpAnyH_take (i := 4) (oi := { dst := some 9, op := Op.binOp BinOp.eql 3 (Operand.tmp 7) (Operand.tmp 8) 3, type := 4, pos := "table.go:40", after := #[{ on := 2, ground := Ground.data }, { on := 3, ground := Ground.data }], guard := none }) (v := .bool true) rfl (by kernel_rfl) (by kernel_rfl) (by kernel_rfl) (fun _ _ _ h => h) (Or.inl ⟨by rfl, ?_⟩) hHeld ?_
        · intro w hSw
          go_simp
        try simp only [Act.put, List.setIfInBounds_toArray, List.set_cons_zero, List.set_cons_succ]
        refine wpAnyH_take (i := 5) (oi := { dst := some 10, op := Op.move (Operand.tmp 9), type := 4, pos := "table.go:40", after := #[{ on := 4, ground := Ground.data }, { on := 2, ground := Ground.chain }], guard := none }) (v := .bool true) rfl (by kernel_rfl) (by kernel_rfl) (by kernel_rfl) (fun _ _ _ h => h) (Or.inl ⟨by rfl, ?_⟩) hHeld ?_
        · intro w hSw
          go_simp
        try simp only [Act.put, List.setIfInBounds_toArray, List.set_cons_zero, List.set_cons_succ]
        refine wpAnyH_take (i := 6) (oi := { dst := some 11, op := Op.fieldAddr 29 (Operand.tmp 3) 0, type := 0, pos := "table.go:40", after := #[{ on := 5, ground := Ground.guard }], guard := some (5, true) }) (v := .pointer (some ⟨w.heap.size, 0, none⟩)) rfl (by kernel_rfl) (by kernel_rfl) (by kernel_rfl) (fun _ _ _ h => h) (Or.inl ⟨by rfl, ?_⟩) hHeld ?_
        · intro w hSw
          go_simp
        try simp only [Act.put, List.setIfInBounds_toArray, List.set_cons_zero, List.set_cons_succ]
        refine wpAnyH_take (i := 7) (oi := { dst := some 12, op := Op.load 3 (Operand.tmp 11), type := 3, pos := "table.go:40", after := #[{ on := 6, ground := Ground.data }, { on := 5, ground := Ground.guard }], guard := some (5, true) }) (v := .int .i64 kd) rfl (by kernel_rfl) (by kernel_rfl) (by kernel_rfl) (fun _ _ _ h => h) (Or.inl ⟨by rfl, ?_⟩) hHeld ?_
        · intro w hSw
          go_simp
        try simp only [Act.put, List.setIfInBounds_toArray, List.set_cons_zero, List.set_cons_succ]
        refine wpAnyH_take (i := 9) (oi := { dst := some 14, op := Op.load 29 (Operand.tmp 3), type := 29, pos := "table.go:40", after := #[{ on := 5, ground := Ground.guard }], guard := some (5, true) }) (v := .agg #[.int .i64 kd, .int .i64 lo, .int .i64 hi, .int .i64 n, vt, .string nm, .string ot, .float .f64 wt]) rfl (by kernel_rfl) (by kernel_rfl) (by kernel_rfl) (fun _ _ _ h => h) (Or.inl ⟨by rfl, ?_⟩) hHeld ?_
        · intro w hSw
          go_simp
        try simp only [Act.put, List.setIfInBounds_toArray, List.set_cons_zero, List.set_cons_succ]
        refine wpAnyH_take (i := 11) (oi := { dst := some 16, op := Op.load 21 (Operand.tmp 2), type := 21, pos := "table.go:40", after := #[{ on := 5, ground := Ground.guard }], guard := some (5, true) }) (v := .int .i32 c) rfl (by kernel_rfl) (by kernel_rfl) (by kernel_rfl) (fun _ _ _ h => h) (Or.inl ⟨by rfl, ?_⟩) hHeld ?_
        · intro w hSw
          go_simp
        try simp only [Act.put, List.setIfInBounds_toArray, List.set_cons_zero, List.set_cons_succ]
        refine wpAnyH_take (i := 12) (oi := { dst := some 17, op := Op.convert 21 3 (Operand.tmp 16), type := 3, pos := "table.go:40", after := #[{ on := 11, ground := Ground.data }, { on := 5, ground := Ground.guard }], guard := some (5, true) }) (v := .int .i64 c) rfl (by kernel_rfl) (by kernel_rfl) (by kernel_rfl) (fun _ _ _ h => h) (Or.inl ⟨by rfl, ?_⟩) hHeld ?_
        · intro w hSw
          go_simp
        try simp only [Act.put, List.setIfInBounds_toArray, List.set_cons_zero, List.set_cons_succ]
        refine wpAnyH_ready (rs := [8]) (by kernel_rfl) (by simp) ?_
        refine AllReadyH.cons (o := { dst := some 13, op := Op.call { callee := Callee.value (Operand.func 22), args := #[Operand.tmp 12], argTypes := #[3] }, type := 49, pos := "table.go:40", after := #[{ on := 7, ground := Ground.data }, { on := 5, ground := Ground.chain }, { on := 5, ground := Ground.guard }], guard := some (5, true) }) rfl (fun K hK => ?_) AllReadyH.nil
        go_simp
        refine ((unhide KS) _).mono ?_
        rintro e w2 ⟨rfl, hb2⟩
        go_wp2_with fail
        refine hK.out _ _ ?_ (fun hHeld => ?_)
        · exact (unhide SM) _ (bthen ((unhide SI) _ hHeld) hb2)
        clear hK K
        try simp only [Act.put, List.setIfInBounds_toArray, List.set_cons_zero, List.set_cons_succ]
        refine wpAnyH_ready (rs := [10]) (by kernel_rfl) (by simp) ?_
        refine AllReadyH.cons (o := { dst := some 15, op := Op.call { callee := Callee.invoke (Operand.tmp 13) "endonym/table.spoken", args := #[Operand.tmp 14], argTypes := #[29] }, type := 47, pos := "table.go:40", after := #[{ on := 8, ground := Ground.data }, { on := 9, ground := Ground.data }, { on := 8, ground := Ground.chain }, { on := 5, ground := Ground.guard }], guard := some (5, true) }) rfl (fun K hK => ?_) AllReadyH.nil
        go_simp
        refine ((unhide KP) _).mono ?_
        rintro e w3 ⟨rfl, hb3⟩
        go_wp2_with fail
        refine hK.out _ _ ?_ (fun hHeld => ?_)
        · exact (unhide SM) _ (bthen ((unhide SI) _ hHeld) hb3)
        clear hK K
        try simp only [Act.put, List.setIfInBounds_toArray, List.set_cons_zero, List.set_cons_succ]
        refine wpAnyH_ready (rs := [13]) (by kernel_rfl) (by simp) ?_
        refine AllReadyH.cons (o := { dst := some 18, op := Op.call { callee := Callee.value (Operand.func 23), args := #[Operand.tmp 15, Operand.tmp 17], argTypes := #[47, 3] }, type := 4, pos := "table.go:40", after := #[{ on := 10, ground := Ground.data }, { on := 12, ground := Ground.data }, { on := 10, ground := Ground.chain }, { on := 5, ground := Ground.guard }], guard := some (5, true) }) rfl (fun K hK => ?_) AllReadyH.nil
        go_simp
        refine ((unhide KH) _).mono ?_
        rintro e w4 ⟨rfl, hb4⟩
        go_wp2_with fail
        refine hK.out _ _ ?_ (fun hHeld => ?_)
        · exact (unhide SM) _ (bthen ((unhide SI) _ hHeld) hb4)
        clear hK K
        try simp only [Act.put, List.setIfInBounds_toArray, List.set_cons_zero, List.set_cons_succ]
        refine wpAnyH_take (i := 14) (oi := { dst := some 19, op := Op.pick (Operand.tmp 10) (Operand.tmp 18) (Operand.const (Value.bool false)), type := 4, pos := "table.go:40", after := #[{ on := 5, ground := Ground.data }, { on := 13, ground := Ground.data }], guard := none }) (v := .bool res) rfl (by kernel_rfl) (by kernel_rfl) (by kernel_rfl) (fun _ _ _ h => h) (Or.inl ⟨by rfl, ?_⟩) hHeld ?_
        · intro w hSw
          go_simp
        try simp only [Act.put, List.setIfInBounds_toArray, List.set_cons_zero, List.set_cons_succ]
        refine wpAnyH_take (i := 15) (oi := { dst := some 4, op := Op.assign (Operand.tmp 19), type := 4, pos := "table.go:40", after := #[{ on := 14, ground := Ground.data }, { on := 13, ground := Ground.chain }, { on := 0, ground := Ground.phase }, { on := 1, ground := Ground.phase }, { on := 2, ground := Ground.phase }, { on := 3, ground := Ground.phase }, { on := 4, ground := Ground.phase }, { on := 5, ground := Ground.phase }, { on := 6, ground := Ground.phase }, { on := 7, ground := Ground.phase }, { on := 8, ground := Ground.phase }, { on := 9, ground := Ground.phase }, { on := 10, ground := Ground.phase }, { on := 11, ground := Ground.phase }, { on := 12, ground := Ground.phase }, { on := 13, ground := Ground.phase }, { on := 14, ground := Ground.phase }], guard := none }) (v := .bool res) rfl (by kernel_rfl) (by kernel_rfl) (by kernel_rfl) (fun _ _ _ h => h) (Or.inl ⟨by rfl, ?_⟩) hHeld ?_
        · intro w hSw
          go_simp
        try simp only [Act.put, List.setIfInBounds_toArray, List.set_cons_zero, List.set_cons_succ]
        refine wpAnyH_done (by kernel_rfl) ?_ _
        have HF : BoolB w res (.returned (.bool res)) w4 := ⟨rfl, bthen hb0 ((unhide SI) _ hHeld)⟩
        clear hHeld KF KS KP KH SM SI
        go_wp2
        go_ret
        exact HF
      · rw [if_neg h5, if_neg hk15] at KS
        have hm := mSpokenSpanned r.kind
        clear hF h4 h5
        generalize r.kind = kd at *
        generalize r.n = n at *
        generalize r.lo = lo at *
        generalize r.hi = hi at *
        generalize r.name = nm at *
        generalize r.other = ot at *
        generalize r.wt = wt at *
        have hb0 : Below w.heap.size w (w.alloc (.cells #[.int .i64 kd, .int .i64 lo, .int .i64 hi, .int .i64 n, vt, .string nm, .string ot, .float .f64 wt] 29)) := (Below.refl _ _).alloc (Nat.le_refl _) _
        have hh0 : (w.alloc (.cells #[.int .i64 kd, .int .i64 lo, .int .i64 hi, .int .i64 n, vt, .string nm, .string ot, .float .f64 wt] 29)).heap[w.heap.size]? = some (.cells #[.int .i64 kd, .int .i64 lo, .int .i64 hi, .int .i64 n, vt, .string nm, .string ot, .float .f64 wt] 29 (0, 0)) := by
          show (w.heap.push _)[w.heap.size]? = _
          simp
        go_enter Tryz.func21, Tryz.ntmps21
        go_wp2
        generalize (w.alloc (.cells #[.int .i64 kd, .int .i64 lo, .int .i64 hi, .int .i64 n, vt, .string nm, .string ot, .float .f64 wt] 29)) = W0 at *
        have SM : Hid (∀ W, Below W0.heap.size W0 W → W.cell? ⟨B, 0, none⟩ = some (.int .i64 fr) ∧ W.cell? ⟨C, 0, none⟩ = some (.int .i32 c) ∧ W.cell? ⟨w.heap.size, 0, none⟩ = some (.int .i64 kd) ∧ W.cell? ⟨w.heap.size, 1, none⟩ = some (.int .i64 lo) ∧ W.cell? ⟨w.heap.size, 2, none⟩ = some (.int .i64 hi) ∧ W.cell? ⟨w.heap.size, 3, none⟩ = some (.int .i64 n) ∧ W.cell? ⟨w.heap.size, 4, none⟩ = some (vt) ∧ W.cell? ⟨w.heap.size, 5, none⟩ = some (.string nm) ∧ W.cell? ⟨w.heap.size, 6, none⟩ = some (.string ot) ∧ W.cell? ⟨w.heap.size, 7, none⟩ = some (.float .f64 wt) ∧ Hid (Below W0.heap.size W0 W)) := fun W h => by
          have h1 : Below w.heap.size w W := bthen hb0 h
          have h2 : W.heap[w.heap.size]? = _ := (h.block _ (by
            rcases Nat.lt_or_ge w.heap.size W0.heap.size with a | a
            · exact a
            · rw [Array.getElem?_eq_none a] at hh0; cases hh0)).trans hh0
          exact ⟨by rw [h1.cell (lt_of_cell? hB)]; exact hB, by rw [h1.cell (lt_of_cell? hC)]; exact hC, cell_of (j := 0) h2 (by simp), cell_of (j := 1) h2 (by simp), cell_of (j := 2) h2 (by simp), cell_of (j := 3) h2 (by simp), cell_of (j := 4) h2 (by simp), cell_of (j := 5) h2 (by simp), cell_of (j := 6) h2 (by simp), cell_of (j := 7) h2 (by simp), h⟩
        have SI : Hid (∀ W, (W.cell? ⟨B, 0, none⟩ = some (.int .i64 fr) ∧ W.cell? ⟨C, 0, none⟩ = some (.int .i32 c) ∧ W.cell? ⟨w.heap.size, 0, none⟩ = some (.int .i64 kd) ∧ W.cell? ⟨w.heap.size, 1, none⟩ = some (.int .i64 lo) ∧ W.cell? ⟨w.heap.size, 2, none⟩ = some (.int .i64 hi) ∧ W.cell? ⟨w.heap.size, 3, none⟩ = some (.int .i64 n) ∧ W.cell? ⟨w.heap.size, 4, none⟩ = some (vt) ∧ W.cell? ⟨w.heap.size, 5, none⟩ = some (.string nm) ∧ W.cell? ⟨w.heap.size, 6, none⟩ = some (.string ot) ∧ W.cell? ⟨w.heap.size, 7, none⟩ = some (.float .f64 wt) ∧ Hid (Below W0.heap.size W0 W)) → Below W0.heap.size W0 W) := fun W h => h.2.2.2.2.2.2.2.2.2.2
        clear hB hC
        refine wp_region_held_drew (S := fun w' => w'.cell? ⟨B, 0, none⟩ = some (.int .i64 fr) ∧ w'.cell? ⟨C, 0, none⟩ = some (.int .i32 c) ∧ w'.cell? ⟨w.heap.size, 0, none⟩ = some (.int .i64 kd) ∧ w'.cell? ⟨w.heap.size, 1, none⟩ = some (.int .i64 lo) ∧ w'.cell? ⟨w.heap.size, 2, none⟩ = some (.int .i64 hi) ∧ w'.cell? ⟨w.heap.size, 3, none⟩ = some (.int .i64 n) ∧ w'.cell? ⟨w.heap.size, 4, none⟩ = some (vt) ∧ w'.cell? ⟨w.heap.size, 5, none⟩ = some (.string nm) ∧ w'.cell? ⟨w.heap.size, 6, none⟩ = some (.string ot) ∧ w'.cell? ⟨w.heap.size, 7, none⟩ = some (.float .f64 wt) ∧ Hid (Below W0.heap.size W0 w')) (by kernel_rfl) ((unhide SM) _ (drewB ⟨1, rfl⟩)) (fun hHeld => ?_)
        refine wpAnyH_take (i := 0) (oi := { dst := some 5, op := Op.fieldAddr 29 (Operand.tmp 3) 0, type := 0, pos := "table.go:40", after := #[], guard := none }) (v := .pointer (some ⟨w.heap.size, 0, none⟩)) rfl (by kernel_rfl) (by kernel_rfl) (by kernel_rfl) (fun _ _ _ h => h) (Or.inl ⟨by rfl, ?_⟩) hHeld ?_
        · intro w hSw
          go_simp
        try simp only [Act.put, List.setIfInBounds_toArray, List.set_cons_zero, List.set_cons_succ]
        refine wpAnyH_take (i := 1) (oi := { dst := some 6, op := Op.load 3 (Operand.tmp 5), type := 3, pos := "table.go:40", after := #[{ on := 0, ground := Ground.data }], guard := none }) (v := .int .i64 kd) rfl (by kernel_rfl) (by kernel_rfl) (by kernel_rfl) (fun _ _ _ h => h) (Or.inl ⟨by rfl, ?_⟩) hHeld ?_
        · intro w hSw
          go_simp
        try simp only [Act.put, List.setIfInBounds_toArray, List.set_cons_zero, List.set_cons_succ]
        refine wpAnyH_take (i := 3) (oi := { dst := some 8, op := Op.load 3 (Operand.tmp 1), type := 3, pos := "table.go:40", after := #[], guard := none }) (v := .int .i64 fr) rfl (by kernel_rfl) (by kernel_rfl) (by kernel_rfl) (fun _ _ _ h => h) (Or.inl ⟨by rfl, ?_⟩) hHeld ?_
        · intro w hSw
          go_simp
        try simp only [Act.put, List.setIfInBounds_toArray, List.set_cons_zero, List.set_cons_succ]
        refine wpAnyH_ready (rs := [2]) (by kernel_rfl) (by simp) ?_
        refine AllReadyH.cons (o := { dst := some 7, op := Op.call { callee := Callee.value (Operand.func 14), args := #[Operand.tmp 6], argTypes := #[3] }, type := 3, pos := "table.go:40", after := #[{ on := 1, ground := Ground.data }], guard := none }) rfl (fun K hK => ?_) AllReadyH.nil
        go_simp
        refine ((unhide KF) _ (bthen hb0 ((unhide SI) _ hHeld))).mono ?_
        rintro e w1 ⟨rfl, hb1⟩
        go_wp2_with fail
        refine hK.out _ _ ?_ (fun hHeld => ?_)
        · exact (unhide SM) _ (bthen ((unhide SI) _ hHeld) hb1)
        clear hK K
        try simp only [Act.put, List.setIfInBounds_toArray, List.set_cons_zero, List.set_cons_succ]
        refine wpAnyH_take (i := 4) (oi := { dst := some 9, op := Op.binOp BinOp.eql 3 (Operand.tmp 7) (Operand.tmp 8) 3, type := 4, pos := "table.go:40", after := #[{ on := 2, ground := Ground.data }, { on := 3, ground := Ground.data }], guard := none }) (v := .bool true) rfl (by kernel_rfl) (by kernel_rfl) (by kernel_rfl) (fun _ _ _ h => h) (Or.inl ⟨by rfl, ?_⟩) hHeld ?_
        · intro w hSw
          go_simp
        try simp only [Act.put, List.setIfInBounds_toArray, List.set_cons_zero, List.set_cons_succ]
        refine wpAnyH_take (i := 5) (oi := { dst := some 10, op := Op.move (Operand.tmp 9), type := 4, pos := "table.go:40", after := #[{ on := 4, ground := Ground.data }, { on := 2, ground := Ground.chain }], guard := none }) (v := .bool true) rfl (by kernel_rfl) (by kernel_rfl) (by kernel_rfl) (fun _ _ _ h => h) (Or.inl ⟨by rfl, ?_⟩) hHeld ?_
        · intro w hSw
          go_simp
        try simp only [Act.put, List.setIfInBounds_toArray, List.set_cons_zero, List.set_cons_succ]
        refine wpAnyH_take (i := 6) (oi := { dst := some 11, op := Op.fieldAddr 29 (Operand.tmp 3) 0, type := 0, pos := "table.go:40", after := #[{ on := 5, ground := Ground.guard }], guard := some (5, true) }) (v := .pointer (some ⟨w.heap.size, 0, none⟩)) rfl (by kernel_rfl) (by kernel_rfl) (by kernel_rfl) (fun _ _ _ h => h) (Or.inl ⟨by rfl, ?_⟩) hHeld ?_
        · intro w hSw
          go_simp
        try simp only [Act.put, List.setIfInBounds_toArray, List.set_cons_zero, List.set_cons_succ]
        refine wpAnyH_take (i := 7) (oi := { dst := some 12, op := Op.load 3 (Operand.tmp 11), type := 3, pos := "table.go:40", after := #[{ on := 6, ground := Ground.data }, { on := 5, ground := Ground.guard }], guard := some (5, true) }) (v := .int .i64 kd) rfl (by kernel_rfl) (by kernel_rfl) (by kernel_rfl) (fun _ _ _ h => h) (Or.inl ⟨by rfl, ?_⟩) hHeld ?_
        · intro w hSw
          go_simp
        try simp only [Act.put, List.setIfInBounds_toArray, List.set_cons_zero, List.set_cons_succ]
        refine wpAnyH_take (i := 9) (oi := { dst := some 14, op := Op.load 29 (Operand.tmp 3), type := 29, pos := "table.go:40", after := #[{ on := 5, ground := Ground.guard }], guard := some (5, true) }) (v := .agg #[.int .i64 kd, .int .i64 lo, .int .i64 hi, .int .i64 n, vt, .string nm, .string ot, .float .f64 wt]) rfl (by kernel_rfl) (by kernel_rfl) (by kernel_rfl) (fun _ _ _ h => h) (Or.inl ⟨by rfl, ?_⟩) hHeld ?_
        · intro w hSw
          go_simp
        try simp only [Act.put, List.setIfInBounds_toArray, List.set_cons_zero, List.set_cons_succ]
        refine wpAnyH_take (i := 11) (oi := { dst := some 16, op := Op.load 21 (Operand.tmp 2), type := 21, pos := "table.go:40", after := #[{ on := 5, ground := Ground.guard }], guard := some (5, true) }) (v := .int .i32 c) rfl (by kernel_rfl) (by kernel_rfl) (by kernel_rfl) (fun _ _ _ h => h) (Or.inl ⟨by rfl, ?_⟩) hHeld ?_
        · intro w hSw
          go_simp
        try simp only [Act.put, List.setIfInBounds_toArray, List.set_cons_zero, List.set_cons_succ]
        refine wpAnyH_take (i := 12) (oi := { dst := some 17, op := Op.convert 21 3 (Operand.tmp 16), type := 3, pos := "table.go:40", after := #[{ on := 11, ground := Ground.data }, { on := 5, ground := Ground.guard }], guard := some (5, true) }) (v := .int .i64 c) rfl (by kernel_rfl) (by kernel_rfl) (by kernel_rfl) (fun _ _ _ h => h) (Or.inl ⟨by rfl, ?_⟩) hHeld ?_
        · intro w hSw
          go_simp
        try simp only [Act.put, List.setIfInBounds_toArray, List.set_cons_zero, List.set_cons_succ]
        refine wpAnyH_ready (rs := [8]) (by kernel_rfl) (by simp) ?_
        refine AllReadyH.cons (o := { dst := some 13, op := Op.call { callee := Callee.value (Operand.func 22), args := #[Operand.tmp 12], argTypes := #[3] }, type := 49, pos := "table.go:40", after := #[{ on := 7, ground := Ground.data }, { on := 5, ground := Ground.chain }, { on := 5, ground := Ground.guard }], guard := some (5, true) }) rfl (fun K hK => ?_) AllReadyH.nil
        go_simp
        refine ((unhide KS) _).mono ?_
        rintro e w2 ⟨rfl, hb2⟩
        go_wp2_with fail
        refine hK.out _ _ ?_ (fun hHeld => ?_)
        · exact (unhide SM) _ (bthen ((unhide SI) _ hHeld) hb2)
        clear hK K
        try simp only [Act.put, List.setIfInBounds_toArray, List.set_cons_zero, List.set_cons_succ]
        refine wpAnyH_ready (rs := [10]) (by kernel_rfl) (by simp) ?_
        refine AllReadyH.cons (o := { dst := some 15, op := Op.call { callee := Callee.invoke (Operand.tmp 13) "endonym/table.spoken", args := #[Operand.tmp 14], argTypes := #[29] }, type := 47, pos := "table.go:40", after := #[{ on := 8, ground := Ground.data }, { on := 9, ground := Ground.data }, { on := 8, ground := Ground.chain }, { on := 5, ground := Ground.guard }], guard := some (5, true) }) rfl (fun K hK => ?_) AllReadyH.nil
        go_simp
        refine ((unhide KP) _).mono ?_
        rintro e w3 ⟨rfl, hb3⟩
        go_wp2_with fail
        refine hK.out _ _ ?_ (fun hHeld => ?_)
        · exact (unhide SM) _ (bthen ((unhide SI) _ hHeld) hb3)
        clear hK K
        try simp only [Act.put, List.setIfInBounds_toArray, List.set_cons_zero, List.set_cons_succ]
        refine wpAnyH_ready (rs := [13]) (by kernel_rfl) (by simp) ?_
        refine AllReadyH.cons (o := { dst := some 18, op := Op.call { callee := Callee.value (Operand.func 23), args := #[Operand.tmp 15, Operand.tmp 17], argTypes := #[47, 3] }, type := 4, pos := "table.go:40", after := #[{ on := 10, ground := Ground.data }, { on := 12, ground := Ground.data }, { on := 10, ground := Ground.chain }, { on := 5, ground := Ground.guard }], guard := some (5, true) }) rfl (fun K hK => ?_) AllReadyH.nil
        go_simp
        refine ((unhide KH) _).mono ?_
        rintro e w4 ⟨rfl, hb4⟩
        go_wp2_with fail
        refine hK.out _ _ ?_ (fun hHeld => ?_)
        · exact (unhide SM) _ (bthen ((unhide SI) _ hHeld) hb4)
        clear hK K
        try simp only [Act.put, List.setIfInBounds_toArray, List.set_cons_zero, List.set_cons_succ]
        refine wpAnyH_take (i := 14) (oi := { dst := some 19, op := Op.pick (Operand.tmp 10) (Operand.tmp 18) (Operand.const (Value.bool false)), type := 4, pos := "table.go:40", after := #[{ on := 5, ground := Ground.data }, { on := 13, ground := Ground.data }], guard := none }) (v := .bool res) rfl (by kernel_rfl) (by kernel_rfl) (by kernel_rfl) (fun _ _ _ h => h) (Or.inl ⟨by rfl, ?_⟩) hHeld ?_
        · intro w hSw
          go_simp
        try simp only [Act.put, List.setIfInBounds_toArray, List.set_cons_zero, List.set_cons_succ]
        refine wpAnyH_take (i := 15) (oi := { dst := some 4, op := Op.assign (Operand.tmp 19), type := 4, pos := "table.go:40", after := #[{ on := 14, ground := Ground.data }, { on := 13, ground := Ground.chain }, { on := 0, ground := Ground.phase }, { on := 1, ground := Ground.phase }, { on := 2, ground := Ground.phase }, { on := 3, ground := Ground.phase }, { on := 4, ground := Ground.phase }, { on := 5, ground := Ground.phase }, { on := 6, ground := Ground.phase }, { on := 7, ground := Ground.phase }, { on := 8, ground := Ground.phase }, { on := 9, ground := Ground.phase }, { on := 10, ground := Ground.phase }, { on := 11, ground := Ground.phase }, { on := 12, ground := Ground.phase }, { on := 13, ground := Ground.phase }, { on := 14, ground := Ground.phase }], guard := none }) (v := .bool res) rfl (by kernel_rfl) (by kernel_rfl) (by kernel_rfl) (fun _ _ _ h => h) (Or.inl ⟨by rfl, ?_⟩) hHeld ?_
        · intro w hSw
          go_simp
        try simp only [Act.put, List.setIfInBounds_toArray, List.set_cons_zero, List.set_cons_succ]
        refine wpAnyH_done (by kernel_rfl) ?_ _
        have HF : BoolB w res (.returned (.bool res)) w4 := ⟨rfl, bthen hb0 ((unhide SI) _ hHeld)⟩
        clear hHeld KF KS KP KH SM SI
        go_wp2
        go_ret
        exact HF
  · have e : (decide (Cn.fam r.kind = f) && Cn.speaks r c) = false := by rw [decide_eq_false hfam]; rfl
    rw [e]
    have hq : (Cn.fam r.kind == f) = false := beq_eq_false_iff_ne.2 hfam
    have KF : Hid (∀ W, Below w.heap.size w W → Calls Tryz.prog 14 #[.int .i64 r.kind] W (IntB W (Cn.fam r.kind))) := fun W h => family_any r.kind W (hg.on h) hkb
    generalize Cn.fam r.kind = fr at *
    clear hf hg e hsb
    unfold recV
    generalize r.kind = kd at *
    generalize r.n = n at *
    generalize r.lo = lo at *
    generalize r.hi = hi at *
    generalize r.name = nm at *
    generalize r.other = ot at *
    generalize r.wt = wt at *
    have hb0 : Below w.heap.size w (w.alloc (.cells #[.int .i64 kd, .int .i64 lo, .int .i64 hi, .int .i64 n, vt, .string nm, .string ot, .float .f64 wt] 29)) := (Below.refl _ _).alloc (Nat.le_refl _) _
    have hh0 : (w.alloc (.cells #[.int .i64 kd, .int .i64 lo, .int .i64 hi, .int .i64 n, vt, .string nm, .string ot, .float .f64 wt] 29)).heap[w.heap.size]? = some (.cells #[.int .i64 kd, .int .i64 lo, .int .i64 hi, .int .i64 n, vt, .string nm, .string ot, .float .f64 wt] 29 (0, 0)) := by
      show (w.heap.push _)[w.heap.size]? = _
      simp
    go_enter Tryz.func21, Tryz.ntmps21
    go_wp2
    generalize (w.alloc (.cells #[.int .i64 kd, .int .i64 lo, .int .i64 hi, .int .i64 n, vt, .string nm, .string ot, .float .f64 wt] 29)) = W0 at *
    have SM : Hid (∀ W, Below W0.heap.size W0 W → W.cell? ⟨B, 0, none⟩ = some (.int .i64 f) ∧ W.cell? ⟨C, 0, none⟩ = some (.int .i32 c) ∧ W.cell? ⟨w.heap.size, 0, none⟩ = some (.int .i64 kd) ∧ W.cell? ⟨w.heap.size, 1, none⟩ = some (.int .i64 lo) ∧ W.cell? ⟨w.heap.size, 2, none⟩ = some (.int .i64 hi) ∧ W.cell? ⟨w.heap.size, 3, none⟩ = some (.int .i64 n) ∧ W.cell? ⟨w.heap.size, 4, none⟩ = some (vt) ∧ W.cell? ⟨w.heap.size, 5, none⟩ = some (.string nm) ∧ W.cell? ⟨w.heap.size, 6, none⟩ = some (.string ot) ∧ W.cell? ⟨w.heap.size, 7, none⟩ = some (.float .f64 wt) ∧ Hid (Below W0.heap.size W0 W)) := fun W h => by
      have h1 : Below w.heap.size w W := bthen hb0 h
      have h2 : W.heap[w.heap.size]? = _ := (h.block _ (by
        rcases Nat.lt_or_ge w.heap.size W0.heap.size with a | a
        · exact a
        · rw [Array.getElem?_eq_none a] at hh0; cases hh0)).trans hh0
      exact ⟨by rw [h1.cell (lt_of_cell? hB)]; exact hB, by rw [h1.cell (lt_of_cell? hC)]; exact hC, cell_of (j := 0) h2 (by simp), cell_of (j := 1) h2 (by simp), cell_of (j := 2) h2 (by simp), cell_of (j := 3) h2 (by simp), cell_of (j := 4) h2 (by simp), cell_of (j := 5) h2 (by simp), cell_of (j := 6) h2 (by simp), cell_of (j := 7) h2 (by simp), h⟩
    have SI : Hid (∀ W, (W.cell? ⟨B, 0, none⟩ = some (.int .i64 f) ∧ W.cell? ⟨C, 0, none⟩ = some (.int .i32 c) ∧ W.cell? ⟨w.heap.size, 0, none⟩ = some (.int .i64 kd) ∧ W.cell? ⟨w.heap.size, 1, none⟩ = some (.int .i64 lo) ∧ W.cell? ⟨w.heap.size, 2, none⟩ = some (.int .i64 hi) ∧ W.cell? ⟨w.heap.size, 3, none⟩ = some (.int .i64 n) ∧ W.cell? ⟨w.heap.size, 4, none⟩ = some (vt) ∧ W.cell? ⟨w.heap.size, 5, none⟩ = some (.string nm) ∧ W.cell? ⟨w.heap.size, 6, none⟩ = some (.string ot) ∧ W.cell? ⟨w.heap.size, 7, none⟩ = some (.float .f64 wt) ∧ Hid (Below W0.heap.size W0 W)) → Below W0.heap.size W0 W) := fun W h => h.2.2.2.2.2.2.2.2.2.2
    clear hB hC
    refine wp_region_held_drew (S := fun w' => w'.cell? ⟨B, 0, none⟩ = some (.int .i64 f) ∧ w'.cell? ⟨C, 0, none⟩ = some (.int .i32 c) ∧ w'.cell? ⟨w.heap.size, 0, none⟩ = some (.int .i64 kd) ∧ w'.cell? ⟨w.heap.size, 1, none⟩ = some (.int .i64 lo) ∧ w'.cell? ⟨w.heap.size, 2, none⟩ = some (.int .i64 hi) ∧ w'.cell? ⟨w.heap.size, 3, none⟩ = some (.int .i64 n) ∧ w'.cell? ⟨w.heap.size, 4, none⟩ = some (vt) ∧ w'.cell? ⟨w.heap.size, 5, none⟩ = some (.string nm) ∧ w'.cell? ⟨w.heap.size, 6, none⟩ = some (.string ot) ∧ w'.cell? ⟨w.heap.size, 7, none⟩ = some (.float .f64 wt) ∧ Hid (Below W0.heap.size W0 w')) (by kernel_rfl) ((unhide SM) _ (drewB ⟨1, rfl⟩)) (fun hHeld => ?_)
    refine wpAnyH_take (i := 0) (oi := { dst := some 5, op := Op.fieldAddr 29 (Operand.tmp 3) 0, type := 0, pos := "table.go:40", after := #[], guard := none }) (v := .pointer (some ⟨w.heap.size, 0, none⟩)) rfl (by kernel_rfl) (by kernel_rfl) (by kernel_rfl) (fun _ _ _ h => h) (Or.inl ⟨by rfl, ?_⟩) hHeld ?_
    · intro w hSw
      go_simp
    try simp only [Act.put, List.setIfInBounds_toArray, List.set_cons_zero, List.set_cons_succ]
    refine wpAnyH_take (i := 1) (oi := { dst := some 6, op := Op.load 3 (Operand.tmp 5), type := 3, pos := "table.go:40", after := #[{ on := 0, ground := Ground.data }], guard := none }) (v := .int .i64 kd) rfl (by kernel_rfl) (by kernel_rfl) (by kernel_rfl) (fun _ _ _ h => h) (Or.inl ⟨by rfl, ?_⟩) hHeld ?_
    · intro w hSw
      go_simp
    try simp only [Act.put, List.setIfInBounds_toArray, List.set_cons_zero, List.set_cons_succ]
    refine wpAnyH_take (i := 3) (oi := { dst := some 8, op := Op.load 3 (Operand.tmp 1), type := 3, pos := "table.go:40", after := #[], guard := none }) (v := .int .i64 f) rfl (by kernel_rfl) (by kernel_rfl) (by kernel_rfl) (fun _ _ _ h => h) (Or.inl ⟨by rfl, ?_⟩) hHeld ?_
    · intro w hSw
      go_simp
    try simp only [Act.put, List.setIfInBounds_toArray, List.set_cons_zero, List.set_cons_succ]
    refine wpAnyH_ready (rs := [2]) (by kernel_rfl) (by simp) ?_
    refine AllReadyH.cons (o := { dst := some 7, op := Op.call { callee := Callee.value (Operand.func 14), args := #[Operand.tmp 6], argTypes := #[3] }, type := 3, pos := "table.go:40", after := #[{ on := 1, ground := Ground.data }], guard := none }) rfl (fun K hK => ?_) AllReadyH.nil
    go_simp
    refine ((unhide KF) _ (bthen hb0 ((unhide SI) _ hHeld))).mono ?_
    rintro e w1 ⟨rfl, hb1⟩
    go_wp2_with fail
    refine hK.out _ _ ?_ (fun hHeld => ?_)
    · exact (unhide SM) _ (bthen ((unhide SI) _ hHeld) hb1)
    clear hK K
    try simp only [Act.put, List.setIfInBounds_toArray, List.set_cons_zero, List.set_cons_succ]
    refine wpAnyH_take (i := 4) (oi := { dst := some 9, op := Op.binOp BinOp.eql 3 (Operand.tmp 7) (Operand.tmp 8) 3, type := 4, pos := "table.go:40", after := #[{ on := 2, ground := Ground.data }, { on := 3, ground := Ground.data }], guard := none }) (v := .bool false) rfl (by kernel_rfl) (by kernel_rfl) (by kernel_rfl) (fun _ _ _ h => h) (Or.inl ⟨by rfl, ?_⟩) hHeld ?_
    · intro w hSw
      go_simp
    try simp only [Act.put, List.setIfInBounds_toArray, List.set_cons_zero, List.set_cons_succ]
    refine wpAnyH_take (i := 5) (oi := { dst := some 10, op := Op.move (Operand.tmp 9), type := 4, pos := "table.go:40", after := #[{ on := 4, ground := Ground.data }, { on := 2, ground := Ground.chain }], guard := none }) (v := .bool false) rfl (by kernel_rfl) (by kernel_rfl) (by kernel_rfl) (fun _ _ _ h => h) (Or.inl ⟨by rfl, ?_⟩) hHeld ?_
    · intro w hSw
      go_simp
    try simp only [Act.put, List.setIfInBounds_toArray, List.set_cons_zero, List.set_cons_succ]
    refine wpAnyH_take (i := 6) (oi := { dst := some 11, op := Op.fieldAddr 29 (Operand.tmp 3) 0, type := 0, pos := "table.go:40", after := #[{ on := 5, ground := Ground.guard }], guard := some (5, true) }) (v := undef) rfl (by kernel_rfl) (by kernel_rfl) (by kernel_rfl) (fun _ _ _ h => h) (Or.inr ⟨by rfl, rfl⟩) hHeld ?_
    try simp only [Act.put, List.setIfInBounds_toArray, List.set_cons_zero, List.set_cons_succ]
    refine wpAnyH_take (i := 7) (oi := { dst := some 12, op := Op.load 3 (Operand.tmp 11), type := 3, pos := "table.go:40", after := #[{ on := 6, ground := Ground.data }, { on := 5, ground := Ground.guard }], guard := some (5, true) }) (v := undef) rfl (by kernel_rfl) (by kernel_rfl) (by kernel_rfl) (fun _ _ _ h => h) (Or.inr ⟨by rfl, rfl⟩) hHeld ?_
    try simp only [Act.put, List.setIfInBounds_toArray, List.set_cons_zero, List.set_cons_succ]
    refine wpAnyH_take (i := 8) (oi := { dst := some 13, op := Op.call { callee := Callee.value (Operand.func 22), args := #[Operand.tmp 12], argTypes := #[3] }, type := 49, pos := "table.go:40", after := #[{ on := 7, ground := Ground.data }, { on := 5, ground := Ground.chain }, { on := 5, ground := Ground.guard }], guard := some (5, true) }) (v := undef) rfl (by kernel_rfl) (by kernel_rfl) (by kernel_rfl) (fun _ _ _ h => h) (Or.inr ⟨by rfl, rfl⟩) hHeld ?_
    try simp only [Act.put, List.setIfInBounds_toArray, List.set_cons_zero, List.set_cons_succ]
    refine wpAnyH_take (i := 9) (oi := { dst := some 14, op := Op.load 29 (Operand.tmp 3), type := 29, pos := "table.go:40", after := #[{ on := 5, ground := Ground.guard }], guard := some (5, true) }) (v := undef) rfl (by kernel_rfl) (by kernel_rfl) (by kernel_rfl) (fun _ _ _ h => h) (Or.inr ⟨by rfl, rfl⟩) hHeld ?_
    try simp only [Act.put, List.setIfInBounds_toArray, List.set_cons_zero, List.set_cons_succ]
    refine wpAnyH_take (i := 10) (oi := { dst := some 15, op := Op.call { callee := Callee.invoke (Operand.tmp 13) "endonym/table.spoken", args := #[Operand.tmp 14], argTypes := #[29] }, type := 47, pos := "table.go:40", after := #[{ on := 8, ground := Ground.data }, { on := 9, ground := Ground.data }, { on := 8, ground := Ground.chain }, { on := 5, ground := Ground.guard }], guard := some (5, true) }) (v := undef) rfl (by kernel_rfl) (by kernel_rfl) (by kernel_rfl) (fun _ _ _ h => h) (Or.inr ⟨by rfl, rfl⟩) hHeld ?_
    try simp only [Act.put, List.setIfInBounds_toArray, List.set_cons_zero, List.set_cons_succ]
    refine wpAnyH_take (i := 11) (oi := { dst := some 16, op := Op.load 21 (Operand.tmp 2), type := 21, pos := "table.go:40", after := #[{ on := 5, ground := Ground.guard }], guard := some (5, true) }) (v := undef) rfl (by kernel_rfl) (by kernel_rfl) (by kernel_rfl) (fun _ _ _ h => h) (Or.inr ⟨by rfl, rfl⟩) hHeld ?_
    try simp only [Act.put, List.setIfInBounds_toArray, List.set_cons_zero, List.set_cons_succ]
    refine wpAnyH_take (i := 12) (oi := { dst := some 17, op := Op.convert 21 3 (Operand.tmp 16), type := 3, pos := "table.go:40", after := #[{ on := 11, ground := Ground.data }, { on := 5, ground := Ground.guard }], guard := some (5, true) }) (v := undef) rfl (by kernel_rfl) (by kernel_rfl) (by kernel_rfl) (fun _ _ _ h => h) (Or.inr ⟨by rfl, rfl⟩) hHeld ?_
    try simp only [Act.put, List.setIfInBounds_toArray, List.set_cons_zero, List.set_cons_succ]
    refine wpAnyH_take (i := 13) (oi := { dst := some 18, op := Op.call { callee := Callee.value (Operand.func 23), args := #[Operand.tmp 15, Operand.tmp 17], argTypes := #[47, 3] }, type := 4, pos := "table.go:40", after := #[{ on := 10, ground := Ground.data }, { on := 12, ground := Ground.data }, { on := 10, ground := Ground.chain }, { on := 5, ground := Ground.guard }], guard := some (5, true) }) (v := undef) rfl (by kernel_rfl) (by kernel_rfl) (by kernel_rfl) (fun _ _ _ h => h) (Or.inr ⟨by rfl, rfl⟩) hHeld ?_
    try simp only [Act.put, List.setIfInBounds_toArray, List.set_cons_zero, List.set_cons_succ]
    refine wpAnyH_take (i := 14) (oi := { dst := some 19, op := Op.pick (Operand.tmp 10) (Operand.tmp 18) (Operand.const (Value.bool false)), type := 4, pos := "table.go:40", after := #[{ on := 5, ground := Ground.data }, { on := 13, ground := Ground.data }], guard := none }) (v := .bool false) rfl (by kernel_rfl) (by kernel_rfl) (by kernel_rfl) (fun _ _ _ h => h) (Or.inl ⟨by rfl, ?_⟩) hHeld ?_
    · intro w hSw
      go_simp
    try simp only [Act.put, List.setIfInBounds_toArray, List.set_cons_zero, List.set_cons_succ]
    refine wpAnyH_take (i := 15) (oi := { dst := some 4, op := Op.assign (Operand.tmp 19), type := 4, pos := "table.go:40", after := #[{ on := 14, ground := Ground.data }, { on := 13, ground := Ground.chain }, { on := 0, ground := Ground.phase }, { on := 1, ground := Ground.phase }, { on := 2, ground := Ground.phase }, { on := 3, ground := Ground.phase }, { on := 4, ground := Ground.phase }, { on := 5, ground := Ground.phase }, { on := 6, ground := Ground.phase }, { on := 7, ground := Ground.phase }, { on := 8, ground := Ground.phase }, { on := 9, ground := Ground.phase }, { on := 10, ground := Ground.phase }, { on := 11, ground := Ground.phase }, { on := 12, ground := Ground.phase }, { on := 13, ground := Ground.phase }, { on := 14, ground := Ground.phase }], guard := none }) (v := .bool false) rfl (by kernel_rfl) (by kernel_rfl) (by kernel_rfl) (fun _ _ _ h => h) (Or.inl ⟨by rfl, ?_⟩) hHeld ?_
    · intro w hSw
      go_simp
    try simp only [Act.put, List.setIfInBounds_toArray, List.set_cons_zero, List.set_cons_succ]
    refine wpAnyH_done (by kernel_rfl) ?_ _
    have HF : BoolB w false (.returned (.bool false)) w1 := ⟨rfl, bthen hb0 ((unhide SI) _ hHeld)⟩
    clear hHeld KF SM SI
    go_wp2
    go_ret
    exact HF
end Go.Proofs.YtceflkeaenepcaaGreatDoor
