/- What two scripts' mixes come to in the ledger. -/
import Derived.Test.YtdnkfnccbmbpaaaGreatDoorMTbT7
namespace Go.Proofs.YtdnkfnccbmbpaaaGreatDoor
open Go.RowKit Go.MapKept Go.WideMaps
open Go.ChangeMaps (setBlock)

theorem below_setB (B : Nat) (w : World) (r : Nat) (o : Obj) (h : B ≤ r) : Below B w (setBlock w r o) := by
  refine ⟨rfl, rfl, rfl, ?_, fun k hk => ?_⟩
  · show w.heap.size ≤ (w.heap.setIfInBounds r o).size
    simp
  · show (w.heap.setIfInBounds r o)[k]? = w.heap[k]?
    rw [Array.getElem?_setIfInBounds_ne (by omega)]
theorem setB_at (w : World) (r : Nat) (o : Obj) (h : r < w.heap.size) : (setBlock w r o).heap[r]? = some o := by
  show (w.heap.setIfInBounds r o)[r]? = some o
  simp [h]
theorem setB_far (w : World) {r k : Nat} (o : Obj) (h : k ≠ r) : (setBlock w r o).heap[k]? = w.heap[k]? := by
  show (w.heap.setIfInBounds r o)[k]? = w.heap[k]?
  rw [Array.getElem?_setIfInBounds_ne (fun e => h e.symm)]
theorem cell_far {w : World} {r L i : Nat} {v : Value} (o : Obj) (h : L ≠ r) (hc : w.cell? ⟨L, i, none⟩ = some v) : (setBlock w r o).cell? ⟨L, i, none⟩ = some v := by
  unfold World.cell? at *
  rw [setB_far w o h]
  exact hc
/-- Nothing but block r is another. -/
structure But (r : Nat) (w w' : World) : Prop where
  size : w'.heap.size = w.heap.size
  far : ∀ k, k ≠ r → w'.heap[k]? = w.heap[k]?
  below : ∀ B, B ≤ r → Below B w w'
def MixB (w : World) (r : Nat) (c : ByteArray → ByteArray → Int) (a b : ByteArray) (e : Ending) (w' : World) : Prop := e = .returned (.bool (decide (0 < c a b))) ∧ MAt w' r (incr c a b) ∧ But r w w'
set_option maxRecDepth 20000 in
set_option maxHeartbeats 4000000 in
theorem mixed_any (L r : Nat) (a b : ByteArray) (c : ByteArray → ByteArray → Int) (w : World) (hL : w.cell? ⟨L, 11, none⟩ = some (.map (some r))) (hLr : L ≠ r) (hm : MAt w r c) (ha : Sh a) (hb : Sh b) (hc : 0 ≤ c a b ∧ c a b ≤ 100000) :
    Calls Tryz.prog 67 #[.pointer (some ⟨L, 0, none⟩), .string a, .string b] w (MixB w r c a b) := by
  obtain ⟨es, clock, h0, hobj⟩ := hm
  have hr : r < w.heap.size := by
    rcases Nat.lt_or_ge r w.heap.size with hh | hh
    · exact hh
    · rw [Array.getElem?_eq_none hh] at h0; cases h0
  have h0d : w.drew.heap[r]? = some (.map es clock) := h0
  obtain ⟨st, es1, clock1, e1, ho1, e2⟩ := run_entry h0d hobj ha hb
  have hW1 : (setBlock w.drew r (.map es1 clock1)).heap[r]? = some (.map es1 clock1) := setB_at _ _ _ hr
  obtain ⟨es2, clock2, e3, ho2⟩ := e2 _ hW1
  have hW2 : (setBlock (setBlock w.drew r (.map es1 clock1)) r (.map es2 clock2)).heap[r]? = some (.map es2 clock2) := setB_at _ _ _ (by simpa [setBlock] using hr)
  have l0 := run_look h0d hobj ha hb
  have l1 := run_look hW1 ho1 ha hb
  have l2 := run_look hW2 ho2 ha hb
  have cL0 : w.drew.cell? ⟨L, 11, none⟩ = some (.map (some r)) := hL
  have cL1 := cell_far (.map es1 clock1) hLr cL0
  have cL2 := cell_far (.map es2 clock2) hLr cL1
  have hBut : But r w (setBlock (setBlock w.drew r (.map es1 clock1)) r (.map es2 clock2)) := ⟨by simp [setBlock], fun k hk => by rw [setB_far _ _ hk, setB_far _ _ hk]; rfl, fun B hB => by
    have h1 : Below B w w.drew := ⟨rfl, rfl, rfl, Nat.le_refl _, fun _ _ => rfl⟩
    exact (h1.trans (below_setB B w.drew r _ hB)).trans (below_setB B _ r _ hB)⟩
  have HF : MixB w r c a b (.returned (.bool (decide (0 < c a b)))) (setBlock (setBlock w.drew r (.map es1 clock1)) r (.map es2 clock2)) := ⟨rfl, ⟨es2, clock2, hW2, ho2⟩, hBut⟩
  have hinc : incr c a b a b = c a b + 1 := by unfold incr; rw [if_pos ⟨rfl, rfl⟩]
  rw [hinc] at l2
  unfold pk goInt at *
  generalize hn : c a b = n at *
  have hw : IntKind.i64.wrap (n + 1) = n + 1 := IntWalk.i64_in _ ⟨by omega, by omega⟩
  have hgt : decide (1 < n + 1) = decide (0 < n) := decide_eq_decide.2 (by omega)
  clear h0 hobj hr h0d e2 ho1 ho2 hW1 hW2 hBut hinc hn
  generalize hW2 : setBlock (setBlock w.drew r (.map es1 clock1)) r (.map es2 clock2) = W2 at *
  generalize hW1 : setBlock w.drew r (.map es1 clock1) = W1 at *
  clear hW1 hW2
  go_enter Tryz.func67, Tryz.ntmps67
  go_wp2
  refine wp_region_held_drew (S := fun w' => w'.cell? ⟨L, 11, none⟩ = some (.map (some r))) (by kernel_rfl) (cL0) (fun hHeld => ?_)
  refine wpAnyH_take (i := 0) (oi := { dst := some 7, op := Op.move (Operand.tmp 0), type := 81, pos := "check.go:78", after := #[], guard := none }) (v := .pointer (some ⟨L, 0, none⟩)) rfl (by kernel_rfl) (by kernel_rfl) (by kernel_rfl) (fun _ _ _ h => h) (Or.inl ⟨by rfl, ?_⟩) hHeld ?_
  · intro w hSw
    go_simp
  try simp only [Act.put, List.setIfInBounds_toArray, List.set_cons_zero, List.set_cons_succ]
  refine wpAnyH_take (i := 1) (oi := { dst := some 8, op := Op.nilCheck (Operand.tmp 7), type := 0, pos := "check.go:78", after := #[{ on := 0, ground := Ground.data }], guard := none }) (v := .pointer (some ⟨L, 0, none⟩)) rfl (by kernel_rfl) (by kernel_rfl) (by kernel_rfl) (fun _ _ _ h => h) (Or.inl ⟨by rfl, ?_⟩) hHeld ?_
  · intro w hSw
    go_simp
  try simp only [Act.put, List.setIfInBounds_toArray, List.set_cons_zero, List.set_cons_succ]
  refine wpAnyH_take (i := 2) (oi := { dst := some 9, op := Op.fieldAddr 86 (Operand.tmp 8) 1, type := 0, pos := "check.go:78", after := #[{ on := 1, ground := Ground.data }], guard := none }) (v := .pointer (some ⟨L, 11, none⟩)) rfl (by kernel_rfl) (by kernel_rfl) (by kernel_rfl) (fun _ _ _ h => h) (Or.inl ⟨by rfl, ?_⟩) hHeld ?_
  · intro w hSw
    go_simp
  try simp only [Act.put, List.setIfInBounds_toArray, List.set_cons_zero, List.set_cons_succ]
  refine wpAnyH_take (i := 3) (oi := { dst := some 10, op := Op.load 82 (Operand.tmp 9), type := 82, pos := "check.go:78", after := #[{ on := 2, ground := Ground.data }], guard := none }) (v := .map (some r)) rfl (by kernel_rfl) (by kernel_rfl) (by kernel_rfl) (fun _ _ _ h => h) (Or.inl ⟨by rfl, ?_⟩) hHeld ?_
  · intro w hSw
    go_simp
  try simp only [Act.put, List.setIfInBounds_toArray, List.set_cons_zero, List.set_cons_succ]
  refine wpAnyH_take (i := 4) (oi := { dst := some 11, op := Op.move (Operand.tmp 1), type := 9, pos := "check.go:78", after := #[], guard := none }) (v := .string a) rfl (by kernel_rfl) (by kernel_rfl) (by kernel_rfl) (fun _ _ _ h => h) (Or.inl ⟨by rfl, ?_⟩) hHeld ?_
  · intro w hSw
    go_simp
  try simp only [Act.put, List.setIfInBounds_toArray, List.set_cons_zero, List.set_cons_succ]
  refine wpAnyH_take (i := 5) (oi := { dst := some 12, op := Op.move (Operand.tmp 2), type := 9, pos := "check.go:78", after := #[], guard := none }) (v := .string b) rfl (by kernel_rfl) (by kernel_rfl) (by kernel_rfl) (fun _ _ _ h => h) (Or.inl ⟨by rfl, ?_⟩) hHeld ?_
  · intro w hSw
    go_simp
  try simp only [Act.put, List.setIfInBounds_toArray, List.set_cons_zero, List.set_cons_succ]
  refine wpAnyH_take (i := 6) (oi := { dst := some 13, op := Op.build 139 #[(0, Operand.tmp 11), (1, Operand.tmp 12)], type := 139, pos := "check.go:78", after := #[{ on := 4, ground := Ground.data }, { on := 5, ground := Ground.data }], guard := none }) (v := .agg #[.string a, .string b]) rfl (by kernel_rfl) (by kernel_rfl) (by kernel_rfl) (fun _ _ _ h => h) (Or.inl ⟨by rfl, ?_⟩) hHeld ?_
  · intro w hSw
    go_simp
  try simp only [Act.put, List.setIfInBounds_toArray, List.set_cons_zero, List.set_cons_succ]
  refine wpAnyH_ready (rs := [7, 9]) (by kernel_rfl) (by simp) ?_
  refine AllReadyH.cons (o := { dst := some 14, op := Op.lookup 82 (Operand.tmp 10) (Operand.tmp 13) false, type := 3, pos := "check.go:78", after := #[{ on := 3, ground := Ground.data }, { on := 6, ground := Ground.data }], guard := none }) rfl (fun K hK => ?_) (AllReadyH.cons (o := { dst := some 16, op := Op.mapEntry 82 (Operand.tmp 10) (Operand.tmp 13), type := 0, pos := "check.go:78", after := #[{ on := 3, ground := Ground.data }, { on := 6, ground := Ground.data }, { on := 0, ground := Ground.phase }, { on := 1, ground := Ground.phase }, { on := 2, ground := Ground.phase }, { on := 3, ground := Ground.phase }, { on := 4, ground := Ground.phase }, { on := 5, ground := Ground.phase }, { on := 6, ground := Ground.phase }, { on := 7, ground := Ground.textOnly Departure.mapOpAssignEntry }, { on := 8, ground := Ground.textOnly Departure.mapOpAssignEntry }], guard := none }) rfl (fun K hK => ?_) AllReadyH.nil)
  · go_simp
    refine hK.out _ _ ?_ (fun hHeld => ?_)
    · exact cL0
    clear hK K
    try simp only [Act.put, List.setIfInBounds_toArray, List.set_cons_zero, List.set_cons_succ]
    refine wpAnyH_take (i := 8) (oi := { dst := some 15, op := Op.binOp BinOp.add 3 (Operand.tmp 14) (Operand.const (Value.int IntKind.i64 1)) 3, type := 3, pos := "check.go:78", after := #[{ on := 7, ground := Ground.data }], guard := none }) (v := .int .i64 (n + 1)) rfl (by kernel_rfl) (by kernel_rfl) (by kernel_rfl) (fun _ _ _ h => h) (Or.inl ⟨by rfl, ?_⟩) hHeld ?_
    · intro w hSw
      go_simp
    try simp only [Act.put, List.setIfInBounds_toArray, List.set_cons_zero, List.set_cons_succ]
    refine wpAnyH_ready (rs := [9]) (by kernel_rfl) (by simp) ?_
    refine AllReadyH.cons (o := { dst := some 16, op := Op.mapEntry 82 (Operand.tmp 10) (Operand.tmp 13), type := 0, pos := "check.go:78", after := #[{ on := 3, ground := Ground.data }, { on := 6, ground := Ground.data }, { on := 0, ground := Ground.phase }, { on := 1, ground := Ground.phase }, { on := 2, ground := Ground.phase }, { on := 3, ground := Ground.phase }, { on := 4, ground := Ground.phase }, { on := 5, ground := Ground.phase }, { on := 6, ground := Ground.phase }, { on := 7, ground := Ground.textOnly Departure.mapOpAssignEntry }, { on := 8, ground := Ground.textOnly Departure.mapOpAssignEntry }], guard := none }) rfl (fun K hK => ?_) AllReadyH.nil
    go_simp
    refine hK.out _ _ ?_ (fun hHeld => ?_)
    · exact cL1
    clear hK K
    try simp only [Act.put, List.setIfInBounds_toArray, List.set_cons_zero, List.set_cons_succ]
    refine wpAnyH_take (i := 10) (oi := { dst := some 17, op := Op.extract (Operand.tmp 16) 1, type := 3, pos := "check.go:78", after := #[{ on := 9, ground := Ground.data }], guard := none }) (v := .int .i64 (st : Int)) rfl (by kernel_rfl) (by kernel_rfl) (by kernel_rfl) (fun _ _ _ h => h) (Or.inl ⟨by rfl, ?_⟩) hHeld ?_
    · intro w hSw
      go_simp
    try simp only [Act.put, List.setIfInBounds_toArray, List.set_cons_zero, List.set_cons_succ]
    refine wpAnyH_ready (rs := [11]) (by kernel_rfl) (by simp) ?_
    refine AllReadyH.cons (o := { dst := none, op := Op.entryStore 82 (Operand.tmp 10) (Operand.tmp 17) (Operand.tmp 15), type := 0, pos := "check.go:78", after := #[{ on := 3, ground := Ground.data }, { on := 10, ground := Ground.data }, { on := 8, ground := Ground.data }, { on := 9, ground := Ground.chain }, { on := 0, ground := Ground.phase }, { on := 1, ground := Ground.phase }, { on := 2, ground := Ground.phase }, { on := 3, ground := Ground.phase }, { on := 4, ground := Ground.phase }, { on := 5, ground := Ground.phase }, { on := 6, ground := Ground.phase }, { on := 7, ground := Ground.phase }, { on := 8, ground := Ground.phase }, { on := 9, ground := Ground.phase }, { on := 10, ground := Ground.phase }], guard := none }) rfl (fun K hK => ?_) AllReadyH.nil
    go_simp
    refine hK.out _ _ ?_ (fun hHeld => ?_)
    · exact cL2
    clear hK K
    try simp only [Act.put, List.setIfInBounds_toArray, List.set_cons_zero, List.set_cons_succ]
    refine wpAnyH_done (by kernel_rfl) ?_ _
    go_wp2
    go_ret
    exact HF
  · go_simp
    refine hK.out _ _ ?_ (fun hHeld => ?_)
    · exact cL1
    clear hK K
    try simp only [Act.put, List.setIfInBounds_toArray, List.set_cons_zero, List.set_cons_succ]
    refine wpAnyH_take (i := 10) (oi := { dst := some 17, op := Op.extract (Operand.tmp 16) 1, type := 3, pos := "check.go:78", after := #[{ on := 9, ground := Ground.data }], guard := none }) (v := .int .i64 (st : Int)) rfl (by kernel_rfl) (by kernel_rfl) (by kernel_rfl) (fun _ _ _ h => h) (Or.inl ⟨by rfl, ?_⟩) hHeld ?_
    · intro w hSw
      go_simp
    try simp only [Act.put, List.setIfInBounds_toArray, List.set_cons_zero, List.set_cons_succ]
    refine wpAnyH_ready (rs := [7]) (by kernel_rfl) (by simp) ?_
    refine AllReadyH.cons (o := { dst := some 14, op := Op.lookup 82 (Operand.tmp 10) (Operand.tmp 13) false, type := 3, pos := "check.go:78", after := #[{ on := 3, ground := Ground.data }, { on := 6, ground := Ground.data }], guard := none }) rfl (fun K hK => ?_) AllReadyH.nil
    go_simp
    refine hK.out _ _ ?_ (fun hHeld => ?_)
    · exact cL1
    clear hK K
    try simp only [Act.put, List.setIfInBounds_toArray, List.set_cons_zero, List.set_cons_succ]
    refine wpAnyH_take (i := 8) (oi := { dst := some 15, op := Op.binOp BinOp.add 3 (Operand.tmp 14) (Operand.const (Value.int IntKind.i64 1)) 3, type := 3, pos := "check.go:78", after := #[{ on := 7, ground := Ground.data }], guard := none }) (v := .int .i64 (n + 1)) rfl (by kernel_rfl) (by kernel_rfl) (by kernel_rfl) (fun _ _ _ h => h) (Or.inl ⟨by rfl, ?_⟩) hHeld ?_
    · intro w hSw
      go_simp
    try simp only [Act.put, List.setIfInBounds_toArray, List.set_cons_zero, List.set_cons_succ]
    refine wpAnyH_ready (rs := [11]) (by kernel_rfl) (by simp) ?_
    refine AllReadyH.cons (o := { dst := none, op := Op.entryStore 82 (Operand.tmp 10) (Operand.tmp 17) (Operand.tmp 15), type := 0, pos := "check.go:78", after := #[{ on := 3, ground := Ground.data }, { on := 10, ground := Ground.data }, { on := 8, ground := Ground.data }, { on := 9, ground := Ground.chain }, { on := 0, ground := Ground.phase }, { on := 1, ground := Ground.phase }, { on := 2, ground := Ground.phase }, { on := 3, ground := Ground.phase }, { on := 4, ground := Ground.phase }, { on := 5, ground := Ground.phase }, { on := 6, ground := Ground.phase }, { on := 7, ground := Ground.phase }, { on := 8, ground := Ground.phase }, { on := 9, ground := Ground.phase }, { on := 10, ground := Ground.phase }], guard := none }) rfl (fun K hK => ?_) AllReadyH.nil
    go_simp
    refine hK.out _ _ ?_ (fun hHeld => ?_)
    · exact cL2
    clear hK K
    try simp only [Act.put, List.setIfInBounds_toArray, List.set_cons_zero, List.set_cons_succ]
    refine wpAnyH_done (by kernel_rfl) ?_ _
    go_wp2
    go_ret
    exact HF
end Go.Proofs.YtdnkfnccbmbpaaaGreatDoor
