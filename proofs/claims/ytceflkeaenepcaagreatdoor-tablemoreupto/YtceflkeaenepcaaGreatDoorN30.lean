import Derived.Test.YtceflkeaenepcaaGreatDoorN29
import Derived.Test.YtceflkeaenepcaaGreatDoorN3
import Derived.Deep.AppendLies
namespace Go.Proofs.YtceflkeaenepcaaGreatDoor
open Go.RowKit Go.MapKept Go.WideMaps
open Go.ChangeMaps (setBlock)
theorem below_setB (B : Nat) (w : World) (r : Nat) (o : Obj) (h : B ≤ r) : Below B w (setBlock w r o) := by
  refine ⟨rfl, rfl, rfl, ?_, fun k hk => ?_⟩
  · show w.heap.size ≤ (w.heap.setIfInBounds r o).size
    simp
  · show (w.heap.setIfInBounds r o)[k]? = w.heap[k]?
    rw [Array.getElem?_setIfInBounds_ne (by omega)]
theorem setB_at (w : World) (r : Nat) (o : Obj) (h : r < w.heap.size) : (setBlock w r o).heap[r]? = some o := by
  show (w.heap.setIfInBounds r o)[r]? = some o
  simp [h]
theorem setB_far (w : World) {r k : Nat} (o : Obj) (h : k ≠ r) : (setBlock w r o).heap[k]? = w.heap[k]? := by
  show (w.heap.setIfInBounds r o)[k]? = w.heap[k]?
  rw [Array.getElem?_setIfInBounds_ne (fun e => h e.symm)]
theorem cell_far {w : World} {r L i : Nat} {v : Value} (o : Obj) (h : L ≠ r) (hc : w.cell? ⟨L, i, none⟩ = some v) : (setBlock w r o).cell? ⟨L, i, none⟩ = some v := by
  unfold World.cell? at *
  rw [setB_far w o h]
  exact hc
structure But (r : Nat) (w w' : World) : Prop where
  size : w'.heap.size = w.heap.size
  far : ∀ k, k ≠ r → w'.heap[k]? = w.heap[k]?
  below : ∀ B, B ≤ r → Below B w w'
def MixB (w : World) (r : Nat) (c : ByteArray → ByteArray → Int) (a b : ByteArray) (e : Ending) (w' : World) : Prop := e = .returned (.bool (decide (0 < c a b))) ∧ MAt w' r (incr c a b) ∧ But r w w'
set_option maxRecDepth 20000 in
set_option maxHeartbeats 4000000 in
theorem mixed_any (L r : Nat) (a b : ByteArray) (c : ByteArray → ByteArray → Int) (w : World) (hL : w.cell? ⟨L, 11, none⟩ = some (.map (some r))) (hLr : L ≠ r) (hm : MAt w r c) (ha : Sh a) (hb : Sh b) (hc : 0 ≤ c a b ∧ c a b ≤ 100000) :
    Calls Tryz.prog 43 #[.pointer (some ⟨L, 0, none⟩), .string a, .string b] w (MixB w r c a b) := by
  obtain ⟨es, clock, h0, hobj⟩ := hm
  have hr : r < w.heap.size := by
    rcases Nat.lt_or_ge r w.heap.size with hh | hh
    · exact hh
    · rw [Array.getElem?_eq_none hh] at h0; cases h0
  have h0d : w.drew.heap[r]? = some (.map es clock) := h0
  obtain ⟨st, es1, clock1, e1, ho1, e2⟩ := run_entry h0d hobj ha hb
  have hW1 : (setBlock w.drew r (.map es1 clock1)).heap[r]? = some (.map es1 clock1) := setB_at _ _ _ hr
  obtain ⟨es2, clock2, e3, ho2⟩ := e2 _ hW1
  have hW2 : (setBlock (setBlock w.drew r (.map es1 clock1)) r (.map es2 clock2)).heap[r]? = some (.map es2 clock2) := setB_at _ _ _ (by simpa [setBlock] using hr)
  have l0 := run_look h0d hobj ha hb
  have l1 := run_look hW1 ho1 ha hb
  have l2 := run_look hW2 ho2 ha hb
  have cL0 : w.drew.cell? ⟨L, 11, none⟩ = some (.map (some r)) := hL
  have cL1 := cell_far (.map es1 clock1) hLr cL0
  have cL2 := cell_far (.map es2 clock2) hLr cL1
  have hBut : But r w (setBlock (setBlock w.drew r (.map es1 clock1)) r (.map es2 clock2)) := ⟨by simp [setBlock], fun k hk => by rw [setB_far _ _ hk, setB_far _ _ hk]; rfl, fun B hB => by
    have h1 : Below B w w.drew := ⟨rfl, rfl, rfl, Nat.le_refl _, fun _ _ => rfl⟩
    exact (h1.trans (below_setB B w.drew r _ hB)).trans (below_setB B _ r _ hB)⟩
  have HF : MixB w r c a b (.returned (.bool (decide (0 < c a b)))) (setBlock (setBlock w.drew r (.map es1 clock1)) r (.map es2 clock2)) := ⟨rfl, ⟨es2, clock2, hW2, ho2⟩, hBut⟩
  have hinc : incr c a b a b = c a b + 1 := by unfold incr; rw [if_pos ⟨rfl, rfl⟩]
  rw [hinc] at l2
  unfold pk goInt at *
  generalize hn : c a b = n at *
  have hw : IntKind.i64.wrap (n + 1) = n + 1 := IntWalk.i64_in _ ⟨by omega, by omega⟩
  have hgt : decide (1 < n + 1) = decide (0 < n) := decide_eq_decide.2 (by omega)
  clear h0 hobj hr h0d e2 ho1 ho2 hW1 hW2 hBut hinc hn
  generalize hW2 : setBlock (setBlock w.drew r (.map es1 clock1)) r (.map es2 clock2) = W2 at *
  generalize hW1 : setBlock w.drew r (.map es1 clock1) = W1 at *
  clear hW1 hW2
  go_enter Tryz.func43, Tryz.ntmps43
  go_wp2
  refine wp_region_held_drew (S := fun w' => w'.cell? ⟨L, 11, none⟩ = some (.map (some r))) (by kernel_rfl) (cL0) (fun hHeld => ?_)
  refine wpAnyH_take (i := 0) (oi := { dst := some 7, op := Op.move (Operand.tmp 0), type := 66, pos := "check.go:78", after := #[], guard := none }) (v := .pointer (some ⟨L, 0, none⟩)) rfl (by kernel_rfl) (by kernel_rfl) (by kernel_rfl) (fun _ _ _ h => h) (Or.inl ⟨by rfl, ?_⟩) hHeld ?_
  · intro w hSw
    go_simp
  try simp only [Act.put, List.setIfInBounds_toArray, List.set_cons_zero, List.set_cons_succ]
  refine wpAnyH_take (i := 1) (oi := { dst := some 8, op := Op.nilCheck (Operand.tmp 7), type := 0, pos := "check.go:78", after := #[{ on := 0, ground := Ground.data }], guard := none }) (v := .pointer (some ⟨L, 0, none⟩)) rfl (by kernel_rfl) (by kernel_rfl) (by kernel_rfl) (fun _ _ _ h => h) (Or.inl ⟨by rfl, ?_⟩) hHeld ?_
  · intro w hSw
    go_simp
  try simp only [Act.put, List.setIfInBounds_toArray, List.set_cons_zero, List.set_cons_succ]
  refine wpAnyH_take (i := 2) (oi := { dst := some 9, op := Op.fieldAddr 71 (Operand.tmp 8) 1, type := 0, pos := "check.go:78", after := #[{ on := 1, ground := Ground.data }], guard := none }) (v := .pointer (some ⟨L, 11, none⟩)) rfl (by kernel_rfl) (by kernel_rfl) (by kernel_rfl) (fun _ _ _ h => h) (Or.inl ⟨by rfl, ?_⟩) hHeld ?_
  · intro w hSw
    go_simp
  try simp only [Act.put, List.setIfInBounds_toArray, List.set_cons_zero, List.set_cons_succ]
  refine wpAnyH_take (i := 3) (oi := { dst := some 10, op := Op.load 67 (Operand.tmp 9), type := 67, pos := "check.go:78", after := #[{ on := 2, ground := Ground.data }], guard := none }) (v := .map (some r)) rfl (by kernel_rfl) (by kernel_rfl) (by kernel_rfl) (fun _ _ _ h => h) (Or.inl ⟨by rfl, ?_⟩) hHeld ?_
  · intro w hSw
    go_simp
  try simp only [Act.put, List.setIfInBounds_toArray, List.set_cons_zero, List.set_cons_succ]
  refine wpAnyH_take (i := 4) (oi := { dst := some 11, op := Op.move (Operand.tmp 1), type := 9, pos := "check.go:78", after := #[], guard := none }) (v := .string a) rfl (by kernel_rfl) (by kernel_rfl) (by kernel_rfl) (fun _ _ _ h => h) (Or.inl ⟨by rfl, ?_⟩) hHeld ?_
  · intro w hSw
    go_simp
  try simp only [Act.put, List.setIfInBounds_toArray, List.set_cons_zero, List.set_cons_succ]
  refine wpAnyH_take (i := 5) (oi := { dst := some 12, op := Op.move (Operand.tmp 2), type := 9, pos := "check.go:78", after := #[], guard := none }) (v := .string b) rfl (by kernel_rfl) (by kernel_rfl) (by kernel_rfl) (fun _ _ _ h => h) (Or.inl ⟨by rfl, ?_⟩) hHeld ?_
  · intro w hSw
    go_simp
  try simp only [Act.put, List.setIfInBounds_toArray, List.set_cons_zero, List.set_cons_succ]
  refine wpAnyH_take (i := 6) (oi := { dst := some 13, op := Op.build 120 #[(0, Operand.tmp 11), (1, Operand.tmp 12)], type := 120, pos := "check.go:78", after := #[{ on := 4, ground := Ground.data }, { on := 5, ground := Ground.data }], guard := none }) (v := .agg #[.string a, .string b]) rfl (by kernel_rfl) (by kernel_rfl) (by kernel_rfl) (fun _ _ _ h => h) (Or.inl ⟨by rfl, ?_⟩) hHeld ?_
  · intro w hSw
    go_simp
  try simp only [Act.put, List.setIfInBounds_toArray, List.set_cons_zero, List.set_cons_succ]
  refine wpAnyH_ready (rs := [7, 9]) (by kernel_rfl) (by simp) ?_
  refine AllReadyH.cons (o := { dst := some 14, op := Op.lookup 67 (Operand.tmp 10) (Operand.tmp 13) false, type := 3, pos := "check.go:78", after := #[{ on := 3, ground := Ground.data }, { on := 6, ground := Ground.data }], guard := none }) rfl (fun K hK => ?_) (AllReadyH.cons (o := { dst := some 16, op := Op.mapEntry 67 (Operand.tmp 10) (Operand.tmp 13), type := 0, pos := "check.go:78", after := #[{ on := 3, ground := Ground.data }, { on := 6, ground := Ground.data }, { on := 0, ground := Ground.phase }, { on := 1, ground := Ground.phase }, { on := 2, ground := Ground.phase }, { on := 3, ground := Ground.phase }, { on := 4, ground := Ground.phase }, { on := 5, ground := Ground.phase }, { on := 6, ground := Ground.phase }, { on := 7, ground := Ground.textOnly Departure.mapOpAssignEntry }, { on := 8, ground := Ground.textOnly Departure.mapOpAssignEntry }], guard := none }) rfl (fun K hK => ?_) AllReadyH.nil)
  · go_simp
    refine hK.out _ _ ?_ (fun hHeld => ?_)
    · exact cL0
    clear hK K
    try simp only [Act.put, List.setIfInBounds_toArray, List.set_cons_zero, List.set_cons_succ]
    refine wpAnyH_take (i := 8) (oi := { dst := some 15, op := Op.binOp BinOp.add 3 (Operand.tmp 14) (Operand.const (Value.int IntKind.i64 1)) 3, type := 3, pos := "check.go:78", after := #[{ on := 7, ground := Ground.data }], guard := none }) (v := .int .i64 (n + 1)) rfl (by kernel_rfl) (by kernel_rfl) (by kernel_rfl) (fun _ _ _ h => h) (Or.inl ⟨by rfl, ?_⟩) hHeld ?_
    · intro w hSw
      go_simp
    try simp only [Act.put, List.setIfInBounds_toArray, List.set_cons_zero, List.set_cons_succ]
    refine wpAnyH_ready (rs := [9]) (by kernel_rfl) (by simp) ?_
    refine AllReadyH.cons (o := { dst := some 16, op := Op.mapEntry 67 (Operand.tmp 10) (Operand.tmp 13), type := 0, pos := "check.go:78", after := #[{ on := 3, ground := Ground.data }, { on := 6, ground := Ground.data }, { on := 0, ground := Ground.phase }, { on := 1, ground := Ground.phase }, { on := 2, ground := Ground.phase }, { on := 3, ground := Ground.phase }, { on := 4, ground := Ground.phase }, { on := 5, ground := Ground.phase }, { on := 6, ground := Ground.phase }, { on := 7, ground := Ground.textOnly Departure.mapOpAssignEntry }, { on := 8, ground := Ground.textOnly Departure.mapOpAssignEntry }], guard := none }) rfl (fun K hK => ?_) AllReadyH.nil
    go_simp
    refine hK.out _ _ ?_ (fun hHeld => ?_)
    · exact cL1
    clear hK K
    try simp only [Act.put, List.setIfInBounds_toArray, List.set_cons_zero, List.set_cons_succ]
    refine wpAnyH_take (i := 10) (oi := { dst := some 17, op := Op.extract (Operand.tmp 16) 1, type := 3, pos := "check.go:78", after := #[{ on := 9, ground := Ground.data }], guard := none }) (v := .int .i64 (st : Int)) rfl (by kernel_rfl) (by kernel_rfl) (by kernel_rfl) (fun _ _ _ h => h) (Or.inl ⟨by rfl, ?_⟩) hHeld ?_
    · intro w hSw
      go_simp
    try simp only [Act.put, List.setIfInBounds_toArray, List.set_cons_zero, List.set_cons_succ]
    refine wpAnyH_ready (rs := [11]) (by kernel_rfl) (by simp) ?_
    refine AllReadyH.cons (o := { dst := none, op := Op.entryStore 67 (Operand.tmp 10) (Operand.tmp 17) (Operand.tmp 15), type := 0, pos := "check.go:78", after := #[{ on := 3, ground := Ground.data }, { on := 10, ground := Ground.data }, { on := 8, ground := Ground.data }, { on := 9, ground := Ground.chain }, { on := 0, ground := Ground.phase }, { on := 1, ground := Ground.phase }, { on := 2, ground := Ground.phase }, { on := 3, ground := Ground.phase }, { on := 4, ground := Ground.phase }, { on := 5, ground := Ground.phase }, { on := 6, ground := Ground.phase }, { on := 7, ground := Ground.phase }, { on := 8, ground := Ground.phase }, { on := 9, ground := Ground.phase }, { on := 10, ground := Ground.phase }], guard := none }) rfl (fun K hK => ?_) AllReadyH.nil
    go_simp
    refine hK.out _ _ ?_ (fun hHeld => ?_)
    · exact cL2
    clear hK K
    try simp only [Act.put, List.setIfInBounds_toArray, List.set_cons_zero, List.set_cons_succ]
    refine wpAnyH_done (by kernel_rfl) ?_ _
    go_wp2
    go_ret
    exact HF
  · go_simp
    refine hK.out _ _ ?_ (fun hHeld => ?_)
    · exact cL1
    clear hK K
    try simp only [Act.put, List.setIfInBounds_toArray, List.set_cons_zero, List.set_cons_succ]
    refine wpAnyH_take (i := 10) (oi := { dst := some 17, op := Op.extract (Operand.tmp 16) 1, type := 3, pos := "check.go:78", after := #[{ on := 9, ground := Ground.data }], guard := none }) (v := .int .i64 (st : Int)) rfl (by kernel_rfl) (by kernel_rfl) (by kernel_rfl) (fun _ _ _ h => h) (Or.inl ⟨by rfl, ?_⟩) hHeld ?_
    · intro w hSw
      go_simp
    try simp only [Act.put, List.setIfInBounds_toArray, List.set_cons_zero, List.set_cons_succ]
    refine wpAnyH_ready (rs := [7]) (by kernel_rfl) (by simp) ?_
    refine AllReadyH.cons (o := { dst := some 14, op := Op.lookup 67 (Operand.tmp 10) (Operand.tmp 13) false, type := 3, pos := "check.go:78", after := #[{ on := 3, ground := Ground.data }, { on := 6, ground := Ground.data }], guard := none }) rfl (fun K hK => ?_) AllReadyH.nil
    go_simp
    refine hK.out _ _ ?_ (fun hHeld => ?_)
    · exact cL1
    clear hK K
    try simp only [Act.put, List.setIfInBounds_toArray, List.set_cons_zero, List.set_cons_succ]
    refine wpAnyH_take (i := 8) (oi := { dst := some 15, op := Op.binOp BinOp.add 3 (Operand.tmp 14) (Operand.const (Value.int IntKind.i64 1)) 3, type := 3, pos := "check.go:78", after := #[{ on := 7, ground := Ground.data }], guard := none }) (v := .int .i64 (n + 1)) rfl (by kernel_rfl) (by kernel_rfl) (by kernel_rfl) (fun _ _ _ h => h) (Or.inl ⟨by rfl, ?_⟩) hHeld ?_
    · intro w hSw
      go_simp
    try simp only [Act.put, List.setIfInBounds_toArray, List.set_cons_zero, List.set_cons_succ]
    refine wpAnyH_ready (rs := [11]) (by kernel_rfl) (by simp) ?_
    refine AllReadyH.cons (o := { dst := none, op := Op.entryStore 67 (Operand.tmp 10) (Operand.tmp 17) (Operand.tmp 15), type := 0, pos := "check.go:78", after := #[{ on := 3, ground := Ground.data }, { on := 10, ground := Ground.data }, { on := 8, ground := Ground.data }, { on := 9, ground := Ground.chain }, { on := 0, ground := Ground.phase }, { on := 1, ground := Ground.phase }, { on := 2, ground := Ground.phase }, { on := 3, ground := Ground.phase }, { on := 4, ground := Ground.phase }, { on := 5, ground := Ground.phase }, { on := 6, ground := Ground.phase }, { on := 7, ground := Ground.phase }, { on := 8, ground := Ground.phase }, { on := 9, ground := Ground.phase }, { on := 10, ground := Ground.phase }], guard := none }) rfl (fun K hK => ?_) AllReadyH.nil
    go_simp
    refine hK.out _ _ ?_ (fun hHeld => ?_)
    · exact cL2
    clear hK K
    try simp only [Act.put, List.setIfInBounds_toArray, List.set_cons_zero, List.set_cons_succ]
    refine wpAnyH_done (by kernel_rfl) ?_ _
    go_wp2
    go_ret
    exact HF
end Go.Proofs.YtceflkeaenepcaaGreatDoor
namespace Go.Proofs.YtceflkeaenepcaaGreatDoor
open Go.RowKit
def ncells : List Run → List Value
  | [] => []
  | x :: l => .int .i64 x.lo :: .int .i64 x.hi :: .int .i64 x.s :: ncells l
theorem ncells_length : ∀ l : List Run, (ncells l).length = l.length * 3
  | [] => rfl
  | x :: l => by simp [ncells, ncells_length l]; omega
theorem ncells_app : ∀ (l : List Run) (x : Run), ncells (l ++ [x]) = ncells l ++ [.int .i64 x.lo, .int .i64 x.hi, .int .i64 x.s]
  | [], x => rfl
  | y :: l, x => by simp [ncells, ncells_app l x]
theorem ncells_at : ∀ (l : List Run) (i : Nat), i < l.length → (ncells l)[i * 3]? = some (.int .i64 (l.getD i Run.none).lo) ∧ (ncells l)[i * 3 + 1]? = some (.int .i64 (l.getD i Run.none).hi) ∧ (ncells l)[i * 3 + 2]? = some (.int .i64 (l.getD i Run.none).s)
  | [], i, h => by simp at h
  | x :: l, 0, _ => by simp [ncells]
  | x :: l, i + 1, h => by
    have := ncells_at l i (by simpa using h)
    rw [show (i + 1) * 3 = i * 3 + 1 + 1 + 1 by omega]
    simpa [ncells] using this
def Ln (w : World) (B : Nat) (v : Value) (xs : List Run) : Prop := xs.length ≤ 100000 ∧ w.ownsRow B 47 3 v xs.length (ncells xs)
theorem Ln.rns {w : World} {B : Nat} {v : Value} {xs : List Run} (h : Ln w B v xs) : Rns w v xs := by
  obtain ⟨h1, h2, h3⟩ := h
  refine ⟨by omega, ?_⟩
  rcases h3 with ⟨rfl, h0⟩ | ⟨g, cap, cur, rfl, _, hg, hn, hc, hs, ht⟩
  · exact .inl ⟨List.eq_nil_of_length_eq_zero h0, Option.none, 0, rfl, by omega⟩
  · refine .inr ⟨g, 0, cap, rfl, hn, by unfold maxLen at hc; omega, fun i hi => ?_⟩
    have key : ∀ j (v : Value), (ncells xs)[j]? = some v → w.cell? ⟨g, j, Option.none⟩ = some v := fun j v hv => by
      rw [← ht] at hv
      have hjl : j < xs.length * 3 := by
        rcases Nat.lt_or_ge j (xs.length * 3) with hh | hh
        · exact hh
        · rw [List.getElem?_eq_none (by rw [List.length_take]; omega)] at hv; cases hv
      rw [List.getElem?_take_of_lt hjl, Array.getElem?_toList] at hv
      have hj : j < cur.size := by rw [hs]; omega
      rw [cell_of (j := j) hg hj]
      simpa [Array.getD, hj, Array.getElem?_eq_getElem hj] using hv
    obtain ⟨a1, a2, a3⟩ := ncells_at xs i hi
    exact ⟨by rw [Nat.zero_add]; exact key _ _ a1, by rw [Nat.zero_add]; exact key _ _ a2, by rw [Nat.zero_add]; exact key _ _ a3⟩
theorem own_lt {w : World} {B e sz n : Nat} {v : Value} {us : List Value} (h : w.ownsRow B e sz v n us) {k : Nat} (hk : v.ownBlock = some k) : k < w.heap.size ∧ B ≤ k := by
  rcases h.2 with ⟨rfl, _⟩ | ⟨g, cap, cur, rfl, hb, hg, _⟩
  · cases hk
  · cases hk
    refine ⟨?_, hb⟩
    rcases Nat.lt_or_ge g w.heap.size with hh | hh
    · exact hh
    · rw [Array.getElem?_eq_none hh] at hg; cases hg
theorem alloc_at (w : World) (o : Obj) : (w.alloc o).heap[w.heap.size]? = some o := by
  show (w.heap.push o)[w.heap.size]? = _
  simp
structure LG (w : World) (B L r : Nat) (vs : Nat → Value) (fs : Nat → List Run) (c : ByteArray → ByteArray → Int) : Prop where
  bl : B ≤ L
  br : B ≤ r
  lr : L ≠ r
  blk : ∃ cur, w.heap[L]? = some (.cells cur 71 (0, 0)) ∧ cur.size = 12 ∧ (∀ f, f < 11 → cur.getD f undef = vs f) ∧ cur.getD 11 undef = .map (some r)
  map : MAt w r c
  rows : ∀ f, f < 11 → Ln w B (vs f) (fs f)
  far : ∀ f, f < 11 → ∀ k, (vs f).ownBlock = some k → k ≠ L ∧ k ≠ r
  apart : ∀ f g, f < 11 → g < 11 → f ≠ g → ∀ k, (vs f).ownBlock = some k → (vs g).ownBlock ≠ some k
theorem lt_of_block {w : World} {k : Nat} {o : Obj} (h : w.heap[k]? = some o) : k < w.heap.size := by
  rcases Nat.lt_or_ge k w.heap.size with hh | hh
  · exact hh
  · rw [Array.getElem?_eq_none hh] at h; cases h
theorem LG.keep {w W : World} {B L r : Nat} {vs : Nat → Value} {fs : Nat → List Run} {c : ByteArray → ByteArray → Int} (h : LG w B L r vs fs c) (hk : ∀ k, k < w.heap.size → W.heap[k]? = w.heap[k]?) : LG W B L r vs fs c := by
  obtain ⟨cur, h1, h2, h3, h4⟩ := h.blk
  obtain ⟨es, clock, h5, h6⟩ := h.map
  exact ⟨h.bl, h.br, h.lr, ⟨cur, by rw [hk L (lt_of_block h1)]; exact h1, h2, h3, h4⟩, ⟨es, clock, by rw [hk r (lt_of_block h5)]; exact h5, h6⟩,
    fun f hf => ⟨(h.rows f hf).1, own_keep (h.rows f hf).2 fun g hg => hk g (own_lt (h.rows f hf).2 hg).1⟩, h.far, h.apart⟩
theorem LG.on {w W : World} {B L r : Nat} {vs : Nat → Value} {fs : Nat → List Run} {c : ByteArray → ByteArray → Int} (h : LG w B L r vs fs c) (hb : Below w.heap.size w W) : LG W B L r vs fs c := h.keep hb.block
theorem LG.cell {w : World} {B L r : Nat} {vs : Nat → Value} {fs : Nat → List Run} {c : ByteArray → ByteArray → Int} (h : LG w B L r vs fs c) {f : Nat} (hf : f < 11) : w.cell? ⟨L, f, none⟩ = some (vs f) := by
  obtain ⟨cur, h1, h2, h3, h4⟩ := h.blk
  rw [cell_of (j := f) h1 (by omega), h3 f hf]
theorem LG.mcell {w : World} {B L r : Nat} {vs : Nat → Value} {fs : Nat → List Run} {c : ByteArray → ByteArray → Int} (h : LG w B L r vs fs c) : w.cell? ⟨L, 11, none⟩ = some (.map (some r)) := by
  obtain ⟨cur, h1, h2, h3, h4⟩ := h.blk
  rw [cell_of (j := 11) h1 (by omega), h4]
def upd {α : Type} (g : Nat → α) (f : Nat) (v : α) : Nat → α := fun k => if k = f then v else g k
theorem upd_same {α : Type} (g : Nat → α) (f : Nat) (v : α) : upd g f v f = v := if_pos rfl
theorem upd_other {α : Type} (g : Nat → α) {f k : Nat} (v : α) (h : k ≠ f) : upd g f v k = g k := if_neg h
theorem LG.mixed {w W : World} {B L r : Nat} {vs : Nat → Value} {fs : Nat → List Run} {c c' : ByteArray → ByteArray → Int} (h : LG w B L r vs fs c) (hm : MAt W r c') (hb : But r w W) : LG W B L r vs fs c' := by
  obtain ⟨cur, h1, h2, h3, h4⟩ := h.blk
  exact ⟨h.bl, h.br, h.lr, ⟨cur, by rw [hb.far L h.lr]; exact h1, h2, h3, h4⟩, hm,
    fun f hf => ⟨(h.rows f hf).1, own_keep (h.rows f hf).2 fun g hg => hb.far g (h.far f hf g hg).2⟩, h.far, h.apart⟩
theorem LG.more {w W w8 : World} {B L r : Nat} {vs : Nat → Value} {fs : Nat → List Run} {c : ByteArray → ByteArray → Int} {f gg cap : Nat} {x : Run} (h : LG w B L r vs fs c) (hf : f < 11) (hlen : (fs f).length < 100000)
    (hW : ∀ k, k < w.heap.size → W.heap[k]? = w.heap[k]?) (hsz : w.heap.size ≤ W.heap.size) (hg : W.grownBy w8 (vs f).ownBlock) (hat : (vs f).ownBlock = some gg ∨ gg = W.heap.size)
    (hrow : w8.ownsRow B 47 3 (.slice (some ⟨gg, 0, none⟩) ((fs f).length + 1) cap) ((fs f).length + 1) (ncells (fs f) ++ [.int .i64 x.lo, .int .i64 x.hi, .int .i64 x.s])) :
    LG (w8.setCell ⟨L, f, none⟩ (.slice (some ⟨gg, 0, none⟩) ((fs f).length + 1) cap)) B L r (upd vs f (.slice (some ⟨gg, 0, none⟩) ((fs f).length + 1) cap)) (upd fs f (fs f ++ [x])) c := by
  obtain ⟨cur, h1, h2, h3, h4⟩ := h.blk
  obtain ⟨es, clock, h5, h6⟩ := h.map
  have hL := lt_of_block h1
  have hr := lt_of_block h5
  have hnL : some L ≠ (vs f).ownBlock := fun e => (h.far f hf L e.symm).1 rfl
  have hnr : some r ≠ (vs f).ownBlock := fun e => (h.far f hf r e.symm).2 rfl
  have hggL : gg ≠ L := by
    rcases hat with e | e
    · exact (h.far f hf gg e).1
    · omega
  have hggr : gg ≠ r := by
    rcases hat with e | e
    · exact (h.far f hf gg e).2
    · omega
  have k8 : ∀ k, k < w.heap.size → some k ≠ (vs f).ownBlock → w8.heap[k]? = w.heap[k]? := fun k hk hn => (hg.block k (by omega) hn).trans (hW k hk)
  have hL8 : w8.heap[L]? = some (.cells cur 71 (0, 0)) := (k8 L hL hnL).trans h1
  have far9 : ∀ k, k ≠ L → (w8.setCell ⟨L, f, none⟩ (.slice (some ⟨gg, 0, none⟩) ((fs f).length + 1) cap)).heap[k]? = w8.heap[k]? := fun k hk => set_other _ hk
  refine ⟨h.bl, h.br, h.lr, ⟨_, set_block hL8 _, by simpa using h2, fun g hg' => ?_, ?_⟩, ⟨es, clock, by rw [far9 r (fun e => h.lr e.symm), k8 r hr hnr]; exact h5, h6⟩, fun g hg' => ?_, fun g hg' k hk => ?_, fun g1 g2 hg1 hg2 hne k hk => ?_⟩
  · by_cases e : g = f
    · subst e
      rw [upd_same]
      simp [Array.getD, h2, show g < 12 by omega]
    · rw [upd_other _ _ e, ← h3 g hg']
      simp [Array.getD, h2, show g < 12 by omega, Array.getElem_setIfInBounds_ne _ (fun e' => e e'.symm)]
  · rw [← h4]
    simp [Array.getD, h2, Array.getElem_setIfInBounds_ne _ (show f ≠ 11 by omega)]
  · by_cases e : g = f
    · subst e
      rw [upd_same, upd_same]
      refine ⟨by simp; omega, ?_⟩
      rw [ncells_app, show (fs g ++ [x]).length = (fs g).length + 1 by simp]
      exact own_keep hrow fun k hk => by
        have : gg = k := by simpa [Value.ownBlock] using hk
        subst this
        exact far9 gg hggL
    · rw [upd_other _ _ e, upd_other _ _ e]
      refine ⟨(h.rows g hg').1, own_keep (h.rows g hg').2 fun k hk => ?_⟩
      rw [far9 k (h.far g hg' k hk).1]
      exact k8 k (own_lt (h.rows g hg').2 hk).1 (fun e' => h.apart g f hg' hf e k hk e'.symm)
  · by_cases e : g = f
    · subst e
      rw [upd_same] at hk
      have : gg = k := by simpa [Value.ownBlock] using hk
      subst this
      exact ⟨hggL, hggr⟩
    · rw [upd_other _ _ e] at hk
      exact h.far g hg' k hk
  · have hgap : ∀ g, g < 11 → g ≠ f → (vs g).ownBlock ≠ some gg := fun g hg' hn e => by
      rcases hat with e' | e'
      · exact h.apart g f hg' hf hn gg e e'
      · have := (own_lt (h.rows g hg').2 e).1
        omega
    by_cases e1 : g1 = f
    · subst e1
      rw [upd_same] at hk
      have : gg = k := by simpa [Value.ownBlock] using hk
      subst this
      rw [upd_other _ _ (fun e => hne e.symm)]
      exact hgap g2 hg2 (fun e => hne e.symm)
    · rw [upd_other _ _ e1] at hk
      by_cases e2 : g2 = f
      · subst e2
        rw [upd_same]
        intro e
        have : gg = k := by simpa [Value.ownBlock] using e
        subst this
        exact hgap g1 hg1 e1 hk
      · rw [upd_other _ _ e2]
        exact h.apart g1 g2 hg1 hg2 hne k hk
end Go.Proofs.YtceflkeaenepcaaGreatDoor
