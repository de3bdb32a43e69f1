import Derived.Test.YtloocceakfmnoaaGreatDoorGa9
import Derived.Test.YtloocceakfmnoaaGreatDoorGb9
import Derived.Deep.RegionHeld3
import Derived.Shelf.Abstract
import Derived.Lib.Walk
/- Runs of numbers, of what a record speaks; Find. -/
namespace Go.Proofs.YtloocceakfmnoaaGreatDoor
open Go.RowKit

def isPt (c : Int) : Bool := decide (0 ≤ c ∧ c ≤ 1114111)
theorem isPoint_any (c : Int) (w : World) (hc : I64 c) : Calls Tryz.prog 158 #[.int .i64 c] w fun e w' => e = .returned (.bool (isPt c)) ∧ w' = w := by
  obtain ⟨c0, c1⟩ := hc
  unfold isPt
  by_cases h0 : 0 ≤ c
  · by_cases h1 : c ≤ 1114111
    · rw [decide_eq_true ⟨h0, h1⟩]
      go_enter Tryz.func158, Tryz.ntmps158
      go_wp2
      go_ret
      exact ⟨rfl, rfl⟩
    · rw [decide_eq_false (by omega)]
      go_enter Tryz.func158, Tryz.ntmps158
      go_wp2
      go_ret
      exact ⟨rfl, rfl⟩
  · rw [decide_eq_false (by omega)]
    go_enter Tryz.func158, Tryz.ntmps158
    go_wp2
    go_ret
    exact ⟨rfl, rfl⟩
def runV (lo hi s : Int) : Value := .agg #[.int .i64 lo, .int .i64 hi, .int .i64 s]
def hasB (lo hi s c : Int) : Bool := decide (0 ≤ c ∧ c ≤ 1114111 ∧ lo ≤ c ∧ c ≤ hi ∧ 0 < s ∧ (c - lo) % s = 0)
theorem wrap_diff {c lo : Int} (h0 : 0 ≤ c) (h1 : c ≤ 1114111) (h2 : lo ≤ c) (h3 : -9223372036854775808 ≤ lo) : IntKind.u64.wrap (IntKind.i64.wrap (c - lo)) = c - lo := by
  by_cases hn : c - lo ≤ 9223372036854775807
  · rw [IntWalk.i64_in _ ⟨by omega, by omega⟩, IntWalk.u64_in _ ⟨by omega, by omega⟩]
  · have e : IntKind.i64.wrap (c - lo) = c - lo - 18446744073709551616 := by
      unfold IntKind.wrap
      have hb : (2 : Int) ^ IntKind.i64.bits = 18446744073709551616 := by decide
      have hb2 : (2 : Int) ^ (IntKind.i64.bits - 1) = 9223372036854775808 := by decide
      simp only [hb, hb2, IntKind.signed]
      simp
      omega
    rw [e]
    unfold IntKind.wrap
    have hb : (2 : Int) ^ IntKind.u64.bits = 18446744073709551616 := by decide
    rw [hb]
    simp [IntKind.signed]
    omega
set_option maxRecDepth 8000 in
set_option maxHeartbeats 4000000 in
theorem has_any (lo hi s c : Int) (w : World) (hl : I64 lo) (hh : I64 hi) (hs : I64 s) (hc : I64 c) : Calls Tryz.prog 124 #[runV lo hi s, .int .i64 c] w (BoolB w (hasB lo hi s c)) := by
  have hb : Below w.heap.size w (w.alloc (.cells #[.int .i64 lo, .int .i64 hi, .int .i64 s] 160)) := (Below.refl _ _).alloc (Nat.le_refl _) _
  have K := hide (isPoint_any c (w.alloc (.cells #[.int .i64 lo, .int .i64 hi, .int .i64 s] 160)) hc)
  obtain ⟨l0, l1⟩ := hl
  obtain ⟨g0, g1⟩ := hh
  obtain ⟨s0, s1⟩ := hs
  obtain ⟨c0, c1⟩ := hc
  unfold runV
  by_cases p1 : 0 ≤ c ∧ c ≤ 1114111
  · have e1 : isPt c = true := decide_eq_true p1
    rw [e1] at K
    by_cases p2 : lo ≤ c
    · by_cases p3 : c ≤ hi
      · by_cases p4 : 0 < s
        · have d := wrap_diff p1.1 p1.2 p2 l0
          have ds : IntKind.u64.wrap s = s := IntWalk.u64_in _ ⟨by omega, by omega⟩
          have dm : (c - lo).tmod s = (c - lo) % s := Int.tmod_eq_emod_of_nonneg (by omega)
          have dn : (s == 0) = false := beq_eq_false_iff_ne.2 (by omega)
          have e : hasB lo hi s c = ((c - lo) % s == 0) := by
            unfold hasB
            by_cases q : (c - lo) % s = 0
            · rw [decide_eq_true ⟨p1.1, p1.2, p2, p3, p4, q⟩, q]; rfl
            · rw [decide_eq_false (fun h => q h.2.2.2.2.2), beq_eq_false_iff_ne.2 q]
          rw [e]
          obtain ⟨p5, p6⟩ := p1
          go_enter Tryz.func124, Tryz.ntmps124
          go_wp2_with fail
          refine (unhide K).mono ?_
          rintro e w1 ⟨rfl, hw1⟩
          subst w1
          clear K
          go_wp2
          go_ret
          refine ⟨?_, hb⟩
          show Ending.returned (.bool ((IntKind.u64.wrap (wrap64 (c - lo))).tmod s == 0)) = _
          rw [← IntWalk.i64_left, d, dm]
        · have e : hasB lo hi s c = false := decide_eq_false (by omega)
          rw [e]
          go_enter Tryz.func124, Tryz.ntmps124
          go_wp2_with fail
          refine (unhide K).mono ?_
          rintro e w1 ⟨rfl, hw1⟩
          subst w1
          clear K
          go_wp2
          go_ret
          exact ⟨rfl, hb⟩
      · have e : hasB lo hi s c = false := decide_eq_false (by omega)
        rw [e]
        go_enter Tryz.func124, Tryz.ntmps124
        go_wp2_with fail
        refine (unhide K).mono ?_
        rintro e w1 ⟨rfl, hw1⟩
        subst w1
        clear K
        go_wp2
        go_ret
        exact ⟨rfl, hb⟩
    · have e : hasB lo hi s c = false := decide_eq_false (by omega)
      rw [e]
      go_enter Tryz.func124, Tryz.ntmps124
      go_wp2_with fail
      refine (unhide K).mono ?_
      rintro e w1 ⟨rfl, hw1⟩
      subst w1
      clear K
      go_wp2
      go_ret
      exact ⟨rfl, hb⟩
  · have e1 : isPt c = false := decide_eq_false p1
    rw [e1] at K
    have e : hasB lo hi s c = false := decide_eq_false (by omega)
    rw [e]
    clear p1
    go_enter Tryz.func124, Tryz.ntmps124
    go_wp2_with fail
    refine (unhide K).mono ?_
    rintro e w1 ⟨rfl, hw1⟩
    subst w1
    clear K
    go_wp2
    go_ret
    exact ⟨rfl, hb⟩
set_option maxRecDepth 8000 in
set_option maxHeartbeats 2000000 in
theorem sharedSpoken_any (k : Int) (r : Rec) (vt : Value) (w : World) : Calls Tryz.prog 219 #[shV k, recV r vt] w (fun e w' => e = .returned (runV r.lo r.hi 1) ∧ Below w.heap.size w w') := by
  unfold shV recV runV
  generalize r.kind = kd
  generalize r.n = n
  generalize r.lo = lo
  generalize r.hi = hi
  generalize r.name = nm
  generalize r.other = ot
  generalize r.wt = wt
  go_enter Tryz.func219, Tryz.ntmps219
  go_wp2
  go_returns
  exact ⟨rfl, (((Below.refl _ _).alloc (Nat.le_refl _) _).alloc (by simp) _).alloc (by simp; omega) _⟩
set_option maxRecDepth 8000 in
set_option maxHeartbeats 2000000 in
theorem shiftedSpoken_any (k : Int) (r : Rec) (vt : Value) (w : World) : Calls Tryz.prog 236 #[shV k, recV r vt] w (fun e w' => e = .returned (runV r.lo r.hi r.n) ∧ Below w.heap.size w w') := by
  unfold shV recV runV
  generalize r.kind = kd
  generalize r.n = n
  generalize r.lo = lo
  generalize r.hi = hi
  generalize r.name = nm
  generalize r.other = ot
  generalize r.wt = wt
  go_enter Tryz.func236, Tryz.ntmps236
  go_wp2
  go_returns
  exact ⟨rfl, (((Below.refl _ _).alloc (Nat.le_refl _) _).alloc (by simp) _).alloc (by simp; omega) _⟩
/-- The step of a record's run, as the program has it. -/
def stepP (r : Rec) : Int := if r.kind = 4 then r.n else 1
theorem hasB_speaks (r : Rec) (c : Int) (h : r.kind ≠ 15) : hasB r.lo r.hi (stepP r) c = Cn.speaks r c := by
  unfold hasB stepP Cn.speaks Cn.step
  refine decide_eq_decide.2 ?_
  by_cases h4 : r.kind = 4
  · rw [if_pos h4, if_pos h4]
    by_cases hp : 0 < r.n
    · rw [show max r.n 0 = r.n by omega]
      exact ⟨fun ⟨a, b, c, d, e, f⟩ => ⟨h, e, a, b, c, d, f⟩, fun ⟨_, e, a, b, c, d, f⟩ => ⟨a, b, c, d, e, f⟩⟩
    · exact ⟨fun ⟨_, _, _, _, e, _⟩ => absurd e hp, fun ⟨_, e, _⟩ => by omega⟩
  · rw [if_neg h4, if_neg h4]
    exact ⟨fun ⟨a, b, c, d, e, f⟩ => ⟨h, e, a, b, c, d, f⟩, fun ⟨_, e, a, b, c, d, f⟩ => ⟨a, b, c, d, e, f⟩⟩
end Go.Proofs.YtloocceakfmnoaaGreatDoor
/- What Find asks of a record. -/
namespace Go.Proofs.YtloocceakfmnoaaGreatDoor
open Go.RowKit

/-- The method of a kind's shape that says what a record speaks of. -/
def spokenF (k : Int) : Nat := if k = 4 then 236 else 219
theorem spoken_any (k : Int) (r : Rec) (vt : Value) (w : World) (hk : r.kind = k) : Calls Tryz.prog (spokenF k) #[shV k, recV r vt] w (fun e w' => e = .returned (runV r.lo r.hi (stepP r)) ∧ Below w.heap.size w w') := by
  unfold spokenF stepP
  by_cases h4 : k = 4
  · rw [if_pos h4, if_pos (hk.trans h4)]
    exact shiftedSpoken_any k r vt w
  · rw [if_neg h4, if_neg (fun e => h4 (hk.symm.trans e))]
    exact sharedSpoken_any k r vt w
set_option maxRecDepth 20000 in
set_option maxHeartbeats 4000000 in
theorem find1_any (r : Rec) (vt : Value) (f c : Int) (B C : Nat) (w : World) (hf : RecFit r) (hg : Glob w) (hB : w.cell? ⟨B, 0, none⟩ = some (.int .i64 f)) (hC : w.cell? ⟨C, 0, none⟩ = some (.int .i32 c)) (hfi : 0 < f ∧ f < 10) (hc : -2147483648 ≤ c ∧ c ≤ 2147483647) :
    Calls Tryz.prog 122 #[recV r vt, .pointer (some ⟨B, 0, none⟩), .pointer (some ⟨C, 0, none⟩)] w (BoolB w (decide (Cn.fam r.kind = f) && Cn.speaks r c)) := by
  have hkb := hf.kind
  have hlb := hf.lo
  have hhb := hf.hi
  have hnb := hf.n
  have hsb : I64 (stepP r) := by
    unfold stepP
    split
    · exact hnb
    · unfold I64; omega
  by_cases hfam : Cn.fam r.kind = f
  · have hk15 : r.kind ≠ 15 := fun e => by rw [e, show Cn.fam 15 = 10 by decide] at hfam; omega
    have e : (decide (Cn.fam r.kind = f) && Cn.speaks r c) = hasB r.lo r.hi (stepP r) c := by rw [decide_eq_true hfam, hasB_speaks r c hk15]; rfl
    rw [e]
    subst hfam
    have KF : Hid (∀ W, Below w.heap.size w W → Calls Tryz.prog 83 #[.int .i64 r.kind] W (IntB W (Cn.fam r.kind))) := fun W h => family_any r.kind W (hg.on h) hkb
    have KS : Hid (∀ W, Calls Tryz.prog 123 #[.int .i64 r.kind] W (fun e w' => e = .returned (shape r.kind) ∧ Below W.heap.size W w')) := fun W => shapeOf_any r.kind W hkb
    have KP : Hid (∀ W, Calls Tryz.prog (spokenF r.kind) #[shV r.kind, recV r vt] W (fun e w' => e = .returned (runV r.lo r.hi (stepP r)) ∧ Below W.heap.size W w')) := fun W => spoken_any r.kind r vt W rfl
    have KH : Hid (∀ W, Calls Tryz.prog 124 #[runV r.lo r.hi (stepP r), .int .i64 c] W (BoolB W (hasB r.lo r.hi (stepP r) c))) := fun W => has_any _ _ _ _ W hlb hhb hsb ⟨by omega, by omega⟩
    have hq : (Cn.fam r.kind == Cn.fam r.kind) = true := beq_self_eq_true _
    generalize hasB r.lo r.hi (stepP r) c = res at *
    generalize stepP r = st at *
    generalize Cn.fam r.kind = fr at *
    clear hf hg e
    unfold recV shape shV runV at *
    have hwc : IntKind.i64.wrap c = c := IntWalk.i64_in _ ⟨by omega, by omega⟩
    by_cases h4 : r.kind = 4
    · rw [if_pos h4] at KS
      have hF : spokenF r.kind = 236 := by unfold spokenF; rw [if_pos h4]
      rw [hF] at KP
      have hm := mSpokenShifted r.kind
      clear hF h4
      generalize r.kind = kd at *
      generalize r.n = n at *
      generalize r.lo = lo at *
      generalize r.hi = hi at *
      generalize r.name = nm at *
      generalize r.other = ot at *
      generalize r.wt = wt at *
      have hb0 : Below w.heap.size w (w.alloc (.cells #[.int .i64 kd, .int .i64 lo, .int .i64 hi, .int .i64 n, vt, .string nm, .string ot, .float .f64 wt] 60)) := (Below.refl _ _).alloc (Nat.le_refl _) _
      have hh0 : (w.alloc (.cells #[.int .i64 kd, .int .i64 lo, .int .i64 hi, .int .i64 n, vt, .string nm, .string ot, .float .f64 wt] 60)).heap[w.heap.size]? = some (.cells #[.int .i64 kd, .int .i64 lo, .int .i64 hi, .int .i64 n, vt, .string nm, .string ot, .float .f64 wt] 60 (0, 0)) := by
        show (w.heap.push _)[w.heap.size]? = _
        simp
      go_enter Tryz.func122, Tryz.ntmps122
      go_wp2
      generalize (w.alloc (.cells #[.int .i64 kd, .int .i64 lo, .int .i64 hi, .int .i64 n, vt, .string nm, .string ot, .float .f64 wt] 60)) = W0 at *
      have SM : Hid (∀ W, Below W0.heap.size W0 W → W.cell? ⟨B, 0, none⟩ = some (.int .i64 fr) ∧ W.cell? ⟨C, 0, none⟩ = some (.int .i32 c) ∧ W.cell? ⟨w.heap.size, 0, none⟩ = some (.int .i64 kd) ∧ W.cell? ⟨w.heap.size, 1, none⟩ = some (.int .i64 lo) ∧ W.cell? ⟨w.heap.size, 2, none⟩ = some (.int .i64 hi) ∧ W.cell? ⟨w.heap.size, 3, none⟩ = some (.int .i64 n) ∧ W.cell? ⟨w.heap.size, 4, none⟩ = some (vt) ∧ W.cell? ⟨w.heap.size, 5, none⟩ = some (.string nm) ∧ W.cell? ⟨w.heap.size, 6, none⟩ = some (.string ot) ∧ W.cell? ⟨w.heap.size, 7, none⟩ = some (.float .f64 wt) ∧ Hid (Below W0.heap.size W0 W)) := fun W h => by
        have h1 : Below w.heap.size w W := bthen hb0 h
        have h2 : W.heap[w.heap.size]? = _ := (h.block _ (by
          rcases Nat.lt_or_ge w.heap.size W0.heap.size with a | a
          · exact a
          · rw [Array.getElem?_eq_none a] at hh0; cases hh0)).trans hh0
        exact ⟨by rw [h1.cell (lt_of_cell? hB)]; exact hB, by rw [h1.cell (lt_of_cell? hC)]; exact hC, cell_of (j := 0) h2 (by simp), cell_of (j := 1) h2 (by simp), cell_of (j := 2) h2 (by simp), cell_of (j := 3) h2 (by simp), cell_of (j := 4) h2 (by simp), cell_of (j := 5) h2 (by simp), cell_of (j := 6) h2 (by simp), cell_of (j := 7) h2 (by simp), h⟩
      have SI : Hid (∀ W, (W.cell? ⟨B, 0, none⟩ = some (.int .i64 fr) ∧ W.cell? ⟨C, 0, none⟩ = some (.int .i32 c) ∧ W.cell? ⟨w.heap.size, 0, none⟩ = some (.int .i64 kd) ∧ W.cell? ⟨w.heap.size, 1, none⟩ = some (.int .i64 lo) ∧ W.cell? ⟨w.heap.size, 2, none⟩ = some (.int .i64 hi) ∧ W.cell? ⟨w.heap.size, 3, none⟩ = some (.int .i64 n) ∧ W.cell? ⟨w.heap.size, 4, none⟩ = some (vt) ∧ W.cell? ⟨w.heap.size, 5, none⟩ = some (.string nm) ∧ W.cell? ⟨w.heap.size, 6, none⟩ = some (.string ot) ∧ W.cell? ⟨w.heap.size, 7, none⟩ = some (.float .f64 wt) ∧ Hid (Below W0.heap.size W0 W)) → Below W0.heap.size W0 W) := fun W h => h.2.2.2.2.2.2.2.2.2.2
      clear hB hC
      refine wp_region_held_drew (S := fun w' => w'.cell? ⟨B, 0, none⟩ = some (.int .i64 fr) ∧ w'.cell? ⟨C, 0, none⟩ = some (.int .i32 c) ∧ w'.cell? ⟨w.heap.size, 0, none⟩ = some (.int .i64 kd) ∧ w'.cell? ⟨w.heap.size, 1, none⟩ = some (.int .i64 lo) ∧ w'.cell? ⟨w.heap.size, 2, none⟩ = some (.int .i64 hi) ∧ w'.cell? ⟨w.heap.size, 3, none⟩ = some (.int .i64 n) ∧ w'.cell? ⟨w.heap.size, 4, none⟩ = some (vt) ∧ w'.cell? ⟨w.heap.size, 5, none⟩ = some (.string nm) ∧ w'.cell? ⟨w.heap.size, 6, none⟩ = some (.string ot) ∧ w'.cell? ⟨w.heap.size, 7, none⟩ = some (.float .f64 wt) ∧ Hid (Below W0.heap.size W0 w')) (by kernel_rfl) ((unhide SM) _ (drewB ⟨1, rfl⟩)) (fun hHeld => ?_)
      refine wpAnyH_take (i := 0) (oi := { dst := some 5, op := Op.fieldAddr 60 (Operand.tmp 3) 0, type := 0, pos := "table.go:40", after := #[], guard := none }) (v := .pointer (some ⟨w.heap.size, 0, none⟩)) rfl (by kernel_rfl) (by kernel_rfl) (by kernel_rfl) (fun _ _ _ h => h) (Or.inl ⟨by rfl, ?_⟩) hHeld ?_
      · intro w hSw
        go_simp
      try simp only [Act.put, List.setIfInBounds_toArray, List.set_cons_zero, List.set_cons_succ]
      refine wpAnyH_take (i := 1) (oi := { dst := some 6, op := Op.load 3 (Operand.tmp 5), type := 3, pos := "table.go:40", after := #[{ on := 0, ground := Ground.data }], guard := none }) (v := .int .i64 kd) rfl (by kernel_rfl) (by kernel_rfl) (by kernel_rfl) (fun _ _ _ h => h) (Or.inl ⟨by rfl, ?_⟩) hHeld ?_
      · intro w hSw
        go_simp
      try simp only [Act.put, List.setIfInBounds_toArray, List.set_cons_zero, List.set_cons_succ]
      refine wpAnyH_take (i := 3) (oi := { dst := some 8, op := Op.load 3 (Operand.tmp 1), type := 3, pos := "table.go:40", after := #[], guard := none }) (v := .int .i64 fr) rfl (by kernel_rfl) (by kernel_rfl) (by kernel_rfl) (fun _ _ _ h => h) (Or.inl ⟨by rfl, ?_⟩) hHeld ?_
      · intro w hSw
        go_simp
      try simp only [Act.put, List.setIfInBounds_toArray, List.set_cons_zero, List.set_cons_succ]
      refine wpAnyH_ready (rs := [2]) (by kernel_rfl) (by simp) ?_
      refine AllReadyH.cons (o := { dst := some 7, op := Op.call { callee := Callee.value (Operand.func 83), args := #[Operand.tmp 6], argTypes := #[3] }, type := 3, pos := "table.go:40", after := #[{ on := 1, ground := Ground.data }], guard := none }) rfl (fun K hK => ?_) AllReadyH.nil
      go_simp
      refine ((unhide KF) _ (bthen hb0 ((unhide SI) _ hHeld))).mono ?_
      rintro e w1 ⟨rfl, hb1⟩
      go_wp2_with fail
      refine hK.out _ _ ?_ (fun hHeld => ?_)
      · exact (unhide SM) _ (bthen ((unhide SI) _ hHeld) hb1)
      clear hK K
      try simp only [Act.put, List.setIfInBounds_toArray, List.set_cons_zero, List.set_cons_succ]
      refine wpAnyH_take (i := 4) (oi := { dst := some 9, op := Op.binOp BinOp.eql 3 (Operand.tmp 7) (Operand.tmp 8) 3, type := 4, pos := "table.go:40", after := #[{ on := 2, ground := Ground.data }, { on := 3, ground := Ground.data }], guard := none }) (v := .bool true) rfl (by kernel_rfl) (by kernel_rfl) (by kernel_rfl) (fun _ _ _ h => h) (Or.inl ⟨by rfl, ?_⟩) hHeld ?_
      · intro w hSw
        go_simp
      try simp only [Act.put, List.setIfInBounds_toArray, List.set_cons_zero, List.set_cons_succ]
      refine wpAnyH_take (i := 5) (oi := { dst := some 10, op := Op.move (Operand.tmp 9), type := 4, pos := "table.go:40", after := #[{ on := 4, ground := Ground.data }, { on := 2, ground := Ground.chain }], guard := none }) (v := .bool true) rfl (by kernel_rfl) (by kernel_rfl) (by kernel_rfl) (fun _ _ _ h => h) (Or.inl ⟨by rfl, ?_⟩) hHeld ?_
      · intro w hSw
        go_simp
      try simp only [Act.put, List.setIfInBounds_toArray, List.set_cons_zero, List.set_cons_succ]
      refine wpAnyH_take (i := 6) (oi := { dst := some 11, op := Op.fieldAddr 60 (Operand.tmp 3) 0, type := 0, pos := "table.go:40", after := #[{ on := 5, ground := Ground.guard }], guard := some (5, true) }) (v := .pointer (some ⟨w.heap.size, 0, none⟩)) rfl (by kernel_rfl) (by kernel_rfl) (by kernel_rfl) (fun _ _ _ h => h) (Or.inl ⟨by rfl, ?_⟩) hHeld ?_
      · intro w hSw
        go_simp
      try simp only [Act.put, List.setIfInBounds_toArray, List.set_cons_zero, List.set_cons_succ]
      refine wpAnyH_take (i := 7) (oi := { dst := some 12, op := Op.load 3 (Operand.tmp 11), type := 3, pos := "table.go:40", after := #[{ on := 6, ground := Ground.data }, { on := 5, ground := Ground.guard }], guard := some (5, true) }) (v := .int .i64 kd) rfl (by kernel_rfl) (by kernel_rfl) (by kernel_rfl) (fun _ _ _ h => h) (Or.inl ⟨by rfl, ?_⟩) hHeld ?_
      · intro w hSw
        go_simp
      try simp only [Act.put, List.setIfInBounds_toArray, List.set_cons_zero, List.set_cons_succ]
      refine wpAnyH_take (i := 9) (oi := { dst := some 14, op := Op.load 60 (Operand.tmp 3), type := 60, pos := "table.go:40", after := #[{ on := 5, ground := Ground.guard }], guard := some (5, true) }) (v := .agg #[.int .i64 kd, .int .i64 lo, .int .i64 hi, .int .i64 n, vt, .string nm, .string ot, .float .f64 wt]) rfl (by kernel_rfl) (by kernel_rfl) (by kernel_rfl) (fun _ _ _ h => h) (Or.inl ⟨by rfl, ?_⟩) hHeld ?_
      · intro w hSw
        go_simp
      try simp only [Act.put, List.setIfInBounds_toArray, List.set_cons_zero, List.set_cons_succ]
      refine wpAnyH_take (i := 11) (oi := { dst := some 16, op := Op.load 21 (Operand.tmp 2), type := 21, pos := "table.go:40", after := #[{ on := 5, ground := Ground.guard }], guard := some (5, true) }) (v := .int .i32 c) rfl (by kernel_rfl) (by kernel_rfl) (by kernel_rfl) (fun _ _ _ h => h) (Or.inl ⟨by rfl, ?_⟩) hHeld ?_
      · intro w hSw
        go_simp
      try simp only [Act.put, List.setIfInBounds_toArray, List.set_cons_zero, List.set_cons_succ]
      refine wpAnyH_take (i := 12) (oi := { dst := some 17, op := Op.convert 21 3 (Operand.tmp 16), type := 3, pos := "table.go:40", after := #[{ on := 11, ground := Ground.data }, { on := 5, ground := Ground.guard }], guard := some (5, true) }) (v := .int .i64 c) rfl (by kernel_rfl) (by kernel_rfl) (by kernel_rfl) (fun _ _ _ h => h) (Or.inl ⟨by rfl, ?_⟩) hHeld ?_
      · intro w hSw
        go_simp
      try simp only [Act.put, List.setIfInBounds_toArray, List.set_cons_zero, List.set_cons_succ]
      refine wpAnyH_ready (rs := [8]) (by kernel_rfl) (by simp) ?_
      refine AllReadyH.cons (o := { dst := some 13, op := Op.call { callee := Callee.value (Operand.func 123), args := #[Operand.tmp 12], argTypes := #[3] }, type := 162, pos := "table.go:40", after := #[{ on := 7, ground := Ground.data }, { on := 5, ground := Ground.chain }, { on := 5, ground := Ground.guard }], guard := some (5, true) }) rfl (fun K hK => ?_) AllReadyH.nil
      go_simp
      refine ((unhide KS) _).mono ?_
      rintro e w2 ⟨rfl, hb2⟩
      go_wp2_with fail
      refine hK.out _ _ ?_ (fun hHeld => ?_)
      · exact (unhide SM) _ (bthen ((unhide SI) _ hHeld) hb2)
      clear hK K
      try simp only [Act.put, List.setIfInBounds_toArray, List.set_cons_zero, List.set_cons_succ]
      refine wpAnyH_ready (rs := [10]) (by kernel_rfl) (by simp) ?_
      refine AllReadyH.cons (o := { dst := some 15, op := Op.call { callee := Callee.invoke (Operand.tmp 13) "endonym/table.spoken", args := #[Operand.tmp 14], argTypes := #[60] }, type := 160, pos := "table.go:40", after := #[{ on := 8, ground := Ground.data }, { on := 9, ground := Ground.data }, { on := 8, ground := Ground.chain }, { on := 5, ground := Ground.guard }], guard := some (5, true) }) rfl (fun K hK => ?_) AllReadyH.nil
      go_simp
      refine ((unhide KP) _).mono ?_
      rintro e w3 ⟨rfl, hb3⟩
      go_wp2_with fail
      refine hK.out _ _ ?_ (fun hHeld => ?_)
      · exact (unhide SM) _ (bthen ((unhide SI) _ hHeld) hb3)
      clear hK K
      try simp only [Act.put, List.setIfInBounds_toArray, List.set_cons_zero, List.set_cons_succ]
      refine wpAnyH_ready (rs := [13]) (by kernel_rfl) (by simp) ?_
      refine AllReadyH.cons (o := { dst := some 18, op := Op.call { callee := Callee.value (Operand.func 124), args := #[Operand.tmp 15, Operand.tmp 17], argTypes := #[160, 3] }, type := 4, pos := "table.go:40", after := #[{ on := 10, ground := Ground.data }, { on := 12, ground := Ground.data }, { on := 10, ground := Ground.chain }, { on := 5, ground := Ground.guard }], guard := some (5, true) }) rfl (fun K hK => ?_) AllReadyH.nil
      go_simp
      refine ((unhide KH) _).mono ?_
      rintro e w4 ⟨rfl, hb4⟩
      go_wp2_with fail
      refine hK.out _ _ ?_ (fun hHeld => ?_)
      · exact (unhide SM) _ (bthen ((unhide SI) _ hHeld) hb4)
      clear hK K
      try simp only [Act.put, List.setIfInBounds_toArray, List.set_cons_zero, List.set_cons_succ]
      refine wpAnyH_take (i := 14) (oi := { dst := some 19, op := Op.pick (Operand.tmp 10) (Operand.tmp 18) (Operand.const (Value.bool false)), type := 4, pos := "table.go:40", after := #[{ on := 5, ground := Ground.data }, { on := 13, ground := Ground.data }], guard := none }) (v := .bool res) rfl (by kernel_rfl) (by kernel_rfl) (by kernel_rfl) (fun _ _ _ h => h) (Or.inl ⟨by rfl, ?_⟩) hHeld ?_
      · intro w hSw
        go_simp
      try simp only [Act.put, List.setIfInBounds_toArray, List.set_cons_zero, List.set_cons_succ]
      refine wpAnyH_take (i := 15) (oi := { dst := some 4, op := Op.assign (Operand.tmp 19), type := 4, pos := "table.go:40", after := #[{ on := 14, ground := Ground.data }, { on := 13, ground := Ground.chain }, { on := 0, ground := Ground.phase }, { on := 1, ground := Ground.phase }, { on := 2, ground := Ground.phase }, { on := 3, ground := Ground.phase }, { on := 4, ground := Ground.phase }, { on := 5, ground := Ground.phase }, { on := 6, ground := Ground.phase }, { on := 7, ground := Ground.phase }, { on := 8, ground := Ground.phase }, { on := 9, ground := Ground.phase }, { on := 10, ground := Ground.phase }, { on := 11, ground := Ground.phase }, { on := 12, ground := Ground.phase }, { on := 13, ground := Ground.phase }, { on := 14, ground := Ground.phase }], guard := none }) (v := .bool res) rfl (by kernel_rfl) (by kernel_rfl) (by kernel_rfl) (fun _ _ _ h => h) (Or.inl ⟨by rfl, ?_⟩) hHeld ?_
      · intro w hSw
        go_simp
      try simp only [Act.put, List.setIfInBounds_toArray, List.set_cons_zero, List.set_cons_succ]
      refine wpAnyH_done (by kernel_rfl) ?_ _
      have HF : BoolB w res (.returned (.bool res)) w4 := ⟨rfl, bthen hb0 ((unhide SI) _ hHeld)⟩
      clear hHeld KF KS KP KH SM SI
      go_wp2
      go_ret
      exact HF
    · have hF : spokenF r.kind = 219 := by unfold spokenF; rw [if_neg h4]
      rw [hF] at KP
      rw [if_neg h4] at KS
      by_cases h5 : r.kind = 5 ∨ r.kind = 7 ∨ r.kind = 8 ∨ r.kind = 13
      · rw [if_pos h5] at KS
        have hm := mSpokenSingle r.kind
        clear hF h4 h5
        generalize r.kind = kd at *
        generalize r.n = n at *
        generalize r.lo = lo at *
        generalize r.hi = hi at *
        generalize r.name = nm at *
        generalize r.other = ot at *
        generalize r.wt = wt at *
        have hb0 : Below w.heap.size w (w.alloc (.cells #[.int .i64 kd, .int .i64 lo, .int .i64 hi, .int .i64 n, vt, .string nm, .string ot, .float .f64 wt] 60)) := (Below.refl _ _).alloc (Nat.le_refl _) _
        have hh0 : (w.alloc (.cells #[.int .i64 kd, .int .i64 lo, .int .i64 hi, .int .i64 n, vt, .string nm, .string ot, .float .f64 wt] 60)).heap[w.heap.size]? = some (.cells #[.int .i64 kd, .int .i64 lo, .int .i64 hi, .int .i64 n, vt, .string nm, .string ot, .float .f64 wt] 60 (0, 0)) := by
          show (w.heap.push _)[w.heap.size]? = _
          simp
        go_enter Tryz.func122, Tryz.ntmps122
        go_wp2
        generalize (w.alloc (.cells #[.int .i64 kd, .int .i64 lo, .int .i64 hi, .int .i64 n, vt, .string nm, .string ot, .float .f64 wt] 60)) = W0 at *
        have SM : Hid (∀ W, Below W0.heap.size W0 W → W.cell? ⟨B, 0, none⟩ = some (.int .i64 fr) ∧ W.cell? ⟨C, 0, none⟩ = some (.int .i32 c) ∧ W.cell? ⟨w.heap.size, 0, none⟩ = some (.int .i64 kd) ∧ W.cell? ⟨w.heap.size, 1, none⟩ = some (.int .i64 lo) ∧ W.cell? ⟨w.heap.size, 2, none⟩ = some (.int .i64 hi) ∧ W.cell? ⟨w.heap.size, 3, none⟩ = some (.int .i64 n) ∧ W.cell? ⟨w.heap.size, 4, none⟩ = some (vt) ∧ W.cell? ⟨w.heap.size, 5, none⟩ = some (.string nm) ∧ W.cell? ⟨w.heap.size, 6, none⟩ = some (.string ot) ∧ W.cell? ⟨w.heap.size, 7, none⟩ = some (.float .f64 wt) ∧ Hid (Below W0.heap.size W0 W)) := fun W h => by
          have h1 : Below w.heap.size w W := bthen hb0 h
          have h2 : W.heap[w.heap.size]? = _ := (h.block _ (by
            rcases Nat.lt_or_ge w.heap.size W0.heap.size with a | a
            · exact a
            · rw [Array.getElem?_eq_none a] at hh0; cases hh0)).trans hh0
          exact ⟨by rw [h1.cell (lt_of_cell? hB)]; exact hB, by rw [h1.cell (lt_of_cell? hC)]; exact hC, cell_of (j := 0) h2 (by simp), cell_of (j := 1) h2 (by simp), cell_of (j := 2) h2 (by simp), cell_of (j := 3) h2 (by simp), cell_of (j := 4) h2 (by simp), cell_of (j := 5) h2 (by simp), cell_of (j := 6) h2 (by simp), cell_of (j := 7) h2 (by simp), h⟩
        have SI : Hid (∀ W, (W.cell? ⟨B, 0, none⟩ = some (.int .i64 fr) ∧ W.cell? ⟨C, 0, none⟩ = some (.int .i32 c) ∧ W.cell? ⟨w.heap.size, 0, none⟩ = some (.int .i64 kd) ∧ W.cell? ⟨w.heap.size, 1, none⟩ = some (.int .i64 lo) ∧ W.cell? ⟨w.heap.size, 2, none⟩ = some (.int .i64 hi) ∧ W.cell? ⟨w.heap.size, 3, none⟩ = some (.int .i64 n) ∧ W.cell? ⟨w.heap.size, 4, none⟩ = some (vt) ∧ W.cell? ⟨w.heap.size, 5, none⟩ = some (.string nm) ∧ W.cell? ⟨w.heap.size, 6, none⟩ = some (.string ot) ∧ W.cell? ⟨w.heap.size, 7, none⟩ = some (.float .f64 wt) ∧ Hid (Below W0.heap.size W0 W)) → Below W0.heap.size W0 W) := fun W h => h.2.2.2.2.2.2.2.2.2.2
        clear hB hC
        refine wp_region_held_drew (S := fun w' => w'.cell? ⟨B, 0, none⟩ = some (.int .i64 fr) ∧ w'.cell? ⟨C, 0, none⟩ = some (.int .i32 c) ∧ w'.cell? ⟨w.heap.size, 0, none⟩ = some (.int .i64 kd) ∧ w'.cell? ⟨w.heap.size, 1, none⟩ = some (.int .i64 lo) ∧ w'.cell? ⟨w.heap.size, 2, none⟩ = some (.int .i64 hi) ∧ w'.cell? ⟨w.heap.size, 3, none⟩ = some (.int .i64 n) ∧ w'.cell? ⟨w.heap.size, 4, none⟩ = some (vt) ∧ w'.cell? ⟨w.heap.size, 5, none⟩ = some (.string nm) ∧ w'.cell? ⟨w.heap.size, 6, none⟩ = some (.string ot) ∧ w'.cell? ⟨w.heap.size, 7, none⟩ = some (.float .f64 wt) ∧ Hid (Below W0.heap.size W0 w')) (by kernel_rfl) ((unhide SM) _ (drewB ⟨1, rfl⟩)) (fun hHeld => ?_)
        refine wpAnyH_take (i := 0) (oi := { dst := some 5, op := Op.fieldAddr 60 (Operand.tmp 3) 0, type := 0, pos := "table.go:40", after := #[], guard := none }) (v := .pointer (some ⟨w.heap.size, 0, none⟩)) rfl (by kernel_rfl) (by kernel_rfl) (by kernel_rfl) (fun _ _ _ h => h) (Or.inl ⟨by rfl, ?_⟩) hHeld ?_
        · intro w hSw
          go_simp
        try simp only [Act.put, List.setIfInBounds_toArray, List.set_cons_zero, List.set_cons_succ]
        refine wpAnyH_take (i := 1) (oi := { dst := some 6, op := Op.load 3 (Operand.tmp 5), type := 3, pos := "table.go:40", after := #[{ on := 0, ground := Ground.data }], guard := none }) (v := .int .i64 kd) rfl (by kernel_rfl) (by kernel_rfl) (by kernel_rfl) (fun _ _ _ h => h) (Or.inl ⟨by rfl, ?_⟩) hHeld ?_
        · intro w hSw
          go_simp
        try simp only [Act.put, List.setIfInBounds_toArray, List.set_cons_zero, List.set_cons_succ]
        refine wpAnyH_take (i := 3) (oi := { dst := some 8, op := Op.load 3 (Operand.tmp 1), type := 3, pos := "table.go:40", after := #[], guard := none }) (v := .int .i64 fr) rfl (by kernel_rfl) (by kernel_rfl) (by kernel_rfl) (fun _ _ _ h => h) (Or.inl ⟨by rfl, ?_⟩) hHeld ?_
        · intro w hSw
          go_simp
        try simp only [Act.put, List.setIfInBounds_toArray, List.set_cons_zero, List.set_cons_succ]
        refine wpAnyH_ready (rs := [2]) (by kernel_rfl) (by simp) ?_
        refine AllReadyH.cons (o := { dst := some 7, op := Op.call { callee := Callee.value (Operand.func 83), args := #[Operand.tmp 6], argTypes := #[3] }, type := 3, pos := "table.go:40", after := #[{ on := 1, ground := Ground.data }], guard := none }) rfl (fun K hK => ?_) AllReadyH.nil
        go_simp
        refine ((unhide KF) _ (bthen hb0 ((unhide SI) _ hHeld))).mono ?_
        rintro e w1 ⟨rfl, hb1⟩
        go_wp2_with fail
        refine hK.out _ _ ?_ (fun hHeld => ?_)
        · exact (unhide SM) _ (bthen ((unhide SI) _ hHeld) hb1)
        clear hK K
        try simp only [Act.put, List.setIfInBounds_toArray, List.set_cons_zero, List.set_cons_succ]
        refine wpAnyH_take (i := 4) (oi := { dst := some 9, op := Op.binOp BinOp.eql 3 (Operand.tmp 7) (Operand.tmp 8) 3, type := 4, pos := "table.go:40", after := #[{ on := 2, ground := Ground.data }, { on := 3, ground := Ground.data }], guard := none }) (v := .bool true) rfl (by kernel_rfl) (by kernel_rfl) (by kernel_rfl) (fun _ _ _ h => h) (Or.inl ⟨by rfl, ?_⟩) hHeld ?_
        · intro w hSw
          go_simp
        try simp only [Act.put, List.setIfInBounds_toArray, List.set_cons_zero, List.set_cons_succ]
        refine wpAnyH_take (i := 5) (oi := { dst := some 10, op := Op.move (Operand.tmp 9), type := 4, pos := "table.go:40", after := #[{ on := 4, ground := Ground.data }, { on := 2, ground := Ground.chain }], guard := none }) (v := .bool true) rfl (by kernel_rfl) (by kernel_rfl) (by kernel_rfl) (fun _ _ _ h => h) (Or.inl ⟨by rfl, ?_⟩) hHeld ?_
        · intro w hSw
          go_simp
        try simp only [Act.put, List.setIfInBounds_toArray, List.set_cons_zero, List.set_cons_succ]
        refine wpAnyH_take (i := 6) (oi := { dst := some 11, op := Op.fieldAddr 60 (Operand.tmp 3) 0, type := 0, pos := "table.go:40", after := #[{ on := 5, ground := Ground.guard }], guard := some (5, true) }) (v := .pointer (some ⟨w.heap.size, 0, none⟩)) rfl (by kernel_rfl) (by kernel_rfl) (by kernel_rfl) (fun _ _ _ h => h) (Or.inl ⟨by rfl, ?_⟩) hHeld ?_
        · intro w hSw
          go_simp
        try simp only [Act.put, List.setIfInBounds_toArray, List.set_cons_zero, List.set_cons_succ]
        refine wpAnyH_take (i := 7) (oi := { dst := some 12, op := Op.load 3 (Operand.tmp 11), type := 3, pos := "table.go:40", after := #[{ on := 6, ground := Ground.data }, { on := 5, ground := Ground.guard }], guard := some (5, true) }) (v := .int .i64 kd) rfl (by kernel_rfl) (by kernel_rfl) (by kernel_rfl) (fun _ _ _ h => h) (Or.inl ⟨by rfl, ?_⟩) hHeld ?_
        · intro w hSw
          go_simp
        try simp only [Act.put, List.setIfInBounds_toArray, List.set_cons_zero, List.set_cons_succ]
        refine wpAnyH_take (i := 9) (oi := { dst := some 14, op := Op.load 60 (Operand.tmp 3), type := 60, pos := "table.go:40", after := #[{ on := 5, ground := Ground.guard }], guard := some (5, true) }) (v := .agg #[.int .i64 kd, .int .i64 lo, .int .i64 hi, .int .i64 n, vt, .string nm, .string ot, .float .f64 wt]) rfl (by kernel_rfl) (by kernel_rfl) (by kernel_rfl) (fun _ _ _ h => h) (Or.inl ⟨by rfl, ?_⟩) hHeld ?_
        · intro w hSw
          go_simp
        try simp only [Act.put, List.setIfInBounds_toArray, List.set_cons_zero, List.set_cons_succ]
        refine wpAnyH_take (i := 11) (oi := { dst := some 16, op := Op.load 21 (Operand.tmp 2), type := 21, pos := "table.go:40", after := #[{ on := 5, ground := Ground.guard }], guard := some (5, true) }) (v := .int .i32 c) rfl (by kernel_rfl) (by kernel_rfl) (by kernel_rfl) (fun _ _ _ h => h) (Or.inl ⟨by rfl, ?_⟩) hHeld ?_
        · intro w hSw
          go_simp
        try simp only [Act.put, List.setIfInBounds_toArray, List.set_cons_zero, List.set_cons_succ]
        refine wpAnyH_take (i := 12) (oi := { dst := some 17, op := Op.convert 21 3 (Operand.tmp 16), type := 3, pos := "table.go:40", after := #[{ on := 11, ground := Ground.data }, { on := 5, ground := Ground.guard }], guard := some (5, true) }) (v := .int .i64 c) rfl (by kernel_rfl) (by kernel_rfl) (by kernel_rfl) (fun _ _ _ h => h) (Or.inl ⟨by rfl, ?_⟩) hHeld ?_
        · intro w hSw
          go_simp
        try simp only [Act.put, List.setIfInBounds_toArray, List.set_cons_zero, List.set_cons_succ]
        refine wpAnyH_ready (rs := [8]) (by kernel_rfl) (by simp) ?_
        refine AllReadyH.cons (o := { dst := some 13, op := Op.call { callee := Callee.value (Operand.func 123), args := #[Operand.tmp 12], argTypes := #[3] }, type := 162, pos := "table.go:40", after := #[{ on := 7, ground := Ground.data }, { on := 5, ground := Ground.chain }, { on := 5, ground := Ground.guard }], guard := some (5, true) }) rfl (fun K hK => ?_) AllReadyH.nil
        go_simp
        refine ((unhide KS) _).mono ?_
        rintro e w2 ⟨rfl, hb2⟩
        go_wp2_with fail
        refine hK.out _ _ ?_ (fun hHeld => ?_)
        · exact (unhide SM) _ (bthen ((unhide SI) _ hHeld) hb2)
        clear hK K
        try simp only [Act.put, List.setIfInBounds_toArray, List.set_cons_zero, List.set_cons_succ]
        refine wpAnyH_ready (rs := [10]) (by kernel_rfl) (by simp) ?_
        refine AllReadyH.cons (o := { dst := some 15, op := Op.call { callee := Callee.invoke (Operand.tmp 13) "endonym/table.spoken", args := #[Operand.tmp 14], argTypes := #[60] }, type := 160, pos := "table.go:40", after := #[{ on := 8, ground := Ground.data }, { on := 9, ground := Ground.data }, { on := 8, ground := Ground.chain }, { on := 5, ground := Ground.guard }], guard := some (5, true) }) rfl (fun K hK => ?_) AllReadyH.nil
        go_simp
        refine ((unhide KP) _).mono ?_
        rintro e w3 ⟨rfl, hb3⟩
        go_wp2_with fail
        refine hK.out _ _ ?_ (fun hHeld => ?_)
        · exact (unhide SM) _ (bthen ((unhide SI) _ hHeld) hb3)
        clear hK K
        try simp only [Act.put, List.setIfInBounds_toArray, List.set_cons_zero, List.set_cons_succ]
        refine wpAnyH_ready (rs := [13]) (by kernel_rfl) (by simp) ?_
        refine AllReadyH.cons (o := { dst := some 18, op := Op.call { callee := Callee.value (Operand.func 124), args := #[Operand.tmp 15, Operand.tmp 17], argTypes := #[160, 3] }, type := 4, pos := "table.go:40", after := #[{ on := 10, ground := Ground.data }, { on := 12, ground := Ground.data }, { on := 10, ground := Ground.chain }, { on := 5, ground := Ground.guard }], guard := some (5, true) }) rfl (fun K hK => ?_) AllReadyH.nil
        go_simp
        refine ((unhide KH) _).mono ?_
        rintro e w4 ⟨rfl, hb4⟩
        go_wp2_with fail
        refine hK.out _ _ ?_ (fun hHeld => ?_)
        · exact (unhide SM) _ (bthen ((unhide SI) _ hHeld) hb4)
        clear hK K
        try simp only [Act.put, List.setIfInBounds_toArray, List.set_cons_zero, List.set_cons_succ]
        refine wpAnyH_take (i := 14) (oi := { dst := some 19, op := Op.pick (Operand.tmp 10) (Operand.tmp 18) (Operand.const (Value.bool false)), type := 4, pos := "table.go:40", after := #[{ on := 5, ground := Ground.data }, { on := 13, ground := Ground.data }], guard := none }) (v := .bool res) rfl (by kernel_rfl) (by kernel_rfl) (by kernel_rfl) (fun _ _ _ h => h) (Or.inl ⟨by rfl, ?_⟩) hHeld ?_
        · intro w hSw
          go_simp
        try simp only [Act.put, List.setIfInBounds_toArray, List.set_cons_zero, List.set_cons_succ]
        refine wpAnyH_take (i := 15) (oi := { dst := some 4, op := Op.assign (Operand.tmp 19), type := 4, pos := "table.go:40", after := #[{ on := 14, ground := Ground.data }, { on := 13, ground := Ground.chain }, { on := 0, ground := Ground.phase }, { on := 1, ground := Ground.phase }, { on := 2, ground := Ground.phase }, { on := 3, ground := Ground.phase }, { on := 4, ground := Ground.phase }, { on := 5, ground := Ground.phase }, { on := 6, ground := Ground.phase }, { on := 7, ground := Ground.phase }, { on := 8, ground := Ground.phase }, { on := 9, ground := Ground.phase }, { on := 10, ground := Ground.phase }, { on := 11, ground := Ground.phase }, { on := 12, ground := Ground.phase }, { on := 13, ground := Ground.phase }, { on := 14, ground := Ground.phase }], guard := none }) (v := .bool res) rfl (by kernel_rfl) (by kernel_rfl) (by kernel_rfl) (fun _ _ _ h => h) (Or.inl ⟨by rfl, ?_⟩) hHeld ?_
        · intro w hSw
          go_simp
        try simp only [Act.put, List.setIfInBounds_toArray, List.set_cons_zero, List.set_cons_succ]
        refine wpAnyH_done (by kernel_rfl) ?_ _
        have HF : BoolB w res (.returned (.bool res)) w4 := ⟨rfl, bthen hb0 ((unhide SI) _ hHeld)⟩
        clear hHeld KF KS KP KH SM SI
        go_wp2
        go_ret
        exact HF
      · rw [if_neg h5, if_neg hk15] at KS
        have hm := mSpokenSpanned r.kind
        clear hF h4 h5
        generalize r.kind = kd at *
        generalize r.n = n at *
        generalize r.lo = lo at *
        generalize r.hi = hi at *
        generalize r.name = nm at *
        generalize r.other = ot at *
        generalize r.wt = wt at *
        have hb0 : Below w.heap.size w (w.alloc (.cells #[.int .i64 kd, .int .i64 lo, .int .i64 hi, .int .i64 n, vt, .string nm, .string ot, .float .f64 wt] 60)) := (Below.refl _ _).alloc (Nat.le_refl _) _
        have hh0 : (w.alloc (.cells #[.int .i64 kd, .int .i64 lo, .int .i64 hi, .int .i64 n, vt, .string nm, .string ot, .float .f64 wt] 60)).heap[w.heap.size]? = some (.cells #[.int .i64 kd, .int .i64 lo, .int .i64 hi, .int .i64 n, vt, .string nm, .string ot, .float .f64 wt] 60 (0, 0)) := by
          show (w.heap.push _)[w.heap.size]? = _
          simp
        go_enter Tryz.func122, Tryz.ntmps122
        go_wp2
        generalize (w.alloc (.cells #[.int .i64 kd, .int .i64 lo, .int .i64 hi, .int .i64 n, vt, .string nm, .string ot, .float .f64 wt] 60)) = W0 at *
        have SM : Hid (∀ W, Below W0.heap.size W0 W → W.cell? ⟨B, 0, none⟩ = some (.int .i64 fr) ∧ W.cell? ⟨C, 0, none⟩ = some (.int .i32 c) ∧ W.cell? ⟨w.heap.size, 0, none⟩ = some (.int .i64 kd) ∧ W.cell? ⟨w.heap.size, 1, none⟩ = some (.int .i64 lo) ∧ W.cell? ⟨w.heap.size, 2, none⟩ = some (.int .i64 hi) ∧ W.cell? ⟨w.heap.size, 3, none⟩ = some (.int .i64 n) ∧ W.cell? ⟨w.heap.size, 4, none⟩ = some (vt) ∧ W.cell? ⟨w.heap.size, 5, none⟩ = some (.string nm) ∧ W.cell? ⟨w.heap.size, 6, none⟩ = some (.string ot) ∧ W.cell? ⟨w.heap.size, 7, none⟩ = some (.float .f64 wt) ∧ Hid (Below W0.heap.size W0 W)) := fun W h => by
          have h1 : Below w.heap.size w W := bthen hb0 h
          have h2 : W.heap[w.heap.size]? = _ := (h.block _ (by
            rcases Nat.lt_or_ge w.heap.size W0.heap.size with a | a
            · exact a
            · rw [Array.getElem?_eq_none a] at hh0; cases hh0)).trans hh0
          exact ⟨by rw [h1.cell (lt_of_cell? hB)]; exact hB, by rw [h1.cell (lt_of_cell? hC)]; exact hC, cell_of (j := 0) h2 (by simp), cell_of (j := 1) h2 (by simp), cell_of (j := 2) h2 (by simp), cell_of (j := 3) h2 (by simp), cell_of (j := 4) h2 (by simp), cell_of (j := 5) h2 (by simp), cell_of (j := 6) h2 (by simp), cell_of (j := 7) h2 (by simp), h⟩
        have SI : Hid (∀ W, (W.cell? ⟨B, 0, none⟩ = some (.int .i64 fr) ∧ W.cell? ⟨C, 0, none⟩ = some (.int .i32 c) ∧ W.cell? ⟨w.heap.size, 0, none⟩ = some (.int .i64 kd) ∧ W.cell? ⟨w.heap.size, 1, none⟩ = some (.int .i64 lo) ∧ W.cell? ⟨w.heap.size, 2, none⟩ = some (.int .i64 hi) ∧ W.cell? ⟨w.heap.size, 3, none⟩ = some (.int .i64 n) ∧ W.cell? ⟨w.heap.size, 4, none⟩ = some (vt) ∧ W.cell? ⟨w.heap.size, 5, none⟩ = some (.string nm) ∧ W.cell? ⟨w.heap.size, 6, none⟩ = some (.string ot) ∧ W.cell? ⟨w.heap.size, 7, none⟩ = some (.float .f64 wt) ∧ Hid (Below W0.heap.size W0 W)) → Below W0.heap.size W0 W) := fun W h => h.2.2.2.2.2.2.2.2.2.2
        clear hB hC
        refine wp_region_held_drew (S := fun w' => w'.cell? ⟨B, 0, none⟩ = some (.int .i64 fr) ∧ w'.cell? ⟨C, 0, none⟩ = some (.int .i32 c) ∧ w'.cell? ⟨w.heap.size, 0, none⟩ = some (.int .i64 kd) ∧ w'.cell? ⟨w.heap.size, 1, none⟩ = some (.int .i64 lo) ∧ w'.cell? ⟨w.heap.size, 2, none⟩ = some (.int .i64 hi) ∧ w'.cell? ⟨w.heap.size, 3, none⟩ = some (.int .i64 n) ∧ w'.cell? ⟨w.heap.size, 4, none⟩ = some (vt) ∧ w'.cell? ⟨w.heap.size, 5, none⟩ = some (.string nm) ∧ w'.cell? ⟨w.heap.size, 6, none⟩ = some (.string ot) ∧ w'.cell? ⟨w.heap.size, 7, none⟩ = some (.float .f64 wt) ∧ Hid (Below W0.heap.size W0 w')) (by kernel_rfl) ((unhide SM) _ (drewB ⟨1, rfl⟩)) (fun hHeld => ?_)
        refine wpAnyH_take (i := 0) (oi := { dst := some 5, op := Op.fieldAddr 60 (Operand.tmp 3) 0, type := 0, pos := "table.go:40", after := #[], guard := none }) (v := .pointer (some ⟨w.heap.size, 0, none⟩)) rfl (by kernel_rfl) (by kernel_rfl) (by kernel_rfl) (fun _ _ _ h => h) (Or.inl ⟨by rfl, ?_⟩) hHeld ?_
        · intro w hSw
          go_simp
        try simp only [Act.put, List.setIfInBounds_toArray, List.set_cons_zero, List.set_cons_succ]
        refine wpAnyH_take (i := 1) (oi := { dst := some 6, op := Op.load 3 (Operand.tmp 5), type := 3, pos := "table.go:40", after := #[{ on := 0, ground := Ground.data }], guard := none }) (v := .int .i64 kd) rfl (by kernel_rfl) (by kernel_rfl) (by kernel_rfl) (fun _ _ _ h => h) (Or.inl ⟨by rfl, ?_⟩) hHeld ?_
        · intro w hSw
          go_simp
        try simp only [Act.put, List.setIfInBounds_toArray, List.set_cons_zero, List.set_cons_succ]
        refine wpAnyH_take (i := 3) (oi := { dst := some 8, op := Op.load 3 (Operand.tmp 1), type := 3, pos := "table.go:40", after := #[], guard := none }) (v := .int .i64 fr) rfl (by kernel_rfl) (by kernel_rfl) (by kernel_rfl) (fun _ _ _ h => h) (Or.inl ⟨by rfl, ?_⟩) hHeld ?_
        · intro w hSw
          go_simp
        try simp only [Act.put, List.setIfInBounds_toArray, List.set_cons_zero, List.set_cons_succ]
        refine wpAnyH_ready (rs := [2]) (by kernel_rfl) (by simp) ?_
        refine AllReadyH.cons (o := { dst := some 7, op := Op.call { callee := Callee.value (Operand.func 83), args := #[Operand.tmp 6], argTypes := #[3] }, type := 3, pos := "table.go:40", after := #[{ on := 1, ground := Ground.data }], guard := none }) rfl (fun K hK => ?_) AllReadyH.nil
        go_simp
        refine ((unhide KF) _ (bthen hb0 ((unhide SI) _ hHeld))).mono ?_
        rintro e w1 ⟨rfl, hb1⟩
        go_wp2_with fail
        refine hK.out _ _ ?_ (fun hHeld => ?_)
        · exact (unhide SM) _ (bthen ((unhide SI) _ hHeld) hb1)
        clear hK K
        try simp only [Act.put, List.setIfInBounds_toArray, List.set_cons_zero, List.set_cons_succ]
        refine wpAnyH_take (i := 4) (oi := { dst := some 9, op := Op.binOp BinOp.eql 3 (Operand.tmp 7) (Operand.tmp 8) 3, type := 4, pos := "table.go:40", after := #[{ on := 2, ground := Ground.data }, { on := 3, ground := Ground.data }], guard := none }) (v := .bool true) rfl (by kernel_rfl) (by kernel_rfl) (by kernel_rfl) (fun _ _ _ h => h) (Or.inl ⟨by rfl, ?_⟩) hHeld ?_
        · intro w hSw
          go_simp
        try simp only [Act.put, List.setIfInBounds_toArray, List.set_cons_zero, List.set_cons_succ]
        refine wpAnyH_take (i := 5) (oi := { dst := some 10, op := Op.move (Operand.tmp 9), type := 4, pos := "table.go:40", after := #[{ on := 4, ground := Ground.data }, { on := 2, ground := Ground.chain }], guard := none }) (v := .bool true) rfl (by kernel_rfl) (by kernel_rfl) (by kernel_rfl) (fun _ _ _ h => h) (Or.inl ⟨by rfl, ?_⟩) hHeld ?_
        · intro w hSw
          go_simp
        try simp only [Act.put, List.setIfInBounds_toArray, List.set_cons_zero, List.set_cons_succ]
        refine wpAnyH_take (i := 6) (oi := { dst := some 11, op := Op.fieldAddr 60 (Operand.tmp 3) 0, type := 0, pos := "table.go:40", after := #[{ on := 5, ground := Ground.guard }], guard := some (5, true) }) (v := .pointer (some ⟨w.heap.size, 0, none⟩)) rfl (by kernel_rfl) (by kernel_rfl) (by kernel_rfl) (fun _ _ _ h => h) (Or.inl ⟨by rfl, ?_⟩) hHeld ?_
        · intro w hSw
          go_simp
        try simp only [Act.put, List.setIfInBounds_toArray, List.set_cons_zero, List.set_cons_succ]
        refine wpAnyH_take (i := 7) (oi := { dst := some 12, op := Op.load 3 (Operand.tmp 11), type := 3, pos := "table.go:40", after := #[{ on := 6, ground := Ground.data }, { on := 5, ground := Ground.guard }], guard := some (5, true) }) (v := .int .i64 kd) rfl (by kernel_rfl) (by kernel_rfl) (by kernel_rfl) (fun _ _ _ h => h) (Or.inl ⟨by rfl, ?_⟩) hHeld ?_
        · intro w hSw
          go_simp
        try simp only [Act.put, List.setIfInBounds_toArray, List.set_cons_zero, List.set_cons_succ]
        refine wpAnyH_take (i := 9) (oi := { dst := some 14, op := Op.load 60 (Operand.tmp 3), type := 60, pos := "table.go:40", after := #[{ on := 5, ground := Ground.guard }], guard := some (5, true) }) (v := .agg #[.int .i64 kd, .int .i64 lo, .int .i64 hi, .int .i64 n, vt, .string nm, .string ot, .float .f64 wt]) rfl (by kernel_rfl) (by kernel_rfl) (by kernel_rfl) (fun _ _ _ h => h) (Or.inl ⟨by rfl, ?_⟩) hHeld ?_
        · intro w hSw
          go_simp
        try simp only [Act.put, List.setIfInBounds_toArray, List.set_cons_zero, List.set_cons_succ]
        refine wpAnyH_take (i := 11) (oi := { dst := some 16, op := Op.load 21 (Operand.tmp 2), type := 21, pos := "table.go:40", after := #[{ on := 5, ground := Ground.guard }], guard := some (5, true) }) (v := .int .i32 c) rfl (by kernel_rfl) (by kernel_rfl) (by kernel_rfl) (fun _ _ _ h => h) (Or.inl ⟨by rfl, ?_⟩) hHeld ?_
        · intro w hSw
          go_simp
        try simp only [Act.put, List.setIfInBounds_toArray, List.set_cons_zero, List.set_cons_succ]
        refine wpAnyH_take (i := 12) (oi := { dst := some 17, op := Op.convert 21 3 (Operand.tmp 16), type := 3, pos := "table.go:40", after := #[{ on := 11, ground := Ground.data }, { on := 5, ground := Ground.guard }], guard := some (5, true) }) (v := .int .i64 c) rfl (by kernel_rfl) (by kernel_rfl) (by kernel_rfl) (fun _ _ _ h => h) (Or.inl ⟨by rfl, ?_⟩) hHeld ?_
        · intro w hSw
          go_simp
        try simp only [Act.put, List.setIfInBounds_toArray, List.set_cons_zero, List.set_cons_succ]
        refine wpAnyH_ready (rs := [8]) (by kernel_rfl) (by simp) ?_
        refine AllReadyH.cons (o := { dst := some 13, op := Op.call { callee := Callee.value (Operand.func 123), args := #[Operand.tmp 12], argTypes := #[3] }, type := 162, pos := "table.go:40", after := #[{ on := 7, ground := Ground.data }, { on := 5, ground := Ground.chain }, { on := 5, ground := Ground.guard }], guard := some (5, true) }) rfl (fun K hK => ?_) AllReadyH.nil
        go_simp
        refine ((unhide KS) _).mono ?_
        rintro e w2 ⟨rfl, hb2⟩
        go_wp2_with fail
        refine hK.out _ _ ?_ (fun hHeld => ?_)
        · exact (unhide SM) _ (bthen ((unhide SI) _ hHeld) hb2)
        clear hK K
        try simp only [Act.put, List.setIfInBounds_toArray, List.set_cons_zero, List.set_cons_succ]
        refine wpAnyH_ready (rs := [10]) (by kernel_rfl) (by simp) ?_
        refine AllReadyH.cons (o := { dst := some 15, op := Op.call { callee := Callee.invoke (Operand.tmp 13) "endonym/table.spoken", args := #[Operand.tmp 14], argTypes := #[60] }, type := 160, pos := "table.go:40", after := #[{ on := 8, ground := Ground.data }, { on := 9, ground := Ground.data }, { on := 8, ground := Ground.chain }, { on := 5, ground := Ground.guard }], guard := some (5, true) }) rfl (fun K hK => ?_) AllReadyH.nil
        go_simp
        refine ((unhide KP) _).mono ?_
        rintro e w3 ⟨rfl, hb3⟩
        go_wp2_with fail
        refine hK.out _ _ ?_ (fun hHeld => ?_)
        · exact (unhide SM) _ (bthen ((unhide SI) _ hHeld) hb3)
        clear hK K
        try simp only [Act.put, List.setIfInBounds_toArray, List.set_cons_zero, List.set_cons_succ]
        refine wpAnyH_ready (rs := [13]) (by kernel_rfl) (by simp) ?_
        refine AllReadyH.cons (o := { dst := some 18, op := Op.call { callee := Callee.value (Operand.func 124), args := #[Operand.tmp 15, Operand.tmp 17], argTypes := #[160, 3] }, type := 4, pos := "table.go:40", after := #[{ on := 10, ground := Ground.data }, { on := 12, ground := Ground.data }, { on := 10, ground := Ground.chain }, { on := 5, ground := Ground.guard }], guard := some (5, true) }) rfl (fun K hK => ?_) AllReadyH.nil
        go_simp
        refine ((unhide KH) _).mono ?_
        rintro e w4 ⟨rfl, hb4⟩
        go_wp2_with fail
        refine hK.out _ _ ?_ (fun hHeld => ?_)
        · exact (unhide SM) _ (bthen ((unhide SI) _ hHeld) hb4)
        clear hK K
        try simp only [Act.put, List.setIfInBounds_toArray, List.set_cons_zero, List.set_cons_succ]
        refine wpAnyH_take (i := 14) (oi := { dst := some 19, op := Op.pick (Operand.tmp 10) (Operand.tmp 18) (Operand.const (Value.bool false)), type := 4, pos := "table.go:40", after := #[{ on := 5, ground := Ground.data }, { on := 13, ground := Ground.data }], guard := none }) (v := .bool res) rfl (by kernel_rfl) (by kernel_rfl) (by kernel_rfl) (fun _ _ _ h => h) (Or.inl ⟨by rfl, ?_⟩) hHeld ?_
        · intro w hSw
          go_simp
        try simp only [Act.put, List.setIfInBounds_toArray, List.set_cons_zero, List.set_cons_succ]
        refine wpAnyH_take (i := 15) (oi := { dst := some 4, op := Op.assign (Operand.tmp 19), type := 4, pos := "table.go:40", after := #[{ on := 14, ground := Ground.data }, { on := 13, ground := Ground.chain }, { on := 0, ground := Ground.phase }, { on := 1, ground := Ground.phase }, { on := 2, ground := Ground.phase }, { on := 3, ground := Ground.phase }, { on := 4, ground := Ground.phase }, { on := 5, ground := Ground.phase }, { on := 6, ground := Ground.phase }, { on := 7, ground := Ground.phase }, { on := 8, ground := Ground.phase }, { on := 9, ground := Ground.phase }, { on := 10, ground := Ground.phase }, { on := 11, ground := Ground.phase }, { on := 12, ground := Ground.phase }, { on := 13, ground := Ground.phase }, { on := 14, ground := Ground.phase }], guard := none }) (v := .bool res) rfl (by kernel_rfl) (by kernel_rfl) (by kernel_rfl) (fun _ _ _ h => h) (Or.inl ⟨by rfl, ?_⟩) hHeld ?_
        · intro w hSw
          go_simp
        try simp only [Act.put, List.setIfInBounds_toArray, List.set_cons_zero, List.set_cons_succ]
        refine wpAnyH_done (by kernel_rfl) ?_ _
        have HF : BoolB w res (.returned (.bool res)) w4 := ⟨rfl, bthen hb0 ((unhide SI) _ hHeld)⟩
        clear hHeld KF KS KP KH SM SI
        go_wp2
        go_ret
        exact HF
  · have e : (decide (Cn.fam r.kind = f) && Cn.speaks r c) = false := by rw [decide_eq_false hfam]; rfl
    rw [e]
    have hq : (Cn.fam r.kind == f) = false := beq_eq_false_iff_ne.2 hfam
    have KF : Hid (∀ W, Below w.heap.size w W → Calls Tryz.prog 83 #[.int .i64 r.kind] W (IntB W (Cn.fam r.kind))) := fun W h => family_any r.kind W (hg.on h) hkb
    generalize Cn.fam r.kind = fr at *
    clear hf hg e hsb
    unfold recV
    generalize r.kind = kd at *
    generalize r.n = n at *
    generalize r.lo = lo at *
    generalize r.hi = hi at *
    generalize r.name = nm at *
    generalize r.other = ot at *
    generalize r.wt = wt at *
    have hb0 : Below w.heap.size w (w.alloc (.cells #[.int .i64 kd, .int .i64 lo, .int .i64 hi, .int .i64 n, vt, .string nm, .string ot, .float .f64 wt] 60)) := (Below.refl _ _).alloc (Nat.le_refl _) _
    have hh0 : (w.alloc (.cells #[.int .i64 kd, .int .i64 lo, .int .i64 hi, .int .i64 n, vt, .string nm, .string ot, .float .f64 wt] 60)).heap[w.heap.size]? = some (.cells #[.int .i64 kd, .int .i64 lo, .int .i64 hi, .int .i64 n, vt, .string nm, .string ot, .float .f64 wt] 60 (0, 0)) := by
      show (w.heap.push _)[w.heap.size]? = _
      simp
    go_enter Tryz.func122, Tryz.ntmps122
    go_wp2
    generalize (w.alloc (.cells #[.int .i64 kd, .int .i64 lo, .int .i64 hi, .int .i64 n, vt, .string nm, .string ot, .float .f64 wt] 60)) = W0 at *
    have SM : Hid (∀ W, Below W0.heap.size W0 W → W.cell? ⟨B, 0, none⟩ = some (.int .i64 f) ∧ W.cell? ⟨C, 0, none⟩ = some (.int .i32 c) ∧ W.cell? ⟨w.heap.size, 0, none⟩ = some (.int .i64 kd) ∧ W.cell? ⟨w.heap.size, 1, none⟩ = some (.int .i64 lo) ∧ W.cell? ⟨w.heap.size, 2, none⟩ = some (.int .i64 hi) ∧ W.cell? ⟨w.heap.size, 3, none⟩ = some (.int .i64 n) ∧ W.cell? ⟨w.heap.size, 4, none⟩ = some (vt) ∧ W.cell? ⟨w.heap.size, 5, none⟩ = some (.string nm) ∧ W.cell? ⟨w.heap.size, 6, none⟩ = some (.string ot) ∧ W.cell? ⟨w.heap.size, 7, none⟩ = some (.float .f64 wt) ∧ Hid (Below W0.heap.size W0 W)) := fun W h => by
      have h1 : Below w.heap.size w W := bthen hb0 h
      have h2 : W.heap[w.heap.size]? = _ := (h.block _ (by
        rcases Nat.lt_or_ge w.heap.size W0.heap.size with a | a
        · exact a
        · rw [Array.getElem?_eq_none a] at hh0; cases hh0)).trans hh0
      exact ⟨by rw [h1.cell (lt_of_cell? hB)]; exact hB, by rw [h1.cell (lt_of_cell? hC)]; exact hC, cell_of (j := 0) h2 (by simp), cell_of (j := 1) h2 (by simp), cell_of (j := 2) h2 (by simp), cell_of (j := 3) h2 (by simp), cell_of (j := 4) h2 (by simp), cell_of (j := 5) h2 (by simp), cell_of (j := 6) h2 (by simp), cell_of (j := 7) h2 (by simp), h⟩
    have SI : Hid (∀ W, (W.cell? ⟨B, 0, none⟩ = some (.int .i64 f) ∧ W.cell? ⟨C, 0, none⟩ = some (.int .i32 c) ∧ W.cell? ⟨w.heap.size, 0, none⟩ = some (.int .i64 kd) ∧ W.cell? ⟨w.heap.size, 1, none⟩ = some (.int .i64 lo) ∧ W.cell? ⟨w.heap.size, 2, none⟩ = some (.int .i64 hi) ∧ W.cell? ⟨w.heap.size, 3, none⟩ = some (.int .i64 n) ∧ W.cell? ⟨w.heap.size, 4, none⟩ = some (vt) ∧ W.cell? ⟨w.heap.size, 5, none⟩ = some (.string nm) ∧ W.cell? ⟨w.heap.size, 6, none⟩ = some (.string ot) ∧ W.cell? ⟨w.heap.size, 7, none⟩ = some (.float .f64 wt) ∧ Hid (Below W0.heap.size W0 W)) → Below W0.heap.size W0 W) := fun W h => h.2.2.2.2.2.2.2.2.2.2
    clear hB hC
    refine wp_region_held_drew (S := fun w' => w'.cell? ⟨B, 0, none⟩ = some (.int .i64 f) ∧ w'.cell? ⟨C, 0, none⟩ = some (.int .i32 c) ∧ w'.cell? ⟨w.heap.size, 0, none⟩ = some (.int .i64 kd) ∧ w'.cell? ⟨w.heap.size, 1, none⟩ = some (.int .i64 lo) ∧ w'.cell? ⟨w.heap.size, 2, none⟩ = some (.int .i64 hi) ∧ w'.cell? ⟨w.heap.size, 3, none⟩ = some (.int .i64 n) ∧ w'.cell? ⟨w.heap.size, 4, none⟩ = some (vt) ∧ w'.cell? ⟨w.heap.size, 5, none⟩ = some (.string nm) ∧ w'.cell? ⟨w.heap.size, 6, none⟩ = some (.string ot) ∧ w'.cell? ⟨w.heap.size, 7, none⟩ = some (.float .f64 wt) ∧ Hid (Below W0.heap.size W0 w')) (by kernel_rfl) ((unhide SM) _ (drewB ⟨1, rfl⟩)) (fun hHeld => ?_)
    refine wpAnyH_take (i := 0) (oi := { dst := some 5, op := Op.fieldAddr 60 (Operand.tmp 3) 0, type := 0, pos := "table.go:40", after := #[], guard := none }) (v := .pointer (some ⟨w.heap.size, 0, none⟩)) rfl (by kernel_rfl) (by kernel_rfl) (by kernel_rfl) (fun _ _ _ h => h) (Or.inl ⟨by rfl, ?_⟩) hHeld ?_
    · intro w hSw
      go_simp
    try simp only [Act.put, List.setIfInBounds_toArray, List.set_cons_zero, List.set_cons_succ]
    refine wpAnyH_take (i := 1) (oi := { dst := some 6, op := Op.load 3 (Operand.tmp 5), type := 3, pos := "table.go:40", after := #[{ on := 0, ground := Ground.data }], guard := none }) (v := .int .i64 kd) rfl (by kernel_rfl) (by kernel_rfl) (by kernel_rfl) (fun _ _ _ h => h) (Or.inl ⟨by rfl, ?_⟩) hHeld ?_
    · intro w hSw
      go_simp
    try simp only [Act.put, List.setIfInBounds_toArray, List.set_cons_zero, List.set_cons_succ]
    refine wpAnyH_take (i := 3) (oi := { dst := some 8, op := Op.load 3 (Operand.tmp 1), type := 3, pos := "table.go:40", after := #[], guard := none }) (v := .int .i64 f) rfl (by kernel_rfl) (by kernel_rfl) (by kernel_rfl) (fun _ _ _ h => h) (Or.inl ⟨by rfl, ?_⟩) hHeld ?_
    · intro w hSw
      go_simp
    try simp only [Act.put, List.setIfInBounds_toArray, List.set_cons_zero, List.set_cons_succ]
    refine wpAnyH_ready (rs := [2]) (by kernel_rfl) (by simp) ?_
    refine AllReadyH.cons (o := { dst := some 7, op := Op.call { callee := Callee.value (Operand.func 83), args := #[Operand.tmp 6], argTypes := #[3] }, type := 3, pos := "table.go:40", after := #[{ on := 1, ground := Ground.data }], guard := none }) rfl (fun K hK => ?_) AllReadyH.nil
    go_simp
    refine ((unhide KF) _ (bthen hb0 ((unhide SI) _ hHeld))).mono ?_
    rintro e w1 ⟨rfl, hb1⟩
    go_wp2_with fail
    refine hK.out _ _ ?_ (fun hHeld => ?_)
    · exact (unhide SM) _ (bthen ((unhide SI) _ hHeld) hb1)
    clear hK K
    try simp only [Act.put, List.setIfInBounds_toArray, List.set_cons_zero, List.set_cons_succ]
    refine wpAnyH_take (i := 4) (oi := { dst := some 9, op := Op.binOp BinOp.eql 3 (Operand.tmp 7) (Operand.tmp 8) 3, type := 4, pos := "table.go:40", after := #[{ on := 2, ground := Ground.data }, { on := 3, ground := Ground.data }], guard := none }) (v := .bool false) rfl (by kernel_rfl) (by kernel_rfl) (by kernel_rfl) (fun _ _ _ h => h) (Or.inl ⟨by rfl, ?_⟩) hHeld ?_
    · intro w hSw
      go_simp
    try simp only [Act.put, List.setIfInBounds_toArray, List.set_cons_zero, List.set_cons_succ]
    refine wpAnyH_take (i := 5) (oi := { dst := some 10, op := Op.move (Operand.tmp 9), type := 4, pos := "table.go:40", after := #[{ on := 4, ground := Ground.data }, { on := 2, ground := Ground.chain }], guard := none }) (v := .bool false) rfl (by kernel_rfl) (by kernel_rfl) (by kernel_rfl) (fun _ _ _ h => h) (Or.inl ⟨by rfl, ?_⟩) hHeld ?_
    · intro w hSw
      go_simp
    try simp only [Act.put, List.setIfInBounds_toArray, List.set_cons_zero, List.set_cons_succ]
    refine wpAnyH_take (i := 6) (oi := { dst := some 11, op := Op.fieldAddr 60 (Operand.tmp 3) 0, type := 0, pos := "table.go:40", after := #[{ on := 5, ground := Ground.guard }], guard := some (5, true) }) (v := undef) rfl (by kernel_rfl) (by kernel_rfl) (by kernel_rfl) (fun _ _ _ h => h) (Or.inr ⟨by rfl, rfl⟩) hHeld ?_
    try simp only [Act.put, List.setIfInBounds_toArray, List.set_cons_zero, List.set_cons_succ]
    refine wpAnyH_take (i := 7) (oi := { dst := some 12, op := Op.load 3 (Operand.tmp 11), type := 3, pos := "table.go:40", after := #[{ on := 6, ground := Ground.data }, { on := 5, ground := Ground.guard }], guard := some (5, true) }) (v := undef) rfl (by kernel_rfl) (by kernel_rfl) (by kernel_rfl) (fun _ _ _ h => h) (Or.inr ⟨by rfl, rfl⟩) hHeld ?_
    try simp only [Act.put, List.setIfInBounds_toArray, List.set_cons_zero, List.set_cons_succ]
    refine wpAnyH_take (i := 8) (oi := { dst := some 13, op := Op.call { callee := Callee.value (Operand.func 123), args := #[Operand.tmp 12], argTypes := #[3] }, type := 162, pos := "table.go:40", after := #[{ on := 7, ground := Ground.data }, { on := 5, ground := Ground.chain }, { on := 5, ground := Ground.guard }], guard := some (5, true) }) (v := undef) rfl (by kernel_rfl) (by kernel_rfl) (by kernel_rfl) (fun _ _ _ h => h) (Or.inr ⟨by rfl, rfl⟩) hHeld ?_
    try simp only [Act.put, List.setIfInBounds_toArray, List.set_cons_zero, List.set_cons_succ]
    refine wpAnyH_take (i := 9) (oi := { dst := some 14, op := Op.load 60 (Operand.tmp 3), type := 60, pos := "table.go:40", after := #[{ on := 5, ground := Ground.guard }], guard := some (5, true) }) (v := undef) rfl (by kernel_rfl) (by kernel_rfl) (by kernel_rfl) (fun _ _ _ h => h) (Or.inr ⟨by rfl, rfl⟩) hHeld ?_
    try simp only [Act.put, List.setIfInBounds_toArray, List.set_cons_zero, List.set_cons_succ]
    refine wpAnyH_take (i := 10) (oi := { dst := some 15, op := Op.call { callee := Callee.invoke (Operand.tmp 13) "endonym/table.spoken", args := #[Operand.tmp 14], argTypes := #[60] }, type := 160, pos := "table.go:40", after := #[{ on := 8, ground := Ground.data }, { on := 9, ground := Ground.data }, { on := 8, ground := Ground.chain }, { on := 5, ground := Ground.guard }], guard := some (5, true) }) (v := undef) rfl (by kernel_rfl) (by kernel_rfl) (by kernel_rfl) (fun _ _ _ h => h) (Or.inr ⟨by rfl, rfl⟩) hHeld ?_
    try simp only [Act.put, List.setIfInBounds_toArray, List.set_cons_zero, List.set_cons_succ]
    refine wpAnyH_take (i := 11) (oi := { dst := some 16, op := Op.load 21 (Operand.tmp 2), type := 21, pos := "table.go:40", after := #[{ on := 5, ground := Ground.guard }], guard := some (5, true) }) (v := undef) rfl (by kernel_rfl) (by kernel_rfl) (by kernel_rfl) (fun _ _ _ h => h) (Or.inr ⟨by rfl, rfl⟩) hHeld ?_
    try simp only [Act.put, List.setIfInBounds_toArray, List.set_cons_zero, List.set_cons_succ]
    refine wpAnyH_take (i := 12) (oi := { dst := some 17, op := Op.convert 21 3 (Operand.tmp 16), type := 3, pos := "table.go:40", after := #[{ on := 11, ground := Ground.data }, { on := 5, ground := Ground.guard }], guard := some (5, true) }) (v := undef) rfl (by kernel_rfl) (by kernel_rfl) (by kernel_rfl) (fun _ _ _ h => h) (Or.inr ⟨by rfl, rfl⟩) hHeld ?_
    try simp only [Act.put, List.setIfInBounds_toArray, List.set_cons_zero, List.set_cons_succ]
    refine wpAnyH_take (i := 13) (oi := { dst := some 18, op := Op.call { callee := Callee.value (Operand.func 124), args := #[Operand.tmp 15, Operand.tmp 17], argTypes := #[160, 3] }, type := 4, pos := "table.go:40", after := #[{ on := 10, ground := Ground.data }, { on := 12, ground := Ground.data }, { on := 10, ground := Ground.chain }, { on := 5, ground := Ground.guard }], guard := some (5, true) }) (v := undef) rfl (by kernel_rfl) (by kernel_rfl) (by kernel_rfl) (fun _ _ _ h => h) (Or.inr ⟨by rfl, rfl⟩) hHeld ?_
    try simp only [Act.put, List.setIfInBounds_toArray, List.set_cons_zero, List.set_cons_succ]
    refine wpAnyH_take (i := 14) (oi := { dst := some 19, op := Op.pick (Operand.tmp 10) (Operand.tmp 18) (Operand.const (Value.bool false)), type := 4, pos := "table.go:40", after := #[{ on := 5, ground := Ground.data }, { on := 13, ground := Ground.data }], guard := none }) (v := .bool false) rfl (by kernel_rfl) (by kernel_rfl) (by kernel_rfl) (fun _ _ _ h => h) (Or.inl ⟨by rfl, ?_⟩) hHeld ?_
    · intro w hSw
      go_simp
    try simp only [Act.put, List.setIfInBounds_toArray, List.set_cons_zero, List.set_cons_succ]
    refine wpAnyH_take (i := 15) (oi := { dst := some 4, op := Op.assign (Operand.tmp 19), type := 4, pos := "table.go:40", after := #[{ on := 14, ground := Ground.data }, { on := 13, ground := Ground.chain }, { on := 0, ground := Ground.phase }, { on := 1, ground := Ground.phase }, { on := 2, ground := Ground.phase }, { on := 3, ground := Ground.phase }, { on := 4, ground := Ground.phase }, { on := 5, ground := Ground.phase }, { on := 6, ground := Ground.phase }, { on := 7, ground := Ground.phase }, { on := 8, ground := Ground.phase }, { on := 9, ground := Ground.phase }, { on := 10, ground := Ground.phase }, { on := 11, ground := Ground.phase }, { on := 12, ground := Ground.phase }, { on := 13, ground := Ground.phase }, { on := 14, ground := Ground.phase }], guard := none }) (v := .bool false) rfl (by kernel_rfl) (by kernel_rfl) (by kernel_rfl) (fun _ _ _ h => h) (Or.inl ⟨by rfl, ?_⟩) hHeld ?_
    · intro w hSw
      go_simp
    try simp only [Act.put, List.setIfInBounds_toArray, List.set_cons_zero, List.set_cons_succ]
    refine wpAnyH_done (by kernel_rfl) ?_ _
    have HF : BoolB w false (.returned (.bool false)) w1 := ⟨rfl, bthen hb0 ((unhide SI) _ hHeld)⟩
    clear hHeld KF SM SI
    go_wp2
    go_ret
    exact HF
end Go.Proofs.YtloocceakfmnoaaGreatDoor
/- slices.IndexFunc over records; Find. -/
namespace Go.Proofs.YtloocceakfmnoaaGreatDoor
open Go.RowKit

/-- The place of the first record at which p holds, or -1. -/
def fbR (p : Rec → Bool) : Nat → List Rec → Int
  | _, [] => -1
  | i, r :: l => if p r then (i : Int) else fbR p (i + 1) l
theorem fbR_hit {p : Rec → Bool} {rs : List Rec} {k : Nat} {x : Int} (hk : k < rs.length) (h : x = fbR p k (rs.drop k)) (hp : p (rs.getD k Cn.none) = true) : x = (k : Int) := by
  rw [h, List.drop_eq_getElem_cons hk, fbR, if_pos]
  simpa [List.getD, hk] using hp
theorem fbR_next {p : Rec → Bool} {rs : List Rec} {k : Nat} {x : Int} (hk : k < rs.length) (h : x = fbR p k (rs.drop k)) (hp : p (rs.getD k Cn.none) = false) : x = fbR p (k + 1) (rs.drop (k + 1)) := by
  rw [h, List.drop_eq_getElem_cons hk, fbR, if_neg]
  have : p rs[k] = false := by simpa [List.getD, hk] using hp
  simp [this]
theorem fbR_end {p : Rec → Bool} {rs : List Rec} {x : Int} (h : x = fbR p rs.length (rs.drop rs.length)) : x = -1 := by
  rw [h, List.drop_length, fbR]
theorem enters_find1 : ∀ args w, (callFunc 122 args).run Tryz.prog w = .ok (.enter 122 args) w := enters_of Tryz.func122 (by kernel_rfl) rfl
/-- What a function that is asked of each record answers. -/
def AsksR (g : Nat) (cap : Array Value) (p : Rec → Bool) (w : World) (rs : List Rec) : Prop := ∀ (k : Nat) (vt : Value) (W : World), k < rs.length → Below w.heap.size w W → Sk .i32 W vt (rs.getD k Cn.none).to → Calls Tryz.prog g (#[recV (rs.getD k Cn.none) vt] ++ cap) W (BoolB W (p (rs.getD k Cn.none)))
def RIn (w : World) (v : Value) (rs : List Rec) (W : World) : Prop := Rcs W v rs ∧ Below w.heap.size w W
theorem RIn.on {w W W' : World} {v : Value} {rs : List Rec} (h : RIn w v rs W) (hb : Below W.heap.size W W') : RIn w v rs W' := ⟨h.1.below hb, h.2.trans (hb.mono h.2.size)⟩
set_option maxRecDepth 8000 in
set_option maxHeartbeats 4000000 in
theorem indexFunc2_any (B C : Nat) (p : Rec → Bool) (v : Value) (rs : List Rec) (w : World) (hv : Rcs w v rs) (hp : AsksR 122 #[.pointer (some ⟨B, 0, none⟩), .pointer (some ⟨C, 0, none⟩)] p w rs) :
    Calls Tryz.prog 111 #[v, .func (.func 122) #[] #[.pointer (some ⟨B, 0, none⟩), .pointer (some ⟨C, 0, none⟩)]] w (IntB w (fbR p 0 rs)) := by
  have eg := enters_find1
  have HI0 : Hid (RIn w v rs w) := ⟨hv, Below.refl _ _⟩
  have HP := hide hp
  have HR0 : Hid (fbR p 0 rs = fbR p 0 (rs.drop 0)) := by rw [List.drop_zero]; rfl
  have hlen := hv.1
  obtain ⟨ao, cap, rfl, h1, h2⟩ := hv.shape
  clear hv hp
  generalize hq : fbR p 0 rs = x at *
  clear hq
  go_enter Tryz.func111, Tryz.ntmps111
  go_wp2
  go_loopw [5, 8] (fun _ i wr => ∃ k : Nat, i = .int .i64 k ∧ k ≤ rs.length ∧ x = fbR p k (rs.drop k) ∧ RIn w (.slice ao rs.length cap) rs wr) (fun _ i _ => rs.length - (intOf i).toNat)
  case atStart => exact ⟨0, rfl, by omega, unhide HR0, unhide HI0⟩
  case round =>
    obtain ⟨k, rfl, hk, hr, hin⟩ := hrel
    clear HR0 HI0
    by_cases hlt : k < rs.length
    · obtain ⟨b, off, cap', he, hc1, hc2, hc⟩ := hin.1.place (by omega)
      obtain ⟨rfl, rfl⟩ : ao = some ⟨b, off, none⟩ ∧ cap = cap' := by simpa using he
      obtain ⟨x0, x1, x2, x3, ⟨vt, x4, sk⟩, x5, x6, x7⟩ := hc k hlt
      have HV := hide ((unhide HP) k vt wr hlt hin.2 sk)
      have HH : Hid (p (rs.getD k Cn.none) = true → x = (k : Int)) := fun h => fbR_hit hlt hr h
      have HN : Hid (p (rs.getD k Cn.none) = false → x = fbR p (k + 1) (rs.drop (k + 1))) := fun h => fbR_next hlt hr h
      have HIN := hide hin
      obtain ⟨to, tc, rfl, _, _⟩ := sk.shape
      clear hr hin hc he sk HP
      unfold recV at HV
      generalize p (rs.getD k Cn.none) = y at HV HH HN
      generalize (rs.getD k Cn.none).kind = kd at *
      generalize (rs.getD k Cn.none).lo = lo at *
      generalize (rs.getD k Cn.none).hi = hi at *
      generalize (rs.getD k Cn.none).n = n at *
      generalize (rs.getD k Cn.none).name = nm at *
      generalize (rs.getD k Cn.none).other = ot at *
      generalize (rs.getD k Cn.none).wt = wt at *
      generalize (rs.getD k Cn.none).to.length = tl at *
      cases y with
      | true =>
        obtain rfl := (unhide HH) rfl
        clear HH HN
        go_wp2_with (go_at_fn 122; refine (unhide HV).mono ?_; rintro e w1 ⟨rfl, hb1⟩)
        have HF := hide ((unhide HIN).on hb1).2
        clear HV HIN
        go_ret
        exact ⟨rfl, unhide HF⟩
      | false =>
        have HN2 := hide ((unhide HN) rfl)
        clear HH HN
        go_wp2_with (go_at_fn 122; refine (unhide HV).mono ?_; rintro e w1 ⟨rfl, hb1⟩)
        have HF := hide ((unhide HIN).on hb1)
        clear HV HIN
        go_round
        case rel => exact ⟨k + 1, by go_num, by omega, unhide HN2, unhide HF⟩
        case measure => simp [intOf]; omega
    · obtain rfl : k = rs.length := by omega
      obtain rfl := fbR_end hr
      have HF := hide hin.2
      clear hr hin HP
      go_wp2
      go_ret
      exact ⟨rfl, unhide HF⟩
theorem fbR_find (f c : Int) : ∀ (l : List Rec) (i : Nat), fbR (fun r => decide (Cn.fam r.kind = f) && Cn.speaks r c) i l = Cn.findA f c i l
  | [], i => rfl
  | r :: l, i => by
    rw [fbR, Cn.findA, fbR_find f c l]
    by_cases h : Cn.fam r.kind = f ∧ Cn.speaks r c = true
    · rw [if_pos h, if_pos (by simp [h.1, h.2])]
    · rw [if_neg h, if_neg (by simpa using h)]
theorem findA_out {f c : Int} (hf : f < 0 ∨ 10 < f) : ∀ (l : List Rec) (i : Nat), Cn.findA f c i l = -1
  | [], i => rfl
  | r :: l, i => by
    have := Cn.fam_small r.kind
    rw [Cn.findA, if_neg (fun a => by omega), findA_out hf l]
theorem find_out {l : List Rec} {f c : Int} (hf : f ≤ 0 ∨ 10 ≤ f) : Cn.find l f c = -1 := by
  unfold Cn.find
  split
  · rfl
  · exact findA_out (by omega) l 0
/-- 6.2. -/
def FindT : Prop := ∀ (v : Value) (rs : List Rec) (f c : Int) (w : World), Glob w → Rcs w v rs → I64 f → (-2147483648 ≤ c ∧ c ≤ 2147483647) → Calls Tryz.prog 82 #[v, .int .i64 f, .int .i32 c] w (IntB w (Cn.find rs f c))
set_option maxRecDepth 8000 in
set_option maxHeartbeats 4000000 in
theorem find_any : FindT := by
  intro v rs f c w hg hv hf hc
  obtain ⟨f0, f1⟩ := hf
  by_cases hlo : f ≤ 0
  · rw [find_out (.inl hlo)]
    clear hg hv
    go_enter Tryz.func82, Tryz.ntmps82
    go_wp2
    go_ret
    exact ⟨rfl, ((Below.refl _ _).alloc (Nat.le_refl _) _).alloc (by simp) _⟩
  · by_cases hhi : 10 ≤ f
    · rw [find_out (.inr hhi)]
      clear hg hv
      go_enter Tryz.func82, Tryz.ntmps82
      go_wp2
      go_ret
      exact ⟨rfl, ((Below.refl _ _).alloc (Nat.le_refl _) _).alloc (by simp) _⟩
    · have hb0 : Below w.heap.size w ((w.alloc (.cells #[.int .i64 f] 3)).alloc (.cells #[.int .i32 c] 21)) := ((Below.refl _ _).alloc (Nat.le_refl _) _).alloc (by simp) _
      have hcB : ((w.alloc (.cells #[.int .i64 f] 3)).alloc (.cells #[.int .i32 c] 21)).cell? ⟨w.heap.size, 0, none⟩ = some (.int .i64 f) := by
        refine cell_of (j := 0) (cur := #[.int .i64 f]) (e := 3) ?_ (by simp)
        show ((w.heap.push _).push _)[w.heap.size]? = _
        rw [Array.getElem?_push_lt (by simp)]
        simp
      have hcC : ((w.alloc (.cells #[.int .i64 f] 3)).alloc (.cells #[.int .i32 c] 21)).cell? ⟨w.heap.size + 1, 0, none⟩ = some (.int .i32 c) := by
        refine cell_of (j := 0) (cur := #[.int .i32 c]) (e := 21) ?_ (by simp)
        show ((w.heap.push _).push _)[w.heap.size + 1]? = _
        rw [Array.getElem?_push]
        simp
      have hv1 := hv.below hb0
      have hg1 := hg.on hb0
      have e : Cn.find rs f c = fbR (fun r => decide (Cn.fam r.kind = f) && Cn.speaks r c) 0 rs := by
        unfold Cn.find
        rw [if_neg (by omega), fbR_find]
      rw [e]
      have K : Hid (Calls Tryz.prog 111 #[v, .func (.func 122) #[] #[.pointer (some ⟨w.heap.size, 0, none⟩), .pointer (some ⟨w.heap.size + 1, 0, none⟩)]] ((w.alloc (.cells #[.int .i64 f] 3)).alloc (.cells #[.int .i32 c] 21)) (IntB ((w.alloc (.cells #[.int .i64 f] 3)).alloc (.cells #[.int .i32 c] 21)) (fbR (fun r => decide (Cn.fam r.kind = f) && Cn.speaks r c) 0 rs))) :=
        indexFunc2_any _ _ _ v rs _ hv1 (fun k vt W hk hW _ => find1_any _ vt f c _ _ W (hv.fit hk) (hg1.on hW) (by rw [hW.cell (lt_of_cell? hcB)]; exact hcB) (by rw [hW.cell (lt_of_cell? hcC)]; exact hcC) (by omega) hc)
      obtain ⟨ao, cap, rfl, h1, h2⟩ := hv.shape
      clear hv hg hv1 hg1 hcB hcC e
      generalize fbR (fun r => decide (Cn.fam r.kind = f) && Cn.speaks r c) 0 rs = x at *
      go_enter Tryz.func82, Tryz.ntmps82
      go_wp2_with fail
      refine (unhide K).mono ?_
      rintro e w1 ⟨rfl, hb1⟩
      have HF : IntB w x (.returned (.int .i64 x)) w1 := ⟨rfl, bthen hb0 hb1⟩
      clear K hb0 hb1
      go_wp2
      go_ret
      exact HF
end Go.Proofs.YtloocceakfmnoaaGreatDoor
