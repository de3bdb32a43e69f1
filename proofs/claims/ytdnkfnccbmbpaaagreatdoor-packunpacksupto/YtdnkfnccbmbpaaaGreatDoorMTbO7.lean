/- The contract of table's Right. -/
import Derived.Test.YtdnkfnccbmbpaaaGreatDoorMTbM7
namespace Go.Proofs.YtdnkfnccbmbpaaaGreatDoor
open Go.RowKit

set_option maxRecDepth 20000 in
set_option maxHeartbeats 8000000 in
theorem right_core (T fp : Nat) (r : Rec) (vt : Value) (w : World)
    (KSH : ∀ W, Calls Tryz.prog 66 #[.int .i64 r.kind] W (fun e w' => e = .returned (.iface T (.agg #[.int .i64 r.kind])) ∧ Below W.heap.size W w'))
    (KF : ∀ W, Below w.heap.size w W → Calls Tryz.prog 99 #[shV r.kind] W (IntB W (Cn.fam r.kind)))
    (m0 : ∀ W, (method 282 T (.agg #[.int .i64 r.kind]) "endonym/table.family").run Tryz.prog W = .ok (99, .agg #[.int .i64 r.kind]) W)
    (m1 : ∀ W, (method 282 T (.agg #[.int .i64 r.kind]) "endonym/table.placed").run Tryz.prog W = .ok (fp, .agg #[.int .i64 r.kind]) W)
    (m2 : ∀ W, (method 282 T (.agg #[.int .i64 r.kind]) "endonym/table.targeted").run Tryz.prog W = .ok (139, .agg #[.int .i64 r.kind]) W)
    (m3 : ∀ W, (method 282 T (.agg #[.int .i64 r.kind]) "endonym/table.numbered").run Tryz.prog W = .ok (136, .agg #[.int .i64 r.kind]) W)
    (m4 : ∀ W, (method 282 T (.agg #[.int .i64 r.kind]) "endonym/table.named").run Tryz.prog W = .ok (134, .agg #[.int .i64 r.kind]) W)
    (m5 : ∀ W, (method 282 T (.agg #[.int .i64 r.kind]) "endonym/table.weighed").run Tryz.prog W = .ok (140, .agg #[.int .i64 r.kind]) W)
    (eg : ∀ args W, (callFunc fp args).run Tryz.prog W = .ok (.enter fp args) W)
    (b1 b2 b3 b4 b5 : Bool)
    (K1 : ∀ W, Below w.heap.size w W → Calls Tryz.prog fp #[shV r.kind, recV r vt] W (BoolB W b1))
    (K2 : ∀ W, Below w.heap.size w W → Calls Tryz.prog 139 #[shV r.kind, recV r vt] W (BoolB W b2))
    (K3 : ∀ W, Below w.heap.size w W → Calls Tryz.prog 136 #[shV r.kind, recV r vt] W (BoolB W b3))
    (K4 : ∀ W, Below w.heap.size w W → Calls Tryz.prog 134 #[shV r.kind, recV r vt] W (BoolB W b4))
    (K5 : ∀ W, Below w.heap.size w W → Calls Tryz.prog 140 #[shV r.kind, recV r vt] W (BoolB W b5))
    : Calls Tryz.prog 39 #[recV r vt] w (IntB w (if Cn.fam r.kind = 0 then 60 else if (b1 && (b2 && (b3 && (b4 && b5)))) = true then 0 else 61)) := by
  have hb0 : Below w.heap.size w (w.alloc (.cells #[.int .i64 r.kind, .int .i64 r.lo, .int .i64 r.hi, .int .i64 r.n, vt, .string r.name, .string r.other, .float .f64 r.wt] 46)) := (Below.refl _ _).alloc (Nat.le_refl _) _
  have HC : Hid (∀ W, Below (w.alloc (.cells #[.int .i64 r.kind, .int .i64 r.lo, .int .i64 r.hi, .int .i64 r.n, vt, .string r.name, .string r.other, .float .f64 r.wt] 46)).heap.size (w.alloc (.cells #[.int .i64 r.kind, .int .i64 r.lo, .int .i64 r.hi, .int .i64 r.n, vt, .string r.name, .string r.other, .float .f64 r.wt] 46)) W → W.cell? ⟨w.heap.size, 0, none⟩ = some (.int .i64 r.kind) ∧ W.cell? ⟨w.heap.size, 1, none⟩ = some (.int .i64 r.lo) ∧ W.cell? ⟨w.heap.size, 2, none⟩ = some (.int .i64 r.hi) ∧ W.cell? ⟨w.heap.size, 3, none⟩ = some (.int .i64 r.n) ∧ W.cell? ⟨w.heap.size, 4, none⟩ = some (vt) ∧ W.cell? ⟨w.heap.size, 5, none⟩ = some (.string r.name) ∧ W.cell? ⟨w.heap.size, 6, none⟩ = some (.string r.other) ∧ W.cell? ⟨w.heap.size, 7, none⟩ = some (.float .f64 r.wt)) := fun W h => by
    have h0 : (w.alloc (.cells #[.int .i64 r.kind, .int .i64 r.lo, .int .i64 r.hi, .int .i64 r.n, vt, .string r.name, .string r.other, .float .f64 r.wt] 46)).heap[w.heap.size]? = some (.cells #[.int .i64 r.kind, .int .i64 r.lo, .int .i64 r.hi, .int .i64 r.n, vt, .string r.name, .string r.other, .float .f64 r.wt] 46 (0, 0)) := by
      show (w.heap.push _)[w.heap.size]? = _
      simp
    have h2 : W.heap[w.heap.size]? = _ := (h.block _ (by simp)).trans h0
    exact ⟨cell_of (j := 0) h2 (by simp), cell_of (j := 1) h2 (by simp), cell_of (j := 2) h2 (by simp), cell_of (j := 3) h2 (by simp), cell_of (j := 4) h2 (by simp), cell_of (j := 5) h2 (by simp), cell_of (j := 6) h2 (by simp), cell_of (j := 7) h2 (by simp)⟩
  have KSH := hide KSH
  have KF := hide KF
  have K1 := hide K1
  have K2 := hide K2
  have K3 := hide K3
  have K4 := hide K4
  have K5 := hide K5
  have mm0 := m0
  have mm1 := m1
  have mm2 := m2
  have mm3 := m3
  have mm4 := m4
  have mm5 := m5
  clear m0 m1 m2 m3 m4 m5
  unfold recV shV at *
  generalize Cn.fam r.kind = fr at *
  generalize r.kind = kd at *
  generalize r.n = n at *
  generalize r.lo = lo at *
  generalize r.hi = hi at *
  generalize r.name = nm at *
  generalize r.other = ot at *
  generalize r.wt = wt at *
  by_cases h0 : fr = 0
  · subst h0
    rw [if_pos rfl]
    go_enter Tryz.func39, Tryz.ntmps39
    go_wp2_with fail
    refine ((unhide KSH) _).mono ?_
    rintro e w1 ⟨rfl, hb1⟩
    have hB := bthen hb0 hb1
    have HC1 : Hid _ := (unhide HC) w1 hb1
    go_wp2_with fail
    refine ((unhide KF) _ hB).mono ?_
    rintro e w2 ⟨rfl, hb2⟩
    have hA := bthen hb1 hb2
    have hB := bthen hb0 hA
    have HF := hide hB
    clear KSH KF K1 K2 K3 K4 K5 HC
    go_wp2
    go_ret
    exact ⟨rfl, unhide HF⟩
  · rw [if_neg h0]
    have q0 : (fr == 0) = false := beq_eq_false_iff_ne.2 h0
    cases b1 with
    | false =>
      rw [if_neg (by simp)]
      go_enter Tryz.func39, Tryz.ntmps39
      go_wp2_with fail
      refine ((unhide KSH) _).mono ?_
      rintro e w1 ⟨rfl, hb1⟩
      have hB := bthen hb0 hb1
      have HC1 : Hid _ := (unhide HC) w1 hb1
      go_wp2_with fail
      refine ((unhide KF) _ hB).mono ?_
      rintro e w2 ⟨rfl, hb2⟩
      have hA := bthen hb1 hb2
      have hB := bthen hb0 hA
      obtain ⟨x0, x1, x2, x3, x4, x5, x6, x7⟩ := (unhide HC) _ hA
      go_wp2_with fail
      refine ((unhide K1) _ hB).mono ?_
      rintro e w3 ⟨rfl, hb3⟩
      have hA := bthen hA hb3
      have hB := bthen hb0 hA
      clear x0 x1 x2 x3 x4 x5 x6 x7
      have HF := hide hB
      clear KSH KF K1 K2 K3 K4 K5 HC
      go_wp2
      go_ret
      exact ⟨rfl, unhide HF⟩
    | true =>
      cases b2 with
      | false =>
        rw [if_neg (by simp)]
        go_enter Tryz.func39, Tryz.ntmps39
        go_wp2_with fail
        refine ((unhide KSH) _).mono ?_
        rintro e w1 ⟨rfl, hb1⟩
        have hB := bthen hb0 hb1
        have HC1 : Hid _ := (unhide HC) w1 hb1
        go_wp2_with fail
        refine ((unhide KF) _ hB).mono ?_
        rintro e w2 ⟨rfl, hb2⟩
        have hA := bthen hb1 hb2
        have hB := bthen hb0 hA
        obtain ⟨x0, x1, x2, x3, x4, x5, x6, x7⟩ := (unhide HC) _ hA
        go_wp2_with fail
        refine ((unhide K1) _ hB).mono ?_
        rintro e w3 ⟨rfl, hb3⟩
        have hA := bthen hA hb3
        have hB := bthen hb0 hA
        clear x0 x1 x2 x3 x4 x5 x6 x7
        obtain ⟨x0, x1, x2, x3, x4, x5, x6, x7⟩ := (unhide HC) _ hA
        go_wp2_with fail
        refine ((unhide K2) _ hB).mono ?_
        rintro e w4 ⟨rfl, hb4⟩
        have hA := bthen hA hb4
        have hB := bthen hb0 hA
        clear x0 x1 x2 x3 x4 x5 x6 x7
        have HF := hide hB
        clear KSH KF K1 K2 K3 K4 K5 HC
        go_wp2
        go_ret
        exact ⟨rfl, unhide HF⟩
      | true =>
        cases b3 with
        | false =>
          rw [if_neg (by simp)]
          go_enter Tryz.func39, Tryz.ntmps39
          go_wp2_with fail
          refine ((unhide KSH) _).mono ?_
          rintro e w1 ⟨rfl, hb1⟩
          have hB := bthen hb0 hb1
          have HC1 : Hid _ := (unhide HC) w1 hb1
          go_wp2_with fail
          refine ((unhide KF) _ hB).mono ?_
          rintro e w2 ⟨rfl, hb2⟩
          have hA := bthen hb1 hb2
          have hB := bthen hb0 hA
          obtain ⟨x0, x1, x2, x3, x4, x5, x6, x7⟩ := (unhide HC) _ hA
          go_wp2_with fail
          refine ((unhide K1) _ hB).mono ?_
          rintro e w3 ⟨rfl, hb3⟩
          have hA := bthen hA hb3
          have hB := bthen hb0 hA
          clear x0 x1 x2 x3 x4 x5 x6 x7
          obtain ⟨x0, x1, x2, x3, x4, x5, x6, x7⟩ := (unhide HC) _ hA
          go_wp2_with fail
          refine ((unhide K2) _ hB).mono ?_
          rintro e w4 ⟨rfl, hb4⟩
          have hA := bthen hA hb4
          have hB := bthen hb0 hA
          clear x0 x1 x2 x3 x4 x5 x6 x7
          obtain ⟨x0, x1, x2, x3, x4, x5, x6, x7⟩ := (unhide HC) _ hA
          go_wp2_with fail
          refine ((unhide K3) _ hB).mono ?_
          rintro e w5 ⟨rfl, hb5⟩
          have hA := bthen hA hb5
          have hB := bthen hb0 hA
          clear x0 x1 x2 x3 x4 x5 x6 x7
          have HF := hide hB
          clear KSH KF K1 K2 K3 K4 K5 HC
          go_wp2
          go_ret
          exact ⟨rfl, unhide HF⟩
        | true =>
          cases b4 with
          | false =>
            rw [if_neg (by simp)]
            go_enter Tryz.func39, Tryz.ntmps39
            go_wp2_with fail
            refine ((unhide KSH) _).mono ?_
            rintro e w1 ⟨rfl, hb1⟩
            have hB := bthen hb0 hb1
            have HC1 : Hid _ := (unhide HC) w1 hb1
            go_wp2_with fail
            refine ((unhide KF) _ hB).mono ?_
            rintro e w2 ⟨rfl, hb2⟩
            have hA := bthen hb1 hb2
            have hB := bthen hb0 hA
            obtain ⟨x0, x1, x2, x3, x4, x5, x6, x7⟩ := (unhide HC) _ hA
            go_wp2_with fail
            refine ((unhide K1) _ hB).mono ?_
            rintro e w3 ⟨rfl, hb3⟩
            have hA := bthen hA hb3
            have hB := bthen hb0 hA
            clear x0 x1 x2 x3 x4 x5 x6 x7
            obtain ⟨x0, x1, x2, x3, x4, x5, x6, x7⟩ := (unhide HC) _ hA
            go_wp2_with fail
            refine ((unhide K2) _ hB).mono ?_
            rintro e w4 ⟨rfl, hb4⟩
            have hA := bthen hA hb4
            have hB := bthen hb0 hA
            clear x0 x1 x2 x3 x4 x5 x6 x7
            obtain ⟨x0, x1, x2, x3, x4, x5, x6, x7⟩ := (unhide HC) _ hA
            go_wp2_with fail
            refine ((unhide K3) _ hB).mono ?_
            rintro e w5 ⟨rfl, hb5⟩
            have hA := bthen hA hb5
            have hB := bthen hb0 hA
            clear x0 x1 x2 x3 x4 x5 x6 x7
            obtain ⟨x0, x1, x2, x3, x4, x5, x6, x7⟩ := (unhide HC) _ hA
            go_wp2_with fail
            refine ((unhide K4) _ hB).mono ?_
            rintro e w6 ⟨rfl, hb6⟩
            have hA := bthen hA hb6
            have hB := bthen hb0 hA
            clear x0 x1 x2 x3 x4 x5 x6 x7
            have HF := hide hB
            clear KSH KF K1 K2 K3 K4 K5 HC
            go_wp2
            go_ret
            exact ⟨rfl, unhide HF⟩
          | true =>
            cases b5 with
            | false =>
              rw [if_neg (by simp)]
              go_enter Tryz.func39, Tryz.ntmps39
              go_wp2_with fail
              refine ((unhide KSH) _).mono ?_
              rintro e w1 ⟨rfl, hb1⟩
              have hB := bthen hb0 hb1
              have HC1 : Hid _ := (unhide HC) w1 hb1
              go_wp2_with fail
              refine ((unhide KF) _ hB).mono ?_
              rintro e w2 ⟨rfl, hb2⟩
              have hA := bthen hb1 hb2
              have hB := bthen hb0 hA
              obtain ⟨x0, x1, x2, x3, x4, x5, x6, x7⟩ := (unhide HC) _ hA
              go_wp2_with fail
              refine ((unhide K1) _ hB).mono ?_
              rintro e w3 ⟨rfl, hb3⟩
              have hA := bthen hA hb3
              have hB := bthen hb0 hA
              clear x0 x1 x2 x3 x4 x5 x6 x7
              obtain ⟨x0, x1, x2, x3, x4, x5, x6, x7⟩ := (unhide HC) _ hA
              go_wp2_with fail
              refine ((unhide K2) _ hB).mono ?_
              rintro e w4 ⟨rfl, hb4⟩
              have hA := bthen hA hb4
              have hB := bthen hb0 hA
              clear x0 x1 x2 x3 x4 x5 x6 x7
              obtain ⟨x0, x1, x2, x3, x4, x5, x6, x7⟩ := (unhide HC) _ hA
              go_wp2_with fail
              refine ((unhide K3) _ hB).mono ?_
              rintro e w5 ⟨rfl, hb5⟩
              have hA := bthen hA hb5
              have hB := bthen hb0 hA
              clear x0 x1 x2 x3 x4 x5 x6 x7
              obtain ⟨x0, x1, x2, x3, x4, x5, x6, x7⟩ := (unhide HC) _ hA
              go_wp2_with fail
              refine ((unhide K4) _ hB).mono ?_
              rintro e w6 ⟨rfl, hb6⟩
              have hA := bthen hA hb6
              have hB := bthen hb0 hA
              clear x0 x1 x2 x3 x4 x5 x6 x7
              obtain ⟨x0, x1, x2, x3, x4, x5, x6, x7⟩ := (unhide HC) _ hA
              go_wp2_with fail
              refine ((unhide K5) _ hB).mono ?_
              rintro e w7 ⟨rfl, hb7⟩
              have hA := bthen hA hb7
              have hB := bthen hb0 hA
              clear x0 x1 x2 x3 x4 x5 x6 x7
              have HF := hide hB
              clear KSH KF K1 K2 K3 K4 K5 HC
              go_wp2
              go_ret
              exact ⟨rfl, unhide HF⟩
            | true =>
              rw [if_pos (by simp)]
              go_enter Tryz.func39, Tryz.ntmps39
              go_wp2_with fail
              refine ((unhide KSH) _).mono ?_
              rintro e w1 ⟨rfl, hb1⟩
              have hB := bthen hb0 hb1
              have HC1 : Hid _ := (unhide HC) w1 hb1
              go_wp2_with fail
              refine ((unhide KF) _ hB).mono ?_
              rintro e w2 ⟨rfl, hb2⟩
              have hA := bthen hb1 hb2
              have hB := bthen hb0 hA
              obtain ⟨x0, x1, x2, x3, x4, x5, x6, x7⟩ := (unhide HC) _ hA
              go_wp2_with fail
              refine ((unhide K1) _ hB).mono ?_
              rintro e w3 ⟨rfl, hb3⟩
              have hA := bthen hA hb3
              have hB := bthen hb0 hA
              clear x0 x1 x2 x3 x4 x5 x6 x7
              obtain ⟨x0, x1, x2, x3, x4, x5, x6, x7⟩ := (unhide HC) _ hA
              go_wp2_with fail
              refine ((unhide K2) _ hB).mono ?_
              rintro e w4 ⟨rfl, hb4⟩
              have hA := bthen hA hb4
              have hB := bthen hb0 hA
              clear x0 x1 x2 x3 x4 x5 x6 x7
              obtain ⟨x0, x1, x2, x3, x4, x5, x6, x7⟩ := (unhide HC) _ hA
              go_wp2_with fail
              refine ((unhide K3) _ hB).mono ?_
              rintro e w5 ⟨rfl, hb5⟩
              have hA := bthen hA hb5
              have hB := bthen hb0 hA
              clear x0 x1 x2 x3 x4 x5 x6 x7
              obtain ⟨x0, x1, x2, x3, x4, x5, x6, x7⟩ := (unhide HC) _ hA
              go_wp2_with fail
              refine ((unhide K4) _ hB).mono ?_
              rintro e w6 ⟨rfl, hb6⟩
              have hA := bthen hA hb6
              have hB := bthen hb0 hA
              clear x0 x1 x2 x3 x4 x5 x6 x7
              obtain ⟨x0, x1, x2, x3, x4, x5, x6, x7⟩ := (unhide HC) _ hA
              go_wp2_with fail
              refine ((unhide K5) _ hB).mono ?_
              rintro e w7 ⟨rfl, hb7⟩
              have hA := bthen hA hb7
              have hB := bthen hb0 hA
              clear x0 x1 x2 x3 x4 x5 x6 x7
              have HF := hide hB
              clear KSH KF K1 K2 K3 K4 K5 HC
              go_wp2
              go_ret
              exact ⟨rfl, unhide HF⟩
end Go.Proofs.YtdnkfnccbmbpaaaGreatDoor
