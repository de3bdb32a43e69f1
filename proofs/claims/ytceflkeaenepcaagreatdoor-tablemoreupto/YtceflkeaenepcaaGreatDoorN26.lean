import Derived.Test.YtceflkeaenepcaaGreatDoorN25
namespace Go.Proofs.YtceflkeaenepcaaGreatDoor
open Go.RowKit
theorem nameB_eq (s : ByteArray) : Cn.nameL s = Scn.name (nums s) := by
  unfold Cn.nameL Scn.name nums Scn.small
  generalize s.data.toList = l
  match l with
  | [] => rfl
  | [_] => rfl
  | [_, _] => rfl
  | [_, _, _] => rfl
  | [a, b, c, d] =>
    simp only [List.map_cons, List.map_nil, List.length_cons, List.length_nil, List.getD_cons_zero, List.getD_cons_succ]
    rw [decide_eq_decide]
    constructor
    · intro h
      exact ⟨trivial, (show 65 ≤ (a.toNat : Int) by omega), (show (a.toNat : Int) ≤ 90 by omega), ⟨(show 97 ≤ (b.toNat : Int) by omega), (show (b.toNat : Int) ≤ 122 by omega)⟩, ⟨(show 97 ≤ (c.toNat : Int) by omega), (show (c.toNat : Int) ≤ 122 by omega)⟩, (show 97 ≤ (d.toNat : Int) by omega), (show (d.toNat : Int) ≤ 122 by omega)⟩
    · rintro ⟨_, h1, h2, ⟨h3, h4⟩, ⟨h5, h6⟩, h7, h8⟩
      have g1 : 65 ≤ (a.toNat : Int) := h1
      have g2 : (a.toNat : Int) ≤ 90 := h2
      have g3 : 97 ≤ (b.toNat : Int) := h3
      have g4 : (b.toNat : Int) ≤ 122 := h4
      have g5 : 97 ≤ (c.toNat : Int) := h5
      have g6 : (c.toNat : Int) ≤ 122 := h6
      have g7 : 97 ≤ (d.toNat : Int) := h7
      have g8 : (d.toNat : Int) ≤ 122 := h8
      omega
  | _ :: _ :: _ :: _ :: _ :: _ =>
    simp only [List.map_cons, List.length_cons]
    symm
    rw [decide_eq_false_iff_not]
    omega
theorem l_ne {b : ByteArray} (h : ¬ b.size = 0) : ¬ b.toList = [] := fun e => h (by
  have : b.data.toList.length = 0 := by rw [← ByteArray.toList_eq, e]; rfl
  show b.data.size = 0
  rw [← Array.length_toList]
  exact this)
theorem l_emp {b : ByteArray} (h : ¬ b.size = 0) : b.toList.isEmpty = false := List.isEmpty_eq_false_iff.2 (l_ne h)
theorem l_nil {b : ByteArray} (h : b.size = 0) : b = ⟨#[]⟩ := by
  cases b with
  | mk a =>
    have : a.size = 0 := h
    rw [Array.eq_empty_of_size_eq_zero this]
def namB (k : Int) (r : Rec) : Bool := if (Cn.rowK k).scr = 1 then Cn.nameL r.name && decide (r.other.size = 0) else if (Cn.rowK k).scr = 2 then Cn.nameL r.name && (Cn.nameL r.other && decide (r.name ≠ r.other)) else decide (r.name.size = 0) && decide (r.other.size = 0)
theorem scanNameL_any (s : ByteArray) (w : World) : Calls Tryz.prog 135 #[.string s] w (BoolB w (Cn.nameL s)) := by
  rw [nameB_eq]
  exact scanName_any s w
set_option maxRecDepth 8000 in
set_option maxHeartbeats 4000000 in
theorem named_any (k : Int) (r : Rec) (vt : Value) (w : World) (hg : Glob w) (hk : I64 k) : Calls Tryz.prog 121 #[shV k, recV r vt] w (BoolB w (namB k r)) := by
  have hb0 := below2 w (.cells #[.int .i64 k] 60) (.cells #[.int .i64 r.kind, .int .i64 r.lo, .int .i64 r.hi, .int .i64 r.n, vt, .string r.name, .string r.other, .float .f64 r.wt] 29)
  have K := hide (row_any k ((w.alloc (.cells #[.int .i64 k] 60)).alloc (.cells #[.int .i64 r.kind, .int .i64 r.lo, .int .i64 r.hi, .int .i64 r.n, vt, .string r.name, .string r.other, .float .f64 r.wt] 29)) (hg.on hb0) hk)
  clear hg
  unfold namB shV recV rowV at *
  generalize Cn.rowK k = q at *
  have hf := fld7 q
  have KN := hide (fun w => scanNameL_any r.name w)
  have KO := hide (fun w => scanNameL_any r.other w)
  generalize r.kind = kd at *
  generalize r.n = n at *
  generalize r.lo = lo at *
  generalize r.hi = hi at *
  generalize r.name = nm at *
  generalize r.other = ot at *
  generalize r.wt = wt at *
  generalize Cn.nameL nm = a at *
  generalize Cn.nameL ot = b at *
  by_cases s1 : q.scr = 1
  · rw [if_pos s1]
    rw [s1] at hf K
    cases a with
    | false =>
      show Calls Tryz.prog _ _ w (BoolB w false)
      go_enter Tryz.func121, Tryz.ntmps121
      go_wp2_with fail
      refine (unhide K).mono ?_
      rintro e w1 ⟨rfl, hb1⟩
      have y5 := box_cell (j := 5) hb1 rfl
      have y6 := box_cell (j := 6) hb1 rfl
      have hb := bthen hb0 hb1
      clear K hb0 hb1
      go_wp2_with fail
      refine ((unhide KN) _).mono ?_
      rintro e w2 ⟨rfl, hb2⟩
      have z6 : w2.cell? ⟨w.heap.size + 1, 6, none⟩ = _ := (hb2.cell (lt_of_cell? y6)).trans y6
      have hb := bthen hb hb2
      clear hb2
      clear KN KO y5 y6
      go_wp2
      go_ret
      exact ⟨rfl, hb⟩
    | true =>
      by_cases h0 : ot.size = 0
      · rw [decide_eq_true h0]
        obtain rfl := l_nil h0
        show Calls Tryz.prog _ _ w (BoolB w true)
        go_enter Tryz.func121, Tryz.ntmps121
        go_wp2_with fail
        refine (unhide K).mono ?_
        rintro e w1 ⟨rfl, hb1⟩
        have y5 := box_cell (j := 5) hb1 rfl
        have y6 := box_cell (j := 6) hb1 rfl
        have hb := bthen hb0 hb1
        clear K hb0 hb1
        go_wp2_with fail
        refine ((unhide KN) _).mono ?_
        rintro e w2 ⟨rfl, hb2⟩
        have z6 : w2.cell? ⟨w.heap.size + 1, 6, none⟩ = _ := (hb2.cell (lt_of_cell? y6)).trans y6
        have hb := bthen hb hb2
        clear hb2
        clear KN KO y5 y6
        go_wp2
        go_ret
        exact ⟨rfl, hb⟩
      · rw [decide_eq_false h0]
        have hne := l_ne h0
        have hie := l_emp h0
        show Calls Tryz.prog _ _ w (BoolB w false)
        go_enter Tryz.func121, Tryz.ntmps121
        go_wp2_with fail
        refine (unhide K).mono ?_
        rintro e w1 ⟨rfl, hb1⟩
        have y5 := box_cell (j := 5) hb1 rfl
        have y6 := box_cell (j := 6) hb1 rfl
        have hb := bthen hb0 hb1
        clear K hb0 hb1
        go_wp2_with fail
        refine ((unhide KN) _).mono ?_
        rintro e w2 ⟨rfl, hb2⟩
        have z6 : w2.cell? ⟨w.heap.size + 1, 6, none⟩ = _ := (hb2.cell (lt_of_cell? y6)).trans y6
        have hb := bthen hb hb2
        clear hb2
        clear KN KO y5 y6
        go_wp2
        go_ret
        exact ⟨rfl, hb⟩
  · rw [if_neg s1]
    have s1b : (q.scr == 1) = false := beq_eq_false_iff_ne.2 s1
    by_cases s2 : q.scr = 2
    · rw [if_pos s2]
      rw [s2] at hf K
      cases a with
      | false =>
        show Calls Tryz.prog _ _ w (BoolB w false)
        go_enter Tryz.func121, Tryz.ntmps121
        go_wp2_with fail
        refine (unhide K).mono ?_
        rintro e w1 ⟨rfl, hb1⟩
        have y5 := box_cell (j := 5) hb1 rfl
        have y6 := box_cell (j := 6) hb1 rfl
        have hb := bthen hb0 hb1
        clear K hb0 hb1
        go_wp2_with fail
        refine ((unhide KN) _).mono ?_
        rintro e w2 ⟨rfl, hb2⟩
        have z6 : w2.cell? ⟨w.heap.size + 1, 6, none⟩ = _ := (hb2.cell (lt_of_cell? y6)).trans y6
        have hb := bthen hb hb2
        clear hb2
        clear KN KO y5 y6
        go_wp2
        go_ret
        exact ⟨rfl, hb⟩
      | true =>
        cases b with
        | false =>
          show Calls Tryz.prog _ _ w (BoolB w false)
          go_enter Tryz.func121, Tryz.ntmps121
          go_wp2_with fail
          refine (unhide K).mono ?_
          rintro e w1 ⟨rfl, hb1⟩
          have y5 := box_cell (j := 5) hb1 rfl
          have y6 := box_cell (j := 6) hb1 rfl
          have hb := bthen hb0 hb1
          clear K hb0 hb1
          go_wp2_with fail
          refine ((unhide KN) _).mono ?_
          rintro e w2 ⟨rfl, hb2⟩
          have z5 : w2.cell? ⟨w.heap.size + 1, 5, none⟩ = _ := (hb2.cell (lt_of_cell? y5)).trans y5
          have z6 : w2.cell? ⟨w.heap.size + 1, 6, none⟩ = _ := (hb2.cell (lt_of_cell? y6)).trans y6
          have hb := bthen hb hb2
          clear hb2
          clear KN y5 y6
          go_wp2_with fail
          refine ((unhide KO) _).mono ?_
          rintro e w3 ⟨rfl, hb3⟩
          have z5 : w3.cell? ⟨w.heap.size + 1, 5, none⟩ = _ := (hb3.cell (lt_of_cell? z5)).trans z5
          have z6 : w3.cell? ⟨w.heap.size + 1, 6, none⟩ = _ := (hb3.cell (lt_of_cell? z6)).trans z6
          have hb := bthen hb hb3
          clear hb3
          clear KO
          go_wp2
          go_ret
          exact ⟨rfl, hb⟩
        | true =>
          by_cases h0 : nm = ot
          · rw [decide_eq_false (fun h => h h0)]
            subst h0
            show Calls Tryz.prog _ _ w (BoolB w false)
            go_enter Tryz.func121, Tryz.ntmps121
            go_wp2_with fail
            refine (unhide K).mono ?_
            rintro e w1 ⟨rfl, hb1⟩
            have y5 := box_cell (j := 5) hb1 rfl
            have y6 := box_cell (j := 6) hb1 rfl
            have hb := bthen hb0 hb1
            clear K hb0 hb1
            go_wp2_with fail
            refine ((unhide KN) _).mono ?_
            rintro e w2 ⟨rfl, hb2⟩
            have z5 : w2.cell? ⟨w.heap.size + 1, 5, none⟩ = _ := (hb2.cell (lt_of_cell? y5)).trans y5
            have z6 : w2.cell? ⟨w.heap.size + 1, 6, none⟩ = _ := (hb2.cell (lt_of_cell? y6)).trans y6
            have hb := bthen hb hb2
            clear hb2
            clear KN y5 y6
            go_wp2_with fail
            refine ((unhide KO) _).mono ?_
            rintro e w3 ⟨rfl, hb3⟩
            have z5 : w3.cell? ⟨w.heap.size + 1, 5, none⟩ = _ := (hb3.cell (lt_of_cell? z5)).trans z5
            have z6 : w3.cell? ⟨w.heap.size + 1, 6, none⟩ = _ := (hb3.cell (lt_of_cell? z6)).trans z6
            have hb := bthen hb hb3
            clear hb3
            clear KO
            go_wp2
            go_ret
            exact ⟨rfl, hb⟩
          · rw [decide_eq_true h0]
            have hne : ¬ nm.toList = ot.toList := fun e => h0 (by
              rw [ByteArray.toList_eq, ByteArray.toList_eq] at e
              cases nm
              cases ot
              simp_all)
            have hbq : (nm.toList == ot.toList) = false := beq_eq_false_iff_ne.2 hne
            show Calls Tryz.prog _ _ w (BoolB w true)
            go_enter Tryz.func121, Tryz.ntmps121
            go_wp2_with fail
            refine (unhide K).mono ?_
            rintro e w1 ⟨rfl, hb1⟩
            have y5 := box_cell (j := 5) hb1 rfl
            have y6 := box_cell (j := 6) hb1 rfl
            have hb := bthen hb0 hb1
            clear K hb0 hb1
            go_wp2_with fail
            refine ((unhide KN) _).mono ?_
            rintro e w2 ⟨rfl, hb2⟩
            have z5 : w2.cell? ⟨w.heap.size + 1, 5, none⟩ = _ := (hb2.cell (lt_of_cell? y5)).trans y5
            have z6 : w2.cell? ⟨w.heap.size + 1, 6, none⟩ = _ := (hb2.cell (lt_of_cell? y6)).trans y6
            have hb := bthen hb hb2
            clear hb2
            clear KN y5 y6
            go_wp2_with fail
            refine ((unhide KO) _).mono ?_
            rintro e w3 ⟨rfl, hb3⟩
            have z5 : w3.cell? ⟨w.heap.size + 1, 5, none⟩ = _ := (hb3.cell (lt_of_cell? z5)).trans z5
            have z6 : w3.cell? ⟨w.heap.size + 1, 6, none⟩ = _ := (hb3.cell (lt_of_cell? z6)).trans z6
            have hb := bthen hb hb3
            clear hb3
            clear KO
            go_wp2
            go_ret
            exact ⟨rfl, hb⟩
    · rw [if_neg s2]
      have s2b : (q.scr == 2) = false := beq_eq_false_iff_ne.2 s2
      clear KN KO
      by_cases h0 : nm.size = 0
      · rw [decide_eq_true h0]
        obtain rfl := l_nil h0
        by_cases h1 : ot.size = 0
        · rw [decide_eq_true h1]
          obtain rfl := l_nil h1
          show Calls Tryz.prog _ _ w (BoolB w true)
          go_enter Tryz.func121, Tryz.ntmps121
          go_wp2_with fail
          refine (unhide K).mono ?_
          rintro e w1 ⟨rfl, hb1⟩
          have y5 := box_cell (j := 5) hb1 rfl
          have y6 := box_cell (j := 6) hb1 rfl
          have hb := bthen hb0 hb1
          clear K hb0 hb1
          go_wp2
          go_ret
          exact ⟨rfl, hb⟩
        · rw [decide_eq_false h1]
          have hne := l_ne h1
          have hie := l_emp h1
          show Calls Tryz.prog _ _ w (BoolB w false)
          go_enter Tryz.func121, Tryz.ntmps121
          go_wp2_with fail
          refine (unhide K).mono ?_
          rintro e w1 ⟨rfl, hb1⟩
          have y5 := box_cell (j := 5) hb1 rfl
          have y6 := box_cell (j := 6) hb1 rfl
          have hb := bthen hb0 hb1
          clear K hb0 hb1
          go_wp2
          go_ret
          exact ⟨rfl, hb⟩
      · rw [decide_eq_false h0]
        have hne := l_ne h0
        have hie := l_emp h0
        show Calls Tryz.prog _ _ w (BoolB w false)
        go_enter Tryz.func121, Tryz.ntmps121
        go_wp2_with fail
        refine (unhide K).mono ?_
        rintro e w1 ⟨rfl, hb1⟩
        have y5 := box_cell (j := 5) hb1 rfl
        have y6 := box_cell (j := 6) hb1 rfl
        have hb := bthen hb0 hb1
        clear K hb0 hb1
        go_wp2
        go_ret
        exact ⟨rfl, hb⟩
end Go.Proofs.YtceflkeaenepcaaGreatDoor
namespace Go.Proofs.YtceflkeaenepcaaGreatDoor
open Go.RowKit
def tarB (k : Int) (r : Rec) : Bool := decide ((Cn.rowK k).least ≤ (r.to.length : Int) ∧ (r.to.length : Int) ≤ (Cn.rowK k).most) && r.to.all Cn.scalar
set_option maxRecDepth 8000 in
set_option maxHeartbeats 4000000 in
theorem targeted_any (k : Int) (r : Rec) (vt : Value) (w : World) (hg : Glob w) (hk : I64 k) (hs : Sk .i32 w vt r.to) : Calls Tryz.prog 126 #[shV k, recV r vt] w (BoolB w (tarB k r)) := by
  have hb0 := below2 w (.cells #[.int .i64 k] 60) (.cells #[.int .i64 r.kind, .int .i64 r.lo, .int .i64 r.hi, .int .i64 r.n, vt, .string r.name, .string r.other, .float .f64 r.wt] 29)
  have K := hide (row_any k ((w.alloc (.cells #[.int .i64 k] 60)).alloc (.cells #[.int .i64 r.kind, .int .i64 r.lo, .int .i64 r.hi, .int .i64 r.n, vt, .string r.name, .string r.other, .float .f64 r.wt] 29)) (hg.on hb0) hk)
  clear hg
  unfold tarB shV recV rowV at *
  generalize Cn.rowK k = q at *
  have KS : Hid (∀ W, Below w.heap.size w W → Calls Tryz.prog 138 #[vt] W fun e w' => e = .returned (.bool (r.to.all Cn.scalar)) ∧ w' = W) := fun W h => sound_any vt r.to W (hs.below h)
  obtain ⟨ao, cap, rfl, _, _⟩ := hs.shape
  clear hs
  generalize r.kind = kd at *
  generalize r.n = n at *
  generalize r.lo = lo at *
  generalize r.hi = hi at *
  generalize r.name = nm at *
  generalize r.other = ot at *
  generalize r.wt = wt at *
  generalize r.to.all Cn.scalar = b at *
  generalize r.to.length = m at *
  by_cases h1 : q.least ≤ (m : Int)
  · have d1 := decide_eq_true h1
    by_cases h2 : (m : Int) ≤ q.most
    · have d2 := decide_eq_true h2
      rw [decide_eq_true ⟨h1, h2⟩, Bool.true_and]
      go_enter Tryz.func126, Tryz.ntmps126
      go_wp2_with fail
      refine (unhide K).mono ?_
      rintro e w1 ⟨rfl, hb1⟩
      have y4 := box_cell (j := 4) hb1 rfl
      have hb := bthen hb0 hb1
      clear K hb0 hb1
      have z4 := cell_more y4
      go_wp2_with fail
      refine ((unhide KS) _ (hb.alloc hb.size _)).mono ?_
      rintro e w2 ⟨rfl, hw2⟩
      subst w2
      clear KS
      go_wp2
      go_ret
      exact ⟨rfl, hb.alloc hb.size _⟩
    · have d2 := decide_eq_false h2
      rw [decide_eq_false (fun h => h2 h.2), Bool.false_and]
      go_enter Tryz.func126, Tryz.ntmps126
      go_wp2_with fail
      refine (unhide K).mono ?_
      rintro e w1 ⟨rfl, hb1⟩
      have y4 := box_cell (j := 4) hb1 rfl
      have hb := bthen hb0 hb1
      clear K hb0 hb1
      have z4 := cell_more y4
      clear KS
      go_wp2
      go_ret
      exact ⟨rfl, hb.alloc hb.size _⟩
  · have d1 := decide_eq_false h1
    rw [decide_eq_false (fun h => h1 h.1), Bool.false_and]
    go_enter Tryz.func126, Tryz.ntmps126
    go_wp2_with fail
    refine (unhide K).mono ?_
    rintro e w1 ⟨rfl, hb1⟩
    have y4 := box_cell (j := 4) hb1 rfl
    have hb := bthen hb0 hb1
    clear K hb0 hb1
    have z4 := cell_more y4
    clear KS
    go_wp2
    go_ret
    exact ⟨rfl, hb.alloc hb.size _⟩
end Go.Proofs.YtceflkeaenepcaaGreatDoor
namespace Go.Proofs.YtceflkeaenepcaaGreatDoor
open Go.RowKit
set_option maxRecDepth 8000 in
set_option maxHeartbeats 4000000 in
theorem isScalar_any (c : Int) (w : World) (hc : I64 c) : Calls Tryz.prog 383 #[.int .i64 c] w fun e w' => e = .returned (.bool (Cn.scalar c)) ∧ w' = w := by
  have K := hide (isPoint_any c w hc)
  by_cases hp : 0 ≤ c ∧ c ≤ 1114111
  · have e : isPt c = true := decide_eq_true hp
    rw [e] at K
    have hw : IntKind.i32.wrap c = c := IntWalk.i32_in _ ⟨by omega, by omega⟩
    have K2 := hide (valid_any c w ⟨by omega, by omega⟩)
    clear e hc
    generalize Cn.scalar c = b at *
    go_enter Tryz.func383, Tryz.ntmps383
    go_wp2_with fail
    refine (unhide K).mono ?_
    rintro e w1 ⟨rfl, hw1⟩
    subst w1
    clear K
    go_wp2_with fail
    refine (unhide K2).mono ?_
    rintro e w1 ⟨rfl, hw1⟩
    subst w1
    clear K2
    go_wp2
    go_ret
    exact ⟨rfl, rfl⟩
  · have e : isPt c = false := decide_eq_false hp
    rw [e] at K
    have e2 : Cn.scalar c = false := decide_eq_false (by omega)
    rw [e2]
    clear e e2 hc
    go_enter Tryz.func383, Tryz.ntmps383
    go_wp2_with fail
    refine (unhide K).mono ?_
    rintro e w1 ⟨rfl, hw1⟩
    subst w1
    clear K
    go_wp2
    go_ret
    exact ⟨rfl, rfl⟩
set_option maxRecDepth 8000 in
set_option maxHeartbeats 4000000 in
theorem placedPaired_any (k : Int) (r : Rec) (vt : Value) (w : World) (hf : RecFit r) : Calls Tryz.prog 389 #[shV k, recV r vt] w (BoolB w (decide (r.lo = 0 ∧ r.hi = 0))) := by
  have hb := below2 w (.cells #[.int .i64 k] 77) (.cells #[.int .i64 r.kind, .int .i64 r.lo, .int .i64 r.hi, .int .i64 r.n, vt, .string r.name, .string r.other, .float .f64 r.wt] 29)
  have hlo := hf.lo
  have hhi := hf.hi
  clear hf
  unfold shV recV at *
  generalize r.kind = kd at *
  generalize r.n = n at *
  generalize r.lo = lo at *
  generalize r.hi = hi at *
  generalize r.name = nm at *
  generalize r.other = ot at *
  generalize r.wt = wt at *
  by_cases h1 : lo = 0
  · by_cases h2 : hi = 0
    · rw [decide_eq_true ⟨h1, h2⟩]
      subst h1 h2
      go_enter Tryz.func389, Tryz.ntmps389
      go_wp2
      go_ret
      exact ⟨rfl, hb⟩
    · rw [decide_eq_false (fun h => h2 h.2)]
      subst h1
      have d2 : (hi == 0) = false := beq_eq_false_iff_ne.2 h2
      go_enter Tryz.func389, Tryz.ntmps389
      go_wp2
      go_ret
      exact ⟨rfl, hb⟩
  · rw [decide_eq_false (fun h => h1 h.1)]
    have d1 : (lo == 0) = false := beq_eq_false_iff_ne.2 h1
    go_enter Tryz.func389, Tryz.ntmps389
    go_wp2
    go_ret
    exact ⟨rfl, hb⟩
set_option maxRecDepth 8000 in
set_option maxHeartbeats 4000000 in
theorem placedSingle_any (k : Int) (r : Rec) (vt : Value) (w : World) (hf : RecFit r) : Calls Tryz.prog 385 #[shV k, recV r vt] w (BoolB w (decide (r.lo = r.hi) && Cn.scalar r.lo)) := by
  have hb := below2 w (.cells #[.int .i64 k] 76) (.cells #[.int .i64 r.kind, .int .i64 r.lo, .int .i64 r.hi, .int .i64 r.n, vt, .string r.name, .string r.other, .float .f64 r.wt] 29)
  have hlo := hf.lo
  have hhi := hf.hi
  have K := hide (fun w => isScalar_any r.lo w hf.lo)
  clear hf
  unfold shV recV at *
  generalize r.kind = kd at *
  generalize r.n = n at *
  generalize r.lo = lo at *
  generalize r.hi = hi at *
  generalize r.name = nm at *
  generalize r.other = ot at *
  generalize r.wt = wt at *
  by_cases h1 : lo = hi
  · rw [decide_eq_true h1, Bool.true_and]
    subst h1
    have d1 : (lo == lo) = true := beq_self_eq_true _
    generalize Cn.scalar lo = b at *
    go_enter Tryz.func385, Tryz.ntmps385
    go_wp2_with fail
    refine ((unhide K) _).mono ?_
    rintro e w2 ⟨rfl, hw2⟩
    subst w2
    clear K
    go_wp2
    go_ret
    exact ⟨rfl, hb⟩
  · rw [decide_eq_false h1, Bool.false_and]
    have d1 : (lo == hi) = false := beq_eq_false_iff_ne.2 h1
    clear K
    go_enter Tryz.func385, Tryz.ntmps385
    go_wp2
    go_ret
    exact ⟨rfl, hb⟩
def spanB (r : Rec) : Bool := decide (0 ≤ r.lo ∧ r.lo ≤ 1114111 ∧ 0 ≤ r.hi ∧ r.hi ≤ 1114111 ∧ r.lo ≤ r.hi)
set_option maxRecDepth 8000 in
set_option maxHeartbeats 4000000 in
theorem placedSpanned_any (k : Int) (r : Rec) (vt : Value) (w : World) (hf : RecFit r) : Calls Tryz.prog 376 #[shV k, recV r vt] w (BoolB w (spanB r)) := by
  have hb := below2 w (.cells #[.int .i64 k] 73) (.cells #[.int .i64 r.kind, .int .i64 r.lo, .int .i64 r.hi, .int .i64 r.n, vt, .string r.name, .string r.other, .float .f64 r.wt] 29)
  have hlo := hf.lo
  have hhi := hf.hi
  have K1 := hide (fun w => isPoint_any r.lo w hf.lo)
  have K2 := hide (fun w => isPoint_any r.hi w hf.hi)
  clear hf
  unfold spanB shV recV at *
  generalize r.kind = kd at *
  generalize r.n = n at *
  generalize r.lo = lo at *
  generalize r.hi = hi at *
  generalize r.name = nm at *
  generalize r.other = ot at *
  generalize r.wt = wt at *
  by_cases h1 : 0 ≤ lo ∧ lo ≤ 1114111
  · have e1 : isPt lo = true := decide_eq_true h1
    rw [e1] at K1
    by_cases h2 : 0 ≤ hi ∧ hi ≤ 1114111
    · have e2 : isPt hi = true := decide_eq_true h2
      rw [e2] at K2
      by_cases h3 : lo ≤ hi
      · rw [decide_eq_true ⟨h1.1, h1.2, h2.1, h2.2, h3⟩]
        have d3 := decide_eq_true h3
        go_enter Tryz.func376, Tryz.ntmps376
        go_wp2_with fail
        refine ((unhide K1) _).mono ?_
        rintro e w2 ⟨rfl, hw2⟩
        subst w2
        clear K1
        go_wp2_with fail
        refine ((unhide K2) _).mono ?_
        rintro e w2 ⟨rfl, hw2⟩
        subst w2
        clear K2
        go_wp2
        go_ret
        exact ⟨rfl, hb⟩
      · rw [decide_eq_false (fun h => h3 h.2.2.2.2)]
        have d3 := decide_eq_false h3
        go_enter Tryz.func376, Tryz.ntmps376
        go_wp2_with fail
        refine ((unhide K1) _).mono ?_
        rintro e w2 ⟨rfl, hw2⟩
        subst w2
        clear K1
        go_wp2_with fail
        refine ((unhide K2) _).mono ?_
        rintro e w2 ⟨rfl, hw2⟩
        subst w2
        clear K2
        go_wp2
        go_ret
        exact ⟨rfl, hb⟩
    · have e2 : isPt hi = false := decide_eq_false h2
      rw [e2] at K2
      rw [decide_eq_false (fun h => h2 ⟨h.2.2.1, h.2.2.2.1⟩)]
      clear h2
      go_enter Tryz.func376, Tryz.ntmps376
      go_wp2_with fail
      refine ((unhide K1) _).mono ?_
      rintro e w2 ⟨rfl, hw2⟩
      subst w2
      clear K1
      go_wp2_with fail
      refine ((unhide K2) _).mono ?_
      rintro e w2 ⟨rfl, hw2⟩
      subst w2
      clear K2
      go_wp2
      go_ret
      exact ⟨rfl, hb⟩
  · have e1 : isPt lo = false := decide_eq_false h1
    rw [e1] at K1
    rw [decide_eq_false (fun h => h1 ⟨h.1, h.2.1⟩)]
    clear h1
    go_enter Tryz.func376, Tryz.ntmps376
    go_wp2_with fail
    refine ((unhide K1) _).mono ?_
    rintro e w2 ⟨rfl, hw2⟩
    subst w2
    clear K1
    clear K2
    go_wp2
    go_ret
    exact ⟨rfl, hb⟩
end Go.Proofs.YtceflkeaenepcaaGreatDoor
namespace Go.Proofs.YtceflkeaenepcaaGreatDoor
open Go.RowKit
def shiftB (r : Rec) : Bool := spanB r && (decide (r.to.length = 1) && (Cn.scalar (r.to.getD 0 0) && (Cn.scalar (r.to.getD 0 0 + r.hi - r.lo) && (decide (r.to.getD 0 0 < 55296) == decide (r.to.getD 0 0 + r.hi - r.lo < 55296)))))
set_option maxRecDepth 8000 in
set_option maxHeartbeats 4000000 in
theorem placedShifted_any (k : Int) (r : Rec) (vt : Value) (w : World) (hf : RecFit r) (hs : Sk .i32 w vt r.to) : Calls Tryz.prog 381 #[shV k, recV r vt] w (BoolB w (shiftB r)) := by
  have hb0 := below2 w (.cells #[.int .i64 k] 75) (.cells #[.int .i64 r.kind, .int .i64 r.lo, .int .i64 r.hi, .int .i64 r.n, vt, .string r.name, .string r.other, .float .f64 r.wt] 29)
  have K1 := hide (placedSpanned_any k r vt ((w.alloc (.cells #[.int .i64 k] 75)).alloc (.cells #[.int .i64 r.kind, .int .i64 r.lo, .int .i64 r.hi, .int .i64 r.n, vt, .string r.name, .string r.other, .float .f64 r.wt] 29)) hf)
  have hlen := hf.len
  unfold shiftB
  cases hsp : spanB r with
  | false =>
    rw [hsp] at K1
    rw [Bool.false_and]
    clear hf hs hsp
    unfold shV recV at *
    generalize r.kind = kd at *
    generalize r.n = n at *
    generalize r.lo = lo at *
    generalize r.hi = hi at *
    generalize r.name = nm at *
    generalize r.other = ot at *
    generalize r.wt = wt at *
    go_enter Tryz.func381, Tryz.ntmps381
    go_wp2_with fail
    refine (unhide K1).mono ?_
    rintro e w1 ⟨rfl, hb1⟩
    have hb := bthen hb0 hb1
    clear K1 hb0 hb1
    go_wp2
    go_ret
    exact ⟨rfl, hb⟩
  | true =>
    rw [hsp] at K1
    rw [Bool.true_and]
    by_cases h1 : r.to.length = 1
    · rw [decide_eq_true h1, Bool.true_and]
      obtain ⟨b, off, cap, rfl, hc1, hc2, hc⟩ := hs.place (by omega)
      have hx := hc 0 (by omega)
      have hrn := hs.1.i32at 0
      obtain ⟨p0, p1, p2, p3, p4⟩ : 0 ≤ r.lo ∧ r.lo ≤ 1114111 ∧ 0 ≤ r.hi ∧ r.hi ≤ 1114111 ∧ r.lo ≤ r.hi := of_decide_eq_true hsp
      rw [h1] at K1 hc1 hb0
      have hlt1 := lt_of_cell? hx
      have KA := hide (fun w => isScalar_any (r.to.getD 0 0) w ⟨by omega, by omega⟩)
      have KB := hide (fun w => isScalar_any (r.to.getD 0 0 + r.hi - r.lo) w ⟨by omega, by omega⟩)
      rw [h1]
      clear hf hs hsp hc h1
      unfold shV recV at *
      generalize r.kind = kd at *
      generalize r.n = n at *
      generalize r.lo = lo at *
      generalize r.hi = hi at *
      generalize r.name = nm at *
      generalize r.other = ot at *
      generalize r.wt = wt at *
      generalize r.to.getD 0 0 = x at *
      have e1 : IntKind.i64.wrap (x + hi) = x + hi := IntWalk.i64_in _ ⟨by omega, by omega⟩
      have e2 : IntKind.i64.wrap (x + hi - lo) = x + hi - lo := IntWalk.i64_in _ ⟨by omega, by omega⟩
      have e3 : IntKind.i64.wrap x = x := IntWalk.i64_in _ ⟨by omega, by omega⟩
      cases ha : Cn.scalar x with
      | false =>
        rw [ha] at KA
        rw [Bool.false_and]
        go_enter Tryz.func381, Tryz.ntmps381
        go_wp2_with fail
        refine (unhide K1).mono ?_
        rintro e w1 ⟨rfl, hb1⟩
        have y1 := box_cell (j := 1) hb1 rfl
        have y2 := box_cell (j := 2) hb1 rfl
        have y4 := box_cell (j := 4) hb1 rfl
        have hb := bthen hb0 hb1
        have hy : w1.cell? ⟨b, off, none⟩ = some (.int .i32 x) := (hb.cell (by exact hlt1)).trans hx
        clear K1 hb0 hb1
        go_wp2_with fail
        refine ((unhide KA) _).mono ?_
        rintro e w2 ⟨rfl, hw2⟩
        subst w2
        clear KA
        clear KB
        go_wp2
        go_ret
        exact ⟨rfl, hb⟩
      | true =>
        rw [ha] at KA
        rw [Bool.true_and]
        cases hz : Cn.scalar (x + hi - lo) with
        | false =>
          rw [hz] at KB
          rw [Bool.false_and]
          go_enter Tryz.func381, Tryz.ntmps381
          go_wp2_with fail
          refine (unhide K1).mono ?_
          rintro e w1 ⟨rfl, hb1⟩
          have y1 := box_cell (j := 1) hb1 rfl
          have y2 := box_cell (j := 2) hb1 rfl
          have y4 := box_cell (j := 4) hb1 rfl
          have hb := bthen hb0 hb1
          have hy : w1.cell? ⟨b, off, none⟩ = some (.int .i32 x) := (hb.cell (by exact hlt1)).trans hx
          clear K1 hb0 hb1
          go_wp2_with fail
          refine ((unhide KA) _).mono ?_
          rintro e w2 ⟨rfl, hw2⟩
          subst w2
          clear KA
          go_wp2_with fail
          refine ((unhide KB) _).mono ?_
          rintro e w2 ⟨rfl, hw2⟩
          subst w2
          clear KB
          go_wp2
          go_ret
          exact ⟨rfl, hb⟩
        | true =>
          rw [hz] at KB
          rw [Bool.true_and]
          go_enter Tryz.func381, Tryz.ntmps381
          go_wp2_with fail
          refine (unhide K1).mono ?_
          rintro e w1 ⟨rfl, hb1⟩
          have y1 := box_cell (j := 1) hb1 rfl
          have y2 := box_cell (j := 2) hb1 rfl
          have y4 := box_cell (j := 4) hb1 rfl
          have hb := bthen hb0 hb1
          have hy : w1.cell? ⟨b, off, none⟩ = some (.int .i32 x) := (hb.cell (by exact hlt1)).trans hx
          clear K1 hb0 hb1
          go_wp2_with fail
          refine ((unhide KA) _).mono ?_
          rintro e w2 ⟨rfl, hw2⟩
          subst w2
          clear KA
          go_wp2_with fail
          refine ((unhide KB) _).mono ?_
          rintro e w2 ⟨rfl, hw2⟩
          subst w2
          clear KB
          go_wp2
          go_ret
          exact ⟨rfl, hb⟩
    · rw [decide_eq_false h1, Bool.false_and]
      have d1 : ((r.to.length : Int) != 1) = true := by simp; omega
      obtain ⟨ao, cap, rfl, _, _⟩ := hs.shape
      clear hf hs hsp h1
      unfold shV recV at *
      generalize r.kind = kd at *
      generalize r.n = n at *
      generalize r.lo = lo at *
      generalize r.hi = hi at *
      generalize r.name = nm at *
      generalize r.other = ot at *
      generalize r.wt = wt at *
      generalize r.to.length = m at *
      go_enter Tryz.func381, Tryz.ntmps381
      go_wp2_with fail
      refine (unhide K1).mono ?_
      rintro e w1 ⟨rfl, hb1⟩
      have y4 := box_cell (j := 4) hb1 rfl
      have hb := bthen hb0 hb1
      clear K1 hb0 hb1
      go_wp2
      go_ret
      exact ⟨rfl, hb⟩
end Go.Proofs.YtceflkeaenepcaaGreatDoor
