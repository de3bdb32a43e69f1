import Derived.Test.YtdnkfnccbmbpaaaGreatDoorGd8
import Derived.Test.YtdnkfnccbmbpaaaGreatDoorGj8
/- What a kind's shape asks of a record's fields. -/
namespace Go.Proofs.YtdnkfnccbmbpaaaGreatDoor
open Go.RowKit

def cmpI (a b : Int) : Int := if a < b then -1 else if b < a then 1 else 0
theorem cmpNaN_any (a : Int) (w : World) : Calls Tryz.prog 151 #[.int .u64 a] w fun e w' => e = .returned (.bool false) ∧ w' = w := by
  have h : (a != a) = false := by simp
  go_enter Tryz.func151, Tryz.ntmps151
  go_wp2
  go_ret
  exact ⟨rfl, rfl⟩
set_option maxRecDepth 8000 in
set_option maxHeartbeats 1000000 in
theorem compare_any (a b : Int) (w : World) : Calls Tryz.prog 146 #[.int .u64 a, .int .u64 b] w fun e w' => e = .returned (.int .i64 (cmpI a b)) ∧ w' = w := by
  have K1 := hide (cmpNaN_any a w)
  have K2 := hide (cmpNaN_any b w)
  unfold cmpI
  by_cases h1 : a < b
  · rw [if_pos h1]
    go_enter Tryz.func146, Tryz.ntmps146
    go_wp2_with fail
    refine (unhide K1).mono ?_
    rintro e w ⟨rfl, rfl⟩
    go_wp2_with fail
    refine (unhide K2).mono ?_
    rintro e w ⟨rfl, rfl⟩
    clear K1 K2
    go_wp2
    go_ret
    exact ⟨rfl, rfl⟩
  · rw [if_neg h1]
    by_cases h2 : b < a
    · rw [if_pos h2]
      go_enter Tryz.func146, Tryz.ntmps146
      go_wp2_with fail
      refine (unhide K1).mono ?_
      rintro e w ⟨rfl, rfl⟩
      go_wp2_with fail
      refine (unhide K2).mono ?_
      rintro e w ⟨rfl, rfl⟩
      clear K1 K2
      go_wp2
      go_ret
      exact ⟨rfl, rfl⟩
    · rw [if_neg h2]
      go_enter Tryz.func146, Tryz.ntmps146
      go_wp2_with fail
      refine (unhide K1).mono ?_
      rintro e w ⟨rfl, rfl⟩
      go_wp2_with fail
      refine (unhide K2).mono ?_
      rintro e w ⟨rfl, rfl⟩
      clear K1 K2
      go_wp2
      go_ret
      exact ⟨rfl, rfl⟩
theorem weighOrder_any (u v : Nat) (w : World) (hu : u < 18446744073709551616) (hv : v < 18446744073709551616) : Calls Tryz.prog 144 #[.float .f64 u, .float .f64 v] w fun e w' => e = .returned (.int .i64 (cmpI (rankN u) (rankN v))) ∧ w' = w := by
  have K1 := hide (rank_any u w hu)
  have K2 := hide (rank_any v w hv)
  have K3 := hide (compare_any (rankN u) (rankN v) w)
  generalize cmpI (rankN u) (rankN v) = c at *
  generalize rankN u = a at *
  generalize rankN v = b at *
  go_enter Tryz.func144, Tryz.ntmps144
  go_wp2_with fail
  refine (unhide K1).mono ?_
  rintro e w ⟨rfl, rfl⟩
  clear K1
  go_wp2_with fail
  refine (unhide K2).mono ?_
  rintro e w ⟨rfl, rfl⟩
  clear K2
  go_wp2_with fail
  refine (unhide K3).mono ?_
  rintro e w ⟨rfl, rfl⟩
  clear K3
  go_wp2
  go_ret
  exact ⟨rfl, rfl⟩
theorem weight_order {u : Nat} (h : u < 18446744073709551616) : (!nanB u && decide (0 ≤ cmpI (rankN u) (rankN 0))) = Cn.weight u := by
  have r0 : rankN 0 = 9223372036854775808 := by decide
  rw [r0]
  by_cases hn : nanB u = true
  · rw [hn]
    have : 9218868437227405312 < u % 9223372036854775808 := of_decide_eq_true hn
    unfold Cn.weight
    rw [decide_eq_false (p := u ≤ 9218868437227405312) (by omega)]
    rfl
  · have hn2 : nanB u = false := by simpa using hn
    have : ¬ 9218868437227405312 < u % 9223372036854775808 := of_decide_eq_false hn2
    by_cases hs : u < 9223372036854775808
    · have e : rankN u = (u : Int) + 9223372036854775808 := by unfold rankN; rw [hn2, if_neg (by decide), if_pos hs]
      have hc : 0 ≤ cmpI (rankN u) 9223372036854775808 := by
        rw [e]
        unfold cmpI
        rw [if_neg (by omega)]
        split <;> decide
      unfold Cn.weight
      rw [hn2, decide_eq_true hc, decide_eq_true (p := u ≤ 9218868437227405312) (by omega)]
      rfl
    · have e : rankN u = 18446744073709551615 - (u : Int) := by unfold rankN; rw [hn2, if_neg (by decide), if_neg hs]
      have hc : ¬ 0 ≤ cmpI (rankN u) 9223372036854775808 := by
        rw [e]
        unfold cmpI
        rw [if_pos (by omega)]
        decide
      unfold Cn.weight
      rw [hn2, decide_eq_false hc, decide_eq_false (p := u ≤ 9218868437227405312) (by omega)]
      rfl
/-- The three boxes that stand ahead of what is asked. -/
theorem below3 (w : World) (a b c : Obj) : Below w.heap.size w (((w.alloc a).alloc b).alloc c) := (((Below.refl _ _).alloc (Nat.le_refl _) _).alloc (by simp) _).alloc (by simp; omega) _
theorem below2 (w : World) (a b : Obj) : Below w.heap.size w ((w.alloc a).alloc b) := ((Below.refl _ _).alloc (Nat.le_refl _) _).alloc (by simp) _
def numB (k : Int) (r : Rec) : Bool := decide ((Cn.rowK k).low ≤ r.n ∧ r.n ≤ (Cn.rowK k).high)
/-- A cell of the second box, behind a call. -/
theorem box_cell {w w1 : World} {a : Obj} {cs : Array Value} {t : TypeId} {j : Nat} {v : Value} (hb : Below ((w.alloc a).alloc (.cells cs t)).heap.size ((w.alloc a).alloc (.cells cs t)) w1) (h : cs[j]? = some v) : w1.cell? ⟨w.heap.size + 1, j, none⟩ = some v := by
  have h0 : ((w.alloc a).alloc (.cells cs t)).heap[w.heap.size + 1]? = some (.cells cs t (0, 0)) := by
    show ((w.heap.push _).push _)[w.heap.size + 1]? = _
    rw [Array.getElem?_push]
    simp
  have h1 : w1.heap[w.heap.size + 1]? = some (.cells cs t (0, 0)) := by
    rw [hb.block _ (by simp), h0]
  have hj : j < cs.size := by
    rcases Nat.lt_or_ge j cs.size with hh | hh
    · exact hh
    · rw [Array.getElem?_eq_none hh] at h; cases h
  rw [cell_of (j := j) h1 hj]
  simp [Array.getD, hj] at h ⊢
  simpa [Array.getElem?_eq_getElem hj] using h
theorem cell_more {w : World} {b i : Nat} {v : Value} (h : w.cell? ⟨b, i, none⟩ = some v) (o : Obj) : (w.alloc o).cell? ⟨b, i, none⟩ = some v := by
  rw [World.cell?_alloc_lt _ _ _ (lt_of_cell? h)]
  exact h
end Go.Proofs.YtdnkfnccbmbpaaaGreatDoor
/- What a kind's shape asks of a record's number and weight. -/
namespace Go.Proofs.YtdnkfnccbmbpaaaGreatDoor
open Go.RowKit

set_option maxRecDepth 8000 in
set_option maxHeartbeats 4000000 in
theorem numbered_any (k : Int) (r : Rec) (vt : Value) (w : World) (hg : Glob w) (hk : I64 k) (hn : I64 r.n) : Calls Tryz.prog 136 #[shV k, recV r vt] w (BoolB w (numB k r)) := by
  have hb0 := below2 w (.cells #[.int .i64 k] 132) (.cells #[.int .i64 r.kind, .int .i64 r.lo, .int .i64 r.hi, .int .i64 r.n, vt, .string r.name, .string r.other, .float .f64 r.wt] 46)
  have K := hide (row_any k ((w.alloc (.cells #[.int .i64 k] 132)).alloc (.cells #[.int .i64 r.kind, .int .i64 r.lo, .int .i64 r.hi, .int .i64 r.n, vt, .string r.name, .string r.other, .float .f64 r.wt] 46)) (hg.on hb0) hk)
  clear hg
  unfold numB shV recV rowV at *
  generalize Cn.rowK k = q at *
  obtain ⟨n0, n1⟩ := hn
  generalize r.kind = kd at *
  generalize r.n = n at *
  generalize r.lo = lo at *
  generalize r.hi = hi at *
  generalize r.name = nm at *
  generalize r.other = ot at *
  generalize r.wt = wt at *
  by_cases h1 : q.low ≤ n
  · by_cases h2 : n ≤ q.high
    · rw [decide_eq_true ⟨h1, h2⟩]
      have d1 := decide_eq_true h1
      have d2 := decide_eq_true h2
      go_enter Tryz.func136, Tryz.ntmps136
      go_wp2_with fail
      refine (unhide K).mono ?_
      rintro e w1 ⟨rfl, hb1⟩
      have y3 := box_cell (j := 3) hb1 rfl
      have hb := bthen hb0 hb1
      clear K hb0 hb1
      have z3 := cell_more y3
      go_wp2
      go_ret
      exact ⟨rfl, hb.alloc hb.size _⟩
    · rw [decide_eq_false (fun h => h2 h.2)]
      have d1 := decide_eq_true h1
      have d2 := decide_eq_false h2
      go_enter Tryz.func136, Tryz.ntmps136
      go_wp2_with fail
      refine (unhide K).mono ?_
      rintro e w1 ⟨rfl, hb1⟩
      have y3 := box_cell (j := 3) hb1 rfl
      have hb := bthen hb0 hb1
      clear K hb0 hb1
      have z3 := cell_more y3
      go_wp2
      go_ret
      exact ⟨rfl, hb.alloc hb.size _⟩
  · rw [decide_eq_false (fun h => h1 h.1)]
    have d1 := decide_eq_false h1
    go_enter Tryz.func136, Tryz.ntmps136
    go_wp2_with fail
    refine (unhide K).mono ?_
    rintro e w1 ⟨rfl, hb1⟩
    have y3 := box_cell (j := 3) hb1 rfl
    have hb := bthen hb0 hb1
    clear K hb0 hb1
    have z3 := cell_more y3
    go_wp2
    go_ret
    exact ⟨rfl, hb.alloc hb.size _⟩
def weiB (k : Int) (r : Rec) : Bool := if (Cn.rowK k).wei = true then Cn.weight r.wt else decide (r.wt = 0)
set_option maxRecDepth 8000 in
set_option maxHeartbeats 4000000 in
theorem weighed_any (k : Int) (r : Rec) (vt : Value) (w : World) (hg : Glob w) (hk : I64 k) (hu : r.wt < 18446744073709551616) : Calls Tryz.prog 140 #[shV k, recV r vt] w (BoolB w (weiB k r)) := by
  have hb0 := below2 w (.cells #[.int .i64 k] 132) (.cells #[.int .i64 r.kind, .int .i64 r.lo, .int .i64 r.hi, .int .i64 r.n, vt, .string r.name, .string r.other, .float .f64 r.wt] 46)
  have K := hide (row_any k ((w.alloc (.cells #[.int .i64 k] 132)).alloc (.cells #[.int .i64 r.kind, .int .i64 r.lo, .int .i64 r.hi, .int .i64 r.n, vt, .string r.name, .string r.other, .float .f64 r.wt] 46)) (hg.on hb0) hk)
  clear hg
  unfold weiB shV recV rowV at *
  generalize Cn.rowK k = q at *
  have hf := fld8 q
  rw [← weight_order hu]
  have KN := hide (fun w => isNaN_any r.wt w)
  have KO := hide (fun w => weighOrder_any r.wt 0 w hu (by decide))
  have KB := hide (fun w => bits_any r.wt w)
  generalize r.kind = kd at *
  generalize r.n = n at *
  generalize r.lo = lo at *
  generalize r.hi = hi at *
  generalize r.name = nm at *
  generalize r.other = ot at *
  generalize r.wt = wt at *
  generalize cmpI (rankN wt) (rankN 0) = c at *
  cases hw : q.wei with
  | true =>
    rw [if_pos rfl]
    rw [hw] at hf K
    clear KB
    cases hn : nanB wt with
    | true =>
      rw [hn] at KN
      go_enter Tryz.func140, Tryz.ntmps140
      go_wp2_with fail
      refine (unhide K).mono ?_
      rintro e w1 ⟨rfl, hb1⟩
      have y7 := box_cell (j := 7) hb1 rfl
      have hb := bthen hb0 hb1
      clear K hb0 hb1
      go_wp2_with fail
      refine ((unhide KN) _).mono ?_
      rintro e w2 ⟨rfl, hw2⟩
      subst w2
      clear KN KO
      go_wp2
      go_ret
      exact ⟨rfl, hb⟩
    | false =>
      rw [hn] at KN
      by_cases hc : 0 ≤ c
      · rw [decide_eq_true hc]
        have d1 := decide_eq_true hc
        go_enter Tryz.func140, Tryz.ntmps140
        go_wp2_with fail
        refine (unhide K).mono ?_
        rintro e w1 ⟨rfl, hb1⟩
        have y7 := box_cell (j := 7) hb1 rfl
        have hb := bthen hb0 hb1
        clear K hb0 hb1
        go_wp2_with fail
        refine ((unhide KN) _).mono ?_
        rintro e w2 ⟨rfl, hw2⟩
        subst w2
        clear KN
        go_wp2_with fail
        refine ((unhide KO) _).mono ?_
        rintro e w2 ⟨rfl, hw2⟩
        subst w2
        clear KO
        go_wp2
        go_ret
        exact ⟨rfl, hb⟩
      · rw [decide_eq_false hc]
        have d1 := decide_eq_false hc
        go_enter Tryz.func140, Tryz.ntmps140
        go_wp2_with fail
        refine (unhide K).mono ?_
        rintro e w1 ⟨rfl, hb1⟩
        have y7 := box_cell (j := 7) hb1 rfl
        have hb := bthen hb0 hb1
        clear K hb0 hb1
        go_wp2_with fail
        refine ((unhide KN) _).mono ?_
        rintro e w2 ⟨rfl, hw2⟩
        subst w2
        clear KN
        go_wp2_with fail
        refine ((unhide KO) _).mono ?_
        rintro e w2 ⟨rfl, hw2⟩
        subst w2
        clear KO
        go_wp2
        go_ret
        exact ⟨rfl, hb⟩
  | false =>
    rw [if_neg (by decide)]
    rw [hw] at hf K
    clear KN KO
    by_cases h0 : wt = 0
    · rw [decide_eq_true h0]
      subst h0
      go_enter Tryz.func140, Tryz.ntmps140
      go_wp2_with fail
      refine (unhide K).mono ?_
      rintro e w1 ⟨rfl, hb1⟩
      have y7 := box_cell (j := 7) hb1 rfl
      have hb := bthen hb0 hb1
      clear K hb0 hb1
      go_wp2_with fail
      refine ((unhide KB) _).mono ?_
      rintro e w2 ⟨rfl, hw2⟩
      subst w2
      clear KB
      go_wp2
      go_ret
      exact ⟨rfl, hb⟩
    · rw [decide_eq_false h0]
      have d0 : ((wt : Int) == 0) = false := beq_eq_false_iff_ne.2 (by omega)
      go_enter Tryz.func140, Tryz.ntmps140
      go_wp2_with fail
      refine (unhide K).mono ?_
      rintro e w1 ⟨rfl, hb1⟩
      have y7 := box_cell (j := 7) hb1 rfl
      have hb := bthen hb0 hb1
      clear K hb0 hb1
      go_wp2_with fail
      refine ((unhide KB) _).mono ?_
      rintro e w2 ⟨rfl, hw2⟩
      subst w2
      clear KB
      go_wp2
      go_ret
      exact ⟨rfl, hb⟩
end Go.Proofs.YtdnkfnccbmbpaaaGreatDoor
/- What a kind's shape asks of a record's names. -/
namespace Go.Proofs.YtdnkfnccbmbpaaaGreatDoor
open Go.RowKit

theorem nameB_eq (s : ByteArray) : Cn.nameL s = Scn.name (nums s) := by
  unfold Cn.nameL Scn.name nums Scn.small
  generalize s.data.toList = l
  match l with
  | [] => rfl
  | [_] => rfl
  | [_, _] => rfl
  | [_, _, _] => rfl
  | [a, b, c, d] =>
    simp only [List.map_cons, List.map_nil, List.length_cons, List.length_nil, List.getD_cons_zero, List.getD_cons_succ]
    rw [decide_eq_decide]
    constructor
    · intro h
      exact ⟨trivial, (show 65 ≤ (a.toNat : Int) by omega), (show (a.toNat : Int) ≤ 90 by omega), ⟨(show 97 ≤ (b.toNat : Int) by omega), (show (b.toNat : Int) ≤ 122 by omega)⟩, ⟨(show 97 ≤ (c.toNat : Int) by omega), (show (c.toNat : Int) ≤ 122 by omega)⟩, (show 97 ≤ (d.toNat : Int) by omega), (show (d.toNat : Int) ≤ 122 by omega)⟩
    · rintro ⟨_, h1, h2, ⟨h3, h4⟩, ⟨h5, h6⟩, h7, h8⟩
      have g1 : 65 ≤ (a.toNat : Int) := h1
      have g2 : (a.toNat : Int) ≤ 90 := h2
      have g3 : 97 ≤ (b.toNat : Int) := h3
      have g4 : (b.toNat : Int) ≤ 122 := h4
      have g5 : 97 ≤ (c.toNat : Int) := h5
      have g6 : (c.toNat : Int) ≤ 122 := h6
      have g7 : 97 ≤ (d.toNat : Int) := h7
      have g8 : (d.toNat : Int) ≤ 122 := h8
      omega
  | _ :: _ :: _ :: _ :: _ :: _ =>
    simp only [List.map_cons, List.length_cons]
    symm
    rw [decide_eq_false_iff_not]
    omega
theorem l_ne {b : ByteArray} (h : ¬ b.size = 0) : ¬ b.toList = [] := fun e => h (by
  have : b.data.toList.length = 0 := by rw [← ByteArray.toList_eq, e]; rfl
  show b.data.size = 0
  rw [← Array.length_toList]
  exact this)
theorem l_emp {b : ByteArray} (h : ¬ b.size = 0) : b.toList.isEmpty = false := List.isEmpty_eq_false_iff.2 (l_ne h)
theorem l_nil {b : ByteArray} (h : b.size = 0) : b = ⟨#[]⟩ := by
  cases b with
  | mk a =>
    have : a.size = 0 := h
    rw [Array.eq_empty_of_size_eq_zero this]
def namB (k : Int) (r : Rec) : Bool := if (Cn.rowK k).scr = 1 then Cn.nameL r.name && decide (r.other.size = 0) else if (Cn.rowK k).scr = 2 then Cn.nameL r.name && (Cn.nameL r.other && decide (r.name ≠ r.other)) else decide (r.name.size = 0) && decide (r.other.size = 0)
theorem scanNameL_any (s : ByteArray) (w : World) : Calls Tryz.prog 141 #[.string s] w (BoolB w (Cn.nameL s)) := by
  rw [nameB_eq]
  exact scanName_any s w
set_option maxRecDepth 8000 in
set_option maxHeartbeats 4000000 in
theorem named_any (k : Int) (r : Rec) (vt : Value) (w : World) (hg : Glob w) (hk : I64 k) : Calls Tryz.prog 134 #[shV k, recV r vt] w (BoolB w (namB k r)) := by
  have hb0 := below2 w (.cells #[.int .i64 k] 132) (.cells #[.int .i64 r.kind, .int .i64 r.lo, .int .i64 r.hi, .int .i64 r.n, vt, .string r.name, .string r.other, .float .f64 r.wt] 46)
  have K := hide (row_any k ((w.alloc (.cells #[.int .i64 k] 132)).alloc (.cells #[.int .i64 r.kind, .int .i64 r.lo, .int .i64 r.hi, .int .i64 r.n, vt, .string r.name, .string r.other, .float .f64 r.wt] 46)) (hg.on hb0) hk)
  clear hg
  unfold namB shV recV rowV at *
  generalize Cn.rowK k = q at *
  have hf := fld7 q
  have KN := hide (fun w => scanNameL_any r.name w)
  have KO := hide (fun w => scanNameL_any r.other w)
  generalize r.kind = kd at *
  generalize r.n = n at *
  generalize r.lo = lo at *
  generalize r.hi = hi at *
  generalize r.name = nm at *
  generalize r.other = ot at *
  generalize r.wt = wt at *
  generalize Cn.nameL nm = a at *
  generalize Cn.nameL ot = b at *
  by_cases s1 : q.scr = 1
  · rw [if_pos s1]
    rw [s1] at hf K
    cases a with
    | false =>
      show Calls Tryz.prog _ _ w (BoolB w false)
      go_enter Tryz.func134, Tryz.ntmps134
      go_wp2_with fail
      refine (unhide K).mono ?_
      rintro e w1 ⟨rfl, hb1⟩
      have y5 := box_cell (j := 5) hb1 rfl
      have y6 := box_cell (j := 6) hb1 rfl
      have hb := bthen hb0 hb1
      clear K hb0 hb1
      go_wp2_with fail
      refine ((unhide KN) _).mono ?_
      rintro e w2 ⟨rfl, hb2⟩
      have z6 : w2.cell? ⟨w.heap.size + 1, 6, none⟩ = _ := (hb2.cell (lt_of_cell? y6)).trans y6
      have hb := bthen hb hb2
      clear hb2
      clear KN KO y5 y6
      go_wp2
      go_ret
      exact ⟨rfl, hb⟩
    | true =>
      by_cases h0 : ot.size = 0
      · rw [decide_eq_true h0]
        obtain rfl := l_nil h0
        show Calls Tryz.prog _ _ w (BoolB w true)
        go_enter Tryz.func134, Tryz.ntmps134
        go_wp2_with fail
        refine (unhide K).mono ?_
        rintro e w1 ⟨rfl, hb1⟩
        have y5 := box_cell (j := 5) hb1 rfl
        have y6 := box_cell (j := 6) hb1 rfl
        have hb := bthen hb0 hb1
        clear K hb0 hb1
        go_wp2_with fail
        refine ((unhide KN) _).mono ?_
        rintro e w2 ⟨rfl, hb2⟩
        have z6 : w2.cell? ⟨w.heap.size + 1, 6, none⟩ = _ := (hb2.cell (lt_of_cell? y6)).trans y6
        have hb := bthen hb hb2
        clear hb2
        clear KN KO y5 y6
        go_wp2
        go_ret
        exact ⟨rfl, hb⟩
      · rw [decide_eq_false h0]
        have hne := l_ne h0
        have hie := l_emp h0
        show Calls Tryz.prog _ _ w (BoolB w false)
        go_enter Tryz.func134, Tryz.ntmps134
        go_wp2_with fail
        refine (unhide K).mono ?_
        rintro e w1 ⟨rfl, hb1⟩
        have y5 := box_cell (j := 5) hb1 rfl
        have y6 := box_cell (j := 6) hb1 rfl
        have hb := bthen hb0 hb1
        clear K hb0 hb1
        go_wp2_with fail
        refine ((unhide KN) _).mono ?_
        rintro e w2 ⟨rfl, hb2⟩
        have z6 : w2.cell? ⟨w.heap.size + 1, 6, none⟩ = _ := (hb2.cell (lt_of_cell? y6)).trans y6
        have hb := bthen hb hb2
        clear hb2
        clear KN KO y5 y6
        go_wp2
        go_ret
        exact ⟨rfl, hb⟩
  · rw [if_neg s1]
    have s1b : (q.scr == 1) = false := beq_eq_false_iff_ne.2 s1
    by_cases s2 : q.scr = 2
    · rw [if_pos s2]
      rw [s2] at hf K
      cases a with
      | false =>
        show Calls Tryz.prog _ _ w (BoolB w false)
        go_enter Tryz.func134, Tryz.ntmps134
        go_wp2_with fail
        refine (unhide K).mono ?_
        rintro e w1 ⟨rfl, hb1⟩
        have y5 := box_cell (j := 5) hb1 rfl
        have y6 := box_cell (j := 6) hb1 rfl
        have hb := bthen hb0 hb1
        clear K hb0 hb1
        go_wp2_with fail
        refine ((unhide KN) _).mono ?_
        rintro e w2 ⟨rfl, hb2⟩
        have z6 : w2.cell? ⟨w.heap.size + 1, 6, none⟩ = _ := (hb2.cell (lt_of_cell? y6)).trans y6
        have hb := bthen hb hb2
        clear hb2
        clear KN KO y5 y6
        go_wp2
        go_ret
        exact ⟨rfl, hb⟩
      | true =>
        cases b with
        | false =>
          show Calls Tryz.prog _ _ w (BoolB w false)
          go_enter Tryz.func134, Tryz.ntmps134
          go_wp2_with fail
          refine (unhide K).mono ?_
          rintro e w1 ⟨rfl, hb1⟩
          have y5 := box_cell (j := 5) hb1 rfl
          have y6 := box_cell (j := 6) hb1 rfl
          have hb := bthen hb0 hb1
          clear K hb0 hb1
          go_wp2_with fail
          refine ((unhide KN) _).mono ?_
          rintro e w2 ⟨rfl, hb2⟩
          have z5 : w2.cell? ⟨w.heap.size + 1, 5, none⟩ = _ := (hb2.cell (lt_of_cell? y5)).trans y5
          have z6 : w2.cell? ⟨w.heap.size + 1, 6, none⟩ = _ := (hb2.cell (lt_of_cell? y6)).trans y6
          have hb := bthen hb hb2
          clear hb2
          clear KN y5 y6
          go_wp2_with fail
          refine ((unhide KO) _).mono ?_
          rintro e w3 ⟨rfl, hb3⟩
          have z5 : w3.cell? ⟨w.heap.size + 1, 5, none⟩ = _ := (hb3.cell (lt_of_cell? z5)).trans z5
          have z6 : w3.cell? ⟨w.heap.size + 1, 6, none⟩ = _ := (hb3.cell (lt_of_cell? z6)).trans z6
          have hb := bthen hb hb3
          clear hb3
          clear KO
          go_wp2
          go_ret
          exact ⟨rfl, hb⟩
        | true =>
          by_cases h0 : nm = ot
          · rw [decide_eq_false (fun h => h h0)]
            subst h0
            show Calls Tryz.prog _ _ w (BoolB w false)
            go_enter Tryz.func134, Tryz.ntmps134
            go_wp2_with fail
            refine (unhide K).mono ?_
            rintro e w1 ⟨rfl, hb1⟩
            have y5 := box_cell (j := 5) hb1 rfl
            have y6 := box_cell (j := 6) hb1 rfl
            have hb := bthen hb0 hb1
            clear K hb0 hb1
            go_wp2_with fail
            refine ((unhide KN) _).mono ?_
            rintro e w2 ⟨rfl, hb2⟩
            have z5 : w2.cell? ⟨w.heap.size + 1, 5, none⟩ = _ := (hb2.cell (lt_of_cell? y5)).trans y5
            have z6 : w2.cell? ⟨w.heap.size + 1, 6, none⟩ = _ := (hb2.cell (lt_of_cell? y6)).trans y6
            have hb := bthen hb hb2
            clear hb2
            clear KN y5 y6
            go_wp2_with fail
            refine ((unhide KO) _).mono ?_
            rintro e w3 ⟨rfl, hb3⟩
            have z5 : w3.cell? ⟨w.heap.size + 1, 5, none⟩ = _ := (hb3.cell (lt_of_cell? z5)).trans z5
            have z6 : w3.cell? ⟨w.heap.size + 1, 6, none⟩ = _ := (hb3.cell (lt_of_cell? z6)).trans z6
            have hb := bthen hb hb3
            clear hb3
            clear KO
            go_wp2
            go_ret
            exact ⟨rfl, hb⟩
          · rw [decide_eq_true h0]
            have hne : ¬ nm.toList = ot.toList := fun e => h0 (by
              rw [ByteArray.toList_eq, ByteArray.toList_eq] at e
              cases nm
              cases ot
              simp_all)
            have hbq : (nm.toList == ot.toList) = false := beq_eq_false_iff_ne.2 hne
            show Calls Tryz.prog _ _ w (BoolB w true)
            go_enter Tryz.func134, Tryz.ntmps134
            go_wp2_with fail
            refine (unhide K).mono ?_
            rintro e w1 ⟨rfl, hb1⟩
            have y5 := box_cell (j := 5) hb1 rfl
            have y6 := box_cell (j := 6) hb1 rfl
            have hb := bthen hb0 hb1
            clear K hb0 hb1
            go_wp2_with fail
            refine ((unhide KN) _).mono ?_
            rintro e w2 ⟨rfl, hb2⟩
            have z5 : w2.cell? ⟨w.heap.size + 1, 5, none⟩ = _ := (hb2.cell (lt_of_cell? y5)).trans y5
            have z6 : w2.cell? ⟨w.heap.size + 1, 6, none⟩ = _ := (hb2.cell (lt_of_cell? y6)).trans y6
            have hb := bthen hb hb2
            clear hb2
            clear KN y5 y6
            go_wp2_with fail
            refine ((unhide KO) _).mono ?_
            rintro e w3 ⟨rfl, hb3⟩
            have z5 : w3.cell? ⟨w.heap.size + 1, 5, none⟩ = _ := (hb3.cell (lt_of_cell? z5)).trans z5
            have z6 : w3.cell? ⟨w.heap.size + 1, 6, none⟩ = _ := (hb3.cell (lt_of_cell? z6)).trans z6
            have hb := bthen hb hb3
            clear hb3
            clear KO
            go_wp2
            go_ret
            exact ⟨rfl, hb⟩
    · rw [if_neg s2]
      have s2b : (q.scr == 2) = false := beq_eq_false_iff_ne.2 s2
      clear KN KO
      by_cases h0 : nm.size = 0
      · rw [decide_eq_true h0]
        obtain rfl := l_nil h0
        by_cases h1 : ot.size = 0
        · rw [decide_eq_true h1]
          obtain rfl := l_nil h1
          show Calls Tryz.prog _ _ w (BoolB w true)
          go_enter Tryz.func134, Tryz.ntmps134
          go_wp2_with fail
          refine (unhide K).mono ?_
          rintro e w1 ⟨rfl, hb1⟩
          have y5 := box_cell (j := 5) hb1 rfl
          have y6 := box_cell (j := 6) hb1 rfl
          have hb := bthen hb0 hb1
          clear K hb0 hb1
          go_wp2
          go_ret
          exact ⟨rfl, hb⟩
        · rw [decide_eq_false h1]
          have hne := l_ne h1
          have hie := l_emp h1
          show Calls Tryz.prog _ _ w (BoolB w false)
          go_enter Tryz.func134, Tryz.ntmps134
          go_wp2_with fail
          refine (unhide K).mono ?_
          rintro e w1 ⟨rfl, hb1⟩
          have y5 := box_cell (j := 5) hb1 rfl
          have y6 := box_cell (j := 6) hb1 rfl
          have hb := bthen hb0 hb1
          clear K hb0 hb1
          go_wp2
          go_ret
          exact ⟨rfl, hb⟩
      · rw [decide_eq_false h0]
        have hne := l_ne h0
        have hie := l_emp h0
        show Calls Tryz.prog _ _ w (BoolB w false)
        go_enter Tryz.func134, Tryz.ntmps134
        go_wp2_with fail
        refine (unhide K).mono ?_
        rintro e w1 ⟨rfl, hb1⟩
        have y5 := box_cell (j := 5) hb1 rfl
        have y6 := box_cell (j := 6) hb1 rfl
        have hb := bthen hb0 hb1
        clear K hb0 hb1
        go_wp2
        go_ret
        exact ⟨rfl, hb⟩
end Go.Proofs.YtdnkfnccbmbpaaaGreatDoor
/- What a kind's shape asks of a record's list. -/
namespace Go.Proofs.YtdnkfnccbmbpaaaGreatDoor
open Go.RowKit

def tarB (k : Int) (r : Rec) : Bool := decide ((Cn.rowK k).least ≤ (r.to.length : Int) ∧ (r.to.length : Int) ≤ (Cn.rowK k).most) && r.to.all Cn.scalar
set_option maxRecDepth 8000 in
set_option maxHeartbeats 4000000 in
theorem targeted_any (k : Int) (r : Rec) (vt : Value) (w : World) (hg : Glob w) (hk : I64 k) (hs : Sk .i32 w vt r.to) : Calls Tryz.prog 139 #[shV k, recV r vt] w (BoolB w (tarB k r)) := by
  have hb0 := below2 w (.cells #[.int .i64 k] 132) (.cells #[.int .i64 r.kind, .int .i64 r.lo, .int .i64 r.hi, .int .i64 r.n, vt, .string r.name, .string r.other, .float .f64 r.wt] 46)
  have K := hide (row_any k ((w.alloc (.cells #[.int .i64 k] 132)).alloc (.cells #[.int .i64 r.kind, .int .i64 r.lo, .int .i64 r.hi, .int .i64 r.n, vt, .string r.name, .string r.other, .float .f64 r.wt] 46)) (hg.on hb0) hk)
  clear hg
  unfold tarB shV recV rowV at *
  generalize Cn.rowK k = q at *
  have KS : Hid (∀ W, Below w.heap.size w W → Calls Tryz.prog 142 #[vt] W fun e w' => e = .returned (.bool (r.to.all Cn.scalar)) ∧ w' = W) := fun W h => sound_any vt r.to W (hs.below h)
  obtain ⟨ao, cap, rfl, _, _⟩ := hs.shape
  clear hs
  generalize r.kind = kd at *
  generalize r.n = n at *
  generalize r.lo = lo at *
  generalize r.hi = hi at *
  generalize r.name = nm at *
  generalize r.other = ot at *
  generalize r.wt = wt at *
  generalize r.to.all Cn.scalar = b at *
  generalize r.to.length = m at *
  by_cases h1 : q.least ≤ (m : Int)
  · have d1 := decide_eq_true h1
    by_cases h2 : (m : Int) ≤ q.most
    · have d2 := decide_eq_true h2
      rw [decide_eq_true ⟨h1, h2⟩, Bool.true_and]
      go_enter Tryz.func139, Tryz.ntmps139
      go_wp2_with fail
      refine (unhide K).mono ?_
      rintro e w1 ⟨rfl, hb1⟩
      have y4 := box_cell (j := 4) hb1 rfl
      have hb := bthen hb0 hb1
      clear K hb0 hb1
      have z4 := cell_more y4
      go_wp2_with fail
      refine ((unhide KS) _ (hb.alloc hb.size _)).mono ?_
      rintro e w2 ⟨rfl, hw2⟩
      subst w2
      clear KS
      go_wp2
      go_ret
      exact ⟨rfl, hb.alloc hb.size _⟩
    · have d2 := decide_eq_false h2
      rw [decide_eq_false (fun h => h2 h.2), Bool.false_and]
      go_enter Tryz.func139, Tryz.ntmps139
      go_wp2_with fail
      refine (unhide K).mono ?_
      rintro e w1 ⟨rfl, hb1⟩
      have y4 := box_cell (j := 4) hb1 rfl
      have hb := bthen hb0 hb1
      clear K hb0 hb1
      have z4 := cell_more y4
      clear KS
      go_wp2
      go_ret
      exact ⟨rfl, hb.alloc hb.size _⟩
  · have d1 := decide_eq_false h1
    rw [decide_eq_false (fun h => h1 h.1), Bool.false_and]
    go_enter Tryz.func139, Tryz.ntmps139
    go_wp2_with fail
    refine (unhide K).mono ?_
    rintro e w1 ⟨rfl, hb1⟩
    have y4 := box_cell (j := 4) hb1 rfl
    have hb := bthen hb0 hb1
    clear K hb0 hb1
    have z4 := cell_more y4
    clear KS
    go_wp2
    go_ret
    exact ⟨rfl, hb.alloc hb.size _⟩
end Go.Proofs.YtdnkfnccbmbpaaaGreatDoor
/- What a kind's shape asks of a record's place. -/
namespace Go.Proofs.YtdnkfnccbmbpaaaGreatDoor
open Go.RowKit

set_option maxRecDepth 8000 in
set_option maxHeartbeats 4000000 in
theorem isScalar_any (c : Int) (w : World) (hc : I64 c) : Calls Tryz.prog 157 #[.int .i64 c] w fun e w' => e = .returned (.bool (Cn.scalar c)) ∧ w' = w := by
  have K := hide (isPoint_any c w hc)
  by_cases hp : 0 ≤ c ∧ c ≤ 1114111
  · have e : isPt c = true := decide_eq_true hp
    rw [e] at K
    have hw : IntKind.i32.wrap c = c := IntWalk.i32_in _ ⟨by omega, by omega⟩
    have K2 := hide (valid_any c w ⟨by omega, by omega⟩)
    clear e hc
    generalize Cn.scalar c = b at *
    go_enter Tryz.func157, Tryz.ntmps157
    go_wp2_with fail
    refine (unhide K).mono ?_
    rintro e w1 ⟨rfl, hw1⟩
    subst w1
    clear K
    go_wp2_with fail
    refine (unhide K2).mono ?_
    rintro e w1 ⟨rfl, hw1⟩
    subst w1
    clear K2
    go_wp2
    go_ret
    exact ⟨rfl, rfl⟩
  · have e : isPt c = false := decide_eq_false hp
    rw [e] at K
    have e2 : Cn.scalar c = false := decide_eq_false (by omega)
    rw [e2]
    clear e e2 hc
    go_enter Tryz.func157, Tryz.ntmps157
    go_wp2_with fail
    refine (unhide K).mono ?_
    rintro e w1 ⟨rfl, hw1⟩
    subst w1
    clear K
    go_wp2
    go_ret
    exact ⟨rfl, rfl⟩
set_option maxRecDepth 8000 in
set_option maxHeartbeats 4000000 in
theorem placedPaired_any (k : Int) (r : Rec) (vt : Value) (w : World) (hf : RecFit r) : Calls Tryz.prog 162 #[shV k, recV r vt] w (BoolB w (decide (r.lo = 0 ∧ r.hi = 0))) := by
  have hb := below2 w (.cells #[.int .i64 k] 138) (.cells #[.int .i64 r.kind, .int .i64 r.lo, .int .i64 r.hi, .int .i64 r.n, vt, .string r.name, .string r.other, .float .f64 r.wt] 46)
  have hlo := hf.lo
  have hhi := hf.hi
  clear hf
  unfold shV recV at *
  generalize r.kind = kd at *
  generalize r.n = n at *
  generalize r.lo = lo at *
  generalize r.hi = hi at *
  generalize r.name = nm at *
  generalize r.other = ot at *
  generalize r.wt = wt at *
  by_cases h1 : lo = 0
  · by_cases h2 : hi = 0
    · rw [decide_eq_true ⟨h1, h2⟩]
      subst h1 h2
      go_enter Tryz.func162, Tryz.ntmps162
      go_wp2
      go_ret
      exact ⟨rfl, hb⟩
    · rw [decide_eq_false (fun h => h2 h.2)]
      subst h1
      have d2 : (hi == 0) = false := beq_eq_false_iff_ne.2 h2
      go_enter Tryz.func162, Tryz.ntmps162
      go_wp2
      go_ret
      exact ⟨rfl, hb⟩
  · rw [decide_eq_false (fun h => h1 h.1)]
    have d1 : (lo == 0) = false := beq_eq_false_iff_ne.2 h1
    go_enter Tryz.func162, Tryz.ntmps162
    go_wp2
    go_ret
    exact ⟨rfl, hb⟩
set_option maxRecDepth 8000 in
set_option maxHeartbeats 4000000 in
theorem placedSingle_any (k : Int) (r : Rec) (vt : Value) (w : World) (hf : RecFit r) : Calls Tryz.prog 159 #[shV k, recV r vt] w (BoolB w (decide (r.lo = r.hi) && Cn.scalar r.lo)) := by
  have hb := below2 w (.cells #[.int .i64 k] 137) (.cells #[.int .i64 r.kind, .int .i64 r.lo, .int .i64 r.hi, .int .i64 r.n, vt, .string r.name, .string r.other, .float .f64 r.wt] 46)
  have hlo := hf.lo
  have hhi := hf.hi
  have K := hide (fun w => isScalar_any r.lo w hf.lo)
  clear hf
  unfold shV recV at *
  generalize r.kind = kd at *
  generalize r.n = n at *
  generalize r.lo = lo at *
  generalize r.hi = hi at *
  generalize r.name = nm at *
  generalize r.other = ot at *
  generalize r.wt = wt at *
  by_cases h1 : lo = hi
  · rw [decide_eq_true h1, Bool.true_and]
    subst h1
    have d1 : (lo == lo) = true := beq_self_eq_true _
    generalize Cn.scalar lo = b at *
    go_enter Tryz.func159, Tryz.ntmps159
    go_wp2_with fail
    refine ((unhide K) _).mono ?_
    rintro e w2 ⟨rfl, hw2⟩
    subst w2
    clear K
    go_wp2
    go_ret
    exact ⟨rfl, hb⟩
  · rw [decide_eq_false h1, Bool.false_and]
    have d1 : (lo == hi) = false := beq_eq_false_iff_ne.2 h1
    clear K
    go_enter Tryz.func159, Tryz.ntmps159
    go_wp2
    go_ret
    exact ⟨rfl, hb⟩
def spanB (r : Rec) : Bool := decide (0 ≤ r.lo ∧ r.lo ≤ 1114111 ∧ 0 ≤ r.hi ∧ r.hi ≤ 1114111 ∧ r.lo ≤ r.hi)
set_option maxRecDepth 8000 in
set_option maxHeartbeats 4000000 in
theorem placedSpanned_any (k : Int) (r : Rec) (vt : Value) (w : World) (hf : RecFit r) : Calls Tryz.prog 154 #[shV k, recV r vt] w (BoolB w (spanB r)) := by
  have hb := below2 w (.cells #[.int .i64 k] 134) (.cells #[.int .i64 r.kind, .int .i64 r.lo, .int .i64 r.hi, .int .i64 r.n, vt, .string r.name, .string r.other, .float .f64 r.wt] 46)
  have hlo := hf.lo
  have hhi := hf.hi
  have K1 := hide (fun w => isPoint_any r.lo w hf.lo)
  have K2 := hide (fun w => isPoint_any r.hi w hf.hi)
  clear hf
  unfold spanB shV recV at *
  generalize r.kind = kd at *
  generalize r.n = n at *
  generalize r.lo = lo at *
  generalize r.hi = hi at *
  generalize r.name = nm at *
  generalize r.other = ot at *
  generalize r.wt = wt at *
  by_cases h1 : 0 ≤ lo ∧ lo ≤ 1114111
  · have e1 : isPt lo = true := decide_eq_true h1
    rw [e1] at K1
    by_cases h2 : 0 ≤ hi ∧ hi ≤ 1114111
    · have e2 : isPt hi = true := decide_eq_true h2
      rw [e2] at K2
      by_cases h3 : lo ≤ hi
      · rw [decide_eq_true ⟨h1.1, h1.2, h2.1, h2.2, h3⟩]
        have d3 := decide_eq_true h3
        go_enter Tryz.func154, Tryz.ntmps154
        go_wp2_with fail
        refine ((unhide K1) _).mono ?_
        rintro e w2 ⟨rfl, hw2⟩
        subst w2
        clear K1
        go_wp2_with fail
        refine ((unhide K2) _).mono ?_
        rintro e w2 ⟨rfl, hw2⟩
        subst w2
        clear K2
        go_wp2
        go_ret
        exact ⟨rfl, hb⟩
      · rw [decide_eq_false (fun h => h3 h.2.2.2.2)]
        have d3 := decide_eq_false h3
        go_enter Tryz.func154, Tryz.ntmps154
        go_wp2_with fail
        refine ((unhide K1) _).mono ?_
        rintro e w2 ⟨rfl, hw2⟩
        subst w2
        clear K1
        go_wp2_with fail
        refine ((unhide K2) _).mono ?_
        rintro e w2 ⟨rfl, hw2⟩
        subst w2
        clear K2
        go_wp2
        go_ret
        exact ⟨rfl, hb⟩
    · have e2 : isPt hi = false := decide_eq_false h2
      rw [e2] at K2
      rw [decide_eq_false (fun h => h2 ⟨h.2.2.1, h.2.2.2.1⟩)]
      clear h2
      go_enter Tryz.func154, Tryz.ntmps154
      go_wp2_with fail
      refine ((unhide K1) _).mono ?_
      rintro e w2 ⟨rfl, hw2⟩
      subst w2
      clear K1
      go_wp2_with fail
      refine ((unhide K2) _).mono ?_
      rintro e w2 ⟨rfl, hw2⟩
      subst w2
      clear K2
      go_wp2
      go_ret
      exact ⟨rfl, hb⟩
  · have e1 : isPt lo = false := decide_eq_false h1
    rw [e1] at K1
    rw [decide_eq_false (fun h => h1 ⟨h.1, h.2.1⟩)]
    clear h1
    go_enter Tryz.func154, Tryz.ntmps154
    go_wp2_with fail
    refine ((unhide K1) _).mono ?_
    rintro e w2 ⟨rfl, hw2⟩
    subst w2
    clear K1
    clear K2
    go_wp2
    go_ret
    exact ⟨rfl, hb⟩
end Go.Proofs.YtdnkfnccbmbpaaaGreatDoor
/- What a shift's shape asks of a record's place. -/
namespace Go.Proofs.YtdnkfnccbmbpaaaGreatDoor
open Go.RowKit

def shiftB (r : Rec) : Bool := spanB r && (decide (r.to.length = 1) && (Cn.scalar (r.to.getD 0 0) && (Cn.scalar (r.to.getD 0 0 + r.hi - r.lo) && (decide (r.to.getD 0 0 < 55296) == decide (r.to.getD 0 0 + r.hi - r.lo < 55296)))))
set_option maxRecDepth 8000 in
set_option maxHeartbeats 4000000 in
theorem placedShifted_any (k : Int) (r : Rec) (vt : Value) (w : World) (hf : RecFit r) (hs : Sk .i32 w vt r.to) : Calls Tryz.prog 155 #[shV k, recV r vt] w (BoolB w (shiftB r)) := by
  have hb0 := below2 w (.cells #[.int .i64 k] 136) (.cells #[.int .i64 r.kind, .int .i64 r.lo, .int .i64 r.hi, .int .i64 r.n, vt, .string r.name, .string r.other, .float .f64 r.wt] 46)
  have K1 := hide (placedSpanned_any k r vt ((w.alloc (.cells #[.int .i64 k] 136)).alloc (.cells #[.int .i64 r.kind, .int .i64 r.lo, .int .i64 r.hi, .int .i64 r.n, vt, .string r.name, .string r.other, .float .f64 r.wt] 46)) hf)
  have hlen := hf.len
  unfold shiftB
  cases hsp : spanB r with
  | false =>
    rw [hsp] at K1
    rw [Bool.false_and]
    clear hf hs hsp
    unfold shV recV at *
    generalize r.kind = kd at *
    generalize r.n = n at *
    generalize r.lo = lo at *
    generalize r.hi = hi at *
    generalize r.name = nm at *
    generalize r.other = ot at *
    generalize r.wt = wt at *
    go_enter Tryz.func155, Tryz.ntmps155
    go_wp2_with fail
    refine (unhide K1).mono ?_
    rintro e w1 ⟨rfl, hb1⟩
    have hb := bthen hb0 hb1
    clear K1 hb0 hb1
    go_wp2
    go_ret
    exact ⟨rfl, hb⟩
  | true =>
    rw [hsp] at K1
    rw [Bool.true_and]
    by_cases h1 : r.to.length = 1
    · rw [decide_eq_true h1, Bool.true_and]
      obtain ⟨b, off, cap, rfl, hc1, hc2, hc⟩ := hs.place (by omega)
      have hx := hc 0 (by omega)
      have hrn := hs.1.i32at 0
      obtain ⟨p0, p1, p2, p3, p4⟩ : 0 ≤ r.lo ∧ r.lo ≤ 1114111 ∧ 0 ≤ r.hi ∧ r.hi ≤ 1114111 ∧ r.lo ≤ r.hi := of_decide_eq_true hsp
      rw [h1] at K1 hc1 hb0
      have hlt1 := lt_of_cell? hx
      have KA := hide (fun w => isScalar_any (r.to.getD 0 0) w ⟨by omega, by omega⟩)
      have KB := hide (fun w => isScalar_any (r.to.getD 0 0 + r.hi - r.lo) w ⟨by omega, by omega⟩)
      rw [h1]
      clear hf hs hsp hc h1
      unfold shV recV at *
      generalize r.kind = kd at *
      generalize r.n = n at *
      generalize r.lo = lo at *
      generalize r.hi = hi at *
      generalize r.name = nm at *
      generalize r.other = ot at *
      generalize r.wt = wt at *
      generalize r.to.getD 0 0 = x at *
      have e1 : IntKind.i64.wrap (x + hi) = x + hi := IntWalk.i64_in _ ⟨by omega, by omega⟩
      have e2 : IntKind.i64.wrap (x + hi - lo) = x + hi - lo := IntWalk.i64_in _ ⟨by omega, by omega⟩
      have e3 : IntKind.i64.wrap x = x := IntWalk.i64_in _ ⟨by omega, by omega⟩
      cases ha : Cn.scalar x with
      | false =>
        rw [ha] at KA
        rw [Bool.false_and]
        go_enter Tryz.func155, Tryz.ntmps155
        go_wp2_with fail
        refine (unhide K1).mono ?_
        rintro e w1 ⟨rfl, hb1⟩
        have y1 := box_cell (j := 1) hb1 rfl
        have y2 := box_cell (j := 2) hb1 rfl
        have y4 := box_cell (j := 4) hb1 rfl
        have hb := bthen hb0 hb1
        have hy : w1.cell? ⟨b, off, none⟩ = some (.int .i32 x) := (hb.cell (by exact hlt1)).trans hx
        clear K1 hb0 hb1
        go_wp2_with fail
        refine ((unhide KA) _).mono ?_
        rintro e w2 ⟨rfl, hw2⟩
        subst w2
        clear KA
        clear KB
        go_wp2
        go_ret
        exact ⟨rfl, hb⟩
      | true =>
        rw [ha] at KA
        rw [Bool.true_and]
        cases hz : Cn.scalar (x + hi - lo) with
        | false =>
          rw [hz] at KB
          rw [Bool.false_and]
          go_enter Tryz.func155, Tryz.ntmps155
          go_wp2_with fail
          refine (unhide K1).mono ?_
          rintro e w1 ⟨rfl, hb1⟩
          have y1 := box_cell (j := 1) hb1 rfl
          have y2 := box_cell (j := 2) hb1 rfl
          have y4 := box_cell (j := 4) hb1 rfl
          have hb := bthen hb0 hb1
          have hy : w1.cell? ⟨b, off, none⟩ = some (.int .i32 x) := (hb.cell (by exact hlt1)).trans hx
          clear K1 hb0 hb1
          go_wp2_with fail
          refine ((unhide KA) _).mono ?_
          rintro e w2 ⟨rfl, hw2⟩
          subst w2
          clear KA
          go_wp2_with fail
          refine ((unhide KB) _).mono ?_
          rintro e w2 ⟨rfl, hw2⟩
          subst w2
          clear KB
          go_wp2
          go_ret
          exact ⟨rfl, hb⟩
        | true =>
          rw [hz] at KB
          rw [Bool.true_and]
          go_enter Tryz.func155, Tryz.ntmps155
          go_wp2_with fail
          refine (unhide K1).mono ?_
          rintro e w1 ⟨rfl, hb1⟩
          have y1 := box_cell (j := 1) hb1 rfl
          have y2 := box_cell (j := 2) hb1 rfl
          have y4 := box_cell (j := 4) hb1 rfl
          have hb := bthen hb0 hb1
          have hy : w1.cell? ⟨b, off, none⟩ = some (.int .i32 x) := (hb.cell (by exact hlt1)).trans hx
          clear K1 hb0 hb1
          go_wp2_with fail
          refine ((unhide KA) _).mono ?_
          rintro e w2 ⟨rfl, hw2⟩
          subst w2
          clear KA
          go_wp2_with fail
          refine ((unhide KB) _).mono ?_
          rintro e w2 ⟨rfl, hw2⟩
          subst w2
          clear KB
          go_wp2
          go_ret
          exact ⟨rfl, hb⟩
    · rw [decide_eq_false h1, Bool.false_and]
      have d1 : ((r.to.length : Int) != 1) = true := by simp; omega
      obtain ⟨ao, cap, rfl, _, _⟩ := hs.shape
      clear hf hs hsp h1
      unfold shV recV at *
      generalize r.kind = kd at *
      generalize r.n = n at *
      generalize r.lo = lo at *
      generalize r.hi = hi at *
      generalize r.name = nm at *
      generalize r.other = ot at *
      generalize r.wt = wt at *
      generalize r.to.length = m at *
      go_enter Tryz.func155, Tryz.ntmps155
      go_wp2_with fail
      refine (unhide K1).mono ?_
      rintro e w1 ⟨rfl, hb1⟩
      have y4 := box_cell (j := 4) hb1 rfl
      have hb := bthen hb0 hb1
      clear K1 hb0 hb1
      go_wp2
      go_ret
      exact ⟨rfl, hb⟩
end Go.Proofs.YtdnkfnccbmbpaaaGreatDoor
