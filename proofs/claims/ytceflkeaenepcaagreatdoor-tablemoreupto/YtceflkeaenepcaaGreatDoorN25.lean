import Derived.Test.YtceflkeaenepcaaGreatDoorN9
import Derived.Test.YtceflkeaenepcaaGreatDoorN10
import Derived.Test.YtceflkeaenepcaaGreatDoorN24
import Derived.WalkMore
namespace Go.Proofs.YtceflkeaenepcaaGreatDoor
open Go.RowKit
def okAt (k : Nat) (c : Int) : Prop := if k = 0 then 65 ≤ c ∧ c ≤ 90 else 97 ≤ c ∧ c ≤ 122
theorem name_iff (l : List Int) : Scn.name l = true ↔ (l.length = 4 ∧ ∀ k, k < 4 → okAt k (l.getD k 0)) := by
  unfold Scn.name
  rw [decide_eq_true_iff]
  constructor
  · rintro ⟨h0, h1, h2, h3, h4, h5⟩
    refine ⟨h0, fun k hk => ?_⟩
    unfold okAt
    obtain rfl | rfl | rfl | rfl : k = 0 ∨ k = 1 ∨ k = 2 ∨ k = 3 := by omega
    · exact ⟨h1, h2⟩
    · exact h3
    · exact h4
    · exact h5
  · rintro ⟨h0, h⟩
    exact ⟨h0, (h 0 (by omega)).1, (h 0 (by omega)).2, h 1 (by omega), h 2 (by omega), h 3 (by omega)⟩
set_option maxHeartbeats 2000000 in
theorem scanName_any (s : ByteArray) (w : World) : Calls Tryz.prog 135 #[.string s] w (BoolB w (Scn.name (nums s))) := by
  have hlen := nums_length s
  by_cases h4 : s.size = 4
  · have HT : Hid ((∀ k, k < 4 → okAt k ((nums s).getD k 0)) → ∀ w', Below w.heap.size w w' → BoolB w (Scn.name (nums s)) (.returned (.bool true)) w') := fun h w' hb => ⟨by rw [(name_iff _).2 ⟨by omega, h⟩], hb⟩
    have HFa : Hid (∀ k, k < 4 → ¬ okAt k ((nums s).getD k 0) → ∀ w', Below w.heap.size w w' → BoolB w (Scn.name (nums s)) (.returned (.bool false)) w') := fun k hk h w' hb => by
      have : Scn.name (nums s) = false := by
        cases hn : Scn.name (nums s) with
        | false => rfl
        | true => exact absurd (((name_iff _).1 hn).2 k hk) h
      exact ⟨by rw [this], hb⟩
    have HByt := hide (fun k => (nums_byt s).at k)
    have q4 : ((s.size : Int) != 4) = false := by rw [h4]; rfl
    clear hlen
    generalize Scn.name (nums s) = res at *
    go_enter Tryz.func135, Tryz.ntmps135
    go_wp2
    go_loopw [3, 4] (fun _ _ wr => ∃ k : Nat, wr = w.iter s k ∧ k ≤ 4 ∧ ∀ j, j < k → okAt j ((nums s).getD j 0)) (fun _ _ wr => 4 - wr.iterPos w.heap.size)
    case atStart => exact ⟨0, rfl, by omega, fun j hj => absurd hj (Nat.not_lt_zero _)⟩
    case round =>
      obtain ⟨k, rfl, hk, hok⟩ := hrel
      have HOK := hide hok
      clear hok
      by_cases hlt : k < 4
      · have hnx := fun ty => run_next_any (P := Tryz.prog) w s k ty (by omega)
        obtain ⟨c1, c2⟩ := (unhide HByt) k
        rcases Int.lt_or_le ((nums s).getD k 0) 128 with hlo | hhi
        · obtain ⟨d1, d2⟩ := dec_low s k (by omega) hlo
          rw [d1, d2] at hnx
          clear d1 d2
          have HF2 := hide ((unhide HFa) k hlt)
          have HO2 : Hid (okAt k ((nums s).getD k 0) → ∀ j, j < k + 1 → okAt j ((nums s).getD j 0)) := fun h j hj => by
            rcases Nat.lt_or_ge j k with hj2 | hj2
            · exact (unhide HOK) j hj2
            · obtain rfl : j = k := by omega
              exact h
          clear HFa HOK
          have hmo : 4 - (k + 1) < 4 - (w.iter s k).iterPos w.heap.size := by rw [World.iterPos_iter]; omega
          generalize hcg : (nums s).getD k 0 = c at hnx c1 c2 hlo HF2 HO2
          clear hcg h4 q4
          by_cases hk0 : k = 0
          · subst hk0
            by_cases g1 : 65 ≤ c
            · by_cases g2 : c ≤ 90
              · have HX := hide ((unhide HO2) ⟨g1, g2⟩)
                clear HO2 HF2 HT
                go_wp2
                go_roundw
                case rel => exact ⟨0 + 1, rfl, by omega, unhide HX⟩
                case measure => rw [World.iterPos_iter]; exact hmo
              · have HF := (unhide HF2) (fun h => g2 h.2) (w.iter s (0 + 1)) ((Below.refl _ _).alloc (Nat.le_refl _) _)
                clear HO2 HF2 HT
                go_wp2
                go_ret
                exact HF
            · have HF := (unhide HF2) (fun h => g1 h.1) (w.iter s (0 + 1)) ((Below.refl _ _).alloc (Nat.le_refl _) _)
              clear HO2 HF2 HT
              go_wp2
              go_ret
              exact HF
          · have hk1 : ((k : Int) == 0) = false := beq_eq_false_iff_ne.2 (by omega)
            have eok : okAt k c = (97 ≤ c ∧ c ≤ 122) := by unfold okAt; rw [if_neg hk0]
            rw [eok] at HF2 HO2
            clear eok
            by_cases g1 : 97 ≤ c
            · by_cases g2 : c ≤ 122
              · have HX := hide ((unhide HO2) ⟨g1, g2⟩)
                clear HO2 HF2 HT
                go_wp2
                go_roundw
                case rel => exact ⟨k + 1, rfl, by omega, unhide HX⟩
                case measure => rw [World.iterPos_iter]; exact hmo
              · have HF := (unhide HF2) (fun h => g2 h.2) (w.iter s (k + 1)) ((Below.refl _ _).alloc (Nat.le_refl _) _)
                clear HO2 HF2 HT
                go_wp2
                go_ret
                exact HF
            · have HF := (unhide HF2) (fun h => g1 h.1) (w.iter s (k + 1)) ((Below.refl _ _).alloc (Nat.le_refl _) _)
              clear HO2 HF2 HT
              go_wp2
              go_ret
              exact HF
        · obtain ⟨d1, d2, d3, d4⟩ := dec_high s k (by omega) hhi
          have d5 := dec_top s k
          have HF := (unhide HFa) k hlt (fun h => by unfold okAt at h; split at h <;> omega) (w.iter s (k + (Utf8.decode s k).2)) ((Below.refl _ _).alloc (Nat.le_refl _) _)
          clear HFa HT HOK d2 d3 d4 h4 q4
          generalize (Utf8.decode s k).2 = n2 at *
          generalize ((Utf8.decode s k).1 : Int) = c at *
          by_cases hk0 : k = 0
          · subst hk0
            rw [Nat.zero_add] at HF hnx
            go_wp2
            go_ret
            exact HF
          · have hk1 : ((k : Int) == 0) = false := beq_eq_false_iff_ne.2 (by omega)
            go_wp2
            go_ret
            exact HF
      · obtain rfl : k = 4 := by omega
        have hnx := fun ty => run_next_end (P := Tryz.prog) w s 4 ty (by omega)
        have HF := (unhide HT) (unhide HOK) (w.iter s 4) ((Below.refl _ _).alloc (Nat.le_refl _) _)
        clear HFa HT HOK
        go_wp2
        go_ret
        exact HF
  · have HF : BoolB w (Scn.name (nums s)) (.returned (.bool false)) w := by
      have : Scn.name (nums s) = false := by
        cases hn : Scn.name (nums s) with
        | false => rfl
        | true => exact absurd ((name_iff _).1 hn).1 (by omega)
      exact ⟨by rw [this], Below.refl _ _⟩
    have q4 : ((s.size : Int) != 4) = true := by simp; omega
    go_enter Tryz.func135, Tryz.ntmps135
    go_wp2
    go_ret
    exact HF
end Go.Proofs.YtceflkeaenepcaaGreatDoor
namespace Go.Proofs.YtceflkeaenepcaaGreatDoor
open Go.RowKit
def cmpI (a b : Int) : Int := if a < b then -1 else if b < a then 1 else 0
theorem cmpNaN_any (a : Int) (w : World) : Calls Tryz.prog 181 #[.int .u64 a] w fun e w' => e = .returned (.bool false) ∧ w' = w := by
  have h : (a != a) = false := by simp
  go_enter Tryz.func181, Tryz.ntmps181
  go_wp2
  go_ret
  exact ⟨rfl, rfl⟩
set_option maxRecDepth 8000 in
set_option maxHeartbeats 1000000 in
theorem compare_any (a b : Int) (w : World) : Calls Tryz.prog 155 #[.int .u64 a, .int .u64 b] w fun e w' => e = .returned (.int .i64 (cmpI a b)) ∧ w' = w := by
  have K1 := hide (cmpNaN_any a w)
  have K2 := hide (cmpNaN_any b w)
  unfold cmpI
  by_cases h1 : a < b
  · rw [if_pos h1]
    go_enter Tryz.func155, Tryz.ntmps155
    go_wp2_with fail
    refine (unhide K1).mono ?_
    rintro e w ⟨rfl, rfl⟩
    go_wp2_with fail
    refine (unhide K2).mono ?_
    rintro e w ⟨rfl, rfl⟩
    clear K1 K2
    go_wp2
    go_ret
    exact ⟨rfl, rfl⟩
  · rw [if_neg h1]
    by_cases h2 : b < a
    · rw [if_pos h2]
      go_enter Tryz.func155, Tryz.ntmps155
      go_wp2_with fail
      refine (unhide K1).mono ?_
      rintro e w ⟨rfl, rfl⟩
      go_wp2_with fail
      refine (unhide K2).mono ?_
      rintro e w ⟨rfl, rfl⟩
      clear K1 K2
      go_wp2
      go_ret
      exact ⟨rfl, rfl⟩
    · rw [if_neg h2]
      go_enter Tryz.func155, Tryz.ntmps155
      go_wp2_with fail
      refine (unhide K1).mono ?_
      rintro e w ⟨rfl, rfl⟩
      go_wp2_with fail
      refine (unhide K2).mono ?_
      rintro e w ⟨rfl, rfl⟩
      clear K1 K2
      go_wp2
      go_ret
      exact ⟨rfl, rfl⟩
theorem weighOrder_any (u v : Nat) (w : World) (hu : u < 18446744073709551616) (hv : v < 18446744073709551616) : Calls Tryz.prog 140 #[.float .f64 u, .float .f64 v] w fun e w' => e = .returned (.int .i64 (cmpI (rankN u) (rankN v))) ∧ w' = w := by
  have K1 := hide (rank_any u w hu)
  have K2 := hide (rank_any v w hv)
  have K3 := hide (compare_any (rankN u) (rankN v) w)
  generalize cmpI (rankN u) (rankN v) = c at *
  generalize rankN u = a at *
  generalize rankN v = b at *
  go_enter Tryz.func140, Tryz.ntmps140
  go_wp2_with fail
  refine (unhide K1).mono ?_
  rintro e w ⟨rfl, rfl⟩
  clear K1
  go_wp2_with fail
  refine (unhide K2).mono ?_
  rintro e w ⟨rfl, rfl⟩
  clear K2
  go_wp2_with fail
  refine (unhide K3).mono ?_
  rintro e w ⟨rfl, rfl⟩
  clear K3
  go_wp2
  go_ret
  exact ⟨rfl, rfl⟩
theorem weight_order {u : Nat} (h : u < 18446744073709551616) : (!nanB u && decide (0 ≤ cmpI (rankN u) (rankN 0))) = Cn.weight u := by
  have r0 : rankN 0 = 9223372036854775808 := by decide
  rw [r0]
  by_cases hn : nanB u = true
  · rw [hn]
    have : 9218868437227405312 < u % 9223372036854775808 := of_decide_eq_true hn
    unfold Cn.weight
    rw [decide_eq_false (p := u ≤ 9218868437227405312) (by omega)]
    rfl
  · have hn2 : nanB u = false := by simpa using hn
    have : ¬ 9218868437227405312 < u % 9223372036854775808 := of_decide_eq_false hn2
    by_cases hs : u < 9223372036854775808
    · have e : rankN u = (u : Int) + 9223372036854775808 := by unfold rankN; rw [hn2, if_neg (by decide), if_pos hs]
      have hc : 0 ≤ cmpI (rankN u) 9223372036854775808 := by
        rw [e]
        unfold cmpI
        rw [if_neg (by omega)]
        split <;> decide
      unfold Cn.weight
      rw [hn2, decide_eq_true hc, decide_eq_true (p := u ≤ 9218868437227405312) (by omega)]
      rfl
    · have e : rankN u = 18446744073709551615 - (u : Int) := by unfold rankN; rw [hn2, if_neg (by decide), if_neg hs]
      have hc : ¬ 0 ≤ cmpI (rankN u) 9223372036854775808 := by
        rw [e]
        unfold cmpI
        rw [if_pos (by omega)]
        decide
      unfold Cn.weight
      rw [hn2, decide_eq_false hc, decide_eq_false (p := u ≤ 9218868437227405312) (by omega)]
      rfl
theorem below3 (w : World) (a b c : Obj) : Below w.heap.size w (((w.alloc a).alloc b).alloc c) := (((Below.refl _ _).alloc (Nat.le_refl _) _).alloc (by simp) _).alloc (by simp; omega) _
theorem below2 (w : World) (a b : Obj) : Below w.heap.size w ((w.alloc a).alloc b) := ((Below.refl _ _).alloc (Nat.le_refl _) _).alloc (by simp) _
def numB (k : Int) (r : Rec) : Bool := decide ((Cn.rowK k).low ≤ r.n ∧ r.n ≤ (Cn.rowK k).high)
theorem box_cell {w w1 : World} {a : Obj} {cs : Array Value} {t : TypeId} {j : Nat} {v : Value} (hb : Below ((w.alloc a).alloc (.cells cs t)).heap.size ((w.alloc a).alloc (.cells cs t)) w1) (h : cs[j]? = some v) : w1.cell? ⟨w.heap.size + 1, j, none⟩ = some v := by
  have h0 : ((w.alloc a).alloc (.cells cs t)).heap[w.heap.size + 1]? = some (.cells cs t (0, 0)) := by
    show ((w.heap.push _).push _)[w.heap.size + 1]? = _
    rw [Array.getElem?_push]
    simp
  have h1 : w1.heap[w.heap.size + 1]? = some (.cells cs t (0, 0)) := by
    rw [hb.block _ (by simp), h0]
  have hj : j < cs.size := by
    rcases Nat.lt_or_ge j cs.size with hh | hh
    · exact hh
    · rw [Array.getElem?_eq_none hh] at h; cases h
  rw [cell_of (j := j) h1 hj]
  simp [Array.getD, hj] at h ⊢
  simpa [Array.getElem?_eq_getElem hj] using h
theorem cell_more {w : World} {b i : Nat} {v : Value} (h : w.cell? ⟨b, i, none⟩ = some v) (o : Obj) : (w.alloc o).cell? ⟨b, i, none⟩ = some v := by
  rw [World.cell?_alloc_lt _ _ _ (lt_of_cell? h)]
  exact h
end Go.Proofs.YtceflkeaenepcaaGreatDoor
namespace Go.Proofs.YtceflkeaenepcaaGreatDoor
open Go.RowKit
set_option maxRecDepth 8000 in
set_option maxHeartbeats 4000000 in
theorem numbered_any (k : Int) (r : Rec) (vt : Value) (w : World) (hg : Glob w) (hk : I64 k) (hn : I64 r.n) : Calls Tryz.prog 123 #[shV k, recV r vt] w (BoolB w (numB k r)) := by
  have hb0 := below2 w (.cells #[.int .i64 k] 60) (.cells #[.int .i64 r.kind, .int .i64 r.lo, .int .i64 r.hi, .int .i64 r.n, vt, .string r.name, .string r.other, .float .f64 r.wt] 29)
  have K := hide (row_any k ((w.alloc (.cells #[.int .i64 k] 60)).alloc (.cells #[.int .i64 r.kind, .int .i64 r.lo, .int .i64 r.hi, .int .i64 r.n, vt, .string r.name, .string r.other, .float .f64 r.wt] 29)) (hg.on hb0) hk)
  clear hg
  unfold numB shV recV rowV at *
  generalize Cn.rowK k = q at *
  obtain ⟨n0, n1⟩ := hn
  generalize r.kind = kd at *
  generalize r.n = n at *
  generalize r.lo = lo at *
  generalize r.hi = hi at *
  generalize r.name = nm at *
  generalize r.other = ot at *
  generalize r.wt = wt at *
  by_cases h1 : q.low ≤ n
  · by_cases h2 : n ≤ q.high
    · rw [decide_eq_true ⟨h1, h2⟩]
      have d1 := decide_eq_true h1
      have d2 := decide_eq_true h2
      go_enter Tryz.func123, Tryz.ntmps123
      go_wp2_with fail
      refine (unhide K).mono ?_
      rintro e w1 ⟨rfl, hb1⟩
      have y3 := box_cell (j := 3) hb1 rfl
      have hb := bthen hb0 hb1
      clear K hb0 hb1
      have z3 := cell_more y3
      go_wp2
      go_ret
      exact ⟨rfl, hb.alloc hb.size _⟩
    · rw [decide_eq_false (fun h => h2 h.2)]
      have d1 := decide_eq_true h1
      have d2 := decide_eq_false h2
      go_enter Tryz.func123, Tryz.ntmps123
      go_wp2_with fail
      refine (unhide K).mono ?_
      rintro e w1 ⟨rfl, hb1⟩
      have y3 := box_cell (j := 3) hb1 rfl
      have hb := bthen hb0 hb1
      clear K hb0 hb1
      have z3 := cell_more y3
      go_wp2
      go_ret
      exact ⟨rfl, hb.alloc hb.size _⟩
  · rw [decide_eq_false (fun h => h1 h.1)]
    have d1 := decide_eq_false h1
    go_enter Tryz.func123, Tryz.ntmps123
    go_wp2_with fail
    refine (unhide K).mono ?_
    rintro e w1 ⟨rfl, hb1⟩
    have y3 := box_cell (j := 3) hb1 rfl
    have hb := bthen hb0 hb1
    clear K hb0 hb1
    have z3 := cell_more y3
    go_wp2
    go_ret
    exact ⟨rfl, hb.alloc hb.size _⟩
def weiB (k : Int) (r : Rec) : Bool := if (Cn.rowK k).wei = true then Cn.weight r.wt else decide (r.wt = 0)
set_option maxRecDepth 8000 in
set_option maxHeartbeats 4000000 in
theorem weighed_any (k : Int) (r : Rec) (vt : Value) (w : World) (hg : Glob w) (hk : I64 k) (hu : r.wt < 18446744073709551616) : Calls Tryz.prog 127 #[shV k, recV r vt] w (BoolB w (weiB k r)) := by
  have hb0 := below2 w (.cells #[.int .i64 k] 60) (.cells #[.int .i64 r.kind, .int .i64 r.lo, .int .i64 r.hi, .int .i64 r.n, vt, .string r.name, .string r.other, .float .f64 r.wt] 29)
  have K := hide (row_any k ((w.alloc (.cells #[.int .i64 k] 60)).alloc (.cells #[.int .i64 r.kind, .int .i64 r.lo, .int .i64 r.hi, .int .i64 r.n, vt, .string r.name, .string r.other, .float .f64 r.wt] 29)) (hg.on hb0) hk)
  clear hg
  unfold weiB shV recV rowV at *
  generalize Cn.rowK k = q at *
  have hf := fld8 q
  rw [← weight_order hu]
  have KN := hide (fun w => isNaN_any r.wt w)
  have KO := hide (fun w => weighOrder_any r.wt 0 w hu (by decide))
  have KB := hide (fun w => bits_any r.wt w)
  generalize r.kind = kd at *
  generalize r.n = n at *
  generalize r.lo = lo at *
  generalize r.hi = hi at *
  generalize r.name = nm at *
  generalize r.other = ot at *
  generalize r.wt = wt at *
  generalize cmpI (rankN wt) (rankN 0) = c at *
  cases hw : q.wei with
  | true =>
    rw [if_pos rfl]
    rw [hw] at hf K
    clear KB
    cases hn : nanB wt with
    | true =>
      rw [hn] at KN
      go_enter Tryz.func127, Tryz.ntmps127
      go_wp2_with fail
      refine (unhide K).mono ?_
      rintro e w1 ⟨rfl, hb1⟩
      have y7 := box_cell (j := 7) hb1 rfl
      have hb := bthen hb0 hb1
      clear K hb0 hb1
      go_wp2_with fail
      refine ((unhide KN) _).mono ?_
      rintro e w2 ⟨rfl, hw2⟩
      subst w2
      clear KN KO
      go_wp2
      go_ret
      exact ⟨rfl, hb⟩
    | false =>
      rw [hn] at KN
      by_cases hc : 0 ≤ c
      · rw [decide_eq_true hc]
        have d1 := decide_eq_true hc
        go_enter Tryz.func127, Tryz.ntmps127
        go_wp2_with fail
        refine (unhide K).mono ?_
        rintro e w1 ⟨rfl, hb1⟩
        have y7 := box_cell (j := 7) hb1 rfl
        have hb := bthen hb0 hb1
        clear K hb0 hb1
        go_wp2_with fail
        refine ((unhide KN) _).mono ?_
        rintro e w2 ⟨rfl, hw2⟩
        subst w2
        clear KN
        go_wp2_with fail
        refine ((unhide KO) _).mono ?_
        rintro e w2 ⟨rfl, hw2⟩
        subst w2
        clear KO
        go_wp2
        go_ret
        exact ⟨rfl, hb⟩
      · rw [decide_eq_false hc]
        have d1 := decide_eq_false hc
        go_enter Tryz.func127, Tryz.ntmps127
        go_wp2_with fail
        refine (unhide K).mono ?_
        rintro e w1 ⟨rfl, hb1⟩
        have y7 := box_cell (j := 7) hb1 rfl
        have hb := bthen hb0 hb1
        clear K hb0 hb1
        go_wp2_with fail
        refine ((unhide KN) _).mono ?_
        rintro e w2 ⟨rfl, hw2⟩
        subst w2
        clear KN
        go_wp2_with fail
        refine ((unhide KO) _).mono ?_
        rintro e w2 ⟨rfl, hw2⟩
        subst w2
        clear KO
        go_wp2
        go_ret
        exact ⟨rfl, hb⟩
  | false =>
    rw [if_neg (by decide)]
    rw [hw] at hf K
    clear KN KO
    by_cases h0 : wt = 0
    · rw [decide_eq_true h0]
      subst h0
      go_enter Tryz.func127, Tryz.ntmps127
      go_wp2_with fail
      refine (unhide K).mono ?_
      rintro e w1 ⟨rfl, hb1⟩
      have y7 := box_cell (j := 7) hb1 rfl
      have hb := bthen hb0 hb1
      clear K hb0 hb1
      go_wp2_with fail
      refine ((unhide KB) _).mono ?_
      rintro e w2 ⟨rfl, hw2⟩
      subst w2
      clear KB
      go_wp2
      go_ret
      exact ⟨rfl, hb⟩
    · rw [decide_eq_false h0]
      have d0 : ((wt : Int) == 0) = false := beq_eq_false_iff_ne.2 (by omega)
      go_enter Tryz.func127, Tryz.ntmps127
      go_wp2_with fail
      refine (unhide K).mono ?_
      rintro e w1 ⟨rfl, hb1⟩
      have y7 := box_cell (j := 7) hb1 rfl
      have hb := bthen hb0 hb1
      clear K hb0 hb1
      go_wp2_with fail
      refine ((unhide KB) _).mono ?_
      rintro e w2 ⟨rfl, hw2⟩
      subst w2
      clear KB
      go_wp2
      go_ret
      exact ⟨rfl, hb⟩
end Go.Proofs.YtceflkeaenepcaaGreatDoor
