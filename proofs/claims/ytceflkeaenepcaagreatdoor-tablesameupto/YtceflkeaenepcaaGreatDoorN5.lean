import Derived.Test.YtceflkeaenepcaaGreatDoorN4
import Derived.Laws.AppendOwnNone
import Derived.RangeFuncRecord
import Derived.Test.YtceflkeaenepcaaGreatDoorN3
namespace Go.Proofs.YtceflkeaenepcaaGreatDoor
open Go.RowKit
theorem infoR15 : (Tryz.prog.info? 21).map (fun i => (i.zero, i.size, i.bytes)) = some (some (.int .i32 0), 1, 4) := by kernel_rfl
theorem take_next15 {xs ys : List Int} {k : Nat} (h : xs.take k = ys.take k) (hx : k < xs.length) (hy : k < ys.length) (he : xs.getD k 0 = ys.getD k 0) : xs.take (k + 1) = ys.take (k + 1) := by
  rw [List.take_add_one, List.take_add_one, h]
  simp only [List.getD, List.getElem?_eq_getElem hx, List.getElem?_eq_getElem hy, Option.getD_some] at he
  rw [List.getElem?_eq_getElem hx, List.getElem?_eq_getElem hy, he]
theorem draws_mk15 {w w' : World} {b c : Bool} (h : b = c) (hb : ∃ m, w' = w.drewN m) : Draws w c (.returned (.bool b)) w' := by subst h; exact ⟨rfl, hb⟩
set_option maxHeartbeats 1000000 in
theorem same_q15 (v u : Value) (xs ys : List Int) (w : World) (hv : Sk .i32 w v xs) (hu : Sk .i32 w u ys) :
    Calls Tryz.prog 30 #[v, u] w (Draws w (decide (xs = ys))) := by
  have hlx := hv.len
  have hly := hu.len
  by_cases hn : xs.length = ys.length
  · rcases Nat.eq_zero_or_pos xs.length with h0 | h0
    · have HF : ∀ w', (∃ m, w' = w.drewN m) → Draws w (decide (xs = ys)) (.returned (.bool true)) w' := fun w' hb => draws_mk15 (by
        have h1 := List.eq_nil_of_length_eq_zero h0
        have h2 := List.eq_nil_of_length_eq_zero (hn ▸ h0)
        simp [h1, h2]) hb
      obtain ⟨ao, cap, rfl, _, _⟩ := hv.shape
      obtain ⟨ao', cap', rfl, _, _⟩ := hu.shape
      rw [← hn, h0]
      clear hv hu
      generalize decide (xs = ys) = b at *
      go_enter Tryz.func30, Tryz.ntmps30
      go_wp2
      refine wp_loop_rounds 1 ?_
      rw [rounds_succ]
      go_wp2
      go_ret
      exact HF _ (drew0 w)
    · have HE : ∀ w', (∃ m, w' = w.drewN m) → xs.take xs.length = ys.take xs.length → Draws w (decide (xs = ys)) (.returned (.bool true)) w' := fun w' hb ht => draws_mk15 (by
        rw [List.take_length, hn, List.take_length] at ht
        simp [ht]) hb
      have HN : ∀ w' k, (∃ m, w' = w.drewN m) → ¬ xs.getD k 0 = ys.getD k 0 → Draws w (decide (xs = ys)) (.returned (.bool false)) w' := fun w' k hb ht => draws_mk15 (by
        symm; rw [decide_eq_false_iff_not]; intro h; subst h; exact ht rfl) hb
      have HS : ∀ wr, Below w.heap.size w wr → Sk .i32 wr v xs ∧ Sk .i32 wr u ys := fun wr hb => ⟨hv.below hb, hu.below hb⟩
      obtain ⟨b, off, cap, rfl, hc1, hc2, hc⟩ := hv.place h0
      obtain ⟨b', off', cap', rfl, hc1', hc2', hc'⟩ := hu.place (by omega)
      have HC : ∀ wr, Below w.heap.size w wr → ∀ i, i < xs.length → wr.cell? ⟨b, off + i, none⟩ = some (.int .i32 (xs.getD i 0)) ∧ wr.cell? ⟨b', off' + i, none⟩ = some (.int .i32 (ys.getD i 0)) := by
        intro wr hb i hi
        constructor
        · rw [hb.cell (lt_of_cell? (hc i hi))]; exact hc i hi
        · rw [hb.cell (lt_of_cell? (hc' i (by omega)))]; exact hc' i (by omega)
      rw [← hn] at hc1' ⊢
      have HFx := hide hv.1
      have HFy := hide hu.1
      have hln := hide hn
      clear hv hu HS hc hc' hn
      generalize decide (xs = ys) = bb at *
      go_enter Tryz.func30, Tryz.ntmps30
      go_wp2
      go_loopw [5] (fun i wr => ∃ k : Nat, i = .int .i64 k ∧ k ≤ xs.length ∧ xs.take k = ys.take k ∧ ∃ m, wr = w.drewN m) (fun i _ => xs.length - (intOf i).toNat)
      case atStart => exact ⟨0, rfl, by omega, by simp, drew0 w⟩
      case round =>
        obtain ⟨k, rfl, hk, htk, hbel⟩ := hrel
        by_cases hlt : k < xs.length
        · obtain ⟨c1, c2⟩ := HC _ (drewB hbel) k hlt
          have HT := hide htk
          clear htk
          cases he : (xs.getD k 0 != ys.getD k 0) with
          | true =>
            have HR := fun w' hb => HN w' k hb (by simpa using he)
            clear HN HE HC
            generalize xs.getD k 0 = x at *
            generalize ys.getD k 0 = y at *
            go_wp2
            go_quiet (fail)
            go_wp2
            go_ret
            exact HR _ (drews hbel nq)
          | false =>
            have he' : xs.getD k 0 = ys.getD k 0 := by simpa using he
            have HT2 := hide (take_next15 (unhide HT) hlt (by have := unhide hln; omega) he')
            clear HN HE HC HT he'
            generalize xs.getD k 0 = x at *
            generalize ys.getD k 0 = y at *
            go_wp2
            go_quiet (fail)
            go_wp2
            go_roundw
            case rel => exact ⟨k + 1, by go_num, by omega, unhide HT2, drews hbel nq⟩
            case measure => simp [intOf]; omega
        · obtain rfl : k = xs.length := by omega
          have HR := HE _ hbel htk
          clear HN HE HC
          go_wp2
          go_ret
          exact HR
  · have HF : Draws w (decide (xs = ys)) (.returned (.bool false)) w := draws_mk15 (by
      symm; rw [decide_eq_false_iff_not]; intro h; subst h; exact hn rfl) (drew0 w)
    have hne : ((xs.length : Int) != (ys.length : Int)) = true := by simp; omega
    obtain ⟨ao, cap, rfl, _, _⟩ := hv.shape
    obtain ⟨ao', cap', rfl, _, _⟩ := hu.shape
    clear hv hu hn
    generalize decide (xs = ys) = b at *
    go_enter Tryz.func30, Tryz.ntmps30
    go_wp2
    go_ret
    exact HF
theorem lit15 (W : World) (zs : List Int) (n : Nat) (hn : zs.length = n) (h0 : 0 < n) (hs : n ≤ 100) (C : Array Value) (hC : C = (zs.map (Value.int .i32)).toArray) (hz : ∀ z ∈ zs, -2147483648 ≤ z ∧ z ≤ 2147483647) : Sk .i32 (W.alloc (.cells C 21)) (.slice (some ⟨W.heap.size, 0, none⟩) n n) zs := by
  have h : Ok .i32 21 (W.alloc (.cells C 21)) W.heap.size (.slice (some ⟨W.heap.size, 0, none⟩) n n) zs := by
    refine Ok.of (n := n) (us := zs.map (Value.int .i32)) (fun z h => i32_fit (hz z h)) (by omega) ⟨by simp [hn], Or.inr ⟨W.heap.size, n, C, rfl, Nat.le_refl _, World.alloc_heap_new W _, Nat.le_refl _, by unfold maxLen; omega, by rw [hC]; simp [hn], by rw [hC]; exact List.take_of_length_le (by simp [hn])⟩⟩ hn.symm rfl
  exact h.sk
theorem ok_alloc15 {K : IntKind} {e : TypeId} {w : World} {B : Nat} {v : Value} {zs : List Int} (h : Ok K e w B v zs) (o : Obj) : Ok K e (w.alloc o) B v zs := ⟨h.1, h.2.1, h.2.2.alloc o⟩
theorem alloc_size15 (w : World) (o : Obj) : (w.alloc o).heap.size = w.heap.size + 1 := by show (w.heap.push o).size = _; rw [Array.size_push]
theorem app_sk15 {w : World} {ops : Array Oper} {rest : List Oper} {o : Oper} {a : Act} {Q : Exit → Act → World → Prop} (hgd : o.guard = none) (s x : Operand)
    (ho : o.op = .call { callee := .builtin .append, args := #[s, x], argTypes := #[26, 26] }) (B : Nat) (v u : Value) (xs ys : List Int) (hs : a.eval s = v) (hx : a.eval x = u)
    (hv : Ok .i32 21 w B v xs) (hu : Sk .i32 w u ys) (hl : xs.length + ys.length ≤ 1000000000) (hB : B ≤ w.heap.size)
    (h : ∀ v' w', Ok .i32 21 w' B v' (xs ++ ys) → w.grownBy w' v.ownBlock → wpList Tryz.prog ops Q rest (a.put o.dst v') w') : wpList Tryz.prog ops Q (o :: rest) a w := by
  obtain ⟨i0, hi, hz0, hz1, hz2⟩ := info_parts infoR15
  rcases hu.2.src with ⟨h0, rfl⟩ | ⟨ad, cap, hve, hcells⟩
  · obtain rfl : ys = [] := by simpa using h0
    refine wpList_append_own_none hgd s x 26 ho B 21 i0 1 Tryz.underlying26 hi v _ _ hs hv.row hx ?_
    exact h v w (by rw [List.append_nil]; exact hv) (World.grownBy.refl w _)
  · rw [List.length_map] at hve
    subst hve
    refine wpList_append_own w hgd s x 26 ho B 21 i0 (.int .i32 0) 1 4 Tryz.underlying26 hi hz0 hz1 hz2 rfl (by decide) v _ _ hs hv.row ad ys.length cap (ys.map (Value.int .i32)) hx (by simp) hcells (ints_one .i32 ys) (by unfold maxLen; omega) (by omega) hB ?_
    intro v' w' h1 h2 _
    exact h v' w' (Ok.of (hv.1.app hu.1) (by simp; omega) h1 (by simp) (by simp)) h2
set_option maxRecDepth 20000 in
set_option maxHeartbeats 1000000 in
theorem equalR15 (v u : Value) (xs ys : List Int) (w : World) (hv : Sk .i32 w v xs) (hu : Sk .i32 w u ys) :
    Calls Tryz.prog 28 #[v, u] w (Draws w (decide (xs = ys))) := by
  have hlx := hv.len
  have hly := hu.len
  by_cases hn : xs.length = ys.length
  · rcases Nat.eq_zero_or_pos xs.length with h0 | h0
    · have HF : ∀ w', (∃ m, w' = w.drewN m) → Draws w (decide (xs = ys)) (.returned (.bool true)) w' := fun w' hb => draws_mk15 (by
        have h1 := List.eq_nil_of_length_eq_zero h0
        have h2 := List.eq_nil_of_length_eq_zero (hn ▸ h0)
        simp [h1, h2]) hb
      obtain ⟨ao, cap, rfl, _, _⟩ := hv.shape
      obtain ⟨ao', cap', rfl, _, _⟩ := hu.shape
      rw [← hn, h0]
      clear hv hu
      generalize decide (xs = ys) = b at *
      go_enter Tryz.func28, Tryz.ntmps28
      go_wp2
      refine wp_loop_rounds 1 ?_
      rw [rounds_succ]
      go_wp2
      go_ret
      exact HF _ (drew0 w)
    · have HE : ∀ w', (∃ m, w' = w.drewN m) → xs.take xs.length = ys.take xs.length → Draws w (decide (xs = ys)) (.returned (.bool true)) w' := fun w' hb ht => draws_mk15 (by
        rw [List.take_length, hn, List.take_length] at ht
        simp [ht]) hb
      have HN : ∀ w' k, (∃ m, w' = w.drewN m) → ¬ xs.getD k 0 = ys.getD k 0 → Draws w (decide (xs = ys)) (.returned (.bool false)) w' := fun w' k hb ht => draws_mk15 (by
        symm; rw [decide_eq_false_iff_not]; intro h; subst h; exact ht rfl) hb
      have HS : ∀ wr, Below w.heap.size w wr → Sk .i32 wr v xs ∧ Sk .i32 wr u ys := fun wr hb => ⟨hv.below hb, hu.below hb⟩
      obtain ⟨b, off, cap, rfl, hc1, hc2, hc⟩ := hv.place h0
      obtain ⟨b', off', cap', rfl, hc1', hc2', hc'⟩ := hu.place (by omega)
      have HC : ∀ wr, Below w.heap.size w wr → ∀ i, i < xs.length → wr.cell? ⟨b, off + i, none⟩ = some (.int .i32 (xs.getD i 0)) ∧ wr.cell? ⟨b', off' + i, none⟩ = some (.int .i32 (ys.getD i 0)) := by
        intro wr hb i hi
        constructor
        · rw [hb.cell (lt_of_cell? (hc i hi))]; exact hc i hi
        · rw [hb.cell (lt_of_cell? (hc' i (by omega)))]; exact hc' i (by omega)
      rw [← hn] at hc1' ⊢
      have HFx := hide hv.1
      have HFy := hide hu.1
      have hln := hide hn
      clear hv hu HS hc hc' hn
      generalize decide (xs = ys) = bb at *
      go_enter Tryz.func28, Tryz.ntmps28
      go_wp2
      go_loopw [13] (fun i wr => ∃ k : Nat, i = .int .i64 k ∧ k ≤ xs.length ∧ xs.take k = ys.take k ∧ ∃ m, wr = w.drewN m) (fun i _ => xs.length - (intOf i).toNat)
      case atStart => exact ⟨0, rfl, by omega, by simp, drew0 w⟩
      case round =>
        obtain ⟨k, rfl, hk, htk, hbel⟩ := hrel
        by_cases hlt : k < xs.length
        · obtain ⟨c1, c2⟩ := HC _ (drewB hbel) k hlt
          have HT := hide htk
          clear htk
          cases he : (xs.getD k 0 != ys.getD k 0) with
          | true =>
            have HR := fun w' hb => HN w' k hb (by simpa using he)
            clear HN HE HC
            generalize xs.getD k 0 = x at *
            generalize ys.getD k 0 = y at *
            go_wp2
            go_quiet (fail)
            go_wp2
            go_ret
            exact HR _ (drews hbel nq)
          | false =>
            have he' : xs.getD k 0 = ys.getD k 0 := by simpa using he
            have HT2 := hide (take_next15 (unhide HT) hlt (by have := unhide hln; omega) he')
            clear HN HE HC HT he'
            generalize xs.getD k 0 = x at *
            generalize ys.getD k 0 = y at *
            go_wp2
            go_quiet (fail)
            go_wp2
            go_roundw
            case rel => exact ⟨k + 1, by go_num, by omega, unhide HT2, drews hbel nq⟩
            case measure => simp [intOf]; omega
        · obtain rfl : k = xs.length := by omega
          have HR := HE _ hbel htk
          clear HN HE HC
          go_wp2
          go_ret
          exact HR
  · have HF : Draws w (decide (xs = ys)) (.returned (.bool false)) w := draws_mk15 (by
      symm; rw [decide_eq_false_iff_not]; intro h; subst h; exact hn rfl) (drew0 w)
    have hne : ((xs.length : Int) != (ys.length : Int)) = true := by simp; omega
    obtain ⟨ao, cap, rfl, _, _⟩ := hv.shape
    obtain ⟨ao', cap', rfl, _, _⟩ := hu.shape
    clear hv hu hn
    generalize decide (xs = ys) = b at *
    go_enter Tryz.func28, Tryz.ntmps28
    go_wp2
    go_ret
    exact HF
end Go.Proofs.YtceflkeaenepcaaGreatDoor
namespace Go.Proofs.YtceflkeaenepcaaGreatDoor
open Go.RowKit
def eqR (r s : Rec) : Bool := (r.kind == s.kind) && ((r.lo == s.lo) && ((r.hi == s.hi) && ((r.n == s.n) && (decide (r.to = s.to) && ((r.name.toList == s.name.toList) && ((r.other.toList == s.other.toList) && ((r.wt : Int) == (s.wt : Int))))))))
theorem eqR_self (r : Rec) : eqR r r = true := by
  unfold eqR
  rw [beq_self_eq_true, beq_self_eq_true, beq_self_eq_true, beq_self_eq_true, decide_eq_true rfl, beq_self_eq_true, beq_self_eq_true, beq_self_eq_true]; rfl
end Go.Proofs.YtceflkeaenepcaaGreatDoor
