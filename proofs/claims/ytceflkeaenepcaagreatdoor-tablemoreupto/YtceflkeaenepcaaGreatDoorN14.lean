import Derived.Test.YtceflkeaenepcaaGreatDoorN1
import Derived.Deep.QuietTactic
import Derived.BigQuiet
import Derived.Laws.Twins
import Derived.Laws.IdiomCopy
import Derived.Laws.CopyRow
import Derived.Deep.RegionHeld
namespace Go.Proofs.YtceflkeaenepcaaGreatDoor
open Go.RowKit
theorem clear_none (ao : Option Addr) (cap : Nat) (w : World) : (Builtin.clear_ #[225] 0 #[.slice ao 0 cap]).run Tryz.prog w = .ok (.tuple #[]) w := by
  unfold Builtin.clear_
  cases ao <;> simp [run_underlying Tryz.underlying225]
set_option maxRecDepth 20000 in
theorem same_no (ao : Option Addr) (cap : Nat) (w : World) :
    Calls Tryz.prog 223 #[.slice none 0 0, .slice ao 1 cap] w fun e w' => e = .returned (.bool false) ∧ ∃ n, w' = w.drewN n := by
  go_enter Tryz.func223, Tryz.ntmps223
  go_wp2
  go_quiet (fail)
  go_wp2
  go_ret
  exact ⟨rfl, _, rfl⟩
set_option maxRecDepth 20000 in
theorem alias_no (v : Value) (w : World) :
    Calls Tryz.prog 224 #[.slice none 0 0, v] w fun e w' => e = .returned (.bool false) ∧ ∃ n, w' = w.drewN n := by
  go_enter Tryz.func224, Tryz.ntmps224
  go_wp2
  go_quiet (fail)
  go_wp2
  go_ret
  exact ⟨rfl, _, rfl⟩
theorem lshVU_enter (args : Array Value) (w : World) : (callFunc 226 args).run Tryz.prog w = .ok (.enter 191 args) w := by
  exact run_callFunc_twin (twin := "math/big.lshVU_g") Tryz.func226 (by kernel_rfl) (by kernel_rfl) (by kernel_rfl) (by kernel_rfl) Tryz.func191 (by kernel_rfl) (by kernel_rfl) (by kernel_rfl) args w
set_option maxRecDepth 20000 in
theorem lshVUg_1 (g b c1 c2 : Nat) (n : Int) (u : Value) (w : World) (h0 : 0 < n) (h : w.cell? ⟨b, 0, none⟩ = some (.int .u64 n)) (hm : n < 9223372036854775808)
    (hg : w.cell? ⟨g, 0, none⟩ = some u) (hf : w.frozen? ⟨g, 0, none⟩ = false) :
    Calls Tryz.prog 191 #[.slice (some ⟨g, 0, none⟩) 1 c1, .slice (some ⟨b, 0, none⟩) 1 c2, .int .u64 1] w fun e w' => e = .returned (.int .u64 0) ∧ w' = w.setCell ⟨g, 0, none⟩ (.int .u64 (n * 2)) := by
  have e1 : bits BinOp.and IntKind.u64 1 63 = 1 := by decide
  have e2 : bits BinOp.and IntKind.u64 63 63 = 63 := by decide
  have e3 : bits BinOp.and IntKind.u64 (IntKind.u64.wrap (64 - bits BinOp.and IntKind.u64 1 63)) 63 = 63 := by decide
  have HV : Hid (n / 9223372036854775808 = 0) := hide (by omega)
  go_enter Tryz.func191, Tryz.ntmps191
  go_wp2
  go_loop [8] (fun i => i = .int .i64 0) (fun i => 0)
  case atStart => rfl
  case round =>
    subst hrel
    go_wp2
    rw [unhide HV]
    go_ret
    exact ⟨rfl, rfl⟩
set_option maxRecDepth 20000 in
theorem lshVUg_54 (g b c1 c2 : Nat) (n : Int) (u : Value) (w : World) (h0 : 0 < n) (h : w.cell? ⟨b, 0, none⟩ = some (.int .u64 n)) (hm : n < 1024)
    (hg : w.cell? ⟨g, 0, none⟩ = some u) (hf : w.frozen? ⟨g, 0, none⟩ = false) :
    Calls Tryz.prog 191 #[.slice (some ⟨g, 0, none⟩) 1 c1, .slice (some ⟨b, 0, none⟩) 1 c2, .int .u64 54] w fun e w' => e = .returned (.int .u64 0) ∧ w' = w.setCell ⟨g, 0, none⟩ (.int .u64 (n * 18014398509481984)) := by
  have e1 : bits BinOp.and IntKind.u64 54 63 = 54 := by decide
  have e2 : bits BinOp.and IntKind.u64 10 63 = 10 := by decide
  have e3 : bits BinOp.and IntKind.u64 (IntKind.u64.wrap (64 - bits BinOp.and IntKind.u64 54 63)) 63 = 10 := by decide
  have HV : Hid (n / 1024 = 0) := hide (by omega)
  go_enter Tryz.func191, Tryz.ntmps191
  go_wp2
  go_loop [8] (fun i => i = .int .i64 0) (fun i => 0)
  case atStart => rfl
  case round =>
    subst hrel
    go_wp2
    rw [unhide HV]
    go_ret
    exact ⟨rfl, rfl⟩
set_option maxRecDepth 20000 in
theorem lshVUg_55 (g b c1 c2 : Nat) (n : Int) (u : Value) (w : World) (h0 : 0 < n) (h : w.cell? ⟨b, 0, none⟩ = some (.int .u64 n)) (hm : n < 512)
    (hg : w.cell? ⟨g, 0, none⟩ = some u) (hf : w.frozen? ⟨g, 0, none⟩ = false) :
    Calls Tryz.prog 191 #[.slice (some ⟨g, 0, none⟩) 1 c1, .slice (some ⟨b, 0, none⟩) 1 c2, .int .u64 55] w fun e w' => e = .returned (.int .u64 0) ∧ w' = w.setCell ⟨g, 0, none⟩ (.int .u64 (n * 36028797018963968)) := by
  have e1 : bits BinOp.and IntKind.u64 55 63 = 55 := by decide
  have e2 : bits BinOp.and IntKind.u64 9 63 = 9 := by decide
  have e3 : bits BinOp.and IntKind.u64 (IntKind.u64.wrap (64 - bits BinOp.and IntKind.u64 55 63)) 63 = 9 := by decide
  have HV : Hid (n / 512 = 0) := hide (by omega)
  go_enter Tryz.func191, Tryz.ntmps191
  go_wp2
  go_loop [8] (fun i => i = .int .i64 0) (fun i => 0)
  case atStart => rfl
  case round =>
    subst hrel
    go_wp2
    rw [unhide HV]
    go_ret
    exact ⟨rfl, rfl⟩
theorem lshVUg_any (s m : Int) (hs : (s = 1 ∧ m = 2) ∨ (s = 54 ∧ m = 18014398509481984) ∨ (s = 55 ∧ m = 36028797018963968)) (g b c1 c2 : Nat) (n : Int) (u : Value) (w : World) (h0 : 0 < n) (h : w.cell? ⟨b, 0, none⟩ = some (.int .u64 n)) (hm : n * m < 18446744073709551616)
    (hg : w.cell? ⟨g, 0, none⟩ = some u) (hf : w.frozen? ⟨g, 0, none⟩ = false) :
    Calls Tryz.prog 191 #[.slice (some ⟨g, 0, none⟩) 1 c1, .slice (some ⟨b, 0, none⟩) 1 c2, .int .u64 s] w fun e w' => e = .returned (.int .u64 0) ∧ w' = w.setCell ⟨g, 0, none⟩ (.int .u64 (n * m)) := by
  rcases hs with ⟨rfl, rfl⟩ | ⟨rfl, rfl⟩ | ⟨rfl, rfl⟩
  · exact lshVUg_1 g b c1 c2 n u w h0 h (by omega) hg hf
  · exact lshVUg_54 g b c1 c2 n u w h0 h (by omega) hg hf
  · exact lshVUg_55 g b c1 c2 n u w h0 h (by omega) hg hf
set_option maxRecDepth 20000 in
theorem lsh_s (s m : Int) (hs : (s = 1 ∧ m = 2) ∨ (s = 54 ∧ m = 18014398509481984) ∨ (s = 55 ∧ m = 36028797018963968)) (ao : Option Addr) (len zc : Nat) (hzc : zc ≤ 1) (b cap : Nat) (n : Int) (w : World) (h0 : 0 < n) (hm : n * m < 18446744073709551616) (h : w.cell? ⟨b, 0, none⟩ = some (.int .u64 n)) :
    Calls Tryz.prog 211 #[.slice ao len zc, .slice (some ⟨b, 0, none⟩) 1 cap, .int .u64 s] w fun e w' => e = .returned (.slice (some ⟨w.heap.size, 0, none⟩) 1 6) ∧ w' = w.alloc (.cells #[.int .u64 (n * m), .int .u64 0, .int .u64 0, .int .u64 0, .int .u64 0, .int .u64 0] 246) := by
  have hb := lt_of_cell? h
  have K1 := hide (make_two ao len zc hzc w)
  have K2 := hide (lshVUg_any s m hs)
  have K3 := hide norm_two
  have hen := lshVU_enter
  have hcl := clear_none
  have hc1 : (w.alloc (.cells #[.int .u64 0, .int .u64 0, .int .u64 0, .int .u64 0, .int .u64 0, .int .u64 0] 246)).cell? ⟨b, 0, none⟩ = some (.int .u64 n) := by
    rw [((Below.refl w.heap.size w).alloc (Nat.le_refl _) _).cell hb]; exact h
  rcases hs with ⟨rfl, rfl⟩ | ⟨rfl, rfl⟩ | ⟨rfl, rfl⟩
  · go_enter Tryz.func211, Tryz.ntmps211
    go_wp2_with fail
    refine (unhide K1).mono ?_
    rintro e w1 ⟨rfl, rfl⟩
    go_wp2_with fail
    refine ((unhide K2) w.heap.size b 6 cap n (.int .u64 0) _ h0 hc1 hm (by simp [go_sem]) (by simp [go_sem])).mono ?_
    rintro e w2 ⟨rfl, rfl⟩
    go_wp2_with fail
    refine ((unhide K3) w.heap.size 6 (n * 2) _ (by omega) (by decide) (by decide) (by simp [go_sem]) (by simp [go_sem])).mono ?_
    rintro e w3 ⟨rfl, rfl⟩
    go_wp2
    go_ret
    exact ⟨rfl, rfl⟩
  · go_enter Tryz.func211, Tryz.ntmps211
    go_wp2_with fail
    refine (unhide K1).mono ?_
    rintro e w1 ⟨rfl, rfl⟩
    go_wp2_with fail
    refine ((unhide K2) w.heap.size b 6 cap n (.int .u64 0) _ h0 hc1 hm (by simp [go_sem]) (by simp [go_sem])).mono ?_
    rintro e w2 ⟨rfl, rfl⟩
    go_wp2_with fail
    refine ((unhide K3) w.heap.size 6 (n * 18014398509481984) _ (by omega) (by decide) (by decide) (by simp [go_sem]) (by simp [go_sem])).mono ?_
    rintro e w3 ⟨rfl, rfl⟩
    go_wp2
    go_ret
    exact ⟨rfl, rfl⟩
  · go_enter Tryz.func211, Tryz.ntmps211
    go_wp2_with fail
    refine (unhide K1).mono ?_
    rintro e w1 ⟨rfl, rfl⟩
    go_wp2_with fail
    refine ((unhide K2) w.heap.size b 6 cap n (.int .u64 0) _ h0 hc1 hm (by simp [go_sem]) (by simp [go_sem])).mono ?_
    rintro e w2 ⟨rfl, rfl⟩
    go_wp2_with fail
    refine ((unhide K3) w.heap.size 6 (n * 36028797018963968) _ (by omega) (by decide) (by decide) (by simp [go_sem]) (by simp [go_sem])).mono ?_
    rintro e w3 ⟨rfl, rfl⟩
    go_wp2
    go_ret
    exact ⟨rfl, rfl⟩
set_option maxRecDepth 20000 in
theorem lsh_none (ao : Option Addr) (cap : Nat) (s : Int) (hs : 0 < s) (w : World) :
    Calls Tryz.prog 211 #[.slice none 0 0, .slice ao 0 cap, .int .u64 s] w fun e w' => e = .returned (.slice none 0 0) ∧ w' = w := by
  have h1 : (s == 0) = false := by simp; omega
  go_enter Tryz.func211, Tryz.ntmps211
  go_wp2
  go_ret
  exact ⟨rfl, rfl⟩
set_option maxRecDepth 20000 in
theorem set_new (b cap : Nat) (n : Int) (w : World) (h : w.cell? ⟨b, 0, none⟩ = some (.int .u64 n)) :
    Calls Tryz.prog 225 #[.slice none 0 0, .slice (some ⟨b, 0, none⟩) 1 cap] w fun e w' => e = .returned (.slice (some ⟨w.heap.size, 0, none⟩) 1 1) ∧ w' = w.alloc (.cells #[.int .u64 n] 246) := by
  have hb := lt_of_cell? h
  have K1 := hide (make_one none 0 w)
  have hcp : (Builtin.copy_ #[225, 225] 3 #[.slice (some ⟨w.heap.size, 0, none⟩) 1 1, .slice (some ⟨b, 0, none⟩) 1 cap]).run Tryz.prog (w.alloc (.cells #[.int .u64 0] 246)) = .ok (.int .i64 1) (w.alloc (.cells #[.int .u64 n] 246)) := by
    have hb1 : (w.alloc (.cells #[.int .u64 0] 246)).cell? ⟨b, 0, none⟩ = some (.int .u64 n) := by
      rw [((Below.refl w.heap.size w).alloc (Nat.le_refl _) _).cell hb]; exact h
    have q := run_copy_cells (P := Tryz.prog) (w.alloc (.cells #[.int .u64 0] 246)) 225 225 3 246 w.heap.size 0 1 1 ⟨b, 0, none⟩ 1 cap [.int .u64 n] Tryz.underlying225 (by kernel_rfl) rfl
      (fun j v hj => by
        cases j with
        | zero => simp at hj; subst hj; rw [addr_add]; exact hb1
        | succ j => simp at hj)
      (fun j hj => by have : j = 0 := by simpa using hj
                      subst this; simp [go_sem])
      (fun j hj => by have : j = 0 := by simpa using hj
                      subst this; simp [go_sem])
      (int_one .u64 n)
    rw [q]
    simp [World.setCells, go_sem]
  go_enter Tryz.func225, Tryz.ntmps225
  go_wp2_with fail
  refine (unhide K1).mono ?_
  rintro e w1 ⟨rfl, rfl⟩
  go_wp2
  go_ret
  exact ⟨rfl, rfl⟩
end Go.Proofs.YtceflkeaenepcaaGreatDoor
namespace Go.Proofs.YtceflkeaenepcaaGreatDoor
open Go.RowKit
section
variable {P : Program} {ops : Array Oper} {Q : Exit → Act → World → Prop} {md : Region.Mode} {S : World → Prop} {late : Array Bool}
def wpAnyL (P : Program) (md : Region.Mode) (ops : Array Oper) (Q : Exit → Act → World → Prop) (S : World → Prop) (late : Array Bool) : Nat → Array Bool → Act → World → Prop
  | 0, listed, a, w => Region.ready md ops listed = [] ∧ Q .normal a w
  | fuel + 1, listed, a, w =>
    (Region.ready md ops listed = [] → Q .normal a w) ∧
    ∀ i ∈ Region.ready md ops listed, wpOp P ops Q i (fun a' w' => if late.getD i false = true then wpAny P md ops Q fuel (listed.setIfInBounds i true) a' w' else S w' ∧ wpAnyL P md ops Q S late fuel (listed.setIfInBounds i true) a' w') a w
theorem wpAny_of_late : ∀ (fuel : Nat) (listed : Array Bool) (a : Act) (w : World), wpAnyL P md ops Q S late fuel listed a w → wpAny P md ops Q fuel listed a w
  | 0, _, _, _, h => h
  | fuel + 1, _, _, _, h => ⟨h.1, fun i hi => wpOp_mono (fun a' w' h' => by
      split at h'
      · exact h'
      · exact wpAny_of_late fuel _ a' w' h'.2) (h.2 i hi)⟩
theorem wpAnyL_first {i : Nat} {oi : Oper} {v : Value} (hi : ops[i]? = some oi) (hsel : ∀ (j : Nat) (o : Oper) cs b, ops[j]? = some o → o.op ≠ .select cs b)
    (hQ : ∀ c a w, Q (.panic c) (a.put oi.dst v) w → Q (.panic c) a w) (hil : late.getD i false = false)
    (hlate : ∀ j oj, ops[j]? = some oj → late.getD j false = true → ∃ e ∈ oj.after, Region.binds md e = true ∧ e.on = i) :
    ∀ (fuel : Nat) (listed : Array Bool) (a : Act) (w : World),
      (∀ j oj, ops[j]? = some oj → j ≠ i → listed.getD j true = false → (∀ e ∈ oj.after, Region.binds md e = true → e.on ≠ i) → oi.apart ops oj = true) →
      i ∈ Region.ready md ops listed → YieldsIf P ops S oi v a → S w →
      wpAnyL P md ops Q S late fuel (listed.setIfInBounds i true) (a.put oi.dst v) w → wpAnyL P md ops Q S late (fuel + 1) listed a w := by
  intro fuel
  induction fuel with
  | zero =>
    intro listed a w _ hr hy hS H
    refine ⟨fun h => (by rw [h] at hr; cases hr), fun j hj => ?_⟩
    by_cases hji : j = i
    · subst hji; exact hy.wpOp hi hS (by rw [if_neg (by rw [hil]; decide)]; exact ⟨hS, H⟩)
    · have := ready_mono hj hji
      rw [H.1] at this
      cases this
  | succ fuel ih =>
    intro listed a w hfree hr hy hS H
    refine ⟨fun h => (by rw [h] at hr; cases hr), fun j hj => ?_⟩
    by_cases hji : j = i
    · subst hji; exact hy.wpOp hi hS (by rw [if_neg (by rw [hil]; decide)]; exact ⟨hS, H⟩)
    · have h1 := H.2 j (ready_mono hj hji)
      obtain ⟨hjun, oj, hoj, hall⟩ := mem_ready.1 hj
      have hnot : ∀ e ∈ oj.after, Region.binds md e = true → e.on ≠ i := fun e he hb heq => by
        have h1 := hall e he hb
        have h0 := (mem_ready.1 hr).1
        rw [heq] at h1
        rcases Nat.lt_or_ge i listed.size with h' | h'
        · simp [h'] at h0 h1; rw [h0] at h1; cases h1
        · simp [Array.getElem?_eq_none h'] at h1
      have hjl : late.getD j false = false := by
        cases hl : late.getD j false with
        | false => rfl
        | true =>
          obtain ⟨e, he, hb, hon⟩ := hlate j oj hoj hl
          exact absurd hon (hnot e he hb)
      simp only [hjl, Bool.false_eq_true, if_false] at h1 ⊢
      have h2 := wpOp_putIf hoj (hfree j oj hoj hji hjun hnot) (fun cs b => hsel i oi cs b hi) (fun cs b => hsel j oj cs b hoj) hQ hy h1
      have hfree' : ∀ k ok, ops[k]? = some ok → k ≠ i → (listed.setIfInBounds j true).getD k true = false →
          (∀ e ∈ ok.after, Region.binds md e = true → e.on ≠ i) → oi.apart ops ok = true := fun k ok hk hki hun hno => by
        refine hfree k ok hk hki ?_ hno
        by_cases hjk : j = k
        · subst hjk; exact hjun
        · rw [getD_set_ne true hjk] at hun; exact hun
      refine wpOp_mono (fun a' w' h3 => ⟨h3.2.1, ih (listed.setIfInBounds j true) a' w' hfree' (ready_mono hr (Ne.symm hji)) h3.1 h3.2.1 ?_⟩) h2
      rw [Array.setIfInBounds_comm _ _ hji]
      exact h3.2.2
def lateOk (md : Region.Mode) (ops : Array Oper) (late : Array Bool) (i : Nat) : Bool :=
  !late.getD i false && (List.range ops.size).all fun j => !late.getD j false || (ops[j]?.map fun o => o.after.any fun e => Region.binds md e && e.on == i).getD true
theorem wpAnyL_take {i : Nat} {oi : Oper} {v : Value} {fuel : Nat} {listed : Array Bool} {a : Act} {w : World} (hi : ops[i]? = some oi)
    (hs : Region.noSelect ops = true) (hf : Region.free md ops listed i = true) (hr : (Region.ready md ops listed).contains i = true) (hl : lateOk md ops late i = true)
    (hQ : ∀ c a w, Q (.panic c) (a.put oi.dst v) w → Q (.panic c) a w) (hy : YieldsIf P ops S oi v a) (hS : S w)
    (h : wpAnyL P md ops Q S late fuel (listed.setIfInBounds i true) (a.put oi.dst v) w) : wpAnyL P md ops Q S late (fuel + 1) listed a w := by
  unfold lateOk at hl
  rw [Bool.and_eq_true] at hl
  refine wpAnyL_first hi (Region.noSelect_spec hs) hQ (by simpa using hl.1) ?_ fuel listed a w (Region.free_spec hi hf) (by simpa using hr) hy hS h
  intro j oj hj hlj
  have h2 := List.all_eq_true.1 hl.2 j (List.mem_range.2 (by
    rcases Nat.lt_or_ge j ops.size with h | h
    · exact h
    · simp [Array.getElem?_eq_none h] at hj))
  rw [hlj, hj] at h2
  simp only [Bool.not_true, Bool.false_or, Option.map_some, Option.getD_some, Array.any_eq_true] at h2
  obtain ⟨k, hk, h3⟩ := h2
  rw [Bool.and_eq_true] at h3
  exact ⟨_, Array.getElem_mem hk, h3.1, by simpa using h3.2⟩
theorem wpAnyL_firstP {i : Nat} {oi : Oper} {v : Value} (hi : ops[i]? = some oi) (hsel : ∀ (j : Nat) (o : Oper) cs b, ops[j]? = some o → o.op ≠ .select cs b)
    (hQ : ∀ c a w, Q (.panic c) (a.put oi.dst v) w → Q (.panic c) a w) (hil : late.getD i false = false) :
    ∀ (fuel : Nat) (listed : Array Bool) (a : Act) (w : World),
      (∀ j oj, ops[j]? = some oj → j ≠ i → listed.getD j true = false → (∀ e ∈ oj.after, Region.binds md e = true → e.on ≠ i) → oi.apart ops oj = true) →
      i ∈ Region.ready md ops listed → Yields P ops oi v a → S w →
      wpAnyL P md ops Q S late fuel (listed.setIfInBounds i true) (a.put oi.dst v) w → wpAnyL P md ops Q S late (fuel + 1) listed a w := by
  intro fuel
  induction fuel with
  | zero =>
    intro listed a w _ hr hy hS H
    refine ⟨fun h => (by rw [h] at hr; cases hr), fun j hj => ?_⟩
    by_cases hji : j = i
    · subst hji; exact hy.wpOp hi (by rw [if_neg (by rw [hil]; decide)]; exact ⟨hS, H⟩)
    · have := ready_mono hj hji
      rw [H.1] at this
      cases this
  | succ fuel ih =>
    intro listed a w hfree hr hy hS H
    refine ⟨fun h => (by rw [h] at hr; cases hr), fun j hj => ?_⟩
    by_cases hji : j = i
    · subst hji; exact hy.wpOp hi (by rw [if_neg (by rw [hil]; decide)]; exact ⟨hS, H⟩)
    · have h1 := H.2 j (ready_mono hj hji)
      obtain ⟨hjun, oj, hoj, hall⟩ := mem_ready.1 hj
      have hnot : ∀ e ∈ oj.after, Region.binds md e = true → e.on ≠ i := fun e he hb heq => by
        have h1 := hall e he hb
        have h0 := (mem_ready.1 hr).1
        rw [heq] at h1
        rcases Nat.lt_or_ge i listed.size with h' | h'
        · simp [h'] at h0 h1; rw [h0] at h1; cases h1
        · simp [Array.getElem?_eq_none h'] at h1
      have h2 := wpOp_put hoj (hfree j oj hoj hji hjun hnot) (fun cs b => hsel i oi cs b hi) (fun cs b => hsel j oj cs b hoj) hQ hy h1
      have hfree' : ∀ k ok, ops[k]? = some ok → k ≠ i → (listed.setIfInBounds j true).getD k true = false →
          (∀ e ∈ ok.after, Region.binds md e = true → e.on ≠ i) → oi.apart ops ok = true := fun k ok hk hki hun hno => by
        refine hfree k ok hk hki ?_ hno
        by_cases hjk : j = k
        · subst hjk; exact hjun
        · rw [getD_set_ne true hjk] at hun; exact hun
      refine wpOp_mono (fun a' w' h3 => ?_) h2
      obtain ⟨h4, h5⟩ := h3
      by_cases hl : late.getD j false = true
      · rw [if_pos hl] at h5 ⊢
        refine wpAny_first hi hsel hQ fuel (listed.setIfInBounds j true) a' w' hfree' (ready_mono hr (Ne.symm hji)) h4 ?_
        rw [Array.setIfInBounds_comm _ _ hji]
        exact h5
      · rw [if_neg hl] at h5 ⊢
        refine ⟨h5.1, ih (listed.setIfInBounds j true) a' w' hfree' (ready_mono hr (Ne.symm hji)) h4 h5.1 ?_⟩
        rw [Array.setIfInBounds_comm _ _ hji]
        exact h5.2
theorem wpAnyL_takeP {i : Nat} {oi : Oper} {v : Value} {fuel : Nat} {listed : Array Bool} {a : Act} {w : World} (hi : ops[i]? = some oi)
    (hs : Region.noSelect ops = true) (hf : Region.free md ops listed i = true) (hr : (Region.ready md ops listed).contains i = true) (hl : late.getD i false = false)
    (hQ : ∀ c a w, Q (.panic c) (a.put oi.dst v) w → Q (.panic c) a w) (hy : Yields P ops oi v a) (hS : S w)
    (h : wpAnyL P md ops Q S late fuel (listed.setIfInBounds i true) (a.put oi.dst v) w) : wpAnyL P md ops Q S late (fuel + 1) listed a w :=
  wpAnyL_firstP hi (Region.noSelect_spec hs) hQ hl fuel listed a w (Region.free_spec hi hf) (by simpa using hr) hy hS h
theorem wpAnyL_one {i : Nat} {o : Oper} {fuel : Nat} {listed : Array Bool} {a : Act} {w : World} (hr : Region.ready md ops listed = [i]) (ho : ops[i]? = some o) (hl : late.getD i false = false)
    (h : ∀ K' : Act → World → Prop, Shut (∀ a w, S w → (S w → wpAnyL P md ops Q S late fuel (listed.setIfInBounds i true) a w) → K' a w) → if Region.wanted o (yielded ops a.tmps) = true then Oper.wp P o a w K' Q else K' (a.put o.dst undef) w) :
    wpAnyL P md ops Q S late (fuel + 1) listed a w := by
  refine ⟨fun h0 => absurd (hr ▸ h0) (by simp), fun j hj => ?_⟩
  rw [hr] at hj
  have : j = i := by simpa using hj
  subst this
  simp only [hl, Bool.false_eq_true, if_false]
  exact wpOp_step ho (fun K' hK => h K' (fun a w hS hW => hK a w ⟨hS, hW hS⟩))
theorem wpAnyL_late {rs : List Nat} {fuel : Nat} {listed : Array Bool} {a : Act} {w : World} (hr : Region.ready md ops listed = rs) (hl : rs.all (fun i => late.getD i false) = true)
    (h : wpAny P md ops Q (fuel + 1) listed a w) : wpAnyL P md ops Q S late (fuel + 1) listed a w := by
  refine ⟨h.1, fun i hi => ?_⟩
  have h1 := h.2 i hi
  rw [hr] at hi
  have h2 := List.all_eq_true.1 hl i hi
  simp only [h2, if_true]
  exact h1
theorem wp_region_late {id : Nat} {a : Act} {w : World} (late : Array Bool) (hm : P.follows .mixedOrders = true) (hS : S w.drew)
    (h : S w.drew → wpAnyL P .any ops Q S late ops.size (Array.replicate ops.size false) a w.drew) : (Code.region id ops true).wp P Q a w :=
  wp_region_any hm (wpAny_of_late _ _ _ _ (h hS))
end
end Go.Proofs.YtceflkeaenepcaaGreatDoor
namespace Go.Proofs.YtceflkeaenepcaaGreatDoor
open Go.RowKit
theorem set_block6 {w : World} {g j : Nat} {cur : Array Value} {e : TypeId} (h : w.heap[g]? = some (.cells cur e (0, 0))) (v : Value) : (w.setCell ⟨g, j, none⟩ v).heap[g]? = some (.cells (cur.setIfInBounds j v) e (0, 0)) := by
  rw [setCell_eq_setRow w g j cur e (0, 0) v h]
  exact setRow_heap w g cur _ e _ h
theorem cell_of6 {w : World} {g j : Nat} {cur : Array Value} {e : TypeId} (h : w.heap[g]? = some (.cells cur e (0, 0))) (hj : j < cur.size) : w.cell? ⟨g, j, none⟩ = some (cur.getD j undef) := by
  simp [World.cell?, h, hj]
theorem frozen_of6 {w : World} {g j : Nat} {cur : Array Value} {e : TypeId} (h : w.heap[g]? = some (.cells cur e (0, 0))) : w.frozen? ⟨g, j, none⟩ = false := by
  simp [World.frozen?, h]
def Zi (w : World) (b : Nat) (v : Value) : Prop := w.heap[b]? = some (.cells #[.bool false, v] 227 (0, 0))
theorem Zi.c0 {w : World} {b : Nat} {v : Value} (h : Zi w b v) : w.cell? ⟨b, 0, none⟩ = some (.bool false) := cell_of6 (j := 0) h (by simp)
theorem Zi.c1 {w : World} {b : Nat} {v : Value} (h : Zi w b v) : w.cell? ⟨b, 1, none⟩ = some v := cell_of6 (j := 1) h (by simp)
theorem Zi.f {w : World} {b : Nat} {v : Value} (h : Zi w b v) (j : Nat) : w.frozen? ⟨b, j, none⟩ = false := frozen_of6 h
theorem Zi.lt {w : World} {b : Nat} {v : Value} (h : Zi w b v) : b < w.heap.size := lt_of_cell? h.c0
theorem Zi.set {w : World} {b : Nat} {v : Value} (h : Zi w b v) (u : Value) : Zi (w.setCell ⟨b, 1, none⟩ u) b u := by
  unfold Zi at *
  rw [set_block6 h]
  rfl
theorem Zi.keep {w : World} {b : Nat} {v : Value} (h : Zi w b v) : Zi (w.setCell ⟨b, 0, none⟩ (.bool false)) b v := by
  unfold Zi at *
  rw [set_block6 h]
  rfl
theorem Zi.below {w w' : World} {b B : Nat} {v : Value} (h : Zi w b v) (hb : Below B w w') (hB : b < B) : Zi w' b v := by
  unfold Zi at *
  rw [hb.block b hB]
  exact h
theorem Zi.alloc (w : World) (v : Value) : Zi (w.alloc (.cells #[.bool false, v] 227)) w.heap.size v := by
  unfold Zi World.alloc
  simp
def Bp (w : World) (b : Nat) (n : Int) : Prop := 0 < n ∧ n < 18446744073709551616 ∧ ∃ g cap, Zi w b (.slice (some ⟨g, 0, none⟩) 1 cap) ∧ w.cell? ⟨g, 0, none⟩ = some (.int .u64 n) ∧ 1 ≤ cap ∧ cap ≤ 6
theorem Bp.below {w w' : World} {b : Nat} {n : Int} (h : Bp w b n) (hb : Below w.heap.size w w') : Bp w' b n := by
  obtain ⟨h0, h1, g, cap, h3, h4, h5⟩ := h
  exact ⟨h0, h1, g, cap, h3.below hb h3.lt, (hb.cell (lt_of_cell? h4)).trans h4, h5⟩
theorem Below.lower6 {w w' : World} {B C : Nat} (h : Below C w w') (hB : B ≤ C) : Below B w w' := h.mono hB
theorem below_set6 {w : World} {B b : Nat} (hB : B ≤ b) (j : Nat) (v : Value) : Below B w (w.setCell ⟨b, j, none⟩ v) := (Below.refl B w).setCell (by simpa using hB) v
theorem cell_set6 {w : World} {b c j k : Nat} {v : Value} (h : c ≠ b) : (w.setCell ⟨b, j, none⟩ v).cell? ⟨c, k, none⟩ = w.cell? ⟨c, k, none⟩ := by
  have hb : (w.setCell ⟨b, j, none⟩ v).heap[c]? = w.heap[c]? := by
    unfold World.setCell
    simp [Array.getElem?_modify, Ne.symm h]
  simp [World.cell?, hb]
theorem store_nat6 {W : World} {a : Addr} {u : Value} (h : W.cell? a = some u) (hf : W.frozen? a = false) (ao : Option Addr) (l c : Nat) : (Instr.storeAt 225 (.pointer (some a)) (.slice ao l c)).run Tryz.prog W = .ok () (W.setCell a (.slice ao l c)) := by
  simp [Instr.storeAt, go_sem, h, hf]
set_option linter.unusedSimpArgs false in
set_option maxRecDepth 20000 in
theorem ilsh (b c : Nat) (va vx : Value) (ao : Option Addr) (l cp : Nat) (s : Int) (w : World) (R : World → Prop) (hz : Zi w b va) (hx0 : w.cell? ⟨c, 0, none⟩ = some (.bool false)) (hx1 : w.cell? ⟨c, 1, none⟩ = some vx)
    (hK : Calls Tryz.prog 211 #[va, vx, .int .u64 s] w.drew fun e w' => e = .returned (.slice ao l cp) ∧ R w') (hR : ∀ W, R W → Below w.heap.size w W) :
    Calls Tryz.prog 188 #[.pointer (some ⟨b, 0, none⟩), .pointer (some ⟨c, 0, none⟩), .int .u64 s] w fun e w' => e = .returned (.pointer (some ⟨b, 0, none⟩)) ∧ ∃ W, R W ∧ w' = (W.setCell ⟨b, 1, none⟩ (.slice ao l cp)).setCell ⟨b, 0, none⟩ (.bool false) := by
  have HK := hide hK
  have hz1 := hz.c1
  have HQ : Hid (∀ W1, R W1 → W1.cell? ⟨b, 1, none⟩ = some va ∧ W1.cell? ⟨c, 1, none⟩ = some vx ∧ W1.frozen? ⟨b, 1, none⟩ = false ∧ (W1.setCell ⟨b, 1, none⟩ (.slice ao l cp)).cell? ⟨b, 0, none⟩ = some (.bool false) ∧ (W1.setCell ⟨b, 1, none⟩ (.slice ao l cp)).frozen? ⟨b, 0, none⟩ = false ∧ (W1.setCell ⟨b, 1, none⟩ (.slice ao l cp)).cell? ⟨c, 0, none⟩ = some (.bool false)) := hide (by
    intro W1 h1
    have hW := hR W1 h1
    have hzW := Zi.below hz hW hz.lt
    have r0 : W1.cell? ⟨c, 0, none⟩ = some (.bool false) := (hW.cell (lt_of_cell? hx0)).trans hx0
    refine ⟨hzW.c1, (hW.cell (lt_of_cell? hx1)).trans hx1, hzW.f 1, (hzW.set _).c0, (hzW.set _).f 0, ?_⟩
    by_cases h : c = b
    · rw [h]; exact (hzW.set _).c0
    · rw [cell_set6 h]; exact r0)
  clear hz hK hR
  go_enter Tryz.func188, Tryz.ntmps188
  go_wp2
  refine wp_region_late (S := fun w' => w'.cell? ⟨b, 1, none⟩ = some va ∧ w'.cell? ⟨c, 1, none⟩ = some vx) #[false, false, false, false, false, false, false, false, false, false, false, true, true, true] (by kernel_rfl) (⟨hz1, hx1⟩) (fun hHeld => ?_)
  refine wpAnyL_take (i := 0) (v := (.pointer (some ⟨b, 0, none⟩))) rfl (by kernel_rfl) (by kernel_rfl) (by kernel_rfl) (by kernel_rfl) (fun _ _ _ h => h) (Or.inl ⟨by rfl, ?_⟩) hHeld ?_
  · intro w hSw
    go_simp
  try simp only [Act.put, List.setIfInBounds_toArray, List.set_cons_zero, List.set_cons_succ]
  refine wpAnyL_take (i := 1) (v := (.pointer (some ⟨b, 0, none⟩))) rfl (by kernel_rfl) (by kernel_rfl) (by kernel_rfl) (by kernel_rfl) (fun _ _ _ h => h) (Or.inl ⟨by rfl, ?_⟩) hHeld ?_
  · intro w hSw
    go_simp
  try simp only [Act.put, List.setIfInBounds_toArray, List.set_cons_zero, List.set_cons_succ]
  refine wpAnyL_take (i := 2) (v := (.pointer (some ⟨b, 0, none⟩))) rfl (by kernel_rfl) (by kernel_rfl) (by kernel_rfl) (by kernel_rfl) (fun _ _ _ h => h) (Or.inl ⟨by rfl, ?_⟩) hHeld ?_
  · intro w hSw
    go_simp
  try simp only [Act.put, List.setIfInBounds_toArray, List.set_cons_zero, List.set_cons_succ]
  refine wpAnyL_take (i := 3) (v := (.pointer (some ⟨b, 1, none⟩))) rfl (by kernel_rfl) (by kernel_rfl) (by kernel_rfl) (by kernel_rfl) (fun _ _ _ h => h) (Or.inl ⟨by rfl, ?_⟩) hHeld ?_
  · intro w hSw
    go_simp
  try simp only [Act.put, List.setIfInBounds_toArray, List.set_cons_zero, List.set_cons_succ]
  refine wpAnyL_take (i := 4) (v := va) rfl (by kernel_rfl) (by kernel_rfl) (by kernel_rfl) (by kernel_rfl) (fun _ _ _ h => h) (Or.inl ⟨by rfl, ?_⟩) hHeld ?_
  · intro w hSw
    have := hSw.1; go_simp
  try simp only [Act.put, List.setIfInBounds_toArray, List.set_cons_zero, List.set_cons_succ]
  refine wpAnyL_take (i := 5) (v := (.pointer (some ⟨c, 0, none⟩))) rfl (by kernel_rfl) (by kernel_rfl) (by kernel_rfl) (by kernel_rfl) (fun _ _ _ h => h) (Or.inl ⟨by rfl, ?_⟩) hHeld ?_
  · intro w hSw
    go_simp
  try simp only [Act.put, List.setIfInBounds_toArray, List.set_cons_zero, List.set_cons_succ]
  refine wpAnyL_take (i := 6) (v := (.pointer (some ⟨c, 0, none⟩))) rfl (by kernel_rfl) (by kernel_rfl) (by kernel_rfl) (by kernel_rfl) (fun _ _ _ h => h) (Or.inl ⟨by rfl, ?_⟩) hHeld ?_
  · intro w hSw
    go_simp
  try simp only [Act.put, List.setIfInBounds_toArray, List.set_cons_zero, List.set_cons_succ]
  refine wpAnyL_take (i := 7) (v := (.pointer (some ⟨c, 1, none⟩))) rfl (by kernel_rfl) (by kernel_rfl) (by kernel_rfl) (by kernel_rfl) (fun _ _ _ h => h) (Or.inl ⟨by rfl, ?_⟩) hHeld ?_
  · intro w hSw
    go_simp
  try simp only [Act.put, List.setIfInBounds_toArray, List.set_cons_zero, List.set_cons_succ]
  refine wpAnyL_take (i := 8) (v := vx) rfl (by kernel_rfl) (by kernel_rfl) (by kernel_rfl) (by kernel_rfl) (fun _ _ _ h => h) (Or.inl ⟨by rfl, ?_⟩) hHeld ?_
  · intro w hSw
    have := hSw.2; go_simp
  try simp only [Act.put, List.setIfInBounds_toArray, List.set_cons_zero, List.set_cons_succ]
  refine wpAnyL_take (i := 9) (v := (.int .u64 s)) rfl (by kernel_rfl) (by kernel_rfl) (by kernel_rfl) (by kernel_rfl) (fun _ _ _ h => h) (Or.inl ⟨by rfl, ?_⟩) hHeld ?_
  · intro w hSw
    go_simp
  try simp only [Act.put, List.setIfInBounds_toArray, List.set_cons_zero, List.set_cons_succ]
  refine wpAnyL_one (i := 10) (by kernel_rfl) rfl (by kernel_rfl) (fun K hK => ?_)
  go_simp
  refine (unhide HK).mono ?_
  rintro e w1 ⟨rfl, HR⟩
  obtain ⟨q1, r1, q2, q3, q4, q5⟩ := (unhide HQ) w1 HR
  have hst := store_nat6 q1 q2 ao l cp
  replace HR := hide HR
  refine hK.out _ _ ?_ (fun hHeld => ?_)
  · exact ⟨q1, r1⟩
  clear hK K
  try simp only [Act.put, List.setIfInBounds_toArray, List.set_cons_zero, List.set_cons_succ]
  refine wpAnyL_late (rs := [11]) (by kernel_rfl) (by kernel_rfl) ?_
  refine wpAny_ready (rs := [11]) (by kernel_rfl) (by simp) ?_
  refine AllReady.cons rfl (fun K hK => ?_) AllReady.nil
  go_simp
  refine hK _ _ ?_
  clear hK K
  try simp only [Act.put, List.setIfInBounds_toArray, List.set_cons_zero, List.set_cons_succ]
  refine wpAny_ready (rs := [12]) (by kernel_rfl) (by simp) ?_
  refine AllReady.cons rfl (fun K hK => ?_) AllReady.nil
  go_simp
  refine hK _ _ ?_
  clear hK K
  try simp only [Act.put, List.setIfInBounds_toArray, List.set_cons_zero, List.set_cons_succ]
  refine wpAny_ready (rs := [13]) (by kernel_rfl) (by simp) ?_
  refine AllReady.cons rfl (fun K hK => ?_) AllReady.nil
  go_simp
  refine hK _ _ ?_
  clear hK K
  try simp only [Act.put, List.setIfInBounds_toArray, List.set_cons_zero, List.set_cons_succ]
  refine wpAny_done (by kernel_rfl) ?_ _
  go_wp2
  go_ret
  exact ⟨rfl, w1, unhide HR, rfl⟩
set_option maxRecDepth 20000 in
theorem lsh_0 (b cap : Nat) (n : Int) (w : World) (h : w.cell? ⟨b, 0, none⟩ = some (.int .u64 n)) :
    Calls Tryz.prog 211 #[.slice none 0 0, .slice (some ⟨b, 0, none⟩) 1 cap, .int .u64 0] w fun e w' => e = .returned (.slice (some ⟨w.heap.size, 0, none⟩) 1 1) ∧ ∃ k, w' = (w.drewN k).alloc (.cells #[.int .u64 n] 246) := by
  have K1 := hide (same_no (some ⟨b, 0, none⟩) cap)
  have K2 := hide alias_no
  have K3 := hide (fun w h => set_new b cap n w h)
  go_enter Tryz.func211, Tryz.ntmps211
  go_wp2_with fail
  refine ((unhide K1) _).mono ?_
  rintro e w1 ⟨rfl, k1, rfl⟩
  go_wp2_with fail
  refine ((unhide K2) _ _).mono ?_
  rintro e w2 ⟨rfl, k2, rfl⟩
  go_wp2_with fail
  refine ((unhide K3) (w.drewN (k1 + k2)) h).mono ?_
  rintro e w3 ⟨rfl, rfl⟩
  go_wp2
  go_ret
  exact ⟨rfl, k1 + k2, rfl⟩
def NewB (w : World) (n : Int) (e : Ending) (w' : World) : Prop := ∃ p, e = .returned (.pointer (some ⟨p, 0, none⟩)) ∧ Bp w' p n ∧ w.heap.size ≤ p ∧ Below w.heap.size w w'
theorem bp_of {w : World} {b g cap : Nat} {n : Int} (hz : Zi w b (.slice (some ⟨g, 0, none⟩) 1 cap)) (h0 : 0 < n) (h1 : n < 18446744073709551616) (hc : w.cell? ⟨g, 0, none⟩ = some (.int .u64 n)) (h2 : 1 ≤ cap) (h3 : cap ≤ 6) : Bp w b n :=
  ⟨h0, h1, g, cap, hz, hc, h2, h3⟩
theorem drewN_below (w : World) (k : Nat) : Below w.heap.size w (w.drewN k) := ⟨rfl, rfl, rfl, Nat.le_refl _, fun _ _ => rfl⟩
theorem new_bp {w W : World} {b k : Nat} {n : Int} {rest : Array Value} {cap : Nat} (hz : Zi w b (.slice none 0 0)) (hW : W = (w.drewN k).alloc (.cells (#[.int .u64 n] ++ rest) 246)) (h0 : 0 < n) (h1 : n < 18446744073709551616) (h2 : 1 ≤ cap) (h3 : cap ≤ 6) (B : Nat) (hB : B ≤ b) :
    Bp ((W.setCell ⟨b, 1, none⟩ (.slice (some ⟨w.heap.size, 0, none⟩) 1 cap)).setCell ⟨b, 0, none⟩ (.bool false)) b n ∧ Below B w ((W.setCell ⟨b, 1, none⟩ (.slice (some ⟨w.heap.size, 0, none⟩) 1 cap)).setCell ⟨b, 0, none⟩ (.bool false)) := by
  have hb := hz.lt
  have hWb : Below w.heap.size w W := by
    subst hW
    exact (drewN_below w k).trans (((Below.refl _ _).alloc (Nat.le_refl _) _).mono (Nat.le_refl _))
  have hzW := hz.below hWb hb
  have hc : W.cell? ⟨w.heap.size, 0, none⟩ = some (.int .u64 n) := by
    subst hW
    simp [World.cell?, World.alloc, Array.getElem?_append]
  refine ⟨bp_of ((hzW.set _).keep) h0 h1 ?_ h2 h3, ?_⟩
  · rw [cell_set6 (by omega), cell_set6 (by omega)]; exact hc
  · exact ((hWb.mono (by omega)).trans (below_set6 (B := B) hB 1 _)).trans (below_set6 (B := B) hB 0 _)
set_option maxRecDepth 20000 in
theorem doubled_s (c : Nat) (n s m : Int) (w : World) (hs : (s = 0 ∧ m = 1) ∨ (s = 1 ∧ m = 2) ∨ (s = 54 ∧ m = 18014398509481984) ∨ (s = 55 ∧ m = 36028797018963968)) (t : Int) (ht : max t 0 = s) (ht1 : -100000 ≤ t) (h : Bp w c n) (hm : n * m < 18446744073709551616) :
    Calls Tryz.prog 169 #[.pointer (some ⟨c, 0, none⟩), .int .i64 t] w (NewB w (n * m)) := by
  obtain ⟨h0, h1, g, cap, hzc, x2, hc1, hc2⟩ := h
  have x0 := hzc.c0
  have x1 := hzc.c1
  clear hzc
  have B1 : Below w.heap.size w (w.alloc (.cells #[.bool false, .slice none 0 0] 227)) := (Below.refl _ _).alloc (Nat.le_refl _) _
  have y0 := (B1.cell (lt_of_cell? x0)).trans x0
  have y1 := (B1.cell (lt_of_cell? x1)).trans x1
  have y2 := (B1.cell (lt_of_cell? x2)).trans x2
  have hz : Zi (w.alloc (.cells #[.bool false, .slice none 0 0] 227)) w.heap.size (.slice none 0 0) := Zi.alloc w _
  have hm0 : 0 < n * m := by rcases hs with ⟨rfl, rfl⟩ | ⟨rfl, rfl⟩ | ⟨rfl, rfl⟩ | ⟨rfl, rfl⟩ <;> omega
  obtain ⟨W0, hW0⟩ : ∃ W0, w.alloc (.cells #[.bool false, .slice none 0 0] 227) = W0 := ⟨_, rfl⟩
  rw [hW0] at B1 y0 y1 y2 hz
  have KL : ∃ (rest : Array Value) (cp : Nat), 1 ≤ cp ∧ cp ≤ 6 ∧ Calls Tryz.prog 211 #[.slice none 0 0, .slice (some ⟨g, 0, none⟩) 1 cap, .int .u64 s] W0.drew fun e w' => e = .returned (.slice (some ⟨W0.heap.size, 0, none⟩) 1 cp) ∧ ∃ k, w' = (W0.drewN k).alloc (.cells (#[.int .u64 (n * m)] ++ rest) 246) := by
    rcases hs with ⟨rfl, rfl⟩ | hs
    · refine ⟨#[], 1, by omega, by omega, (lsh_0 g cap n W0.drew y2).mono ?_⟩
      rintro e w' ⟨rfl, k, rfl⟩
      exact ⟨rfl, 1 + k, by simp⟩
    · refine ⟨#[.int .u64 0, .int .u64 0, .int .u64 0, .int .u64 0, .int .u64 0], 6, by omega, by omega, (lsh_s s m hs none 0 0 (by omega) g cap n W0.drew h0 hm y2).mono ?_⟩
      rintro e w' ⟨rfl, rfl⟩
      exact ⟨rfl, 1, by simp; rfl⟩
  obtain ⟨rest, cp, c1, c2, KL⟩ := KL
  have K := hide (ilsh w.heap.size c (.slice none 0 0) (.slice (some ⟨g, 0, none⟩) 1 cap) (some ⟨W0.heap.size, 0, none⟩) 1 cp s W0 _ hz y0 y1 KL (by
    rintro W ⟨k, rfl⟩
    exact (drewN_below W0 k).trans (((Below.refl _ _).alloc (Nat.le_refl _) _).mono (Nat.le_refl _))))
  have HF : Hid (∀ W k, W = (W0.drewN k).alloc (.cells (#[.int .u64 (n * m)] ++ rest) 246) → NewB w (n * m) (.returned (.pointer (some ⟨w.heap.size, 0, none⟩))) ((W.setCell ⟨w.heap.size, 1, none⟩ (.slice (some ⟨W0.heap.size, 0, none⟩) 1 cp)).setCell ⟨w.heap.size, 0, none⟩ (.bool false))) := hide (by
    intro W k hW
    obtain ⟨p1, p2⟩ := new_bp hz hW hm0 hm c1 c2 w.heap.size (Nat.le_refl _)
    exact ⟨_, rfl, p1, Nat.le_refl _, B1.trans p2⟩)
  have hcv : IntKind.u64.wrap s = s := by rcases hs with ⟨rfl, rfl⟩ | ⟨rfl, rfl⟩ | ⟨rfl, rfl⟩ | ⟨rfl, rfl⟩ <;> decide
  have hcv2 : s % 18446744073709551616 = s := by rcases hs with ⟨rfl, rfl⟩ | ⟨rfl, rfl⟩ | ⟨rfl, rfl⟩ | ⟨rfl, rfl⟩ <;> decide
  clear hs KL hz y0 y1 y2 x0 x1 x2 B1
  by_cases hle : t < 0
  · obtain rfl : s = 0 := by omega
    clear ht
    go_enter Tryz.func169, Tryz.ntmps169
    go_wp2_with fail
    refine (unhide K).mono ?_
    rintro e w1 ⟨rfl, W, ⟨k, hk⟩, rfl⟩
    have HF1 := hide ((unhide HF) W k hk)
    clear hk K
    go_wp2
    go_ret
    exact unhide HF1
  · obtain rfl : s = t := by omega
    clear ht
    go_enter Tryz.func169, Tryz.ntmps169
    go_wp2_with fail
    refine (unhide K).mono ?_
    rintro e w1 ⟨rfl, W, ⟨k, hk⟩, rfl⟩
    have HF1 := hide ((unhide HF) W k hk)
    clear hk K
    go_wp2
    go_ret
    exact unhide HF1
end Go.Proofs.YtceflkeaenepcaaGreatDoor
