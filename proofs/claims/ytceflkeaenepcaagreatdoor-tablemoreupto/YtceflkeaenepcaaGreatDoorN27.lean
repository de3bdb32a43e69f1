import Derived.Test.YtceflkeaenepcaaGreatDoorN26
namespace Go.Proofs.YtceflkeaenepcaaGreatDoor
open Go.RowKit
def plB (r : Rec) : Bool := if r.kind = 4 then shiftB r else if r.kind = 5 ∨ r.kind = 7 ∨ r.kind = 8 ∨ r.kind = 13 then decide (r.lo = r.hi) && Cn.scalar r.lo else if r.kind = 15 then decide (r.lo = 0 ∧ r.hi = 0) else spanB r
def okB (r : Rec) : Bool := plB r && (tarB r.kind r && (numB r.kind r && (namB r.kind r && weiB r.kind r)))
theorem len_nil {l : List Int} (h : l.length = 0) : l.all Cn.scalar = true := by
  cases l with
  | nil => rfl
  | cons a b => simp at h
theorem rowK_of {k : Int} {n : Nat} (h : k = n) (hn : n < 16) : Cn.rowK k = Cn.rowT n := by
  subst h
  unfold Cn.rowK
  rw [if_neg (by omega), Int.toNat_natCast]
theorem ask_none {r : Rec} {q : Row9} (e : Cn.rowK r.kind = q) (h1 : q.least = 0) (h2 : q.most = 0) : tarB r.kind r = decide (r.to.length = 0) := by
  unfold tarB
  rw [e, h1, h2, Bool.eq_iff_iff, Bool.and_eq_true, decide_eq_true_eq, decide_eq_true_eq]
  constructor
  · rintro ⟨h, _⟩; omega
  · intro h; exact ⟨by omega, len_nil h⟩
theorem ask_list {r : Rec} {q : Row9} {a b : Nat} (e : Cn.rowK r.kind = q) (h1 : q.least = a) (h2 : q.most = b) : tarB r.kind r = Cn.list r.to a b := by
  unfold tarB Cn.list
  rw [e, h1, h2]
  congr 1
  rw [decide_eq_decide]
  omega
theorem ask_num0 {r : Rec} {q : Row9} (e : Cn.rowK r.kind = q) (h1 : q.low = 0) (h2 : q.high = 0) : numB r.kind r = decide (r.n = 0) := by
  unfold numB
  rw [e, h1, h2, decide_eq_decide]
  omega
theorem ask_num {r : Rec} {q : Row9} {a b : Int} (e : Cn.rowK r.kind = q) (h1 : q.low = a) (h2 : q.high = b) : numB r.kind r = decide (a ≤ r.n ∧ r.n ≤ b) := by
  unfold numB
  rw [e, h1, h2]
theorem ask_name0 {r : Rec} {q : Row9} (e : Cn.rowK r.kind = q) (h1 : q.scr = 0) : namB r.kind r = (decide (r.name.size = 0) && decide (r.other.size = 0)) := by
  unfold namB
  rw [e, h1, if_neg (by decide), if_neg (by decide)]
theorem ask_wei0 {r : Rec} {q : Row9} (e : Cn.rowK r.kind = q) (h1 : q.wei = false) : weiB r.kind r = decide (r.wt = 0) := by
  unfold weiB
  rw [e, h1, if_neg (by decide)]
theorem span_eq (r : Rec) : decide (0 ≤ r.lo ∧ r.lo ≤ r.hi ∧ r.hi ≤ 1114111) = spanB r := by
  unfold spanB
  rw [decide_eq_decide]
  omega
theorem shift_eq {r : Rec} (hl : Cn.list r.to 1 1 = true) (hs : spanB r = true) : decide (r.to.getD 0 0 + r.hi - r.lo ≤ 1114111 ∧ (r.to.getD 0 0 + r.hi - r.lo < 55296 ∨ 57343 < r.to.getD 0 0)) = shiftB r := by
  obtain ⟨h1, h2⟩ : (1 ≤ r.to.length ∧ r.to.length ≤ 1) ∧ r.to.all Cn.scalar = true := by
    unfold Cn.list at hl
    rw [Bool.and_eq_true] at hl
    exact ⟨of_decide_eq_true hl.1, hl.2⟩
  obtain ⟨a, ha⟩ : ∃ a, r.to = [a] := List.length_eq_one_iff.1 (by omega)
  have hsp : 0 ≤ r.lo ∧ r.lo ≤ 1114111 ∧ 0 ≤ r.hi ∧ r.hi ≤ 1114111 ∧ r.lo ≤ r.hi := of_decide_eq_true hs
  have hsc : Cn.scalar a = true := by rw [ha] at h2; simpa using h2
  have hsc2 : 0 ≤ a ∧ a ≤ 1114111 ∧ ¬ (55296 ≤ a ∧ a ≤ 57343) := of_decide_eq_true hsc
  unfold shiftB
  rw [hs, ha]
  show decide (a + r.hi - r.lo ≤ 1114111 ∧ (a + r.hi - r.lo < 55296 ∨ 57343 < a)) = (true && (decide (1 = 1) && (Cn.scalar a && (Cn.scalar (a + r.hi - r.lo) && (decide (a < 55296) == decide (a + r.hi - r.lo < 55296))))))
  rw [hsc]
  have hab : a ≤ a + r.hi - r.lo := by omega
  generalize a + r.hi - r.lo = b at *
  simp only [Bool.true_and, decide_true]
  unfold Cn.scalar
  rw [Bool.eq_iff_iff, Bool.and_eq_true, decide_eq_true_eq, decide_eq_true_eq, beq_iff_eq, decide_eq_decide]
  omega
theorem single_eq (r : Rec) (b : Bool) : (spanB r && (decide (r.lo = r.hi) && Cn.scalar r.lo && b)) = (decide (r.lo = r.hi) && Cn.scalar r.lo && b) := by
  by_cases h : r.lo = r.hi
  · cases hs : Cn.scalar r.lo with
    | false => simp
    | true =>
      have : 0 ≤ r.lo ∧ r.lo ≤ 1114111 ∧ ¬ (55296 ≤ r.lo ∧ r.lo ≤ 57343) := of_decide_eq_true hs
      have hp : spanB r = true := decide_eq_true (by omega)
      rw [hp]
      simp
  · rw [decide_eq_false h]
    simp
theorem shift_span (r : Rec) (h : spanB r = false) : shiftB r = false := by
  unfold shiftB
  rw [h]
  rfl
theorem right1 {r : Rec} (h : r.kind = 1) : Cn.right r = if okB r = true then 0 else 61 := by
  have e : Cn.rowK r.kind = Cn.rowT 1 := rowK_of h (by decide)
  have hfam : ¬ Cn.fam r.kind = 0 := by rw [h]; decide
  have e1 := ask_none e rfl rfl
  have e2 := ask_num0 e rfl rfl
  have e3 := ask_name0 e rfl
  have e4 := ask_wei0 e rfl
  have e5 : plB r = (spanB r) := by unfold plB; rw [if_neg (by omega), if_neg (by omega), if_neg (by omega)]
  unfold okB
  rw [e1, e2, e3, e4, e5]
  unfold Cn.right
  rw [if_neg hfam]
  rw [if_neg (show ¬ r.kind = 15 by omega)]
  rw [if_pos (show r.kind = 1 ∨ r.kind = 2 ∨ r.kind = 11 by omega)]
  rw [span_eq]
  unfold Cn.bare
  have key : ∀ x y : Bool, x = y → (if x = true then (0 : Int) else 61) = if y = true then 0 else 61 := fun x y hxy => by rw [hxy]
  refine key _ _ ?_
  generalize spanB r = v0
  generalize decide (r.n = 0) = v1
  generalize decide (r.to.length = 0) = v2
  generalize decide (r.name.size = 0) = v3
  generalize decide (r.other.size = 0) = v4
  generalize decide (r.wt = 0) = v5
  cases v0 <;> cases v1 <;> cases v2 <;> cases v3 <;> cases v4 <;> cases v5 <;> rfl
theorem right2 {r : Rec} (h : r.kind = 2) : Cn.right r = if okB r = true then 0 else 61 := by
  have e : Cn.rowK r.kind = Cn.rowT 2 := rowK_of h (by decide)
  have hfam : ¬ Cn.fam r.kind = 0 := by rw [h]; decide
  have e1 := ask_none e rfl rfl
  have e2 := ask_num0 e rfl rfl
  have e3 := ask_name0 e rfl
  have e4 := ask_wei0 e rfl
  have e5 : plB r = (spanB r) := by unfold plB; rw [if_neg (by omega), if_neg (by omega), if_neg (by omega)]
  unfold okB
  rw [e1, e2, e3, e4, e5]
  unfold Cn.right
  rw [if_neg hfam]
  rw [if_neg (show ¬ r.kind = 15 by omega)]
  rw [if_pos (show r.kind = 1 ∨ r.kind = 2 ∨ r.kind = 11 by omega)]
  rw [span_eq]
  unfold Cn.bare
  have key : ∀ x y : Bool, x = y → (if x = true then (0 : Int) else 61) = if y = true then 0 else 61 := fun x y hxy => by rw [hxy]
  refine key _ _ ?_
  generalize spanB r = v0
  generalize decide (r.n = 0) = v1
  generalize decide (r.to.length = 0) = v2
  generalize decide (r.name.size = 0) = v3
  generalize decide (r.other.size = 0) = v4
  generalize decide (r.wt = 0) = v5
  cases v0 <;> cases v1 <;> cases v2 <;> cases v3 <;> cases v4 <;> cases v5 <;> rfl
theorem right3 {r : Rec} (h : r.kind = 3) : Cn.right r = if okB r = true then 0 else 61 := by
  have e : Cn.rowK r.kind = Cn.rowT 3 := rowK_of h (by decide)
  have hfam : ¬ Cn.fam r.kind = 0 := by rw [h]; decide
  have e1 := ask_list (a := 1) (b := 24) e rfl rfl
  have e2 := ask_num0 e rfl rfl
  have e3 := ask_name0 e rfl
  have e4 := ask_wei0 e rfl
  have e5 : plB r = (spanB r) := by unfold plB; rw [if_neg (by omega), if_neg (by omega), if_neg (by omega)]
  unfold okB
  rw [e1, e2, e3, e4, e5]
  unfold Cn.right
  rw [if_neg hfam]
  rw [if_neg (show ¬ r.kind = 15 by omega)]
  rw [if_neg (show ¬ (r.kind = 1 ∨ r.kind = 2 ∨ r.kind = 11) by omega)]
  rw [if_pos (show r.kind = 3 by omega)]
  rw [span_eq]
  unfold Cn.bare
  have key : ∀ x y : Bool, x = y → (if x = true then (0 : Int) else 61) = if y = true then 0 else 61 := fun x y hxy => by rw [hxy]
  refine key _ _ ?_
  generalize spanB r = v0
  generalize decide (r.n = 0) = v1
  generalize Cn.list r.to 1 24 = v2
  generalize decide (r.to.length = 0) = v3
  generalize decide (r.name.size = 0) = v4
  generalize decide (r.other.size = 0) = v5
  generalize decide (r.wt = 0) = v6
  cases v0 <;> cases v1 <;> cases v2 <;> cases v3 <;> cases v4 <;> cases v5 <;> cases v6 <;> rfl
theorem right4 {r : Rec} (h : r.kind = 4) : Cn.right r = if okB r = true then 0 else 61 := by
  have e : Cn.rowK r.kind = Cn.rowT 4 := rowK_of h (by decide)
  have hfam : ¬ Cn.fam r.kind = 0 := by rw [h]; decide
  have e1 := ask_list (a := 1) (b := 1) e rfl rfl
  have e2 := ask_num (a := 1) (b := 64) e rfl rfl
  have e3 := ask_name0 e rfl
  have e4 := ask_wei0 e rfl
  have e5 : plB r = (shiftB r) := by unfold plB; rw [if_pos h]
  unfold okB
  rw [e1, e2, e3, e4, e5]
  unfold Cn.right
  rw [if_neg hfam]
  rw [if_neg (show ¬ r.kind = 15 by omega)]
  rw [if_neg (show ¬ (r.kind = 1 ∨ r.kind = 2 ∨ r.kind = 11) by omega)]
  rw [if_neg (show ¬ (r.kind = 3) by omega)]
  rw [if_pos (show r.kind = 4 by omega)]
  rw [span_eq]
  unfold Cn.bare
  have key : ∀ x y : Bool, x = y → (if x = true then (0 : Int) else 61) = if y = true then 0 else 61 := fun x y hxy => by rw [hxy]
  refine key _ _ ?_
  cases hsp : spanB r with
  | false => rw [shift_span r hsp]; rfl
  | true =>
    cases hl : Cn.list r.to 1 1 with
    | false => simp
    | true =>
      rw [shift_eq hl hsp]
      generalize shiftB r = v0
      generalize decide (1 ≤ r.n ∧ r.n ≤ 64) = v1
      generalize decide (r.name.size = 0) = v2
      generalize decide (r.other.size = 0) = v3
      generalize decide (r.wt = 0) = v4
      generalize decide (r.n = 0) = v5
      generalize decide (r.to.length = 0) = v6
      cases v0 <;> cases v1 <;> cases v2 <;> cases v3 <;> cases v4 <;> cases v5 <;> cases v6 <;> rfl
theorem right5 {r : Rec} (h : r.kind = 5) : Cn.right r = if okB r = true then 0 else 61 := by
  have e : Cn.rowK r.kind = Cn.rowT 5 := rowK_of h (by decide)
  have hfam : ¬ Cn.fam r.kind = 0 := by rw [h]; decide
  have e1 := ask_list (a := 0) (b := 24) e rfl rfl
  have e2 := ask_num0 e rfl rfl
  have e3 := ask_name0 e rfl
  have e4 := ask_wei0 e rfl
  have e5 : plB r = (decide (r.lo = r.hi) && Cn.scalar r.lo) := by unfold plB; rw [if_neg (by omega), if_pos (by omega)]
  unfold okB
  rw [e1, e2, e3, e4, e5]
  unfold Cn.right
  rw [if_neg hfam]
  rw [if_neg (show ¬ r.kind = 15 by omega)]
  rw [if_neg (show ¬ (r.kind = 1 ∨ r.kind = 2 ∨ r.kind = 11) by omega)]
  rw [if_neg (show ¬ (r.kind = 3) by omega)]
  rw [if_neg (show ¬ (r.kind = 4) by omega)]
  rw [if_pos (show r.kind = 5 by omega)]
  rw [span_eq]
  unfold Cn.bare
  have key : ∀ x y : Bool, x = y → (if x = true then (0 : Int) else 61) = if y = true then 0 else 61 := fun x y hxy => by rw [hxy]
  refine key _ _ ?_
  have hs := single_eq r (((false || decide (r.n = 0)) && (true || decide (r.to.length = 0)) && (false || decide (r.name.size = 0)) && (false || decide (r.other.size = 0)) && (false || decide (r.wt = 0))) && Cn.list r.to 0 24)
  revert hs
  generalize spanB r = v0
  generalize decide (r.lo = r.hi) = v1
  generalize Cn.scalar r.lo = v2
  generalize decide (r.n = 0) = v3
  generalize Cn.list r.to 0 24 = v4
  generalize decide (r.to.length = 0) = v5
  generalize decide (r.name.size = 0) = v6
  generalize decide (r.other.size = 0) = v7
  generalize decide (r.wt = 0) = v8
  cases v0 <;> cases v1 <;> cases v2 <;> cases v3 <;> cases v4 <;> cases v5 <;> cases v6 <;> cases v7 <;> cases v8 <;> decide
theorem right6 {r : Rec} (h : r.kind = 6) : Cn.right r = if okB r = true then 0 else 61 := by
  have e : Cn.rowK r.kind = Cn.rowT 6 := rowK_of h (by decide)
  have hfam : ¬ Cn.fam r.kind = 0 := by rw [h]; decide
  have e1 := ask_none e rfl rfl
  have e2 := ask_num (a := 1) (b := 254) e rfl rfl
  have e3 := ask_name0 e rfl
  have e4 := ask_wei0 e rfl
  have e5 : plB r = (spanB r) := by unfold plB; rw [if_neg (by omega), if_neg (by omega), if_neg (by omega)]
  unfold okB
  rw [e1, e2, e3, e4, e5]
  unfold Cn.right
  rw [if_neg hfam]
  rw [if_neg (show ¬ r.kind = 15 by omega)]
  rw [if_neg (show ¬ (r.kind = 1 ∨ r.kind = 2 ∨ r.kind = 11) by omega)]
  rw [if_neg (show ¬ (r.kind = 3) by omega)]
  rw [if_neg (show ¬ (r.kind = 4) by omega)]
  rw [if_neg (show ¬ (r.kind = 5) by omega)]
  rw [if_neg (show ¬ (r.kind = 13) by omega)]
  rw [if_pos (show r.kind = 6 by omega)]
  rw [span_eq]
  unfold Cn.bare
  have key : ∀ x y : Bool, x = y → (if x = true then (0 : Int) else 61) = if y = true then 0 else 61 := fun x y hxy => by rw [hxy]
  refine key _ _ ?_
  generalize spanB r = v0
  generalize decide (1 ≤ r.n ∧ r.n ≤ 254) = v1
  generalize decide (r.n = 0) = v2
  generalize decide (r.to.length = 0) = v3
  generalize decide (r.name.size = 0) = v4
  generalize decide (r.other.size = 0) = v5
  generalize decide (r.wt = 0) = v6
  cases v0 <;> cases v1 <;> cases v2 <;> cases v3 <;> cases v4 <;> cases v5 <;> cases v6 <;> rfl
theorem right7 {r : Rec} (h : r.kind = 7) : Cn.right r = if okB r = true then 0 else 61 := by
  have e : Cn.rowK r.kind = Cn.rowT 7 := rowK_of h (by decide)
  have hfam : ¬ Cn.fam r.kind = 0 := by rw [h]; decide
  have e1 := ask_list (a := 2) (b := 2) e rfl rfl
  have e2 := ask_num0 e rfl rfl
  have e3 := ask_name0 e rfl
  have e4 := ask_wei0 e rfl
  have e5 : plB r = (decide (r.lo = r.hi) && Cn.scalar r.lo) := by unfold plB; rw [if_neg (by omega), if_pos (by omega)]
  unfold okB
  rw [e1, e2, e3, e4, e5]
  unfold Cn.right
  rw [if_neg hfam]
  rw [if_neg (show ¬ r.kind = 15 by omega)]
  rw [if_neg (show ¬ (r.kind = 1 ∨ r.kind = 2 ∨ r.kind = 11) by omega)]
  rw [if_neg (show ¬ (r.kind = 3) by omega)]
  rw [if_neg (show ¬ (r.kind = 4) by omega)]
  rw [if_neg (show ¬ (r.kind = 5) by omega)]
  rw [if_neg (show ¬ (r.kind = 13) by omega)]
  rw [if_neg (show ¬ (r.kind = 6) by omega)]
  rw [if_pos (show r.kind = 7 by omega)]
  rw [span_eq]
  unfold Cn.bare
  have key : ∀ x y : Bool, x = y → (if x = true then (0 : Int) else 61) = if y = true then 0 else 61 := fun x y hxy => by rw [hxy]
  refine key _ _ ?_
  have hs := single_eq r (((false || decide (r.n = 0)) && (true || decide (r.to.length = 0)) && (false || decide (r.name.size = 0)) && (false || decide (r.other.size = 0)) && (false || decide (r.wt = 0))) && Cn.list r.to 2 2)
  revert hs
  generalize spanB r = v0
  generalize decide (r.lo = r.hi) = v1
  generalize Cn.scalar r.lo = v2
  generalize decide (r.n = 0) = v3
  generalize Cn.list r.to 2 2 = v4
  generalize decide (r.to.length = 0) = v5
  generalize decide (r.name.size = 0) = v6
  generalize decide (r.other.size = 0) = v7
  generalize decide (r.wt = 0) = v8
  cases v0 <;> cases v1 <;> cases v2 <;> cases v3 <;> cases v4 <;> cases v5 <;> cases v6 <;> cases v7 <;> cases v8 <;> decide
theorem right8 {r : Rec} (h : r.kind = 8) : Cn.right r = if okB r = true then 0 else 61 := by
  have e : Cn.rowK r.kind = Cn.rowT 8 := rowK_of h (by decide)
  have hfam : ¬ Cn.fam r.kind = 0 := by rw [h]; decide
  have e1 := ask_list (a := 1) (b := 2) e rfl rfl
  have e2 := ask_num0 e rfl rfl
  have e3 := ask_name0 e rfl
  have e4 := ask_wei0 e rfl
  have e5 : plB r = (decide (r.lo = r.hi) && Cn.scalar r.lo) := by unfold plB; rw [if_neg (by omega), if_pos (by omega)]
  unfold okB
  rw [e1, e2, e3, e4, e5]
  unfold Cn.right
  rw [if_neg hfam]
  rw [if_neg (show ¬ r.kind = 15 by omega)]
  rw [if_neg (show ¬ (r.kind = 1 ∨ r.kind = 2 ∨ r.kind = 11) by omega)]
  rw [if_neg (show ¬ (r.kind = 3) by omega)]
  rw [if_neg (show ¬ (r.kind = 4) by omega)]
  rw [if_neg (show ¬ (r.kind = 5) by omega)]
  rw [if_neg (show ¬ (r.kind = 13) by omega)]
  rw [if_neg (show ¬ (r.kind = 6) by omega)]
  rw [if_neg (show ¬ (r.kind = 7) by omega)]
  rw [if_pos (show r.kind = 8 by omega)]
  rw [span_eq]
  unfold Cn.bare
  have key : ∀ x y : Bool, x = y → (if x = true then (0 : Int) else 61) = if y = true then 0 else 61 := fun x y hxy => by rw [hxy]
  refine key _ _ ?_
  have hs := single_eq r (((false || decide (r.n = 0)) && (true || decide (r.to.length = 0)) && (false || decide (r.name.size = 0)) && (false || decide (r.other.size = 0)) && (false || decide (r.wt = 0))) && Cn.list r.to 1 2)
  revert hs
  generalize spanB r = v0
  generalize decide (r.lo = r.hi) = v1
  generalize Cn.scalar r.lo = v2
  generalize decide (r.n = 0) = v3
  generalize Cn.list r.to 1 2 = v4
  generalize decide (r.to.length = 0) = v5
  generalize decide (r.name.size = 0) = v6
  generalize decide (r.other.size = 0) = v7
  generalize decide (r.wt = 0) = v8
  cases v0 <;> cases v1 <;> cases v2 <;> cases v3 <;> cases v4 <;> cases v5 <;> cases v6 <;> cases v7 <;> cases v8 <;> decide
theorem right9 {r : Rec} (h : r.kind = 9) : Cn.right r = if okB r = true then 0 else 61 := by
  have e : Cn.rowK r.kind = Cn.rowT 9 := rowK_of h (by decide)
  have hfam : ¬ Cn.fam r.kind = 0 := by rw [h]; decide
  have e1 := ask_none e rfl rfl
  have e2 := ask_num (a := 0) (b := 10) e rfl rfl
  have e3 := ask_name0 e rfl
  have e4 := ask_wei0 e rfl
  have e5 : plB r = (spanB r) := by unfold plB; rw [if_neg (by omega), if_neg (by omega), if_neg (by omega)]
  unfold okB
  rw [e1, e2, e3, e4, e5]
  unfold Cn.right
  rw [if_neg hfam]
  rw [if_neg (show ¬ r.kind = 15 by omega)]
  rw [if_neg (show ¬ (r.kind = 1 ∨ r.kind = 2 ∨ r.kind = 11) by omega)]
  rw [if_neg (show ¬ (r.kind = 3) by omega)]
  rw [if_neg (show ¬ (r.kind = 4) by omega)]
  rw [if_neg (show ¬ (r.kind = 5) by omega)]
  rw [if_neg (show ¬ (r.kind = 13) by omega)]
  rw [if_neg (show ¬ (r.kind = 6) by omega)]
  rw [if_neg (show ¬ (r.kind = 7) by omega)]
  rw [if_neg (show ¬ (r.kind = 8) by omega)]
  rw [if_pos (show r.kind = 9 by omega)]
  rw [span_eq]
  unfold Cn.bare
  have key : ∀ x y : Bool, x = y → (if x = true then (0 : Int) else 61) = if y = true then 0 else 61 := fun x y hxy => by rw [hxy]
  refine key _ _ ?_
  generalize spanB r = v0
  generalize decide (0 ≤ r.n ∧ r.n ≤ 10) = v1
  generalize decide (r.n = 0) = v2
  generalize decide (r.to.length = 0) = v3
  generalize decide (r.name.size = 0) = v4
  generalize decide (r.other.size = 0) = v5
  generalize decide (r.wt = 0) = v6
  cases v0 <;> cases v1 <;> cases v2 <;> cases v3 <;> cases v4 <;> cases v5 <;> cases v6 <;> rfl
theorem right10 {r : Rec} (h : r.kind = 10) : Cn.right r = if okB r = true then 0 else 61 := by
  have e : Cn.rowK r.kind = Cn.rowT 10 := rowK_of h (by decide)
  have hfam : ¬ Cn.fam r.kind = 0 := by rw [h]; decide
  have e1 := ask_none e rfl rfl
  have e2 := ask_num (a := 0) (b := 5) e rfl rfl
  have e3 := ask_name0 e rfl
  have e4 := ask_wei0 e rfl
  have e5 : plB r = (spanB r) := by unfold plB; rw [if_neg (by omega), if_neg (by omega), if_neg (by omega)]
  unfold okB
  rw [e1, e2, e3, e4, e5]
  unfold Cn.right
  rw [if_neg hfam]
  rw [if_neg (show ¬ r.kind = 15 by omega)]
  rw [if_neg (show ¬ (r.kind = 1 ∨ r.kind = 2 ∨ r.kind = 11) by omega)]
  rw [if_neg (show ¬ (r.kind = 3) by omega)]
  rw [if_neg (show ¬ (r.kind = 4) by omega)]
  rw [if_neg (show ¬ (r.kind = 5) by omega)]
  rw [if_neg (show ¬ (r.kind = 13) by omega)]
  rw [if_neg (show ¬ (r.kind = 6) by omega)]
  rw [if_neg (show ¬ (r.kind = 7) by omega)]
  rw [if_neg (show ¬ (r.kind = 8) by omega)]
  rw [if_neg (show ¬ (r.kind = 9) by omega)]
  rw [if_pos (show r.kind = 10 by omega)]
  rw [span_eq]
  unfold Cn.bare
  have key : ∀ x y : Bool, x = y → (if x = true then (0 : Int) else 61) = if y = true then 0 else 61 := fun x y hxy => by rw [hxy]
  refine key _ _ ?_
  generalize spanB r = v0
  generalize decide (0 ≤ r.n ∧ r.n ≤ 5) = v1
  generalize decide (r.n = 0) = v2
  generalize decide (r.to.length = 0) = v3
  generalize decide (r.name.size = 0) = v4
  generalize decide (r.other.size = 0) = v5
  generalize decide (r.wt = 0) = v6
  cases v0 <;> cases v1 <;> cases v2 <;> cases v3 <;> cases v4 <;> cases v5 <;> cases v6 <;> rfl
theorem right11 {r : Rec} (h : r.kind = 11) : Cn.right r = if okB r = true then 0 else 61 := by
  have e : Cn.rowK r.kind = Cn.rowT 11 := rowK_of h (by decide)
  have hfam : ¬ Cn.fam r.kind = 0 := by rw [h]; decide
  have e1 := ask_none e rfl rfl
  have e2 := ask_num0 e rfl rfl
  have e3 := ask_name0 e rfl
  have e4 := ask_wei0 e rfl
  have e5 : plB r = (spanB r) := by unfold plB; rw [if_neg (by omega), if_neg (by omega), if_neg (by omega)]
  unfold okB
  rw [e1, e2, e3, e4, e5]
  unfold Cn.right
  rw [if_neg hfam]
  rw [if_neg (show ¬ r.kind = 15 by omega)]
  rw [if_pos (show r.kind = 1 ∨ r.kind = 2 ∨ r.kind = 11 by omega)]
  rw [span_eq]
  unfold Cn.bare
  have key : ∀ x y : Bool, x = y → (if x = true then (0 : Int) else 61) = if y = true then 0 else 61 := fun x y hxy => by rw [hxy]
  refine key _ _ ?_
  generalize spanB r = v0
  generalize decide (r.n = 0) = v1
  generalize decide (r.to.length = 0) = v2
  generalize decide (r.name.size = 0) = v3
  generalize decide (r.other.size = 0) = v4
  generalize decide (r.wt = 0) = v5
  cases v0 <;> cases v1 <;> cases v2 <;> cases v3 <;> cases v4 <;> cases v5 <;> rfl
theorem right12 {r : Rec} (h : r.kind = 12) : Cn.right r = if okB r = true then 0 else 61 := by
  have e : Cn.rowK r.kind = Cn.rowT 12 := rowK_of h (by decide)
  have hfam : ¬ Cn.fam r.kind = 0 := by rw [h]; decide
  have e1 := ask_none e rfl rfl
  have e2 := ask_num0 e rfl rfl
  have e3 : namB r.kind r = (Cn.nameL r.name && decide (r.other.size = 0)) := by unfold namB; rw [e]; exact if_pos rfl
  have e4 := ask_wei0 e rfl
  have e5 : plB r = (spanB r) := by unfold plB; rw [if_neg (by omega), if_neg (by omega), if_neg (by omega)]
  unfold okB
  rw [e1, e2, e3, e4, e5]
  unfold Cn.right
  rw [if_neg hfam]
  rw [if_neg (show ¬ r.kind = 15 by omega)]
  rw [if_neg (show ¬ (r.kind = 1 ∨ r.kind = 2 ∨ r.kind = 11) by omega)]
  rw [if_neg (show ¬ (r.kind = 3) by omega)]
  rw [if_neg (show ¬ (r.kind = 4) by omega)]
  rw [if_neg (show ¬ (r.kind = 5) by omega)]
  rw [if_neg (show ¬ (r.kind = 13) by omega)]
  rw [if_neg (show ¬ (r.kind = 6) by omega)]
  rw [if_neg (show ¬ (r.kind = 7) by omega)]
  rw [if_neg (show ¬ (r.kind = 8) by omega)]
  rw [if_neg (show ¬ (r.kind = 9) by omega)]
  rw [if_neg (show ¬ (r.kind = 10) by omega)]
  rw [if_pos (show r.kind = 12 by omega)]
  rw [span_eq]
  unfold Cn.bare
  have key : ∀ x y : Bool, x = y → (if x = true then (0 : Int) else 61) = if y = true then 0 else 61 := fun x y hxy => by rw [hxy]
  refine key _ _ ?_
  generalize spanB r = v0
  generalize decide (r.n = 0) = v1
  generalize decide (r.to.length = 0) = v2
  generalize Cn.nameL r.name = v3
  generalize decide (r.name.size = 0) = v4
  generalize decide (r.other.size = 0) = v5
  generalize decide (r.wt = 0) = v6
  cases v0 <;> cases v1 <;> cases v2 <;> cases v3 <;> cases v4 <;> cases v5 <;> cases v6 <;> rfl
theorem right13 {r : Rec} (h : r.kind = 13) : Cn.right r = if okB r = true then 0 else 61 := by
  have e : Cn.rowK r.kind = Cn.rowT 13 := rowK_of h (by decide)
  have hfam : ¬ Cn.fam r.kind = 0 := by rw [h]; decide
  have e1 := ask_list (a := 1) (b := 24) e rfl rfl
  have e2 := ask_num0 e rfl rfl
  have e3 := ask_name0 e rfl
  have e4 := ask_wei0 e rfl
  have e5 : plB r = (decide (r.lo = r.hi) && Cn.scalar r.lo) := by unfold plB; rw [if_neg (by omega), if_pos (by omega)]
  unfold okB
  rw [e1, e2, e3, e4, e5]
  unfold Cn.right
  rw [if_neg hfam]
  rw [if_neg (show ¬ r.kind = 15 by omega)]
  rw [if_neg (show ¬ (r.kind = 1 ∨ r.kind = 2 ∨ r.kind = 11) by omega)]
  rw [if_neg (show ¬ (r.kind = 3) by omega)]
  rw [if_neg (show ¬ (r.kind = 4) by omega)]
  rw [if_neg (show ¬ (r.kind = 5) by omega)]
  rw [if_pos (show r.kind = 13 by omega)]
  rw [span_eq]
  unfold Cn.bare
  have key : ∀ x y : Bool, x = y → (if x = true then (0 : Int) else 61) = if y = true then 0 else 61 := fun x y hxy => by rw [hxy]
  refine key _ _ ?_
  have hs := single_eq r (((false || decide (r.n = 0)) && (true || decide (r.to.length = 0)) && (false || decide (r.name.size = 0)) && (false || decide (r.other.size = 0)) && (false || decide (r.wt = 0))) && Cn.list r.to 1 24)
  revert hs
  generalize spanB r = v0
  generalize decide (r.lo = r.hi) = v1
  generalize Cn.scalar r.lo = v2
  generalize decide (r.n = 0) = v3
  generalize Cn.list r.to 1 24 = v4
  generalize decide (r.to.length = 0) = v5
  generalize decide (r.name.size = 0) = v6
  generalize decide (r.other.size = 0) = v7
  generalize decide (r.wt = 0) = v8
  cases v0 <;> cases v1 <;> cases v2 <;> cases v3 <;> cases v4 <;> cases v5 <;> cases v6 <;> cases v7 <;> cases v8 <;> decide
theorem right14 {r : Rec} (h : r.kind = 14) : Cn.right r = if okB r = true then 0 else 61 := by
  have e : Cn.rowK r.kind = Cn.rowT 14 := rowK_of h (by decide)
  have hfam : ¬ Cn.fam r.kind = 0 := by rw [h]; decide
  have e1 := ask_none e rfl rfl
  have e2 := ask_num0 e rfl rfl
  have e3 := ask_name0 e rfl
  have e4 : weiB r.kind r = Cn.weight r.wt := by unfold weiB; rw [e]; exact if_pos rfl
  have e5 : plB r = (spanB r) := by unfold plB; rw [if_neg (by omega), if_neg (by omega), if_neg (by omega)]
  unfold okB
  rw [e1, e2, e3, e4, e5]
  unfold Cn.right
  rw [if_neg hfam]
  rw [if_neg (show ¬ r.kind = 15 by omega)]
  rw [if_neg (show ¬ (r.kind = 1 ∨ r.kind = 2 ∨ r.kind = 11) by omega)]
  rw [if_neg (show ¬ (r.kind = 3) by omega)]
  rw [if_neg (show ¬ (r.kind = 4) by omega)]
  rw [if_neg (show ¬ (r.kind = 5) by omega)]
  rw [if_neg (show ¬ (r.kind = 13) by omega)]
  rw [if_neg (show ¬ (r.kind = 6) by omega)]
  rw [if_neg (show ¬ (r.kind = 7) by omega)]
  rw [if_neg (show ¬ (r.kind = 8) by omega)]
  rw [if_neg (show ¬ (r.kind = 9) by omega)]
  rw [if_neg (show ¬ (r.kind = 10) by omega)]
  rw [if_neg (show ¬ (r.kind = 12) by omega)]
  rw [span_eq]
  unfold Cn.bare
  have key : ∀ x y : Bool, x = y → (if x = true then (0 : Int) else 61) = if y = true then 0 else 61 := fun x y hxy => by rw [hxy]
  refine key _ _ ?_
  generalize spanB r = v0
  generalize decide (r.n = 0) = v1
  generalize decide (r.to.length = 0) = v2
  generalize decide (r.name.size = 0) = v3
  generalize decide (r.other.size = 0) = v4
  generalize Cn.weight r.wt = v5
  generalize decide (r.wt = 0) = v6
  cases v0 <;> cases v1 <;> cases v2 <;> cases v3 <;> cases v4 <;> cases v5 <;> cases v6 <;> rfl
theorem right15 {r : Rec} (h : r.kind = 15) : Cn.right r = if okB r = true then 0 else 61 := by
  have e : Cn.rowK r.kind = Cn.rowT 15 := rowK_of h (by decide)
  have hfam : ¬ Cn.fam r.kind = 0 := by rw [h]; decide
  have e1 := ask_none e rfl rfl
  have e2 := ask_num0 e rfl rfl
  have e3 : namB r.kind r = (Cn.nameL r.name && (Cn.nameL r.other && decide (r.name ≠ r.other))) := by unfold namB; rw [e]; exact (if_neg (by decide)).trans (if_pos rfl)
  have e4 : weiB r.kind r = Cn.weight r.wt := by unfold weiB; rw [e]; exact if_pos rfl
  have e5 : plB r = (decide (r.lo = 0 ∧ r.hi = 0)) := by unfold plB; rw [if_neg (by omega), if_neg (by omega), if_pos h]
  unfold okB
  rw [e1, e2, e3, e4, e5]
  unfold Cn.right
  rw [if_neg hfam]
  rw [if_pos h]
  unfold Cn.bare
  have key : (r.lo = 0 ∧ r.hi = 0 ∧ (((false || decide (r.n = 0)) && (false || decide (r.to.length = 0)) && (true || decide (r.name.size = 0)) && (true || decide (r.other.size = 0)) && (true || decide (r.wt = 0))) = true) ∧ Cn.nameL r.name = true ∧ Cn.nameL r.other = true ∧ r.name ≠ r.other ∧ Cn.weight r.wt = true) ↔ (decide (r.lo = 0 ∧ r.hi = 0) && (decide (r.to.length = 0) && (decide (r.n = 0) && ((Cn.nameL r.name && (Cn.nameL r.other && decide (r.name ≠ r.other))) && Cn.weight r.wt)))) = true := by
    simp only [Bool.and_eq_true, decide_eq_true_eq, Bool.false_or, Bool.true_or, and_true]
    constructor
    · rintro ⟨a, b, ⟨c, d⟩, e, f, g, i⟩; exact ⟨⟨a, b⟩, d, c, ⟨e, f, g⟩, i⟩
    · rintro ⟨⟨a, b⟩, d, c, ⟨e, f, g⟩, i⟩; exact ⟨a, b, ⟨c, d⟩, e, f, g, i⟩
  by_cases hq : (decide (r.lo = 0 ∧ r.hi = 0) && (decide (r.to.length = 0) && (decide (r.n = 0) && ((Cn.nameL r.name && (Cn.nameL r.other && decide (r.name ≠ r.other))) && Cn.weight r.wt)))) = true
  · rw [if_pos hq, if_pos (key.2 hq)]
  · rw [if_neg hq, if_neg (fun h => hq (key.1 h))]
theorem right_eq (r : Rec) (hf : ¬ Cn.fam r.kind = 0) : Cn.right r = if okB r = true then 0 else 61 := by
  have hk : 1 ≤ r.kind ∧ r.kind ≤ 15 := by
    unfold Cn.fam at hf
    split at hf
    · exact absurd rfl hf
    · omega
  obtain h | h | h | h | h | h | h | h | h | h | h | h | h | h | h : r.kind = 1 ∨ r.kind = 2 ∨ r.kind = 3 ∨ r.kind = 4 ∨ r.kind = 5 ∨ r.kind = 6 ∨ r.kind = 7 ∨ r.kind = 8 ∨ r.kind = 9 ∨ r.kind = 10 ∨ r.kind = 11 ∨ r.kind = 12 ∨ r.kind = 13 ∨ r.kind = 14 ∨ r.kind = 15 := by omega
  · exact right1 h
  · exact right2 h
  · exact right3 h
  · exact right4 h
  · exact right5 h
  · exact right6 h
  · exact right7 h
  · exact right8 h
  · exact right9 h
  · exact right10 h
  · exact right11 h
  · exact right12 h
  · exact right13 h
  · exact right14 h
  · exact right15 h
end Go.Proofs.YtceflkeaenepcaaGreatDoor
namespace Go.Proofs.YtceflkeaenepcaaGreatDoor
open Go.RowKit
set_option maxRecDepth 20000 in
set_option maxHeartbeats 8000000 in
theorem right_core (T fp : Nat) (r : Rec) (vt : Value) (w : World)
    (KSH : ∀ W, Calls Tryz.prog 22 #[.int .i64 r.kind] W (fun e w' => e = .returned (.iface T (.agg #[.int .i64 r.kind])) ∧ Below W.heap.size W w'))
    (KF : ∀ W, Below w.heap.size w W → Calls Tryz.prog 27 #[shV r.kind] W (IntB W (Cn.fam r.kind)))
    (m0 : ∀ W, (method 543 T (.agg #[.int .i64 r.kind]) "endonym/table.family").run Tryz.prog W = .ok (27, .agg #[.int .i64 r.kind]) W)
    (m1 : ∀ W, (method 543 T (.agg #[.int .i64 r.kind]) "endonym/table.placed").run Tryz.prog W = .ok (fp, .agg #[.int .i64 r.kind]) W)
    (m2 : ∀ W, (method 543 T (.agg #[.int .i64 r.kind]) "endonym/table.targeted").run Tryz.prog W = .ok (126, .agg #[.int .i64 r.kind]) W)
    (m3 : ∀ W, (method 543 T (.agg #[.int .i64 r.kind]) "endonym/table.numbered").run Tryz.prog W = .ok (123, .agg #[.int .i64 r.kind]) W)
    (m4 : ∀ W, (method 543 T (.agg #[.int .i64 r.kind]) "endonym/table.named").run Tryz.prog W = .ok (121, .agg #[.int .i64 r.kind]) W)
    (m5 : ∀ W, (method 543 T (.agg #[.int .i64 r.kind]) "endonym/table.weighed").run Tryz.prog W = .ok (127, .agg #[.int .i64 r.kind]) W)
    (eg : ∀ args W, (callFunc fp args).run Tryz.prog W = .ok (.enter fp args) W)
    (b1 b2 b3 b4 b5 : Bool)
    (K1 : ∀ W, Below w.heap.size w W → Calls Tryz.prog fp #[shV r.kind, recV r vt] W (BoolB W b1))
    (K2 : ∀ W, Below w.heap.size w W → Calls Tryz.prog 126 #[shV r.kind, recV r vt] W (BoolB W b2))
    (K3 : ∀ W, Below w.heap.size w W → Calls Tryz.prog 123 #[shV r.kind, recV r vt] W (BoolB W b3))
    (K4 : ∀ W, Below w.heap.size w W → Calls Tryz.prog 121 #[shV r.kind, recV r vt] W (BoolB W b4))
    (K5 : ∀ W, Below w.heap.size w W → Calls Tryz.prog 127 #[shV r.kind, recV r vt] W (BoolB W b5))
    : Calls Tryz.prog 31 #[recV r vt] w (IntB w (if Cn.fam r.kind = 0 then 60 else if (b1 && (b2 && (b3 && (b4 && b5)))) = true then 0 else 61)) := by
  have hb0 : Below w.heap.size w (w.alloc (.cells #[.int .i64 r.kind, .int .i64 r.lo, .int .i64 r.hi, .int .i64 r.n, vt, .string r.name, .string r.other, .float .f64 r.wt] 29)) := (Below.refl _ _).alloc (Nat.le_refl _) _
  have HC : Hid (∀ W, Below (w.alloc (.cells #[.int .i64 r.kind, .int .i64 r.lo, .int .i64 r.hi, .int .i64 r.n, vt, .string r.name, .string r.other, .float .f64 r.wt] 29)).heap.size (w.alloc (.cells #[.int .i64 r.kind, .int .i64 r.lo, .int .i64 r.hi, .int .i64 r.n, vt, .string r.name, .string r.other, .float .f64 r.wt] 29)) W → W.cell? ⟨w.heap.size, 0, none⟩ = some (.int .i64 r.kind) ∧ W.cell? ⟨w.heap.size, 1, none⟩ = some (.int .i64 r.lo) ∧ W.cell? ⟨w.heap.size, 2, none⟩ = some (.int .i64 r.hi) ∧ W.cell? ⟨w.heap.size, 3, none⟩ = some (.int .i64 r.n) ∧ W.cell? ⟨w.heap.size, 4, none⟩ = some (vt) ∧ W.cell? ⟨w.heap.size, 5, none⟩ = some (.string r.name) ∧ W.cell? ⟨w.heap.size, 6, none⟩ = some (.string r.other) ∧ W.cell? ⟨w.heap.size, 7, none⟩ = some (.float .f64 r.wt)) := fun W h => by
    have h0 : (w.alloc (.cells #[.int .i64 r.kind, .int .i64 r.lo, .int .i64 r.hi, .int .i64 r.n, vt, .string r.name, .string r.other, .float .f64 r.wt] 29)).heap[w.heap.size]? = some (.cells #[.int .i64 r.kind, .int .i64 r.lo, .int .i64 r.hi, .int .i64 r.n, vt, .string r.name, .string r.other, .float .f64 r.wt] 29 (0, 0)) := by
      show (w.heap.push _)[w.heap.size]? = _
      simp
    have h2 : W.heap[w.heap.size]? = _ := (h.block _ (by simp)).trans h0
    exact ⟨cell_of (j := 0) h2 (by simp), cell_of (j := 1) h2 (by simp), cell_of (j := 2) h2 (by simp), cell_of (j := 3) h2 (by simp), cell_of (j := 4) h2 (by simp), cell_of (j := 5) h2 (by simp), cell_of (j := 6) h2 (by simp), cell_of (j := 7) h2 (by simp)⟩
  have KSH := hide KSH
  have KF := hide KF
  have K1 := hide K1
  have K2 := hide K2
  have K3 := hide K3
  have K4 := hide K4
  have K5 := hide K5
  have mm0 := m0
  have mm1 := m1
  have mm2 := m2
  have mm3 := m3
  have mm4 := m4
  have mm5 := m5
  clear m0 m1 m2 m3 m4 m5
  unfold recV shV at *
  generalize Cn.fam r.kind = fr at *
  generalize r.kind = kd at *
  generalize r.n = n at *
  generalize r.lo = lo at *
  generalize r.hi = hi at *
  generalize r.name = nm at *
  generalize r.other = ot at *
  generalize r.wt = wt at *
  by_cases h0 : fr = 0
  · subst h0
    rw [if_pos rfl]
    go_enter Tryz.func31, Tryz.ntmps31
    go_wp2_with fail
    refine ((unhide KSH) _).mono ?_
    rintro e w1 ⟨rfl, hb1⟩
    have hB := bthen hb0 hb1
    have HC1 : Hid _ := (unhide HC) w1 hb1
    go_wp2_with fail
    refine ((unhide KF) _ hB).mono ?_
    rintro e w2 ⟨rfl, hb2⟩
    have hA := bthen hb1 hb2
    have hB := bthen hb0 hA
    have HF := hide hB
    clear KSH KF K1 K2 K3 K4 K5 HC
    go_wp2
    go_ret
    exact ⟨rfl, unhide HF⟩
  · rw [if_neg h0]
    have q0 : (fr == 0) = false := beq_eq_false_iff_ne.2 h0
    cases b1 with
    | false =>
      rw [if_neg (by simp)]
      go_enter Tryz.func31, Tryz.ntmps31
      go_wp2_with fail
      refine ((unhide KSH) _).mono ?_
      rintro e w1 ⟨rfl, hb1⟩
      have hB := bthen hb0 hb1
      have HC1 : Hid _ := (unhide HC) w1 hb1
      go_wp2_with fail
      refine ((unhide KF) _ hB).mono ?_
      rintro e w2 ⟨rfl, hb2⟩
      have hA := bthen hb1 hb2
      have hB := bthen hb0 hA
      obtain ⟨x0, x1, x2, x3, x4, x5, x6, x7⟩ := (unhide HC) _ hA
      go_wp2_with fail
      refine ((unhide K1) _ hB).mono ?_
      rintro e w3 ⟨rfl, hb3⟩
      have hA := bthen hA hb3
      have hB := bthen hb0 hA
      clear x0 x1 x2 x3 x4 x5 x6 x7
      have HF := hide hB
      clear KSH KF K1 K2 K3 K4 K5 HC
      go_wp2
      go_ret
      exact ⟨rfl, unhide HF⟩
    | true =>
      cases b2 with
      | false =>
        rw [if_neg (by simp)]
        go_enter Tryz.func31, Tryz.ntmps31
        go_wp2_with fail
        refine ((unhide KSH) _).mono ?_
        rintro e w1 ⟨rfl, hb1⟩
        have hB := bthen hb0 hb1
        have HC1 : Hid _ := (unhide HC) w1 hb1
        go_wp2_with fail
        refine ((unhide KF) _ hB).mono ?_
        rintro e w2 ⟨rfl, hb2⟩
        have hA := bthen hb1 hb2
        have hB := bthen hb0 hA
        obtain ⟨x0, x1, x2, x3, x4, x5, x6, x7⟩ := (unhide HC) _ hA
        go_wp2_with fail
        refine ((unhide K1) _ hB).mono ?_
        rintro e w3 ⟨rfl, hb3⟩
        have hA := bthen hA hb3
        have hB := bthen hb0 hA
        clear x0 x1 x2 x3 x4 x5 x6 x7
        obtain ⟨x0, x1, x2, x3, x4, x5, x6, x7⟩ := (unhide HC) _ hA
        go_wp2_with fail
        refine ((unhide K2) _ hB).mono ?_
        rintro e w4 ⟨rfl, hb4⟩
        have hA := bthen hA hb4
        have hB := bthen hb0 hA
        clear x0 x1 x2 x3 x4 x5 x6 x7
        have HF := hide hB
        clear KSH KF K1 K2 K3 K4 K5 HC
        go_wp2
        go_ret
        exact ⟨rfl, unhide HF⟩
      | true =>
        cases b3 with
        | false =>
          rw [if_neg (by simp)]
          go_enter Tryz.func31, Tryz.ntmps31
          go_wp2_with fail
          refine ((unhide KSH) _).mono ?_
          rintro e w1 ⟨rfl, hb1⟩
          have hB := bthen hb0 hb1
          have HC1 : Hid _ := (unhide HC) w1 hb1
          go_wp2_with fail
          refine ((unhide KF) _ hB).mono ?_
          rintro e w2 ⟨rfl, hb2⟩
          have hA := bthen hb1 hb2
          have hB := bthen hb0 hA
          obtain ⟨x0, x1, x2, x3, x4, x5, x6, x7⟩ := (unhide HC) _ hA
          go_wp2_with fail
          refine ((unhide K1) _ hB).mono ?_
          rintro e w3 ⟨rfl, hb3⟩
          have hA := bthen hA hb3
          have hB := bthen hb0 hA
          clear x0 x1 x2 x3 x4 x5 x6 x7
          obtain ⟨x0, x1, x2, x3, x4, x5, x6, x7⟩ := (unhide HC) _ hA
          go_wp2_with fail
          refine ((unhide K2) _ hB).mono ?_
          rintro e w4 ⟨rfl, hb4⟩
          have hA := bthen hA hb4
          have hB := bthen hb0 hA
          clear x0 x1 x2 x3 x4 x5 x6 x7
          obtain ⟨x0, x1, x2, x3, x4, x5, x6, x7⟩ := (unhide HC) _ hA
          go_wp2_with fail
          refine ((unhide K3) _ hB).mono ?_
          rintro e w5 ⟨rfl, hb5⟩
          have hA := bthen hA hb5
          have hB := bthen hb0 hA
          clear x0 x1 x2 x3 x4 x5 x6 x7
          have HF := hide hB
          clear KSH KF K1 K2 K3 K4 K5 HC
          go_wp2
          go_ret
          exact ⟨rfl, unhide HF⟩
        | true =>
          cases b4 with
          | false =>
            rw [if_neg (by simp)]
            go_enter Tryz.func31, Tryz.ntmps31
            go_wp2_with fail
            refine ((unhide KSH) _).mono ?_
            rintro e w1 ⟨rfl, hb1⟩
            have hB := bthen hb0 hb1
            have HC1 : Hid _ := (unhide HC) w1 hb1
            go_wp2_with fail
            refine ((unhide KF) _ hB).mono ?_
            rintro e w2 ⟨rfl, hb2⟩
            have hA := bthen hb1 hb2
            have hB := bthen hb0 hA
            obtain ⟨x0, x1, x2, x3, x4, x5, x6, x7⟩ := (unhide HC) _ hA
            go_wp2_with fail
            refine ((unhide K1) _ hB).mono ?_
            rintro e w3 ⟨rfl, hb3⟩
            have hA := bthen hA hb3
            have hB := bthen hb0 hA
            clear x0 x1 x2 x3 x4 x5 x6 x7
            obtain ⟨x0, x1, x2, x3, x4, x5, x6, x7⟩ := (unhide HC) _ hA
            go_wp2_with fail
            refine ((unhide K2) _ hB).mono ?_
            rintro e w4 ⟨rfl, hb4⟩
            have hA := bthen hA hb4
            have hB := bthen hb0 hA
            clear x0 x1 x2 x3 x4 x5 x6 x7
            obtain ⟨x0, x1, x2, x3, x4, x5, x6, x7⟩ := (unhide HC) _ hA
            go_wp2_with fail
            refine ((unhide K3) _ hB).mono ?_
            rintro e w5 ⟨rfl, hb5⟩
            have hA := bthen hA hb5
            have hB := bthen hb0 hA
            clear x0 x1 x2 x3 x4 x5 x6 x7
            obtain ⟨x0, x1, x2, x3, x4, x5, x6, x7⟩ := (unhide HC) _ hA
            go_wp2_with fail
            refine ((unhide K4) _ hB).mono ?_
            rintro e w6 ⟨rfl, hb6⟩
            have hA := bthen hA hb6
            have hB := bthen hb0 hA
            clear x0 x1 x2 x3 x4 x5 x6 x7
            have HF := hide hB
            clear KSH KF K1 K2 K3 K4 K5 HC
            go_wp2
            go_ret
            exact ⟨rfl, unhide HF⟩
          | true =>
            cases b5 with
            | false =>
              rw [if_neg (by simp)]
              go_enter Tryz.func31, Tryz.ntmps31
              go_wp2_with fail
              refine ((unhide KSH) _).mono ?_
              rintro e w1 ⟨rfl, hb1⟩
              have hB := bthen hb0 hb1
              have HC1 : Hid _ := (unhide HC) w1 hb1
              go_wp2_with fail
              refine ((unhide KF) _ hB).mono ?_
              rintro e w2 ⟨rfl, hb2⟩
              have hA := bthen hb1 hb2
              have hB := bthen hb0 hA
              obtain ⟨x0, x1, x2, x3, x4, x5, x6, x7⟩ := (unhide HC) _ hA
              go_wp2_with fail
              refine ((unhide K1) _ hB).mono ?_
              rintro e w3 ⟨rfl, hb3⟩
              have hA := bthen hA hb3
              have hB := bthen hb0 hA
              clear x0 x1 x2 x3 x4 x5 x6 x7
              obtain ⟨x0, x1, x2, x3, x4, x5, x6, x7⟩ := (unhide HC) _ hA
              go_wp2_with fail
              refine ((unhide K2) _ hB).mono ?_
              rintro e w4 ⟨rfl, hb4⟩
              have hA := bthen hA hb4
              have hB := bthen hb0 hA
              clear x0 x1 x2 x3 x4 x5 x6 x7
              obtain ⟨x0, x1, x2, x3, x4, x5, x6, x7⟩ := (unhide HC) _ hA
              go_wp2_with fail
              refine ((unhide K3) _ hB).mono ?_
              rintro e w5 ⟨rfl, hb5⟩
              have hA := bthen hA hb5
              have hB := bthen hb0 hA
              clear x0 x1 x2 x3 x4 x5 x6 x7
              obtain ⟨x0, x1, x2, x3, x4, x5, x6, x7⟩ := (unhide HC) _ hA
              go_wp2_with fail
              refine ((unhide K4) _ hB).mono ?_
              rintro e w6 ⟨rfl, hb6⟩
              have hA := bthen hA hb6
              have hB := bthen hb0 hA
              clear x0 x1 x2 x3 x4 x5 x6 x7
              obtain ⟨x0, x1, x2, x3, x4, x5, x6, x7⟩ := (unhide HC) _ hA
              go_wp2_with fail
              refine ((unhide K5) _ hB).mono ?_
              rintro e w7 ⟨rfl, hb7⟩
              have hA := bthen hA hb7
              have hB := bthen hb0 hA
              clear x0 x1 x2 x3 x4 x5 x6 x7
              have HF := hide hB
              clear KSH KF K1 K2 K3 K4 K5 HC
              go_wp2
              go_ret
              exact ⟨rfl, unhide HF⟩
            | true =>
              rw [if_pos (by simp)]
              go_enter Tryz.func31, Tryz.ntmps31
              go_wp2_with fail
              refine ((unhide KSH) _).mono ?_
              rintro e w1 ⟨rfl, hb1⟩
              have hB := bthen hb0 hb1
              have HC1 : Hid _ := (unhide HC) w1 hb1
              go_wp2_with fail
              refine ((unhide KF) _ hB).mono ?_
              rintro e w2 ⟨rfl, hb2⟩
              have hA := bthen hb1 hb2
              have hB := bthen hb0 hA
              obtain ⟨x0, x1, x2, x3, x4, x5, x6, x7⟩ := (unhide HC) _ hA
              go_wp2_with fail
              refine ((unhide K1) _ hB).mono ?_
              rintro e w3 ⟨rfl, hb3⟩
              have hA := bthen hA hb3
              have hB := bthen hb0 hA
              clear x0 x1 x2 x3 x4 x5 x6 x7
              obtain ⟨x0, x1, x2, x3, x4, x5, x6, x7⟩ := (unhide HC) _ hA
              go_wp2_with fail
              refine ((unhide K2) _ hB).mono ?_
              rintro e w4 ⟨rfl, hb4⟩
              have hA := bthen hA hb4
              have hB := bthen hb0 hA
              clear x0 x1 x2 x3 x4 x5 x6 x7
              obtain ⟨x0, x1, x2, x3, x4, x5, x6, x7⟩ := (unhide HC) _ hA
              go_wp2_with fail
              refine ((unhide K3) _ hB).mono ?_
              rintro e w5 ⟨rfl, hb5⟩
              have hA := bthen hA hb5
              have hB := bthen hb0 hA
              clear x0 x1 x2 x3 x4 x5 x6 x7
              obtain ⟨x0, x1, x2, x3, x4, x5, x6, x7⟩ := (unhide HC) _ hA
              go_wp2_with fail
              refine ((unhide K4) _ hB).mono ?_
              rintro e w6 ⟨rfl, hb6⟩
              have hA := bthen hA hb6
              have hB := bthen hb0 hA
              clear x0 x1 x2 x3 x4 x5 x6 x7
              obtain ⟨x0, x1, x2, x3, x4, x5, x6, x7⟩ := (unhide HC) _ hA
              go_wp2_with fail
              refine ((unhide K5) _ hB).mono ?_
              rintro e w7 ⟨rfl, hb7⟩
              have hA := bthen hA hb7
              have hB := bthen hb0 hA
              clear x0 x1 x2 x3 x4 x5 x6 x7
              have HF := hide hB
              clear KSH KF K1 K2 K3 K4 K5 HC
              go_wp2
              go_ret
              exact ⟨rfl, unhide HF⟩
end Go.Proofs.YtceflkeaenepcaaGreatDoor
