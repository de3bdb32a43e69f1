import Derived.Test.YtceflkeaenepcaaGreatDoorN38
import Derived.Test.YtceflkeaenepcaaGreatDoorN40
import Derived.Test.YtceflkeaenepcaaGreatDoorN24
import Derived.Test.YtceflkeaenepcaaGreatDoorN36
import Derived.Deep.RegionHeld3
import Derived.Deep.AppendLies
namespace Go.Proofs.YtceflkeaenepcaaGreatDoor
open Go.RowKit Go.Shelf
namespace Cn
theorem findA_cases (f c : Int) : ∀ (l : List Rec) (i : Nat), findA f c i l = -1 ∨ (i : Int) ≤ findA f c i l
  | [], _ => .inl rfl
  | r :: l, i => by
    show (if _ then _ else _) = -1 ∨ (i : Int) ≤ (if _ then _ else _)
    by_cases h : fam r.kind = f ∧ speaks r c = true
    · rw [if_pos h]; exact .inr (Int.le_refl _)
    · rw [if_neg h]
      rcases findA_cases f c l (i + 1) with h1 | h1
      · exact .inl h1
      · exact .inr (by omega)
theorem findA_snoc (f c : Int) (r : Rec) : ∀ (l : List Rec) (i : Nat), (0 ≤ findA f c i l ∧ findA f c i (l ++ [r]) = findA f c i l) ∨ (findA f c i l = -1 ∧ (findA f c i (l ++ [r]) = -1 ∨ findA f c i (l ++ [r]) = (i + l.length : Nat)))
  | [], i => by
    refine .inr ⟨rfl, ?_⟩
    show (if _ then _ else _) = (-1 : Int) ∨ (if _ then _ else _) = _
    by_cases h : fam r.kind = f ∧ speaks r c = true
    · rw [if_pos h]; exact .inr rfl
    · rw [if_neg h]; exact .inl rfl
  | a :: l, i => by
    by_cases h : fam a.kind = f ∧ speaks a c = true
    · have e : findA f c i (a :: l) = (i : Int) := if_pos h
      have e2 : findA f c i (a :: l ++ [r]) = (i : Int) := if_pos h
      rw [e, e2]; exact .inl ⟨by omega, rfl⟩
    · have e : findA f c i (a :: l) = findA f c (i + 1) l := if_neg h
      have e2 : findA f c i (a :: l ++ [r]) = findA f c (i + 1) (l ++ [r]) := if_neg h
      rw [e, e2]
      rcases findA_snoc f c r l (i + 1) with h1 | ⟨h1, h2⟩
      · exact .inl h1
      · refine .inr ⟨h1, h2.imp id fun h3 => ?_⟩
        rw [h3, List.length_cons]; omega
theorem find_snoc (l : List Rec) (r : Rec) (f c : Int) : (0 ≤ find l f c ∧ find (l ++ [r]) f c = find l f c) ∨ (find l f c = -1 ∧ (find (l ++ [r]) f c = -1 ∨ find (l ++ [r]) f c = (l.length : Int))) := by
  unfold find
  by_cases h : f = 10 ∨ f = 0
  · rw [if_pos h, if_pos h]; exact .inr ⟨rfl, .inl rfl⟩
  · rw [if_neg h, if_neg h]
    have := findA_snoc f c r l 0
    rw [Nat.zero_add] at this
    exact this
theorem find_most (l : List Rec) (f c : Int) : find l f c ≤ (l.length : Int) := by
  unfold find
  split
  · omega
  · have key : ∀ (l : List Rec) (i : Nat), findA f c i l ≤ (i + l.length : Nat) := by
      intro l
      induction l with
      | nil => intro i; show (-1 : Int) ≤ _; omega
      | cons a l ih =>
        intro i
        show (if _ then _ else _) ≤ _
        split
        · rw [List.length_cons]; omega
        · have := ih (i + 1)
          rw [List.length_cons]; omega
    have := key l 0
    omega
theorem check6_pre {l : List Rec} {r : Rec} (h : (check6 (l ++ [r])).2 = 0) : (check6 l).2 = 0 := by
  obtain ⟨h1, h2, h3⟩ := check6_iff.1 h
  rw [List.length_append] at h1
  exact check6_iff.2 ⟨by omega, fun x hx => h2 x (List.mem_append_left _ hx), (List.pairwise_append.1 h3).1⟩
end Cn
theorem rows_more6 {W1 W2 : World} {B : Nat} {v v' : Value} {ps qs : List (Rec × Value)} (hown : Rown W1 B v ps) (hq : ∀ q ∈ qs, Ok .i32 21 W1 B q.2 q.1.to) (hrow : W2.ownsRow B 29 8 v' (ps.length + qs.length) (rcells ps ++ rcells qs)) (hg : W1.grownBy W2 v.ownBlock) : Rown W2 B v' (ps ++ qs) := by
  refine ⟨by rw [List.length_append]; unfold rcells at *; rw [List.flatMap_append]; exact hrow, fun p hp => ?_⟩
  have key : ∀ p : Rec × Value, Ok .i32 21 W1 B p.2 p.1.to → Ok .i32 21 W2 B p.2 p.1.to := fun p hop => hop.keep fun g h => hg.block g (hop.2.2.lt g h).2 (fun e => own_apart hop.2.2 hown.1 (by decide) h e.symm)
  rcases List.mem_append.1 hp with hp | hp
  · exact key p (hown.2 p hp)
  · exact key p (hq p hp)
theorem Rown.lower6 {w : World} {B B' : Nat} {v : Value} {ps : List (Rec × Value)} (h : Rown w B v ps) (hb : B' ≤ B) : Rown w B' v ps := by
  refine ⟨⟨h.1.1, ?_⟩, fun p hp => (h.2 p hp).lower hb⟩
  rcases h.1.2 with h2 | ⟨g, cap, cur, e1, e2, e3, e4⟩
  · exact .inl h2
  · exact .inr ⟨g, cap, cur, e1, Nat.le_trans hb e2, e3, e4⟩
theorem Rown.below6 {w w' : World} {B : Nat} {v : Value} {ps : List (Rec × Value)} (h : Rown w B v ps) (hb : Below w.heap.size w w') : Rown w' B v ps := ⟨own_keep h.1 fun g hg => hb.block g (h.1.lt g hg).2, fun p hp => (h.2 p hp).keep fun g hg => hb.block g ((h.2 p hp).2.2.lt g hg).2⟩
theorem lit_rcs6 (W : World) (r : Rec) (va : Value) (hr : RecFit r) (hs : Sk .i32 W va r.to) : Rcs (W.alloc (.cells #[.int .i64 r.kind, .int .i64 r.lo, .int .i64 r.hi, .int .i64 r.n, va, .string r.name, .string r.other, .float .f64 r.wt] 29)) (.slice (some ⟨W.heap.size, 0, none⟩) 1 1) [r] := by
  have hb : Below W.heap.size W (W.alloc (.cells #[.int .i64 r.kind, .int .i64 r.lo, .int .i64 r.hi, .int .i64 r.n, va, .string r.name, .string r.other, .float .f64 r.wt] 29)) := (Below.refl _ _).alloc (Nat.le_refl _) _
  have hc := rec_new W r va
  unfold rarr at hc
  refine ⟨(by show 1 ≤ 1000000000; decide), fun x hx => by simp at hx; subst hx; exact hr, .inr ⟨W.heap.size, 0, 1, rfl, Nat.le_refl 1, by omega, fun i hi => ?_⟩⟩
  obtain rfl : i = 0 := by simp at hi; exact hi
  have hcc : ∀ j u, (rcell (r, va))[j]? = some u → (W.alloc (.cells #[.int .i64 r.kind, .int .i64 r.lo, .int .i64 r.hi, .int .i64 r.n, va, .string r.name, .string r.other, .float .f64 r.wt] 29)).cell? ⟨W.heap.size, 0 + 0 * 8 + j, none⟩ = some u := fun j u hu => by
    have := hc j u hu
    rw [addr_add, Nat.zero_add] at this
    rw [show 0 + 0 * 8 + j = j by omega]; exact this
  exact ⟨hcc 0 _ rfl, hcc 1 _ rfl, hcc 2 _ rfl, hcc 3 _ rfl, ⟨va, hcc 4 _ rfl, hs.below hb⟩, hcc 5 _ rfl, hcc 6 _ rfl, hcc 7 _ rfl⟩
theorem one_fw6 {w : World} {B g cap : Nat} {rs : List Rec} {ps : List (Rec × Value)} (h : Fw6 w B g cap rs ps) : ∀ u ∈ rcells ps, u.oneCell' = true := by
  intro u hu
  obtain ⟨p, hp, hu⟩ := List.mem_flatMap.1 hu
  obtain ⟨i, hi, rfl⟩ := List.getElem_of_mem hp
  obtain ⟨g1, c1, e1, _⟩ := h.mks i hi
  have e2 : (ps[i]).2 = .slice (some ⟨g1, 0, none⟩) (ps[i]).1.to.length c1 := by simpa [List.getD, hi] using e1
  exact rec_one (ps[i]).1 (vt := (ps[i]).2) (by rw [e2]; rfl) u hu
set_option maxRecDepth 20000 in
set_option maxHeartbeats 8000000 in
theorem more_law6 (v : Value) (rs0 : List Rec) (r : Rec) (va cv : Value) (cs : List Int) (w : World) (hg : Glob w) (hs : Sn.Glob w) (hl : Rcs w v rs0) (hr : RecFit r) (ha : Sk .i32 w va r.to) (hcs : Sk .i32 w cv cs) : Calls Tryz.prog 4 #[v, recV r va, cv] w (BoolB w true) := by
  obtain ⟨i1, hj, hy0, hy1, hy2⟩ := info_parts Tryz.info29
  obtain ⟨ao, lc, rfl, hc1, hc2⟩ := hl.shape
  obtain ⟨co, cc, hcv, hd1, hd2⟩ := hcs.shape
  subst hcv
  obtain ⟨ta, tc, hta, _, _⟩ := ha.shape
  subst hta
  have hcl := hcs.len
  have hrl : (rs0.take 60).length ≤ 60 := List.length_take_le _ _
  have HFIT : Hid (∀ x ∈ rs0.take 60, RecFit x) := fun x hx => hl.2.1 x (List.mem_of_mem_take hx)
  have hB0 : Below w.heap.size w (w.alloc (.cells #[.int .i64 r.kind, .int .i64 r.lo, .int .i64 r.hi, .int .i64 r.n, .slice ta r.to.length tc, .string r.name, .string r.other, .float .f64 r.wt] 29)) := (Below.refl _ _).alloc (Nat.le_refl _) _
  have K1 := hide (few_any6 _ rs0 60 _ (hl.below hB0) (by decide))
  have HBX : Hid (∀ j u, (rcell (r, .slice ta r.to.length tc))[j]? = some u → (w.alloc (.cells #[.int .i64 r.kind, .int .i64 r.lo, .int .i64 r.hi, .int .i64 r.n, .slice ta r.to.length tc, .string r.name, .string r.other, .float .f64 r.wt] 29)).cell? ⟨w.heap.size, j, none⟩ = some u) := fun j u hu => by
    have := rec_new w r (.slice ta r.to.length tc) j u hu
    rw [addr_add, Nat.zero_add] at this
    exact this
  have HG := hide hg
  have HS := hide hs
  have HCS := hide hcs
  have HR := hide hr
  have HA := hide ha
  have HB0 := hide hB0
  clear hg hs hl hcs hr ha hB0
  unfold recV
  generalize rs0.take 60 = rs at *
  generalize rs0.length = N at *
  have hfl : ∀ W a m, (store a (.float .f64 r.wt) m).run Tryz.prog W = stored Tryz.prog W a (.float .f64 r.wt) m := fun W a m => run_store Tryz.prog W a _ m rfl
  go_enter Tryz.func4, Tryz.ntmps4
  go_wp2_with fail
  refine (unhide K1).mono ?_
  rintro e w1 ⟨g, cap, ps, rfl, hF, b1⟩
  have hin := fw_rcs6 hF (by omega) (unhide HFIT)
  have HIN := hide hin
  have hcap : rs.length ≤ cap ∧ cap ≤ 9223372036854775807 := by
    obtain ⟨_, _, he, p1, p2⟩ := hin.shape
    obtain ⟨_, _, q3⟩ := Value.slice.inj he
    subst q3
    exact ⟨p1, p2⟩
  obtain ⟨hcp1, hcp2⟩ := hcap
  have hB1 := bthen (unhide HB0) b1
  have HX : Hid (∀ W, Below w1.heap.size w1 W → W.cell? ⟨w.heap.size, 0, none⟩ = some (.int .i64 r.kind) ∧ W.cell? ⟨w.heap.size, 1, none⟩ = some (.int .i64 r.lo) ∧ W.cell? ⟨w.heap.size, 2, none⟩ = some (.int .i64 r.hi) ∧ W.cell? ⟨w.heap.size, 3, none⟩ = some (.int .i64 r.n) ∧ W.cell? ⟨w.heap.size, 4, none⟩ = some (.slice ta r.to.length tc) ∧ W.cell? ⟨w.heap.size, 5, none⟩ = some (.string r.name) ∧ W.cell? ⟨w.heap.size, 6, none⟩ = some (.string r.other) ∧ W.cell? ⟨w.heap.size, 7, none⟩ = some (.float .f64 r.wt)) := fun W hW => by
    have key : ∀ j u, (rcell (r, .slice ta r.to.length tc))[j]? = some u → W.cell? ⟨w.heap.size, j, none⟩ = some u := fun j u hu => by
      have h := (unhide HBX) j u hu
      rw [(bthen b1 hW).cell (lt_of_cell? h)]; exact h
    exact ⟨key 0 _ rfl, key 1 _ rfl, key 2 _ rfl, key 3 _ rfl, key 4 _ rfl, key 5 _ rfl, key 6 _ rfl, key 7 _ rfl⟩
  have KCP : Hid (∀ W, Below w1.heap.size w1 W → Calls Tryz.prog 9 #[.slice (some ⟨g, 0, none⟩) rs.length cap] W (RecsNew W rs)) := fun W hW => refCopied_any _ _ W ((unhide HIN).below hW)
  have HLIT : Hid (∀ W, Below w1.heap.size w1 W → Rcs (W.alloc (.cells #[.int .i64 r.kind, .int .i64 r.lo, .int .i64 r.hi, .int .i64 r.n, .slice ta r.to.length tc, .string r.name, .string r.other, .float .f64 r.wt] 29)) (.slice (some ⟨W.heap.size, 0, none⟩) 1 1) [r]) := fun W hW => lit_rcs6 W r _ (unhide HR) ((unhide HA).below (bthen hB1 hW))
  have HB1 := hide hB1
  have hFr := unhide HR
  clear K1 hF b1 hin hB1 HBX HB0 HA
  go_wp2_with fail
  refine wp_region_held_drew (S := fun w' => Below w1.heap.size w1 w') (by kernel_rfl) (drewB ⟨1, rfl⟩) (fun hHeld => ?_)
  refine wpAnyH_take (i := 0) (oi := { dst := some 19, op := Op.move (Operand.tmp 7), type := 22, pos := "more.go:42", after := #[], guard := none }) (v := .slice (some ⟨g, 0, none⟩) rs.length cap) rfl (by kernel_rfl) (by kernel_rfl) (by kernel_rfl) (fun _ _ _ h => h) (Or.inl ⟨by rfl, ?_⟩) hHeld ?_
  · intro w hSw
    go_simp
  try simp only [Act.put, List.setIfInBounds_toArray, List.set_cons_zero, List.set_cons_succ]
  refine wpAnyH_take (i := 2) (oi := { dst := some 21, op := Op.load 29 (Operand.tmp 4), type := 29, pos := "more.go:42", after := #[], guard := none }) (v := .agg #[.int .i64 r.kind, .int .i64 r.lo, .int .i64 r.hi, .int .i64 r.n, .slice ta r.to.length tc, .string r.name, .string r.other, .float .f64 r.wt]) rfl (by kernel_rfl) (by kernel_rfl) (by kernel_rfl) (fun _ _ _ h => h) (Or.inl ⟨by rfl, ?_⟩) hHeld ?_
  · intro w hSw
    obtain ⟨s0, s1, s2, s3, s4, s5, s6, s7⟩ := (unhide HX) w hSw; go_simp
  try simp only [Act.put, List.setIfInBounds_toArray, List.set_cons_zero, List.set_cons_succ]
  refine wpAnyH_ready (rs := [1, 3]) (by kernel_rfl) (by simp) ?_
  refine AllReadyH.cons (o := { dst := some 20, op := Op.call { callee := Callee.value (Operand.func 9), args := #[Operand.tmp 19], argTypes := #[22] }, type := 22, pos := "more.go:42", after := #[{ on := 0, ground := Ground.data }], guard := none }) rfl (fun K hK => ?arm1) (AllReadyH.cons (o := { dst := some 22, op := Op.buildSlice 22 1 #[(0, Operand.tmp 21)], type := 22, pos := "more.go:42", after := #[{ on := 2, ground := Ground.data }], guard := none }) rfl (fun K hK => ?arm3) AllReadyH.nil)
  case' arm1 =>
    go_simp
    refine ((unhide KCP) _ hHeld).mono ?_
    rintro e w2 ⟨v2, ps2, rfl, p2, r2, b2⟩
    have HB2 := hide (bthen hHeld b2)
    have HRO := hide (r2.lower6 hHeld.size)
    have HP2 := hide p2
    clear b2 r2 p2 hHeld
    refine hK.out _ _ (unhide HB2) (fun hHeld => ?_)
    clear hK K HB2
    try simp only [Act.put, List.setIfInBounds_toArray, List.set_cons_zero, List.set_cons_succ]
    refine wpAnyH_ready (rs := [3]) (by kernel_rfl) (by simp) ?_
    refine AllReadyH.cons (o := { dst := some 22, op := Op.buildSlice 22 1 #[(0, Operand.tmp 21)], type := 22, pos := "more.go:42", after := #[{ on := 2, ground := Ground.data }], guard := none }) rfl (fun K hK => ?_) AllReadyH.nil
    go_simp
    have HBX2 : Hid (Below w1.heap.size w1 (w2.alloc (.cells #[.int .i64 r.kind, .int .i64 r.lo, .int .i64 r.hi, .int .i64 r.n, .slice ta r.to.length tc, .string r.name, .string r.other, .float .f64 r.wt] 29))) := hHeld.alloc hHeld.size _
    have HRO2 : Hid (Rown (w2.alloc (.cells #[.int .i64 r.kind, .int .i64 r.lo, .int .i64 r.hi, .int .i64 r.n, .slice ta r.to.length tc, .string r.name, .string r.other, .float .f64 r.wt] 29)) w1.heap.size v2 ps2) := (unhide HRO).below6 ((Below.refl _ _).alloc (Nat.le_refl _) _)
    have HLT := hide ((unhide HLIT) w2 hHeld)
    clear HRO hHeld
    generalize w2.alloc (.cells #[.int .i64 r.kind, .int .i64 r.lo, .int .i64 r.hi, .int .i64 r.n, .slice ta r.to.length tc, .string r.name, .string r.other, .float .f64 r.wt] 29) = wX at *
    generalize w2.heap.size = gl at *
    refine hK.out _ _ (unhide HBX2) (fun hHeld => ?_)
    clear hK K HBX2
    try simp only [Act.put, List.setIfInBounds_toArray, List.set_cons_zero, List.set_cons_succ]
  case' arm3 =>
    go_simp
    have HBX1 : Hid (Below w1.heap.size w1 (w1.alloc (.cells #[.int .i64 r.kind, .int .i64 r.lo, .int .i64 r.hi, .int .i64 r.n, .slice ta r.to.length tc, .string r.name, .string r.other, .float .f64 r.wt] 29)).drew) := ((Below.refl w1.heap.size w1).alloc (Nat.le_refl _) _).drew
    have HLT0 : Hid (Rcs (w1.alloc (.cells #[.int .i64 r.kind, .int .i64 r.lo, .int .i64 r.hi, .int .i64 r.n, .slice ta r.to.length tc, .string r.name, .string r.other, .float .f64 r.wt] 29)).drew (.slice (some ⟨w1.heap.size, 0, none⟩) 1 1) [r]) := ((unhide HLIT) w1 (Below.refl _ _)).below (Below.refl _ _).drew
    clear hHeld
    generalize (w1.alloc (.cells #[.int .i64 r.kind, .int .i64 r.lo, .int .i64 r.hi, .int .i64 r.n, .slice ta r.to.length tc, .string r.name, .string r.other, .float .f64 r.wt] 29)).drew = wB at *
    refine hK.out _ _ (unhide HBX1) (fun hHeld => ?_)
    clear hK K HBX1
    try simp only [Act.put, List.setIfInBounds_toArray, List.set_cons_zero, List.set_cons_succ]
    refine wpAnyH_ready (rs := [1]) (by kernel_rfl) (by simp) ?_
    refine AllReadyH.cons (o := { dst := some 20, op := Op.call { callee := Callee.value (Operand.func 9), args := #[Operand.tmp 19], argTypes := #[22] }, type := 22, pos := "more.go:42", after := #[{ on := 0, ground := Ground.data }], guard := none }) rfl (fun K hK => ?_) AllReadyH.nil
    go_simp
    refine ((unhide KCP) _ hHeld).mono ?_
    rintro e w2 ⟨v2, ps2, rfl, p2, r2, b2⟩
    have HB2 := hide (bthen hHeld b2)
    have HRO := hide (r2.lower6 hHeld.size)
    have HP2 := hide p2
    have HLT := hide ((unhide HLT0).below b2)
    have HRO2 := HRO
    clear b2 r2 p2 hHeld HLT0 HRO
    obtain ⟨wX, hwX⟩ : ∃ wX, wX = w2 := ⟨_, rfl⟩
    rw [← hwX] at HLT HRO2 HB2 ⊢
    clear hwX
    refine hK.out _ _ (unhide HB2) (fun hHeld => ?_)
    clear hK K HB2
    try simp only [Act.put, List.setIfInBounds_toArray, List.set_cons_zero, List.set_cons_succ]
  all_goals
    have KFW := hide (few_any6 _ [r] 1 wX (unhide HLT) (by decide))
    refine wpAnyH_ready (rs := [4]) (by kernel_rfl) (by simp) ?_
    refine AllReadyH.cons (o := { dst := some 23, op := Op.call { callee := Callee.value (Operand.func 5), args := #[Operand.tmp 22, Operand.const (Value.int IntKind.i64 1)], argTypes := #[22, 3] }, type := 22, pos := "more.go:42", after := #[{ on := 3, ground := Ground.data }, { on := 1, ground := Ground.chain }], guard := none }) rfl (fun K hK => ?_) AllReadyH.nil
    go_simp
    refine (unhide KFW).mono ?_
    rintro e w4 ⟨g4, cap4, ps4, rfl, hF4, b4⟩
    have HB4 := hide (bthen hHeld b4)
    have HR4 := hide ((unhide HRO2).below6 b4)
    have HQ4 := hide ((fw_rown6 hF4).lower6 hHeld.size)
    have HONE := hide (one_fw6 hF4)
    have HM4 := hide hF4.map
    clear KFW hF4 b4 HRO2 HLT hHeld
    refine hK.out _ _ ?_ (fun hHeld => ?_)
    · exact unhide HB4
    clear hK K
    try simp only [Act.put, List.setIfInBounds_toArray, List.set_cons_zero, List.set_cons_succ]
    have hp2l : ps2.length = rs.length := by rw [← unhide HP2, List.length_map]
    have hp4l : ps4.length = 1 := by rw [← List.length_map (f := (·.1)), unhide HM4]; rfl
    have HSRC : Hid (∀ j u, (rcells ps4)[j]? = some u → w4.cell? ((⟨g4, 0, none⟩ : Addr).add j) = some u) := fun j u hu => (unhide HQ4).1.cells (g := g4) rfl j u hu
    have HROW : Hid (w4.ownsRow w1.heap.size 29 8 v2 rs.length (rcells ps2)) := by
      have := (unhide HR4).1
      rw [hp2l] at this; exact this
    have HLN : Hid ((rcells ps4).length = 1 * 8) := by
      show (rcells ps4).length = 1 * 8
      rw [rcells_length, hp4l]
    have hsz4 := hHeld.size
    refine wpAnyH_ready (rs := [5]) (by kernel_rfl) (by simp) ?_
    refine AllReadyH.cons (o := { dst := some 24, op := Op.call { callee := Callee.builtin Builtin.append, args := #[Operand.tmp 20, Operand.tmp 23], argTypes := #[22, 22] }, type := 22, pos := "more.go:42", after := #[{ on := 1, ground := Ground.data }, { on := 4, ground := Ground.data }, { on := 4, ground := Ground.chain }], guard := none }) rfl (fun K hK => ?_) AllReadyH.nil
    refine step_append_lies _ (by rfl) (.tmp 20) (.tmp 23) 22 (by rfl) w1.heap.size 29 i1 (.agg #[.int .i64 0, .int .i64 0, .int .i64 0, .int .i64 0, .slice none 0 0, .string ⟨#[]⟩, .string ⟨#[]⟩, .float .f64 0]) 8 96 Tryz.underlying22 hj hy0 hy1 hy2 rfl (by omega) v2 rs.length (rcells ps2) (by rfl) (unhide HROW) ⟨g4, 0, none⟩ 1 cap4 (rcells ps4) (by rfl) (unhide HLN) (unhide HSRC) (unhide HONE) (by omega) (by unfold maxLen; omega) (by omega) hsz4 w4.heap.size rfl ?_
    intro gg cap8 w8 hrow8 hgrow8 hat8 hlt8
    have hb8 : Below w1.heap.size w1 w8 := hHeld.grown hgrow8 hsz4 (fun k hk => ((unhide HROW).lt k hk).1)
    have hr8 : w8.ownsRow w1.heap.size 29 8 (.slice (some ⟨gg, 0, none⟩) (rs.length + 1) cap8) (ps2.length + ps4.length) (rcells ps2 ++ rcells ps4) := by rw [hp2l, hp4l]; exact hrow8
    have HRW := hide (rows_more6 (unhide HR4) (fun q hq => (unhide HQ4).2 q hq) hr8 hgrow8)
    have HMP : Hid ((ps2 ++ ps4).map (·.1) = rs ++ [r]) := by
      show (ps2 ++ ps4).map (·.1) = rs ++ [r]
      rw [List.map_append, unhide HP2, unhide HM4]; rfl
    have HRC : Hid (Rcs w8 (.slice (some ⟨gg, 0, none⟩) (rs.length + 1) cap8) (rs ++ [r])) := by
      have h := (unhide HRW).rcs (by rw [List.length_append, hp2l, hp4l]; omega) (fun q hq => by
        have hm : q.1 ∈ (ps2 ++ ps4).map (·.1) := List.mem_map.2 ⟨q, hq, rfl⟩
        rw [unhide HMP] at hm
        rcases List.mem_append.1 hm with h | h
        · exact (unhide HFIT) _ h
        · simp at h; rw [h]; exact unhide HR)
      rw [unhide HMP] at h; exact h
    have HB8 := hide hb8
    clear hb8 hr8 HRW HMP hrow8 hgrow8 hat8 hlt8 HR4 HQ4 HONE HM4 HSRC HROW HLN HB4 hp2l hp4l HP2 hsz4
    refine hK.out _ _ (unhide HB8) (fun hHeld => ?_)
    clear hK K hHeld
    try simp only [Act.put, List.setIfInBounds_toArray, List.set_cons_zero, List.set_cons_succ]
    refine wpAnyH_take (i := 6) (oi := { dst := some 8, op := Op.assign (Operand.tmp 24), type := 22, pos := "more.go:42", after := #[{ on := 5, ground := Ground.data }, { on := 5, ground := Ground.chain }, { on := 0, ground := Ground.phase }, { on := 1, ground := Ground.phase }, { on := 2, ground := Ground.phase }, { on := 3, ground := Ground.phase }, { on := 4, ground := Ground.phase }, { on := 5, ground := Ground.phase }], guard := none }) (v := .slice (some ⟨gg, 0, none⟩) (rs.length + 1) cap8) rfl (by kernel_rfl) (by kernel_rfl) (by kernel_rfl) (fun _ _ _ h => h) (Or.inl ⟨by rfl, ?_⟩) (unhide HB8) ?_
    · intro w hSw
      go_simp
    try simp only [Act.put, List.setIfInBounds_toArray, List.set_cons_zero, List.set_cons_succ]
    refine wpAnyH_done (by kernel_rfl) ?_ _
    clear KCP HLIT HX HFIT HR
    generalize (List.take 1 [r]).length = one1 at *
    obtain ⟨nw, hnw⟩ : ∃ nw, rs.length + 1 = nw := ⟨_, rfl⟩
    rw [hnw] at HRC ⊢
    clear hnw
    have HBW8 := hide (bthen (unhide HB1) (unhide HB8))
    have KC1 := hide (check_any _ _ w8 ((unhide HG).on (unhide HBW8)) ((unhide HIN).below (unhide HB8)))
    have KC2 : Hid (∀ W, Below w8.heap.size w8 W → Calls Tryz.prog 10 #[.slice (some ⟨gg, 0, none⟩) nw cap8] W (PairIB W (Cn.check6 (rs ++ [r])))) := fun W hW => check_any _ _ W ((unhide HG).on (bthen (unhide HBW8) hW)) ((unhide HRC).below hW)
    have HPRE : Hid ((Cn.check6 (rs ++ [r])).2 = 0 → (Cn.check6 rs).2 = 0) := fun h => Cn.check6_pre h
    have KF1 : Hid (∀ W f c, Below w8.heap.size w8 W → I64 f → (-2147483648 ≤ c ∧ c ≤ 2147483647) → Calls Tryz.prog 11 #[.slice (some ⟨g, 0, none⟩) rs.length cap, .int .i64 f, .int .i32 c] W (IntB W (Cn.find rs f c))) := fun W f c hW h1 h2 => find_any _ _ f c W ((unhide HG).on (bthen (unhide HBW8) hW)) (((unhide HIN).below (unhide HB8)).below hW) h1 h2
    have KF2 : Hid (∀ W f c, Below w8.heap.size w8 W → I64 f → (-2147483648 ≤ c ∧ c ≤ 2147483647) → Calls Tryz.prog 11 #[.slice (some ⟨gg, 0, none⟩) nw cap8, .int .i64 f, .int .i32 c] W (IntB W (Cn.find (rs ++ [r]) f c))) := fun W f c hW h1 h2 => find_any _ _ f c W ((unhide HG).on (bthen (unhide HBW8) hW)) ((unhide HRC).below hW) h1 h2
    have KT : Hid (∀ W, Below w8.heap.size w8 W → Calls Tryz.prog 6 #[] W (BoolB W true)) := fun W hW => told_any6 W ((unhide HG).on (bthen (unhide HBW8) hW)) ((unhide HS).on (bthen (unhide HBW8) hW))
    have HCX : Hid (∀ k, k < cs.length → ∃ b off, co = some ⟨b, off, none⟩ ∧ (-2147483648 ≤ cs.getD k 0 ∧ cs.getD k 0 ≤ 2147483647) ∧ ∀ W, Below w8.heap.size w8 W → W.cell? ⟨b, off + k, none⟩ = some (.int .i32 (cs.getD k 0))) := fun k hk => by
      obtain ⟨b, off, cp, he, _, _, hc⟩ := (unhide HCS).place (by omega)
      exact ⟨b, off, (Value.slice.inj he).1, rune_of (unhide HCS) hk, fun W hW => by rw [(bthen (unhide HBW8) hW).cell (lt_of_cell? (hc k hk))]; exact hc k hk⟩
    clear HG HS HIN HRC HB8 HB1 HCS
    obtain ⟨⟨q1, q2⟩, hq⟩ : ∃ q, Cn.check6 rs = q := ⟨_, rfl⟩
    obtain ⟨⟨t1, t2⟩, ht⟩ : ∃ q, Cn.check6 (rs ++ [r]) = q := ⟨_, rfl⟩
    rw [hq] at KC1 HPRE
    rw [ht] at KC2 HPRE
    clear hq ht
    go_wp2_with fail
    refine (unhide KC1).mono ?_
    rintro e w9 ⟨rfl, b9⟩
    have KC3 := hide ((unhide KC2) w9 b9)
    have HB9 := hide b9
    clear KC1 KC2 b9
    go_wp2_with fail
    refine (unhide KC3).mono ?_
    rintro e w10 ⟨rfl, b10⟩
    have HB10 := hide (bthen (unhide HB9) b10)
    clear KC3 b10 HB9
    by_cases hq0 : q2 = 0
    case' neg =>
      have ht0 : ¬ t2 = 0 := fun h => hq0 ((unhide HPRE) h)
      have n1 : (q2 != 0) = true := by simpa using hq0
      have n2 : (t2 != 0) = true := by simpa using ht0
      have n3 : (q2 == 0) = false := by rw [beq_eq_false_iff_ne]; exact hq0
      have K := hide ((unhide KT) w10 (unhide HB10))
      clear HPRE hq0 ht0 KF1 KF2 KT HCX
      go_wp2_with fail
      refine (unhide K).mono ?_
      rintro e w11 ⟨rfl, b11⟩
      have HB11 := hide (bthen (unhide HBW8) (bthen (unhide HB10) b11))
      clear K b11
      go_wp2
      go_ret
      exact ⟨rfl, unhide HB11⟩
    subst hq0
    by_cases ht0 : t2 = 0
    case' neg =>
      have n2 : (t2 != 0) = true := by simpa using ht0
      have K := hide ((unhide KT) w10 (unhide HB10))
      clear HPRE ht0 KF1 KF2 KT HCX
      go_wp2_with fail
      refine (unhide K).mono ?_
      rintro e w11 ⟨rfl, b11⟩
      have HB11 := hide (bthen (unhide HBW8) (bthen (unhide HB10) b11))
      clear K b11
      go_wp2
      go_ret
      exact ⟨rfl, unhide HB11⟩
    subst ht0
    clear HPRE
    go_wp2
    go_loopw [13, 14, 15, 16] (fun iv _ _ _ wr => ∃ k : Nat, iv = .int .i64 k ∧ k ≤ cs.length ∧ k ≤ 40 ∧ Below w8.heap.size w8 wr) (fun iv _ _ _ _ => 40 - (intOf iv).toNat)
    case atStart => exact ⟨0, rfl, by omega, by omega, unhide HB10⟩
    case round =>
      clear HB10
      obtain ⟨k, rfl, hk, hk4, hbr⟩ := hrel
      by_cases hlt : k < cs.length ∧ k < 40
      · obtain ⟨hlt1, hlt2⟩ := hlt
        have hL1 : (k : Int) < cs.length := by omega
        have hL2 : (k : Int) < 40 := by omega
        obtain ⟨b, off, rfl, hrc, hcx⟩ := (unhide HCX) k hlt1
        have HXC := hide hcx
        have HBO := hide hbr
        clear hcx hbr HCX KT
        obtain ⟨c, hc⟩ : ∃ c, cs.getD k 0 = c := ⟨_, rfl⟩
        rw [hc] at HXC hrc
        clear hc
        obtain ⟨wo, hwo⟩ : ∃ wo, wo = wr := ⟨_, rfl⟩
        rw [← hwo] at HBO
        go_wp2
        subst hwo
        go_loopw [14, 15, 16] (fun jv _ _ wr => ∃ m : Nat, jv = .int .i64 m ∧ 1 ≤ m ∧ m ≤ 10 ∧ Below w8.heap.size w8 wr) (fun jv _ _ _ => 10 - (intOf jv).toNat)
        case atStart => exact ⟨1, rfl, by omega, by omega, unhide HBO⟩
        case round =>
          clear HBO
          obtain ⟨m, rfl, hm1, hm10, hb⟩ := hrel
          by_cases hm : m ≤ 9
          · have hM : (m : Int) ≤ 9 := by omega
            have hI : I64 (m : Int) := by unfold I64; omega
            have HBM := hide hb
            have KA : Hid (∀ W, Below w8.heap.size w8 W → Calls Tryz.prog 11 #[.slice (some ⟨g, 0, none⟩) rs.length cap, .int .i64 (m : Int), .int .i32 c] W (IntB W (Cn.find rs m c))) := fun W hW => (unhide KF1) W m c hW hI hrc
            have KB : Hid (∀ W, Below w8.heap.size w8 W → Calls Tryz.prog 11 #[.slice (some ⟨gg, 0, none⟩) nw cap8, .int .i64 (m : Int), .int .i32 c] W (IntB W (Cn.find (rs ++ [r]) m c))) := fun W hW => (unhide KF2) W m c hW hI hrc
            have hsn := Cn.find_snoc rs r m c
            have hmo := Cn.find_most rs m c
            clear hb KF1 KF2
            generalize Cn.find rs m c = fa at *
            generalize Cn.find (rs ++ [r]) m c = fb at *
            have hbd := (unhide HBM).drew
            have HSN := hide hsn
            clear hsn
            go_wp2
            refine wp_region_held_drew (S := fun w' => Below w8.heap.size w8 w') (by kernel_rfl) (hbd) (fun hHeld => ?_)
            refine wpAnyH_take (i := 0) (oi := { dst := some 64, op := Op.move (Operand.tmp 7), type := 22, pos := "more.go:50", after := #[], guard := none }) (v := .slice (some ⟨g, 0, none⟩) rs.length cap) rfl (by kernel_rfl) (by kernel_rfl) (by kernel_rfl) (fun _ _ _ h => h) (Or.inl ⟨by rfl, ?_⟩) hHeld ?_
            · intro w hSw
              go_simp
            try simp only [Act.put, List.setIfInBounds_toArray, List.set_cons_zero, List.set_cons_succ]
            refine wpAnyH_take (i := 1) (oi := { dst := some 65, op := Op.move (Operand.tmp 14), type := 3, pos := "more.go:50", after := #[], guard := none }) (v := .int .i64 (m : Int)) rfl (by kernel_rfl) (by kernel_rfl) (by kernel_rfl) (fun _ _ _ h => h) (Or.inl ⟨by rfl, ?_⟩) hHeld ?_
            · intro w hSw
              go_simp
            try simp only [Act.put, List.setIfInBounds_toArray, List.set_cons_zero, List.set_cons_succ]
            refine wpAnyH_take (i := 2) (oi := { dst := some 66, op := Op.move (Operand.tmp 2), type := 26, pos := "more.go:50", after := #[], guard := none }) (v := .slice (some ⟨b, off, none⟩) cs.length cc) rfl (by kernel_rfl) (by kernel_rfl) (by kernel_rfl) (fun _ _ _ h => h) (Or.inl ⟨by rfl, ?_⟩) hHeld ?_
            · intro w hSw
              go_simp
            try simp only [Act.put, List.setIfInBounds_toArray, List.set_cons_zero, List.set_cons_succ]
            refine wpAnyH_take (i := 3) (oi := { dst := some 67, op := Op.move (Operand.tmp 13), type := 3, pos := "more.go:50", after := #[], guard := none }) (v := .int .i64 (k : Int)) rfl (by kernel_rfl) (by kernel_rfl) (by kernel_rfl) (fun _ _ _ h => h) (Or.inl ⟨by rfl, ?_⟩) hHeld ?_
            · intro w hSw
              go_simp
            try simp only [Act.put, List.setIfInBounds_toArray, List.set_cons_zero, List.set_cons_succ]
            refine wpAnyH_take (i := 4) (oi := { dst := some 68, op := Op.indexAddr 26 (Operand.tmp 66) (Operand.tmp 67), type := 0, pos := "more.go:50", after := #[{ on := 2, ground := Ground.data }, { on := 3, ground := Ground.data }], guard := none }) (v := .pointer (some ⟨b, off + k, none⟩)) rfl (by kernel_rfl) (by kernel_rfl) (by kernel_rfl) (fun _ _ _ h => h) (Or.inl ⟨by rfl, ?_⟩) hHeld ?_
            · intro w hSw
              go_simp
            try simp only [Act.put, List.setIfInBounds_toArray, List.set_cons_zero, List.set_cons_succ]
            refine wpAnyH_take (i := 5) (oi := { dst := some 69, op := Op.load 21 (Operand.tmp 68), type := 21, pos := "more.go:50", after := #[{ on := 4, ground := Ground.data }], guard := none }) (v := .int .i32 c) rfl (by kernel_rfl) (by kernel_rfl) (by kernel_rfl) (fun _ _ _ h => h) (Or.inl ⟨by rfl, ?_⟩) hHeld ?_
            · intro w hSw
              have s0 := (unhide HXC) w hSw; go_simp
            try simp only [Act.put, List.setIfInBounds_toArray, List.set_cons_zero, List.set_cons_succ]
            refine wpAnyH_take (i := 7) (oi := { dst := some 71, op := Op.move (Operand.tmp 8), type := 22, pos := "more.go:50", after := #[], guard := none }) (v := .slice (some ⟨gg, 0, none⟩) nw cap8) rfl (by kernel_rfl) (by kernel_rfl) (by kernel_rfl) (fun _ _ _ h => h) (Or.inl ⟨by rfl, ?_⟩) hHeld ?_
            · intro w hSw
              go_simp
            try simp only [Act.put, List.setIfInBounds_toArray, List.set_cons_zero, List.set_cons_succ]
            refine wpAnyH_take (i := 8) (oi := { dst := some 72, op := Op.move (Operand.tmp 14), type := 3, pos := "more.go:50", after := #[], guard := none }) (v := .int .i64 (m : Int)) rfl (by kernel_rfl) (by kernel_rfl) (by kernel_rfl) (fun _ _ _ h => h) (Or.inl ⟨by rfl, ?_⟩) hHeld ?_
            · intro w hSw
              go_simp
            try simp only [Act.put, List.setIfInBounds_toArray, List.set_cons_zero, List.set_cons_succ]
            refine wpAnyH_take (i := 9) (oi := { dst := some 73, op := Op.move (Operand.tmp 2), type := 26, pos := "more.go:50", after := #[], guard := none }) (v := .slice (some ⟨b, off, none⟩) cs.length cc) rfl (by kernel_rfl) (by kernel_rfl) (by kernel_rfl) (fun _ _ _ h => h) (Or.inl ⟨by rfl, ?_⟩) hHeld ?_
            · intro w hSw
              go_simp
            try simp only [Act.put, List.setIfInBounds_toArray, List.set_cons_zero, List.set_cons_succ]
            refine wpAnyH_take (i := 10) (oi := { dst := some 74, op := Op.move (Operand.tmp 13), type := 3, pos := "more.go:50", after := #[], guard := none }) (v := .int .i64 (k : Int)) rfl (by kernel_rfl) (by kernel_rfl) (by kernel_rfl) (fun _ _ _ h => h) (Or.inl ⟨by rfl, ?_⟩) hHeld ?_
            · intro w hSw
              go_simp
            try simp only [Act.put, List.setIfInBounds_toArray, List.set_cons_zero, List.set_cons_succ]
            refine wpAnyH_take (i := 11) (oi := { dst := some 75, op := Op.indexAddr 26 (Operand.tmp 73) (Operand.tmp 74), type := 0, pos := "more.go:50", after := #[{ on := 9, ground := Ground.data }, { on := 10, ground := Ground.data }], guard := none }) (v := .pointer (some ⟨b, off + k, none⟩)) rfl (by kernel_rfl) (by kernel_rfl) (by kernel_rfl) (fun _ _ _ h => h) (Or.inl ⟨by rfl, ?_⟩) hHeld ?_
            · intro w hSw
              go_simp
            try simp only [Act.put, List.setIfInBounds_toArray, List.set_cons_zero, List.set_cons_succ]
            refine wpAnyH_take (i := 12) (oi := { dst := some 76, op := Op.load 21 (Operand.tmp 75), type := 21, pos := "more.go:50", after := #[{ on := 11, ground := Ground.data }], guard := none }) (v := .int .i32 c) rfl (by kernel_rfl) (by kernel_rfl) (by kernel_rfl) (fun _ _ _ h => h) (Or.inl ⟨by rfl, ?_⟩) hHeld ?_
            · intro w hSw
              have s0 := (unhide HXC) w hSw; go_simp
            try simp only [Act.put, List.setIfInBounds_toArray, List.set_cons_zero, List.set_cons_succ]
            refine wpAnyH_ready (rs := [6]) (by kernel_rfl) (by simp) ?_
            refine AllReadyH.cons (o := { dst := some 70, op := Op.call { callee := Callee.value (Operand.func 11), args := #[Operand.tmp 64, Operand.tmp 65, Operand.tmp 69], argTypes := #[22, 3, 21] }, type := 3, pos := "more.go:50", after := #[{ on := 0, ground := Ground.data }, { on := 1, ground := Ground.data }, { on := 5, ground := Ground.data }], guard := none }) rfl (fun K hK => ?_) AllReadyH.nil
            go_simp
            refine ((unhide KA) _ hHeld).mono ?_
            rintro e4 w14 ⟨rfl, b4⟩
            have HB14 := hide (bthen hHeld b4)
            clear hHeld b4
            refine hK.out _ _ ?_ (fun hHeld => ?_)
            · exact unhide HB14
            clear hK K
            try simp only [Act.put, List.setIfInBounds_toArray, List.set_cons_zero, List.set_cons_succ]
            refine wpAnyH_ready (rs := [13]) (by kernel_rfl) (by simp) ?_
            refine AllReadyH.cons (o := { dst := some 77, op := Op.call { callee := Callee.value (Operand.func 11), args := #[Operand.tmp 71, Operand.tmp 72, Operand.tmp 76], argTypes := #[22, 3, 21] }, type := 3, pos := "more.go:50", after := #[{ on := 7, ground := Ground.data }, { on := 8, ground := Ground.data }, { on := 12, ground := Ground.data }, { on := 6, ground := Ground.chain }], guard := none }) rfl (fun K hK => ?_) AllReadyH.nil
            go_simp
            refine ((unhide KB) _ hHeld).mono ?_
            rintro e5 w15 ⟨rfl, b5⟩
            have HB15 := hide (bthen hHeld b5)
            clear hHeld b5
            refine hK.out _ _ ?_ (fun hHeld => ?_)
            · exact unhide HB15
            clear hK K
            try simp only [Act.put, List.setIfInBounds_toArray, List.set_cons_zero, List.set_cons_succ]
            refine wpAnyH_take (i := 14) (oi := { dst := some 15, op := Op.assign (Operand.tmp 70), type := 3, pos := "more.go:50", after := #[{ on := 6, ground := Ground.data }, { on := 13, ground := Ground.chain }, { on := 0, ground := Ground.phase }, { on := 1, ground := Ground.phase }, { on := 2, ground := Ground.phase }, { on := 3, ground := Ground.phase }, { on := 4, ground := Ground.phase }, { on := 5, ground := Ground.phase }, { on := 6, ground := Ground.phase }, { on := 7, ground := Ground.textOnly Departure.lateStores }, { on := 8, ground := Ground.textOnly Departure.lateStores }, { on := 9, ground := Ground.textOnly Departure.lateStores }, { on := 10, ground := Ground.textOnly Departure.lateStores }, { on := 11, ground := Ground.textOnly Departure.lateStores }, { on := 12, ground := Ground.textOnly Departure.lateStores }, { on := 13, ground := Ground.textOnly Departure.lateStoresUnsure }], guard := none }) (v := .int .i64 fa) rfl (by kernel_rfl) (by kernel_rfl) (by kernel_rfl) (fun _ _ _ h => h) (Or.inl ⟨by rfl, ?_⟩) hHeld ?_
            · intro w hSw
              go_simp
            try simp only [Act.put, List.setIfInBounds_toArray, List.set_cons_zero, List.set_cons_succ]
            refine wpAnyH_take (i := 15) (oi := { dst := some 16, op := Op.assign (Operand.tmp 77), type := 3, pos := "more.go:50", after := #[{ on := 13, ground := Ground.data }, { on := 14, ground := Ground.chain }, { on := 0, ground := Ground.phase }, { on := 1, ground := Ground.phase }, { on := 2, ground := Ground.phase }, { on := 3, ground := Ground.phase }, { on := 4, ground := Ground.phase }, { on := 5, ground := Ground.phase }, { on := 6, ground := Ground.phase }, { on := 7, ground := Ground.phase }, { on := 8, ground := Ground.phase }, { on := 9, ground := Ground.phase }, { on := 10, ground := Ground.phase }, { on := 11, ground := Ground.phase }, { on := 12, ground := Ground.phase }, { on := 13, ground := Ground.phase }, { on := 14, ground := Ground.phase }], guard := none }) (v := .int .i64 fb) rfl (by kernel_rfl) (by kernel_rfl) (by kernel_rfl) (fun _ _ _ h => h) (Or.inl ⟨by rfl, ?_⟩) hHeld ?_
            · intro w hSw
              go_simp
            try simp only [Act.put, List.setIfInBounds_toArray, List.set_cons_zero, List.set_cons_succ]
            refine wpAnyH_done (by kernel_rfl) ?_ _
            clear hHeld HB14 hbd KA KB HBM HXC
            have hsn := unhide HSN
            clear HSN
            rcases hsn with ⟨ha, rfl⟩ | ⟨rfl, rfl | rfl⟩
            case' inl => have hne : (fb != fb) = false := by simp
            case' inr.inr => have hne : ((rs.length : Int) != (rs.length : Int)) = false := by simp
            all_goals
              go_wp2
              go_roundw
              case rel => exact ⟨m + 1, by go_num, by omega, by omega, unhide HB15⟩
              case measure => simp [intOf]; omega
          · have hM : ¬ (m : Int) ≤ 9 := by omega
            have HBE := hide hb
            clear hb KF1 KF2 HXC
            go_wp2
            exact ⟨⟨k + 1, by go_num, by omega, by omega, unhide HBE⟩, by simp [intOf]; omega⟩
      · have K := hide ((unhide KT) wr hbr)
        have HBE := hide hbr
        have hway : ¬ ((k : Int) < cs.length) ∨ ((k : Int) < cs.length ∧ ¬ ((k : Int) < 40)) := by omega
        clear hbr hlt KF1 KF2 KT HCX
        rcases hway with h1 | ⟨h1, h2⟩
        all_goals
          go_wp2_with fail
          refine (unhide K).mono ?_
          rintro e w11 ⟨rfl, b11⟩
          have HB11 := hide (bthen (unhide HBW8) (bthen (unhide HBE) b11))
          clear K b11
          go_wp2
          go_ret
          exact ⟨rfl, unhide HB11⟩
end Go.Proofs.YtceflkeaenepcaaGreatDoor
