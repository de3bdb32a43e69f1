/- The contract of slices.Insert at runes, one number put in: in room of the list's own or in a new list. -/
import Derived.Test.YtgccindoinhphaaPuM11
import Derived.Test.YtgccindoinhphaaPuA11
import Derived.Test.YtgccindoinhphaaPost
import Derived.WalkKit
import Derived.Lib.Walk
import Derived.Lib.SliceRun
import Derived.Lib.AppendZerosOnto
import Derived.Lib.Overlaps
import Derived.Laws.Externs
import Derived.Deep.AppendLies
import Derived.Shelf.RegionOpenPlain
namespace Go.Proofs.Ytgccindoinhphaa
open Go.RowKit

def InsPost (B : Nat) (v : Value) (w : World) (xs : List Int) (e : Ending) (w' : World) : Prop :=
  ∃ v', e = .returned v' ∧ Ok .i32 21 w' B v' xs ∧ w.grownBy w' v.ownBlock ∧ ∀ g, v'.ownBlock = some g → v.ownBlock = some g ∨ w.heap.size ≤ g

theorem wp_copy_runQ {P : Program} (w : World) {o : Oper} {a : Act} {K : Act → World → Prop} {Q : Exit → Act → World → Prop} (d s : Operand) (t u : TypeId)
    (ho : o.op = .call { callee := .builtin .copy, args := #[d, s], argTypes := #[t, u] }) (v x : Value) (hd : a.eval d = v) (hs : a.eval s = x) {v' : Value} {w' : World}
    (hr : (Builtin.copy_ #[t, u] o.type #[v, x]).run P w = .ok v' w') (h : K (a.put o.dst v') w') : o.wp P a w K Q := by
  unfold Oper.wp execOp
  simp only [ho, resolve, invoke, builtin, Sem.run_bind, Sem.run_pure, Result.andThen_ok, List.map_toArray, List.map_cons, List.map_nil, hd, hs, hr]
  exact h
theorem wpList_copy_runQ {P : Program} (w : World) {ops : Array Oper} {rest : List Oper} {o : Oper} {a : Act} {Q : Exit → Act → World → Prop} (hgd : o.guard = none) (d s : Operand) (t u : TypeId)
    (ho : o.op = .call { callee := .builtin .copy, args := #[d, s], argTypes := #[t, u] }) (v x : Value) (hd : a.eval d = v) (hs : a.eval s = x) {v' : Value} {w' : World}
    (hr : (Builtin.copy_ #[t, u] o.type #[v, x]).run P w = .ok v' w') (h : wpList P ops Q rest (a.put o.dst v') w') : wpList P ops Q (o :: rest) a w :=
  wpList_plain hgd fun _ hK => wp_copy_runQ w d s t u ho v x hd hs hr (hK _ _ h)
theorem step_copy_runQ {P : Program} {ops : Array Oper} {o : Oper} {a : Act} {w : World} {K : Act → World → Prop} {Q : Exit → Act → World → Prop} {E : Prop}
    (hg : o.guard = none) (d x : Operand) (dT sT : TypeId) (hop : o.op = Op.call { callee := Callee.builtin Builtin.copy, args := #[d, x], argTypes := #[dT, sT] })
    (v u : Value) (hd : a.eval d = v) (hx : a.eval x = u) {v' : Value} {w' : World} (hr : (Builtin.copy_ #[dT, sT] o.type #[v, u]).run P w = .ok v' w') (hK : K (a.put o.dst v') w') :
    if Region.wanted o (yielded ops a.tmps) = true then Oper.wp P o a w K Q else E := by
  have hw : Region.wanted o (yielded ops a.tmps) = true := by simp [Region.wanted, hg]
  rw [if_pos hw]
  unfold Oper.wp
  simp [execOp, hop, resolve, invoke, builtin, hd, hx, hr, Result.andThen]
  exact hK

theorem infoR : (Try.prog.info? 21).map (fun i => (i.zero, i.size, i.bytes)) = some (some (.int .i32 0), 1, 4) := by kernel_rfl
theorem infoR_parts : ∃ i, Try.prog.info? 21 = some i ∧ i.zero = some (.int .i32 0) ∧ i.size = 1 ∧ i.bytes = 4 := by
  have h := infoR
  cases hq : Try.prog.info? 21 with
  | none => rw [hq] at h; simp at h
  | some i => rw [hq] at h; simp at h; exact ⟨i, rfl, h.1, h.2.1, h.2.2⟩

theorem Fit.ins {xs : List Int} {c : Int} (h : Fit .i32 xs) (hc : -2147483648 ≤ c ∧ c ≤ 2147483647) (p : Nat) : Fit .i32 (Pu.ins xs p c) := by
  intro z hz
  unfold Pu.ins at hz
  rcases List.mem_append.1 hz with hz | hz
  · exact h z (List.mem_of_mem_take hz)
  · rcases List.mem_cons.1 hz with hz | hz
    · subst hz; exact i32_fit hc
    · exact h z (List.mem_of_mem_drop hz)
theorem ins_len (xs : List Int) (p : Nat) (c : Int) : (Pu.ins xs p c).length = xs.length + 1 := by unfold Pu.ins; simp; omega
theorem ins_map (xs : List Int) (p : Nat) (c : Int) : (Pu.ins xs p c).map (Value.int .i32) = (xs.map (Value.int .i32)).take p ++ .int .i32 c :: (xs.map (Value.int .i32)).drop p := by unfold Pu.ins; simp
theorem ins_end (xs : List Int) (c : Int) : Pu.ins xs xs.length c = xs ++ [c] := by unfold Pu.ins; simp

set_option maxHeartbeats 2000000 in
set_option maxRecDepth 20000 in
theorem insert_end (B : Nat) (v : Value) (xs : List Int) (c : Int) (w : World) (g : Nat) (hv : Ok .i32 21 w B v xs) (hl : xs.length ≤ 1000000) (hB : B ≤ w.heap.size)
    (hg : w.heap[g]? = some (.cells #[.int .i32 c] 21 (0, 0))) (hc : -2147483648 ≤ c ∧ c ≤ 2147483647) :
    Calls Try.prog 44 #[v, .int .i64 xs.length, .slice (some ⟨g, 0, none⟩) 1 1] w (InsPost B v w (Pu.ins xs xs.length c)) := by
  obtain ⟨i0, hi, hz0, hz1, hz2⟩ := infoR_parts
  have hrow := hv.row
  have hcell : ∀ j u, [Value.int .i32 c][j]? = some u → w.cell? ((⟨g, 0, none⟩ : Addr).add j) = some u := by
    intro j u hj
    have : j = 0 := by
      have := (List.getElem?_eq_some_iff.1 hj).1
      simpa using this
    subst this
    simp at hj
    rw [addr_add, ← hj]
    simp [World.cell?, hg]
  have HX : Hid (∀ g' cap' w', w'.ownsRow B 21 1 (.slice (some ⟨g', 0, none⟩) (xs.length + 1) cap') (xs.length + 1) (xs.map (Value.int .i32) ++ [.int .i32 c]) → w.grownBy w' v.ownBlock → (v.ownBlock = some g' ∨ g' = w.heap.size) →
      InsPost B v w (Pu.ins xs xs.length c) (.returned (.slice (some ⟨g', 0, none⟩) (xs.length + 1) cap')) w') := by
    intro g' cap' w' h1 h2 h3
    refine ⟨_, rfl, Ok.of (hv.1.ins hc _) (by rw [ins_len]; omega) h1 (by rw [ins_len]) (by rw [ins_end]; simp), h2, fun k hk => ?_⟩
    have : k = g' := by simpa [Value.ownBlock] using hk.symm
    subst this
    rcases h3 with h3 | h3
    · exact .inl h3
    · exact .inr (by omega)
  generalize Pu.ins xs xs.length c = ys at *
  obtain ⟨ao, cap, hvv, hcap1, hcap2⟩ := hv.sk.shape
  clear hv hg
  generalize xs.map (Value.int .i32) = us at *
  generalize xs.length = n at *
  have hrow2 := hide hrow
  rw [hvv]
  rw [hvv] at hrow HX
  clear hrow2 hvv
  rcases Nat.lt_or_ge n cap with hlt | hge
  · go_enter Try.func44, Try.ntmps44
    go_wp2_with (at_builtin; refine wpList_append_lies _ rfl (.tmp 23) (.tmp 24) 22 rfl B 21 i0 (.int .i32 0) 1 4 Try.underlying22 hi hz0 hz1 hz2 rfl (by decide) _ _ _ rfl hrow ⟨g, 0, none⟩ 1 1 [.int .i32 c] rfl rfl hcell (int_one .i32 _) (by omega) (by unfold maxLen; omega) (by omega) (by omega) w.heap.size rfl ?_)
    intro g' cap' w' h1 h2 h3 h4
    have HG := hide (unhide HX g' cap' w' h1 h2 h3)
    clear h1 h2 h3 h4 HX
    go_wp2
    go_ret
    exact unhide HG
  · have he : cap = n := by omega
    subst he
    go_enter Try.func44, Try.ntmps44
    go_wp2_with (at_builtin; refine wpList_append_lies _ rfl (.tmp 23) (.tmp 24) 22 rfl B 21 i0 (.int .i32 0) 1 4 Try.underlying22 hi hz0 hz1 hz2 rfl (by decide) _ _ _ rfl hrow ⟨g, 0, none⟩ 1 1 [.int .i32 c] rfl rfl hcell (int_one .i32 _) (by omega) (by unfold maxLen; omega) (by omega) (by omega) w.heap.size rfl ?_)
    intro g' cap' w' h1 h2 h3 h4
    have HG := hide (unhide HX g' cap' w' h1 h2 h3)
    clear h1 h2 h3 h4 HX
    go_wp2
    go_ret
    exact unhide HG
theorem overlaps_no (w : World) (g b o lb cb : Nat) (hne : g ≠ b) (c : Int) (e : TypeId) (hg : w.heap[g]? = some (.cells #[.int .i32 c] 21 (0, 0))) (cur : Array Value) (hb : w.heap[b]? = some (.cells cur e (0, 0))) (hk : cur.size ≠ 0) :
    (callFunc 53 #[.slice (some ⟨g, 0, none⟩) 1 1, .slice (some ⟨b, o, none⟩) lb cb]).run Try.prog w = .ok (.value (.bool false)) w := by
  rw [run_callFunc_extern Try.func53 (by kernel_rfl) (by kernel_rfl) (by kernel_rfl) (e := Extern.SlicesOverlaps.overlaps #[22, 22] #[4]) (by kernel_rfl),
    Lib.run_overlaps_apart w 22 4 21 Try.underlying22 1 (fun w => by kernel_rfl) ⟨g, 0, none⟩ ⟨b, o, none⟩ 1 1 lb cb hne 21 e 1 cur.size (by simp [World.shape?, hg]) (by simp [World.shape?, hb]) hk (by simp [World.frozen?, hg]) (by simp [World.frozen?, hg])]
  rfl

theorem shift_list {us : List Value} {p : Nat} {u x : Value} {rest : List Value} (hp : p < us.length) :
    ((laid (laid (us ++ x :: rest) (p + 1) (us.drop p)) p [u]).take (us.length + 1)) = us.take p ++ u :: us.drop p := by
  have h1 : laid (us ++ x :: rest) (p + 1) (us.drop p) = us.take p ++ [us.getD p undef] ++ us.drop p ++ rest := by
    unfold laid
    have e1 : (us ++ x :: rest).take (p + 1) = us.take p ++ [us.getD p undef] := by
      rw [List.take_append_of_le_length (by omega)]
      rw [List.take_add_one, List.getElem?_eq_getElem hp, List.getD, List.getElem?_eq_getElem hp]
      rfl
    have e2 : (us ++ x :: rest).drop (p + 1 + (us.drop p).length) = rest := by
      rw [List.length_drop, List.drop_append, List.drop_eq_nil_of_le (by omega), show p + 1 + (us.length - p) - us.length = 1 by omega]
      rfl
    rw [e1, e2]
  rw [h1]
  unfold laid
  have hl : (us.take p).length = p := by rw [List.length_take]; omega
  have e1 : (us.take p ++ [us.getD p undef] ++ us.drop p ++ rest).take p = us.take p := by
    rw [List.append_assoc, List.append_assoc, List.take_append_of_le_length (by omega), List.take_of_length_le (by omega)]
  have e2 : (us.take p ++ [us.getD p undef] ++ us.drop p ++ rest).drop (p + [u].length) = us.drop p ++ rest := by
    rw [List.append_assoc, List.drop_append, List.drop_eq_nil_of_le (by simp; omega)]
    simp only [List.length_append, List.length_singleton, hl, Nat.sub_self, List.drop_zero, List.nil_append]
  rw [e1, e2]
  rw [show us.take p ++ [u] ++ (us.drop p ++ rest) = (us.take p ++ u :: us.drop p) ++ rest by simp]
  rw [List.take_append_of_le_length (by simp; omega), List.take_of_length_le (by simp; omega)]
theorem drop_oneCell {us : List Value} (h : ∀ u ∈ us, u.oneCell' = true) (p : Nat) : ∀ u ∈ us.drop p, u.oneCell' = true := fun u hu => h u (List.mem_of_mem_drop hu)

theorem infoR_size : (Try.prog.info? 21).map (·.size) = some 1 := by
  obtain ⟨i, h, _, h1, _⟩ := infoR_parts
  rw [h]; simp [h1]

set_option maxHeartbeats 4000000 in
set_option maxRecDepth 100000 in
theorem insert_shift (b n cap p g : Nat) (cur : Array Value) (us : List Value) (c : Int) (w : World) (hp : p < n) (hroom : n + 1 ≤ cap) (hc63 : cap ≤ 9223372036854775807) (hne : g ≠ b)
    (hb : w.heap[b]? = some (.cells cur 21 (0, 0))) (hsz : cur.size = cap) (hus : cur.toList.take n = us) (hone : ∀ u ∈ us, u.oneCell' = true)
    (hg : w.heap[g]? = some (.cells #[.int .i32 c] 21 (0, 0))) :
    Calls Try.prog 44 #[.slice (some ⟨b, 0, none⟩) n cap, .int .i64 p, .slice (some ⟨g, 0, none⟩) 1 1] w fun e w' =>
      e = .returned (.slice (some ⟨b, 0, none⟩) (n + 1) cap) ∧ w' = (w.drew.setCells b (p + 1) (us.drop p)).setCells b p [.int .i32 c] := by
  have hul : us.length = n := by rw [← hus, List.length_take]; simp; omega
  have hdl : (us.drop p).length = n - p := by rw [List.length_drop, hul]
  have hcell : ∀ j, j < cap → (w.cell? ⟨b, j, none⟩).isSome = true := fun j hj => by simp [World.cell?, hb]; omega
  have hfz : ∀ j, w.frozen? ⟨b, j, none⟩ = false := fun j => by simp [World.frozen?, hb]
  have hcs : ∀ j u, us[j]? = some u → w.cell? ⟨b, j, none⟩ = some u := fun j u hj => by
    rw [← hus, List.getElem?_take] at hj
    split at hj
    · simp [World.cell?, hb]; simpa using hj
    · cases hj
  have hov : ∀ lb cb, (callFunc 53 #[.slice (some ⟨g, 0, none⟩) 1 1, .slice (some ⟨b, p + 1, none⟩) lb cb]).run Try.prog w = .ok (.value (.bool false)) w := fun lb cb => overlaps_no w g b (p + 1) lb cb hne c 21 hg cur hb (by omega)
  have hcp1 : ∀ ty dc sc, (Builtin.copy_ #[22, 22] ty #[.slice (some ⟨b, p + 1, none⟩) (n - p) dc, .slice (some ⟨b, p, none⟩) (n + 1 - p) sc]).run Try.prog w.drew = .ok (goInt (us.drop p).length) (w.drew.setCells b (p + 1) (us.drop p)) := fun ty dc sc =>
    run_copy_cells w.drew _ _ ty 21 b (p + 1) (n - p) dc ⟨b, p, none⟩ (n + 1 - p) sc (us.drop p) Try.underlying22 infoR_size (by rw [hdl]; simp only [Nat.min_def]; split <;> omega)
      (fun j v hj => by rw [addr_add]; exact hcs (p + j) v (by rwa [List.getElem?_drop] at hj))
      (fun j hj => hcell _ (by omega)) (fun j hj => hfz _) (drop_oneCell hone p)
  obtain ⟨W1, hW1⟩ : ∃ W1, W1 = w.drew.setCells b (p + 1) (us.drop p) := ⟨_, rfl⟩
  have hsp1 : ∀ k, k < cap → (W1.cell? ⟨b, k, none⟩).isSome = true := fun k hk => by
    obtain ⟨cur', h1, h2⟩ := sets_block b (us.drop p) (p + 1) w.drew cur _ _ hb (by omega)
    have h3 : cur'.size = cap := by
      have := congrArg List.length h2
      simp [laid] at this
      omega
    rw [hW1]
    simp [World.cell?, h1]; omega
  have hcp2 : ∀ (W : World), (∀ x, W.cell? x = W1.cell? x) → (∀ x, W.frozen? x = W1.frozen? x) → ∀ ty dc, (Builtin.copy_ #[22, 22] ty #[.slice (some ⟨b, p, none⟩) (n + 1 - p) dc, .slice (some ⟨g, 0, none⟩) 1 1]).run Try.prog W = .ok (goInt 1) (W.setCells b p [.int .i32 c]) := fun W hWc hWf ty dc =>
    run_copy_cells W _ _ ty 21 b p (n + 1 - p) dc ⟨g, 0, none⟩ 1 1 [.int .i32 c] Try.underlying22 infoR_size (by simp only [Nat.min_def, List.length_singleton]; split <;> omega)
      (fun j v hj => by
        rw [addr_add, hWc, hW1, World.cell?_setCells_out b _ _ _ _ (fun h _ => absurd h hne)]
        have : j = 0 := by simpa using (List.getElem?_eq_some_iff.1 hj).1
        subst this
        simp at hj
        subst hj
        show w.cell? ⟨g, 0 + 0, none⟩ = _
        simp [World.cell?, hg])
      (fun j hj => by rw [hWc]; simp at hj; subst hj; exact hsp1 _ (by omega)) (fun j hj => by rw [hWf, hW1, World.frozen?_setCells]; exact hfz _) (int_one .i32 c)
  rw [← hW1] at hcp1 ⊢
  have hz2 : ¬ ((p : Int) = (n : Int)) := by omega
  have hb2 : ¬ (cap = p + 1) := by omega
  have hb4 : ¬ (cap = p) := by omega
  have mixed : Try.prog.follows Departure.mixedOrders = true := by kernel_rfl
  have hw1 : IntKind.i64.wrap ((p : Int) + 1) = (p : Int) + 1 := by rw [IntKind.wrap_i64]; omega
  have hb1 : (0 : Int) ≤ (p : Int) + 1 := by omega
  have hin : p ≤ n := by omega
  have htn : ((p : Int) + 1).toNat = p + 1 := by omega
  have hb3 : (p : Int) ≤ (n : Int) + 1 := by omega
  clear hW1 hsp1 hcs hfz hcell hul hdl hus hone hb hg hsz
  go_enter Try.func44, Try.ntmps44
  go_wp2_with (simp only [hov])
  go_region_law_o (refine step_copy_runQ rfl _ _ 22 22 rfl _ _ (by simp [Act.eval, Act.put]) (by simp [Act.eval, Act.put]) (hcp1 _ _ _) ?_)
  go_wp2_with (at_builtin; refine wpList_copy_runQ _ rfl _ _ 22 22 rfl _ _ rfl rfl (hcp2 _ (fun _ => rfl) (fun _ => rfl) _ _) ?_)
  go_ret
  exact ⟨rfl, rfl⟩
end Go.Proofs.Ytgccindoinhphaa
