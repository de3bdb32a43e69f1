import Derived.Test.YtceflkeaenepcaaGreatDoorN0
import Derived.Deep.QuietTactic
import Derived.BigQuiet
import Derived.Deep.RegionHeld3
namespace Go.Proofs.YtceflkeaenepcaaGreatDoor
open Go.RowKit
end Go.Proofs.YtceflkeaenepcaaGreatDoor
namespace Go.Proofs.YtceflkeaenepcaaGreatDoor
open Go.RowKit
theorem Tryz.info21 : (Tryz.prog.info? 21).map (fun i => (i.zero, i.size, i.bytes)) = some (some (.int .i32 0), 1, 4) := by kernel_rfl
theorem info_parts {p : Option TypeInfo} {z : Option Value} {s b : Nat} (h : p.map (fun i => (i.zero, i.size, i.bytes)) = some (z, s, b)) : ∃ i, p = some i ∧ i.zero = z ∧ i.size = s ∧ i.bytes = b := by
  cases p with
  | none => cases h
  | some i =>
    simp only [Option.map_some, Option.some.injEq, Prod.mk.injEq] at h
    exact ⟨i, rfl, h.1, h.2.1, h.2.2⟩
def RunesNew (w : World) (zs : List Int) (e : Ending) (w' : World) : Prop := ∃ v, e = .returned v ∧ Ok .i32 21 w' w.heap.size v zs ∧ Below w.heap.size w w'
def PairB (w : World) (r : Option (Int × Int)) (e : Ending) (w' : World) : Prop := e = .returned (.tuple #[.int .i32 ((r.map (·.1)).getD 0), .int .i32 ((r.map (·.2)).getD 0), .bool r.isSome]) ∧ Below w.heap.size w w'
theorem hit_at {w : World} {v : Value} {rs : List Rec} (hv : Rcs w v rs) (f c : Int) : (Cn.find rs f c = -1 ∧ Cn.hit rs f c = none) ∨
    ∃ (k : Nat) (b off cap : Nat), Cn.find rs f c = k ∧ k < rs.length ∧ Cn.hit rs f c = some (rs.getD k Cn.none) ∧ v = .slice (some ⟨b, off, none⟩) rs.length cap ∧ rs.length ≤ cap ∧ cap ≤ 9223372036854775807 ∧ RecAt w b (off + k * 8) (rs.getD k Cn.none) ∧ RecFit (rs.getD k Cn.none) := by
  rcases Cn.find_bound rs f c with h | ⟨h1, h2⟩
  · exact .inl ⟨h, by unfold Cn.hit; rw [h]; rfl⟩
  · obtain ⟨k, hk⟩ : ∃ k : Nat, Cn.find rs f c = k := ⟨(Cn.find rs f c).toNat, by omega⟩
    have hkl : k < rs.length := by omega
    obtain ⟨b, off, cap, hv1, hl, hm, hc⟩ := hv.place (by omega)
    refine .inr ⟨k, b, off, cap, hk, hkl, ?_, hv1, hl, hm, hc k hkl, hv.fit hkl⟩
    unfold Cn.hit
    rw [hk, if_neg (by omega)]; rfl
theorem ok_two (w : World) (a b : Int) (ha : -2147483648 ≤ a ∧ a ≤ 2147483647) (hb : -2147483648 ≤ b ∧ b ≤ 2147483647) : Ok .i32 21 (w.alloc (.cells #[.int .i32 a, .int .i32 b] 21)) w.heap.size (.slice (some ⟨w.heap.size, 0, none⟩) 2 2) [a, b] := by
  refine Ok.of (n := 2) (us := [.int .i32 a, .int .i32 b]) (fun z hz => ?_) (by simp) ⟨rfl, .inr ⟨w.heap.size, 2, #[.int .i32 a, .int .i32 b], rfl, Nat.le_refl _, ?_, Nat.le_refl _, by unfold maxLen; omega, rfl, rfl⟩⟩ rfl rfl
  · simp only [List.mem_cons, List.mem_nil_iff, or_false] at hz
    simp only [IntKind.min, IntKind.max, IntKind.signed, IntKind.bits]
    rcases hz with rfl | rfl <;> simp <;> omega
  · show (w.heap.push _)[w.heap.size]? = _
    simp
end Go.Proofs.YtceflkeaenepcaaGreatDoor
namespace Go.Proofs.YtceflkeaenepcaaGreatDoor
open Go.RowKit
def Draws (w : World) (b : Bool) (e : Ending) (w' : World) : Prop := e = .returned (.bool b) ∧ ∃ m, w' = w.drewN m
theorem drew0 (w : World) : ∃ m, w = w.drewN m := ⟨0, rfl⟩
theorem drews {w w' : World} (h : ∃ m, w' = w.drewN m) (n : Nat) : ∃ m, w'.drewN n = w.drewN m := by
  obtain ⟨m, rfl⟩ := h
  exact ⟨m + n, by rw [World.drewN_drewN]⟩
theorem drewB {w w' : World} (h : ∃ m, w' = w.drewN m) : Below w.heap.size w w' := by
  obtain ⟨m, rfl⟩ := h
  exact below_drewN (Below.refl _ _) m
theorem ints_at {K : IntKind} {zs : List Int} {i : Nat} (h : i < zs.length) : (zs.map (Value.int K)).getD i undef = .int K (zs.getD i 0) := by simp [List.getD, h]
set_option maxHeartbeats 1000000 in
theorem same3_eq (v u : Value) (zs : List Int) (w : World) (hv : Sk .i32 w v zs) (hu : Sk .i32 w u zs) (hl : zs.length ≤ 1000000000) : Calls Tryz.prog 30 #[v, u] w (Draws w true) := by
  rcases Nat.eq_zero_or_pos zs.length with h0 | h0
  · obtain ⟨ao, cap, rfl, _, _⟩ := hv.shape
    obtain ⟨ao', cap', rfl, _, _⟩ := hu.shape
    rw [h0]
    clear hv hu
    go_enter Tryz.func30, Tryz.ntmps30
    go_wp2
    refine wp_loop_rounds 1 ?_
    rw [rounds_succ]
    go_wp2
    go_ret
    exact ⟨rfl, drew0 w⟩
  · obtain ⟨b, off, cap, rfl, hc1, hc2, hc⟩ := hv.place h0
    obtain ⟨b', off', cap', rfl, hc1', hc2', hc'⟩ := hu.place h0
    have HC : Hid (∀ wr, Below w.heap.size w wr → ∀ i, i < zs.length → wr.cell? ⟨b, off + i, none⟩ = some (.int .i32 (zs.getD i 0)) ∧ wr.cell? ⟨b', off' + i, none⟩ = some (.int .i32 (zs.getD i 0))) := by
      intro wr hb i hi
      have a0 := hc i hi
      have d0 := hc' i hi
      exact ⟨by rw [hb.cell (lt_of_cell? a0)]; exact a0, by rw [hb.cell (lt_of_cell? d0)]; exact d0⟩
    have qn : ((zs.length : Int) != (zs.length : Int)) = false := by simp
    clear hv hu hc hc'
    go_enter Tryz.func30, Tryz.ntmps30
    go_wp2
    go_loopw [5] (fun i wr => ∃ k : Nat, i = .int .i64 k ∧ k ≤ zs.length ∧ ∃ m, wr = w.drewN m) (fun i _ => zs.length - (intOf i).toNat)
    case atStart => exact ⟨0, rfl, by omega, drew0 w⟩
    case round =>
      obtain ⟨k, rfl, hk, hdr⟩ := hrel
      by_cases hlt : k < zs.length
      · obtain ⟨a0, d0⟩ := (unhide HC) _ (drewB hdr) k hlt
        clear HC
        generalize zs.getD k 0 = t at *
        have ht : (t != t) = false := by simp
        go_wp2
        go_big_quiet (fail)
        go_wp2
        go_roundw
        case rel => exact ⟨k + 1, by go_num, by omega, drews hdr _⟩
        case measure => simp [intOf]; omega
      · clear HC
        go_wp2
        go_ret
        exact ⟨rfl, hdr⟩
end Go.Proofs.YtceflkeaenepcaaGreatDoor
namespace Go.Proofs.YtceflkeaenepcaaGreatDoor
open Go.RowKit
theorem Tryz.info29 : (Tryz.prog.info? 29).map (fun i => (i.zero, i.size, i.bytes)) = some (some (.agg #[.int .i64 0, .int .i64 0, .int .i64 0, .int .i64 0, .slice none 0 0, .string ⟨#[]⟩, .string ⟨#[]⟩, .float .f64 0]), 8, 96) := by kernel_rfl
def rcell (p : Rec × Value) : List Value := [.int .i64 p.1.kind, .int .i64 p.1.lo, .int .i64 p.1.hi, .int .i64 p.1.n, p.2, .string p.1.name, .string p.1.other, .float .f64 p.1.wt]
def rcells (ps : List (Rec × Value)) : List Value := ps.flatMap rcell
theorem rcells_length (ps : List (Rec × Value)) : (rcells ps).length = ps.length * 8 := by
  induction ps with
  | nil => rfl
  | cons p ps ih =>
    rw [rcells, List.flatMap_cons, List.length_append] at *
    rw [ih]
    simp [rcell]; omega
theorem rcells_snoc (ps : List (Rec × Value)) (p : Rec × Value) : rcells ps ++ rcell p = rcells (ps ++ [p]) := by
  rw [rcells, rcells, List.flatMap_append]; simp
theorem rcells_at : ∀ (ps : List (Rec × Value)) (i j : Nat), i < ps.length → j < 8 → (rcells ps)[i * 8 + j]? = (rcell (ps.getD i (Cn.none, undef)))[j]?
  | [], i, j, h, _ => by simp at h
  | p :: ps, 0, j, _, hj => by
    rw [rcells, List.flatMap_cons, List.getElem?_append_left (by simp [rcell]; omega)]; simp
  | p :: ps, i + 1, j, h, hj => by
    have ih := rcells_at ps i j (by simpa using h) hj
    rw [rcells, List.flatMap_cons, List.getElem?_append_right (by simp [rcell]; omega)]
    have e : (i + 1) * 8 + j - (rcell p).length = i * 8 + j := by simp [rcell]; omega
    rw [e]
    exact ih
def Rown (w : World) (B : Nat) (v : Value) (ps : List (Rec × Value)) : Prop := w.ownsRow B 29 8 v ps.length (rcells ps) ∧ ∀ p ∈ ps, Ok .i32 21 w B p.2 p.1.to
theorem Rown.rcs {w : World} {B : Nat} {v : Value} {ps : List (Rec × Value)} (h : Rown w B v ps) (hl : ps.length ≤ 1000000000) (hf : ∀ p ∈ ps, RecFit p.1) : Rcs w v (ps.map (·.1)) := by
  refine ⟨by simpa using hl, fun r hr => ?_, ?_⟩
  · obtain ⟨p, hp, rfl⟩ := List.mem_map.1 hr
    exact hf p hp
  · have h3 := h.1
    rcases h.1.2 with ⟨hv, h0⟩ | ⟨g, cap, cur, hv, hg, hh, hn, hcap, hsz, htake⟩
    · have h1 : ps = [] := List.eq_nil_of_length_eq_zero h0
      exact .inl ⟨by rw [h1]; rfl, none, 0, hv, by omega⟩
    · refine .inr ⟨g, 0, cap, by rw [hv, List.length_map], by simpa using hn, by unfold maxLen at hcap; omega, fun i hi => ?_⟩
      rw [List.length_map] at hi
      have hm : ps.getD i (Cn.none, undef) ∈ ps := by simp [List.getD, hi]
      have hrec : (ps.map (·.1)).getD i Cn.none = (ps.getD i (Cn.none, undef)).1 := by simp [List.getD, hi]
      have hc : ∀ j u, j < 8 → (rcell (ps.getD i (Cn.none, undef)))[j]? = some u → w.cell? ⟨g, 0 + i * 8 + j, none⟩ = some u := by
        intro j u hj hu
        have e := h3.cells (g := g) (by rw [hv]; rfl) (i * 8 + j) u (by rw [rcells_at ps i j hi hj]; exact hu)
        rw [addr_add] at e
        rw [show 0 + i * 8 + j = 0 + (i * 8 + j) by omega]; exact e
      rw [hrec]
      exact ⟨hc 0 _ (by omega) rfl, hc 1 _ (by omega) rfl, hc 2 _ (by omega) rfl, hc 3 _ (by omega) rfl, ⟨_, hc 4 _ (by omega) rfl, (h.2 _ hm).sk⟩, hc 5 _ (by omega) rfl, hc 6 _ (by omega) rfl, hc 7 _ (by omega) rfl⟩
theorem own_keep {w w' : World} {B e sz n : Nat} {v : Value} {us : List Value} (h : w.ownsRow B e sz v n us) (hk : ∀ g, v.ownBlock = some g → w'.heap[g]? = w.heap[g]?) : w'.ownsRow B e sz v n us := by
  obtain ⟨h1, h2⟩ := h
  refine ⟨h1, ?_⟩
  rcases h2 with h2 | ⟨g, cap, cur, hv, hb, hg, rest⟩
  · exact .inl h2
  · exact .inr ⟨g, cap, cur, hv, hb, (hk g (by rw [hv]; rfl)).trans hg, rest⟩
theorem Ok.keep {w w' : World} {K : IntKind} {e : TypeId} {B : Nat} {v : Value} {zs : List Int} (h : Ok K e w B v zs) (hk : ∀ g, v.ownBlock = some g → w'.heap[g]? = w.heap[g]?) : Ok K e w' B v zs := ⟨h.1, h.2.1, own_keep h.2.2 hk⟩
theorem own_apart {w : World} {B B' e e' sz sz' n n' : Nat} {v v' : Value} {us us' : List Value} (h : w.ownsRow B e sz v n us) (h' : w.ownsRow B' e' sz' v' n' us') (hne : e ≠ e') {g : Nat} (hg : v.ownBlock = some g) : v'.ownBlock ≠ some g := by
  intro hg'
  rcases h.2 with ⟨rfl, _⟩ | ⟨k, cap, cur, rfl, _, hh, _⟩
  · cases hg
  · rcases h'.2 with ⟨rfl, _⟩ | ⟨k', cap', cur', rfl, _, hh', _⟩
    · cases hg'
    · simp [Value.ownBlock] at hg hg'
      subst hg; subst hg'
      rw [hh] at hh'
      simp at hh'
      exact hne hh'.2
theorem set_block {w : World} {g j : Nat} {cur : Array Value} {e : TypeId} (h : w.heap[g]? = some (.cells cur e (0, 0))) (v : Value) : (w.setCell ⟨g, j, none⟩ v).heap[g]? = some (.cells (cur.setIfInBounds j v) e (0, 0)) := by
  rw [setCell_eq_setRow w g j cur e (0, 0) v h]
  exact setRow_heap w g cur _ e _ h
theorem cell_of {w : World} {g j : Nat} {cur : Array Value} {e : TypeId} (h : w.heap[g]? = some (.cells cur e (0, 0))) (hj : j < cur.size) : w.cell? ⟨g, j, none⟩ = some (cur.getD j undef) := by
  simp [World.cell?, h, hj]
theorem frozen_of {w : World} {g j : Nat} {cur : Array Value} {e : TypeId} (h : w.heap[g]? = some (.cells cur e (0, 0))) : w.frozen? ⟨g, j, none⟩ = false := by
  simp [World.frozen?, h]
def RecsNew (w : World) (rs : List Rec) (e : Ending) (w' : World) : Prop := ∃ v ps, e = .returned v ∧ ps.map (·.1) = rs ∧ Rown w' w.heap.size v ps ∧ Below w.heap.size w w'
end Go.Proofs.YtceflkeaenepcaaGreatDoor
namespace Go.Proofs.YtceflkeaenepcaaGreatDoor
open Go.RowKit
def isPt (c : Int) : Bool := decide (0 ≤ c ∧ c ≤ 1114111)
theorem isPoint_any (c : Int) (w : World) (hc : I64 c) : Calls Tryz.prog 33 #[.int .i64 c] w fun e w' => e = .returned (.bool (isPt c)) ∧ w' = w := by
  obtain ⟨c0, c1⟩ := hc
  unfold isPt
  by_cases h0 : 0 ≤ c
  · by_cases h1 : c ≤ 1114111
    · rw [decide_eq_true ⟨h0, h1⟩]
      go_enter Tryz.func33, Tryz.ntmps33
      go_wp2
      go_ret
      exact ⟨rfl, rfl⟩
    · rw [decide_eq_false (by omega)]
      go_enter Tryz.func33, Tryz.ntmps33
      go_wp2
      go_ret
      exact ⟨rfl, rfl⟩
  · rw [decide_eq_false (by omega)]
    go_enter Tryz.func33, Tryz.ntmps33
    go_wp2
    go_ret
    exact ⟨rfl, rfl⟩
def runV (lo hi s : Int) : Value := .agg #[.int .i64 lo, .int .i64 hi, .int .i64 s]
def hasB (lo hi s c : Int) : Bool := decide (0 ≤ c ∧ c ≤ 1114111 ∧ lo ≤ c ∧ c ≤ hi ∧ 0 < s ∧ (c - lo) % s = 0)
theorem wrap_diff {c lo : Int} (h0 : 0 ≤ c) (h1 : c ≤ 1114111) (h2 : lo ≤ c) (h3 : -9223372036854775808 ≤ lo) : IntKind.u64.wrap (IntKind.i64.wrap (c - lo)) = c - lo := by
  by_cases hn : c - lo ≤ 9223372036854775807
  · rw [IntWalk.i64_in _ ⟨by omega, by omega⟩, IntWalk.u64_in _ ⟨by omega, by omega⟩]
  · have e : IntKind.i64.wrap (c - lo) = c - lo - 18446744073709551616 := by
      unfold IntKind.wrap
      have hb : (2 : Int) ^ IntKind.i64.bits = 18446744073709551616 := by decide
      have hb2 : (2 : Int) ^ (IntKind.i64.bits - 1) = 9223372036854775808 := by decide
      simp only [hb, hb2, IntKind.signed]
      simp
      omega
    rw [e]
    unfold IntKind.wrap
    have hb : (2 : Int) ^ IntKind.u64.bits = 18446744073709551616 := by decide
    rw [hb]
    simp [IntKind.signed]
    omega
set_option maxRecDepth 8000 in
set_option maxHeartbeats 4000000 in
theorem has_any (lo hi s c : Int) (w : World) (hl : I64 lo) (hh : I64 hi) (hs : I64 s) (hc : I64 c) : Calls Tryz.prog 23 #[runV lo hi s, .int .i64 c] w (BoolB w (hasB lo hi s c)) := by
  have hb : Below w.heap.size w (w.alloc (.cells #[.int .i64 lo, .int .i64 hi, .int .i64 s] 47)) := (Below.refl _ _).alloc (Nat.le_refl _) _
  have K := hide (isPoint_any c (w.alloc (.cells #[.int .i64 lo, .int .i64 hi, .int .i64 s] 47)) hc)
  obtain ⟨l0, l1⟩ := hl
  obtain ⟨g0, g1⟩ := hh
  obtain ⟨s0, s1⟩ := hs
  obtain ⟨c0, c1⟩ := hc
  unfold runV
  by_cases p1 : 0 ≤ c ∧ c ≤ 1114111
  · have e1 : isPt c = true := decide_eq_true p1
    rw [e1] at K
    by_cases p2 : lo ≤ c
    · by_cases p3 : c ≤ hi
      · by_cases p4 : 0 < s
        · have d := wrap_diff p1.1 p1.2 p2 l0
          have ds : IntKind.u64.wrap s = s := IntWalk.u64_in _ ⟨by omega, by omega⟩
          have dm : (c - lo).tmod s = (c - lo) % s := Int.tmod_eq_emod_of_nonneg (by omega)
          have dn : (s == 0) = false := beq_eq_false_iff_ne.2 (by omega)
          have e : hasB lo hi s c = ((c - lo) % s == 0) := by
            unfold hasB
            by_cases q : (c - lo) % s = 0
            · rw [decide_eq_true ⟨p1.1, p1.2, p2, p3, p4, q⟩, q]; rfl
            · rw [decide_eq_false (fun h => q h.2.2.2.2.2), beq_eq_false_iff_ne.2 q]
          rw [e]
          obtain ⟨p5, p6⟩ := p1
          go_enter Tryz.func23, Tryz.ntmps23
          go_wp2_with fail
          refine (unhide K).mono ?_
          rintro e w1 ⟨rfl, hw1⟩
          subst w1
          clear K
          go_wp2
          go_ret
          refine ⟨?_, hb⟩
          show Ending.returned (.bool ((IntKind.u64.wrap (wrap64 (c - lo))).tmod s == 0)) = _
          rw [← IntWalk.i64_left, d, dm]
        · have e : hasB lo hi s c = false := decide_eq_false (by omega)
          rw [e]
          go_enter Tryz.func23, Tryz.ntmps23
          go_wp2_with fail
          refine (unhide K).mono ?_
          rintro e w1 ⟨rfl, hw1⟩
          subst w1
          clear K
          go_wp2
          go_ret
          exact ⟨rfl, hb⟩
      · have e : hasB lo hi s c = false := decide_eq_false (by omega)
        rw [e]
        go_enter Tryz.func23, Tryz.ntmps23
        go_wp2_with fail
        refine (unhide K).mono ?_
        rintro e w1 ⟨rfl, hw1⟩
        subst w1
        clear K
        go_wp2
        go_ret
        exact ⟨rfl, hb⟩
    · have e : hasB lo hi s c = false := decide_eq_false (by omega)
      rw [e]
      go_enter Tryz.func23, Tryz.ntmps23
      go_wp2_with fail
      refine (unhide K).mono ?_
      rintro e w1 ⟨rfl, hw1⟩
      subst w1
      clear K
      go_wp2
      go_ret
      exact ⟨rfl, hb⟩
  · have e1 : isPt c = false := decide_eq_false p1
    rw [e1] at K
    have e : hasB lo hi s c = false := decide_eq_false (by omega)
    rw [e]
    clear p1
    go_enter Tryz.func23, Tryz.ntmps23
    go_wp2_with fail
    refine (unhide K).mono ?_
    rintro e w1 ⟨rfl, hw1⟩
    subst w1
    clear K
    go_wp2
    go_ret
    exact ⟨rfl, hb⟩
set_option maxRecDepth 8000 in
set_option maxHeartbeats 2000000 in
theorem sharedSpoken_any (k : Int) (r : Rec) (vt : Value) (w : World) : Calls Tryz.prog 125 #[shV k, recV r vt] w (fun e w' => e = .returned (runV r.lo r.hi 1) ∧ Below w.heap.size w w') := by
  unfold shV recV runV
  generalize r.kind = kd
  generalize r.n = n
  generalize r.lo = lo
  generalize r.hi = hi
  generalize r.name = nm
  generalize r.other = ot
  generalize r.wt = wt
  go_enter Tryz.func125, Tryz.ntmps125
  go_wp2
  go_returns
  exact ⟨rfl, (((Below.refl _ _).alloc (Nat.le_refl _) _).alloc (by simp) _).alloc (by simp; omega) _⟩
set_option maxRecDepth 8000 in
set_option maxHeartbeats 2000000 in
theorem shiftedSpoken_any (k : Int) (r : Rec) (vt : Value) (w : World) : Calls Tryz.prog 382 #[shV k, recV r vt] w (fun e w' => e = .returned (runV r.lo r.hi r.n) ∧ Below w.heap.size w w') := by
  unfold shV recV runV
  generalize r.kind = kd
  generalize r.n = n
  generalize r.lo = lo
  generalize r.hi = hi
  generalize r.name = nm
  generalize r.other = ot
  generalize r.wt = wt
  go_enter Tryz.func382, Tryz.ntmps382
  go_wp2
  go_returns
  exact ⟨rfl, (((Below.refl _ _).alloc (Nat.le_refl _) _).alloc (by simp) _).alloc (by simp; omega) _⟩
def stepP (r : Rec) : Int := if r.kind = 4 then r.n else 1
theorem hasB_speaks (r : Rec) (c : Int) (h : r.kind ≠ 15) : hasB r.lo r.hi (stepP r) c = Cn.speaks r c := by
  unfold hasB stepP Cn.speaks Cn.step
  refine decide_eq_decide.2 ?_
  by_cases h4 : r.kind = 4
  · rw [if_pos h4, if_pos h4]
    by_cases hp : 0 < r.n
    · rw [show max r.n 0 = r.n by omega]
      exact ⟨fun ⟨a, b, c, d, e, f⟩ => ⟨h, e, a, b, c, d, f⟩, fun ⟨_, e, a, b, c, d, f⟩ => ⟨a, b, c, d, e, f⟩⟩
    · exact ⟨fun ⟨_, _, _, _, e, _⟩ => absurd e hp, fun ⟨_, e, _⟩ => by omega⟩
  · rw [if_neg h4, if_neg h4]
    exact ⟨fun ⟨a, b, c, d, e, f⟩ => ⟨h, e, a, b, c, d, f⟩, fun ⟨_, e, a, b, c, d, f⟩ => ⟨a, b, c, d, e, f⟩⟩
end Go.Proofs.YtceflkeaenepcaaGreatDoor
