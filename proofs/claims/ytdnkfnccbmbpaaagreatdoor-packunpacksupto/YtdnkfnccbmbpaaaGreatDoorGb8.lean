import Derived.Test.YtdnkfnccbmbpaaaGreatDoorGa8
import Derived.Deep.QuietTactic
import Derived.BigQuiet
import Derived.Deep.RegionWith
/- The contracts of the document's own Find, Class. -/
namespace Go.Proofs.YtdnkfnccbmbpaaaGreatDoor
open Go.RowKit

end Go.Proofs.YtdnkfnccbmbpaaaGreatDoor
/- The contracts of the document's own Class, Syllable, Open, Primary. -/
namespace Go.Proofs.YtdnkfnccbmbpaaaGreatDoor
open Go.RowKit

theorem Tryz.info21 : (Tryz.prog.info? 21).map (fun i => (i.zero, i.size, i.bytes)) = some (some (.int .i32 0), 1, 4) := by kernel_rfl
theorem info_parts {p : Option TypeInfo} {z : Option Value} {s b : Nat} (h : p.map (fun i => (i.zero, i.size, i.bytes)) = some (z, s, b)) : ∃ i, p = some i ∧ i.zero = z ∧ i.size = s ∧ i.bytes = b := by
  cases p with
  | none => cases h
  | some i =>
    simp only [Option.map_some, Option.some.injEq, Prod.mk.injEq] at h
    exact ⟨i, rfl, h.1, h.2.1, h.2.2⟩
/-- Runes in memory of the call's own; what was there stays. -/
def RunesNew (w : World) (zs : List Int) (e : Ending) (w' : World) : Prop := ∃ v, e = .returned v ∧ Ok .i32 21 w' w.heap.size v zs ∧ Below w.heap.size w w'
def PairB (w : World) (r : Option (Int × Int)) (e : Ending) (w' : World) : Prop := e = .returned (.tuple #[.int .i32 ((r.map (·.1)).getD 0), .int .i32 ((r.map (·.2)).getD 0), .bool r.isSome]) ∧ Below w.heap.size w w'

/-- Where Find tells a place: the record there. -/
theorem hit_at {w : World} {v : Value} {rs : List Rec} (hv : Rcs w v rs) (f c : Int) : (Cn.find rs f c = -1 ∧ Cn.hit rs f c = none) ∨
    ∃ (k : Nat) (b off cap : Nat), Cn.find rs f c = k ∧ k < rs.length ∧ Cn.hit rs f c = some (rs.getD k Cn.none) ∧ v = .slice (some ⟨b, off, none⟩) rs.length cap ∧ rs.length ≤ cap ∧ cap ≤ 9223372036854775807 ∧ RecAt w b (off + k * 8) (rs.getD k Cn.none) ∧ RecFit (rs.getD k Cn.none) := by
  rcases Cn.find_bound rs f c with h | ⟨h1, h2⟩
  · exact .inl ⟨h, by unfold Cn.hit; rw [h]; rfl⟩
  · obtain ⟨k, hk⟩ : ∃ k : Nat, Cn.find rs f c = k := ⟨(Cn.find rs f c).toNat, by omega⟩
    have hkl : k < rs.length := by omega
    obtain ⟨b, off, cap, hv1, hl, hm, hc⟩ := hv.place (by omega)
    refine .inr ⟨k, b, off, cap, hk, hkl, ?_, hv1, hl, hm, hc k hkl, hv.fit hkl⟩
    unfold Cn.hit
    rw [hk, if_neg (by omega)]; rfl
theorem ok_two (w : World) (a b : Int) (ha : -2147483648 ≤ a ∧ a ≤ 2147483647) (hb : -2147483648 ≤ b ∧ b ≤ 2147483647) : Ok .i32 21 (w.alloc (.cells #[.int .i32 a, .int .i32 b] 21)) w.heap.size (.slice (some ⟨w.heap.size, 0, none⟩) 2 2) [a, b] := by
  refine Ok.of (n := 2) (us := [.int .i32 a, .int .i32 b]) (fun z hz => ?_) (by simp) ⟨rfl, .inr ⟨w.heap.size, 2, #[.int .i32 a, .int .i32 b], rfl, Nat.le_refl _, ?_, Nat.le_refl _, by unfold maxLen; omega, rfl, rfl⟩⟩ rfl rfl
  · simp only [List.mem_cons, List.mem_nil_iff, or_false] at hz
    simp only [IntKind.min, IntKind.max, IntKind.signed, IntKind.bits]
    rcases hz with rfl | rfl <;> simp <;> omega
  · show (w.heap.push _)[w.heap.size]? = _
    simp
end Go.Proofs.YtdnkfnccbmbpaaaGreatDoor
/- The contract of the document's own Primary; Same of lists that are the same. -/
namespace Go.Proofs.YtdnkfnccbmbpaaaGreatDoor
open Go.RowKit

def Draws (w : World) (b : Bool) (e : Ending) (w' : World) : Prop := e = .returned (.bool b) ∧ ∃ m, w' = w.drewN m
theorem drew0 (w : World) : ∃ m, w = w.drewN m := ⟨0, rfl⟩
theorem drews {w w' : World} (h : ∃ m, w' = w.drewN m) (n : Nat) : ∃ m, w'.drewN n = w.drewN m := by
  obtain ⟨m, rfl⟩ := h
  exact ⟨m + n, by rw [World.drewN_drewN]⟩
theorem drewB {w w' : World} (h : ∃ m, w' = w.drewN m) : Below w.heap.size w w' := by
  obtain ⟨m, rfl⟩ := h
  exact below_drewN (Below.refl _ _) m
theorem ints_at {K : IntKind} {zs : List Int} {i : Nat} (h : i < zs.length) : (zs.map (Value.int K)).getD i undef = .int K (zs.getD i 0) := by simp [List.getD, h]
set_option maxHeartbeats 1000000 in
theorem same3_eq (v u : Value) (zs : List Int) (w : World) (hv : Sk .i32 w v zs) (hu : Sk .i32 w u zs) (hl : zs.length ≤ 1000000000) : Calls Tryz.prog 36 #[v, u] w (Draws w true) := by
  rcases Nat.eq_zero_or_pos zs.length with h0 | h0
  · obtain ⟨ao, cap, rfl, _, _⟩ := hv.shape
    obtain ⟨ao', cap', rfl, _, _⟩ := hu.shape
    rw [h0]
    clear hv hu
    go_enter Tryz.func36, Tryz.ntmps36
    go_wp2
    refine wp_loop_rounds 1 ?_
    rw [rounds_succ]
    go_wp2
    go_ret
    exact ⟨rfl, drew0 w⟩
  · obtain ⟨b, off, cap, rfl, hc1, hc2, hc⟩ := hv.place h0
    obtain ⟨b', off', cap', rfl, hc1', hc2', hc'⟩ := hu.place h0
    have HC : Hid (∀ wr, Below w.heap.size w wr → ∀ i, i < zs.length → wr.cell? ⟨b, off + i, none⟩ = some (.int .i32 (zs.getD i 0)) ∧ wr.cell? ⟨b', off' + i, none⟩ = some (.int .i32 (zs.getD i 0))) := by
      intro wr hb i hi
      have a0 := hc i hi
      have d0 := hc' i hi
      exact ⟨by rw [hb.cell (lt_of_cell? a0)]; exact a0, by rw [hb.cell (lt_of_cell? d0)]; exact d0⟩
    have qn : ((zs.length : Int) != (zs.length : Int)) = false := by simp
    clear hv hu hc hc'
    go_enter Tryz.func36, Tryz.ntmps36
    go_wp2
    go_loopw [5] (fun i wr => ∃ k : Nat, i = .int .i64 k ∧ k ≤ zs.length ∧ ∃ m, wr = w.drewN m) (fun i _ => zs.length - (intOf i).toNat)
    case atStart => exact ⟨0, rfl, by omega, drew0 w⟩
    case round =>
      obtain ⟨k, rfl, hk, hdr⟩ := hrel
      by_cases hlt : k < zs.length
      · obtain ⟨a0, d0⟩ := (unhide HC) _ (drewB hdr) k hlt
        clear HC
        generalize zs.getD k 0 = t at *
        have ht : (t != t) = false := by simp
        go_wp2
        go_big_quiet (fail)
        go_wp2
        go_roundw
        case rel => exact ⟨k + 1, by go_num, by omega, drews hdr _⟩
        case measure => simp [intOf]; omega
      · clear HC
        go_wp2
        go_ret
        exact ⟨rfl, hdr⟩
end Go.Proofs.YtdnkfnccbmbpaaaGreatDoor
/- The contract of the document's own Copied. -/
namespace Go.Proofs.YtdnkfnccbmbpaaaGreatDoor
open Go.RowKit

theorem Tryz.info46 : (Tryz.prog.info? 46).map (fun i => (i.zero, i.size, i.bytes)) = some (some (.agg #[.int .i64 0, .int .i64 0, .int .i64 0, .int .i64 0, .slice none 0 0, .string ⟨#[]⟩, .string ⟨#[]⟩, .float .f64 0]), 8, 96) := by kernel_rfl
/-- A record's cells, its list a value. -/
def rcell (p : Rec × Value) : List Value := [.int .i64 p.1.kind, .int .i64 p.1.lo, .int .i64 p.1.hi, .int .i64 p.1.n, p.2, .string p.1.name, .string p.1.other, .float .f64 p.1.wt]
def rcells (ps : List (Rec × Value)) : List Value := ps.flatMap rcell
theorem rcells_length (ps : List (Rec × Value)) : (rcells ps).length = ps.length * 8 := by
  induction ps with
  | nil => rfl
  | cons p ps ih =>
    rw [rcells, List.flatMap_cons, List.length_append] at *
    rw [ih]
    simp [rcell]; omega
theorem rcells_snoc (ps : List (Rec × Value)) (p : Rec × Value) : rcells ps ++ rcell p = rcells (ps ++ [p]) := by
  rw [rcells, rcells, List.flatMap_append]; simp
theorem rcells_at : ∀ (ps : List (Rec × Value)) (i j : Nat), i < ps.length → j < 8 → (rcells ps)[i * 8 + j]? = (rcell (ps.getD i (Cn.none, undef)))[j]?
  | [], i, j, h, _ => by simp at h
  | p :: ps, 0, j, _, hj => by
    rw [rcells, List.flatMap_cons, List.getElem?_append_left (by simp [rcell]; omega)]; simp
  | p :: ps, i + 1, j, h, hj => by
    have ih := rcells_at ps i j (by simpa using h) hj
    rw [rcells, List.flatMap_cons, List.getElem?_append_right (by simp [rcell]; omega)]
    have e : (i + 1) * 8 + j - (rcell p).length = i * 8 + j := by simp [rcell]; omega
    rw [e]
    exact ih
/-- Records in memory of the call's own: their row and each one's list from block B on. -/
def Rown (w : World) (B : Nat) (v : Value) (ps : List (Rec × Value)) : Prop := w.ownsRow B 46 8 v ps.length (rcells ps) ∧ ∀ p ∈ ps, Ok .i32 21 w B p.2 p.1.to
theorem Rown.rcs {w : World} {B : Nat} {v : Value} {ps : List (Rec × Value)} (h : Rown w B v ps) (hl : ps.length ≤ 1000000000) (hf : ∀ p ∈ ps, RecFit p.1) : Rcs w v (ps.map (·.1)) := by
  refine ⟨by simpa using hl, fun r hr => ?_, ?_⟩
  · obtain ⟨p, hp, rfl⟩ := List.mem_map.1 hr
    exact hf p hp
  · have h3 := h.1
    rcases h.1.2 with ⟨hv, h0⟩ | ⟨g, cap, cur, hv, hg, hh, hn, hcap, hsz, htake⟩
    · have h1 : ps = [] := List.eq_nil_of_length_eq_zero h0
      exact .inl ⟨by rw [h1]; rfl, none, 0, hv, by omega⟩
    · refine .inr ⟨g, 0, cap, by rw [hv, List.length_map], by simpa using hn, by unfold maxLen at hcap; omega, fun i hi => ?_⟩
      rw [List.length_map] at hi
      have hm : ps.getD i (Cn.none, undef) ∈ ps := by simp [List.getD, hi]
      have hrec : (ps.map (·.1)).getD i Cn.none = (ps.getD i (Cn.none, undef)).1 := by simp [List.getD, hi]
      have hc : ∀ j u, j < 8 → (rcell (ps.getD i (Cn.none, undef)))[j]? = some u → w.cell? ⟨g, 0 + i * 8 + j, none⟩ = some u := by
        intro j u hj hu
        have e := h3.cells (g := g) (by rw [hv]; rfl) (i * 8 + j) u (by rw [rcells_at ps i j hi hj]; exact hu)
        rw [addr_add] at e
        rw [show 0 + i * 8 + j = 0 + (i * 8 + j) by omega]; exact e
      rw [hrec]
      exact ⟨hc 0 _ (by omega) rfl, hc 1 _ (by omega) rfl, hc 2 _ (by omega) rfl, hc 3 _ (by omega) rfl, ⟨_, hc 4 _ (by omega) rfl, (h.2 _ hm).sk⟩, hc 5 _ (by omega) rfl, hc 6 _ (by omega) rfl, hc 7 _ (by omega) rfl⟩
theorem own_keep {w w' : World} {B e sz n : Nat} {v : Value} {us : List Value} (h : w.ownsRow B e sz v n us) (hk : ∀ g, v.ownBlock = some g → w'.heap[g]? = w.heap[g]?) : w'.ownsRow B e sz v n us := by
  obtain ⟨h1, h2⟩ := h
  refine ⟨h1, ?_⟩
  rcases h2 with h2 | ⟨g, cap, cur, hv, hb, hg, rest⟩
  · exact .inl h2
  · exact .inr ⟨g, cap, cur, hv, hb, (hk g (by rw [hv]; rfl)).trans hg, rest⟩
theorem Ok.keep {w w' : World} {K : IntKind} {e : TypeId} {B : Nat} {v : Value} {zs : List Int} (h : Ok K e w B v zs) (hk : ∀ g, v.ownBlock = some g → w'.heap[g]? = w.heap[g]?) : Ok K e w' B v zs := ⟨h.1, h.2.1, own_keep h.2.2 hk⟩
/-- Rows of unlike types lie in unlike blocks. -/
theorem own_apart {w : World} {B B' e e' sz sz' n n' : Nat} {v v' : Value} {us us' : List Value} (h : w.ownsRow B e sz v n us) (h' : w.ownsRow B' e' sz' v' n' us') (hne : e ≠ e') {g : Nat} (hg : v.ownBlock = some g) : v'.ownBlock ≠ some g := by
  intro hg'
  rcases h.2 with ⟨rfl, _⟩ | ⟨k, cap, cur, rfl, _, hh, _⟩
  · cases hg
  · rcases h'.2 with ⟨rfl, _⟩ | ⟨k', cap', cur', rfl, _, hh', _⟩
    · cases hg'
    · simp [Value.ownBlock] at hg hg'
      subst hg; subst hg'
      rw [hh] at hh'
      simp at hh'
      exact hne hh'.2
theorem set_block {w : World} {g j : Nat} {cur : Array Value} {e : TypeId} (h : w.heap[g]? = some (.cells cur e (0, 0))) (v : Value) : (w.setCell ⟨g, j, none⟩ v).heap[g]? = some (.cells (cur.setIfInBounds j v) e (0, 0)) := by
  rw [setCell_eq_setRow w g j cur e (0, 0) v h]
  exact setRow_heap w g cur _ e _ h
theorem cell_of {w : World} {g j : Nat} {cur : Array Value} {e : TypeId} (h : w.heap[g]? = some (.cells cur e (0, 0))) (hj : j < cur.size) : w.cell? ⟨g, j, none⟩ = some (cur.getD j undef) := by
  simp [World.cell?, h, hj]
theorem frozen_of {w : World} {g j : Nat} {cur : Array Value} {e : TypeId} (h : w.heap[g]? = some (.cells cur e (0, 0))) : w.frozen? ⟨g, j, none⟩ = false := by
  simp [World.frozen?, h]
/-- Records in memory of the call's own, what was there stays. -/
def RecsNew (w : World) (rs : List Rec) (e : Ending) (w' : World) : Prop := ∃ v ps, e = .returned v ∧ ps.map (·.1) = rs ∧ Rown w' w.heap.size v ps ∧ Below w.heap.size w w'
end Go.Proofs.YtdnkfnccbmbpaaaGreatDoor
/- The contract of the document's own Copied: the walk. -/
namespace Go.Proofs.YtdnkfnccbmbpaaaGreatDoor
open Go.RowKit

/-- The eight cells of a new block. -/
def rarr (r : Rec) (vt : Value) : Array Value := #[.int .i64 r.kind, .int .i64 r.lo, .int .i64 r.hi, .int .i64 r.n, vt, .string r.name, .string r.other, .float .f64 r.wt]
theorem rec_new (W : World) (r : Rec) (vt : Value) : ∀ j u, (rcell (r, vt))[j]? = some u → (W.alloc (.cells (rarr r vt) 46)).cell? ((⟨W.heap.size, 0, none⟩ : Addr).add j) = some u := by
  intro j u hj
  have hlt : j < 8 := by
    rcases Nat.lt_or_ge j 8 with h | h
    · exact h
    · rw [List.getElem?_eq_none (by simp [rcell]; omega)] at hj; cases hj
  rw [addr_add, Nat.zero_add]
  have e : (rarr r vt).toList = rcell (r, vt) := rfl
  simp only [World.cell?, World.alloc]
  simp
  rw [← Array.getElem?_toList, e]
  exact hj
theorem rec_new2 (W : World) (n : Nat) (hn : W.heap.size = n) (r : Rec) (vt : Value) : ∀ j u, (rcell (r, vt))[j]? = some u → (W.alloc (.cells #[.int .i64 r.kind, .int .i64 r.lo, .int .i64 r.hi, .int .i64 r.n, vt, .string r.name, .string r.other, .float .f64 r.wt] 46)).cell? ((⟨n, 0, none⟩ : Addr).add j) = some u := by
  subst hn
  exact rec_new W r vt
theorem rec_one (r : Rec) {vt : Value} (h : vt.oneCell' = true) : ∀ u ∈ rcell (r, vt), u.oneCell' = true := by
  intro u hu
  simp only [rcell, List.mem_cons, List.mem_nil_iff, or_false] at hu
  rcases hu with rfl | rfl | rfl | rfl | rfl | rfl | rfl | rfl <;> first | rfl | exact h
theorem set_other {w : World} {g j k : Nat} (v : Value) (h : k ≠ g) : (w.setCell ⟨g, j, none⟩ v).heap[k]? = w.heap[k]? := Below.heap_setCell _ _ _ _ (fun e => h e)
theorem below_set {B : Nat} {a w : World} (h : Below B a w) {g j : Nat} (hg : B ≤ g) (v : Value) : Below B a (w.setCell ⟨g, j, none⟩ v) := by
  refine h.trans ⟨?_, ?_, ?_, ?_, fun k hk => set_other v (by omega)⟩
  all_goals first | rfl | (unfold World.setCell; split <;> first | rfl | simp)
theorem set_size (w : World) (g j : Nat) (v : Value) : (w.setCell ⟨g, j, none⟩ v).heap.size = w.heap.size := by
  unfold World.setCell; split <;> first | rfl | simp
/-- One more record: what stands behind the two appends. -/
theorem copied_more {w wr w9 w10 : World} {mv v9 v10 : Value} {ps : List (Rec × Value)} {r : Rec} {vt : Value} {o : Obj} (hown : Rown wr w.heap.size mv ps) (hbel : Below w.heap.size w wr)
    (hok9 : Ok .i32 21 w9 w.heap.size v9 r.to) (hg9 : (wr.alloc (.cells (rarr r vt) 46)).grownBy w9 (Value.slice none 0 0).ownBlock)
    (hrow : w10.ownsRow w.heap.size 46 8 v10 (ps.length + 1) (rcells ps ++ rcell (r, v9))) (hg10 : ((w9.setCell ⟨wr.heap.size, 4, none⟩ v9).alloc o).grownBy w10 mv.ownBlock) :
    Rown w10 w.heap.size v10 (ps ++ [(r, v9)]) ∧ Below w.heap.size w w10 := by
  have hB := hbel.size
  have s9 : (wr.alloc (.cells (rarr r vt) 46)).heap.size ≤ w9.heap.size := hg9.size
  have s9' : wr.heap.size + 1 ≤ w9.heap.size := by simpa using s9
  have k9 : ∀ g, g < wr.heap.size + 1 → w9.heap[g]? = (wr.alloc (.cells (rarr r vt) 46)).heap[g]? := fun g hg => hg9.block g (by simpa using hg) (by simp [Value.ownBlock])
  have kA : ∀ g, g < wr.heap.size → (wr.alloc (.cells (rarr r vt) 46)).heap[g]? = wr.heap[g]? := fun g hg => ((Below.refl wr.heap.size wr).alloc (Nat.le_refl _) _).block g hg
  have hbox : w9.heap[wr.heap.size]? = some (.cells (rarr r vt) 46 (0, 0)) := by
    rw [k9 _ (by omega)]
    show (wr.heap.push _)[wr.heap.size]? = _
    simp
  have m9 : w9.ownsRow w.heap.size 46 8 mv ps.length (rcells ps) := own_keep hown.1 (fun g h => by rw [k9 g (by have := (hown.1.lt g h).2; omega), kA g (hown.1.lt g h).2])
  have k10 : ∀ g, g < w9.heap.size → g ≠ wr.heap.size → mv.ownBlock ≠ some g → w10.heap[g]? = w9.heap[g]? := fun g hg h1 h2 => by
    have e1 := hg10.block g (by simp; omega) (fun e => h2 e.symm)
    rw [e1]
    have e2 : ((w9.setCell ⟨wr.heap.size, 4, none⟩ v9).alloc o).heap[g]? = (w9.setCell ⟨wr.heap.size, 4, none⟩ v9).heap[g]? := ((Below.refl _ _).alloc (Nat.le_refl _) _).block g (by rw [set_size]; exact hg)
    rw [e2, set_other v9 h1]
  refine ⟨⟨?_, fun p hp => ?_⟩, ?_⟩
  · rw [rcells_snoc] at hrow
    simpa using hrow
  · rcases List.mem_append.1 hp with hp | hp
    · have hop := hown.2 p hp
      refine hop.keep fun g h => ?_
      have hlt := (hop.2.2.lt g h).2
      rw [k10 g (by omega) (by omega) (own_apart hop.2.2 hown.1 (by decide) h), k9 g (by omega), kA g hlt]
    · simp only [List.mem_singleton] at hp
      subst hp
      refine hok9.keep fun g h => ?_
      have hlt := (hok9.2.2.lt g h).2
      refine k10 g hlt (fun e => ?_) (own_apart hok9.2.2 m9 (by decide) h)
      rcases hok9.2.2.2 with ⟨hv, _⟩ | ⟨g', cap, cur, hv, _, hh, _⟩
      · rw [hv] at h; cases h
      · rw [hv] at h
        simp [Value.ownBlock] at h
        rw [h, e, hbox] at hh
        simp at hh
  · have b1 : Below w.heap.size w w9 := (hbel.alloc hB _).grown hg9 (by simp; omega) (fun k hk => by simp [Value.ownBlock] at hk)
    have b2 := below_set b1 (g := wr.heap.size) (j := 4) hB v9
    exact (b2.alloc (by rw [set_size]; omega) o).grown hg10 (by simp; omega) (fun k hk => (hown.1.lt k hk).1)
theorem copied_nil {w wr w10 : World} {mv v10 : Value} {ps : List (Rec × Value)} {r : Rec} {o1 o : Obj} (hown : Rown wr w.heap.size mv ps) (hbel : Below w.heap.size w wr) (hto : r.to = [])
    (hrow : w10.ownsRow w.heap.size 46 8 v10 (ps.length + 1) (rcells ps ++ rcell (r, .slice none 0 0))) (hg10 : ((wr.alloc o1).alloc o).grownBy w10 mv.ownBlock) :
    Rown w10 w.heap.size v10 (ps ++ [(r, .slice none 0 0)]) ∧ Below w.heap.size w w10 := by
  have hB := hbel.size
  refine ⟨⟨?_, fun p hp => ?_⟩, ?_⟩
  · rw [rcells_snoc] at hrow
    simpa using hrow
  · rcases List.mem_append.1 hp with hp | hp
    · have hop := hown.2 p hp
      refine hop.keep fun g h => ?_
      have hlt := (hop.2.2.lt g h).2
      rw [hg10.block g (by simp; omega) (fun e => own_apart hop.2.2 hown.1 (by decide) h e.symm)]
      exact (((Below.refl wr.heap.size wr).alloc (Nat.le_refl _) o1).alloc (by simp) o).block g hlt
    · simp only [List.mem_singleton] at hp
      subst hp
      show Ok .i32 21 w10 w.heap.size (.slice none 0 0) r.to
      rw [hto]
      exact Ok.nil _ _ _ _
  · exact ((hbel.alloc hB _).alloc (by simp; omega) o).grown hg10 (by simp; omega) (fun k hk => (hown.1.lt k hk).1)
set_option maxRecDepth 8000 in
set_option maxHeartbeats 8000000 in
theorem refCopied_any (v : Value) (rs : List Rec) (w : World) (hv : Rcs w v rs) : Calls Tryz.prog 12 #[v] w (RecsNew w rs) := by
  obtain ⟨i0, hi, hz0, hz1, hz2⟩ := info_parts Tryz.info21
  obtain ⟨i1, hj, hy0, hy1, hy2⟩ := info_parts Tryz.info46
  have hlen := hv.1
  have HFit := hide (fun i hi => hv.fit (i := i) hi)
  rcases Nat.eq_zero_or_pos rs.length with n0 | n0
  · obtain ⟨ao, cap, rfl, _, _⟩ := hv.shape
    obtain rfl : rs = [] := List.eq_nil_of_length_eq_zero n0
    have HF : RecsNew w [] (.returned (.slice none 0 0)) w := ⟨_, [], rfl, rfl, ⟨World.ownsRow_nil _ _ _ _, fun _ h => (by cases h)⟩, Below.refl _ _⟩
    clear hv HFit
    go_enter Tryz.func12, Tryz.ntmps12
    go_wp2
    refine wp_loop_rounds 1 ?_
    rw [rounds_succ]
    go_wp2
    go_ret
    exact HF
  · obtain ⟨b, off, cap, rfl, hl1, hl2, hcells⟩ := hv.place n0
    have HC : Hid (∀ i, i < rs.length → ∀ W, Below w.heap.size w W → RecAt W b (off + i * 8) (rs.getD i Cn.none)) := fun i hi W hb => (hcells i hi).below hb
    have HTake : Hid (∀ k, k < rs.length → rs.take (k + 1) = rs.take k ++ [rs.getD k Cn.none]) := fun k hk => by
      rw [List.take_add_one]; simp [List.getD, hk]
    clear hv hcells
    go_enter Tryz.func12, Tryz.ntmps12
    go_wp2
    go_loopw [3, 4, 5, 6] (fun mv iv _ _ wr => ∃ (k : Nat) (ps : List (Rec × Value)), iv = .int .i64 k ∧ k ≤ rs.length ∧ ps.map (·.1) = rs.take k ∧ ps.length = k ∧ Rown wr w.heap.size mv ps ∧ Below w.heap.size w wr) (fun _ iv _ _ _ => rs.length - (intOf iv).toNat)
    case atStart => exact ⟨0, [], rfl, by omega, by simp, rfl, ⟨World.ownsRow_nil _ _ _ _, fun _ h => (by cases h)⟩, Below.refl _ _⟩
    case round =>
      obtain ⟨k, ps, rfl, hk, hps, hpl, hown, hbel⟩ := hrel
      by_cases hlt : k < rs.length
      · have hrec := (unhide HC) k hlt wr hbel
        have hfit := (unhide HFit) k hlt
        have htk := (unhide HTake) k hlt
        rw [← hps] at htk
        have hto := hfit.len
        have HTK := hide htk
        clear HFit HTake htk hps hfit
        generalize rs.getD k Cn.none = r at *
        obtain ⟨x0, x1, x2, x3, ⟨vt, x4, hsk⟩, x5, x6, x7⟩ := hrec
        have hB := hbel.size
        have hskf := hsk.1
        rcases hsk.2.src with ⟨hnil, rfl⟩ | ⟨ad, tcap, rfl, hsrc⟩
        · obtain hto0 : r.to = [] := by simpa using hnil
          have hX : ∀ o, (wr.alloc o).cell? ⟨b, off + k * 8 + 4, none⟩ = some (.slice none 0 0) := fun o => by
            rw [Below.cell ((Below.refl wr.heap.size wr).alloc (Nat.le_refl _) o) (lt_of_cell? x4)]; exact x4
          have hfl : ∀ W a m, (store a (.float .f64 r.wt) m).run Tryz.prog W = stored Tryz.prog W a (.float .f64 r.wt) m := fun W a m => run_store Tryz.prog W a _ m rfl
          have hM : ∀ o o2, ((wr.alloc o).alloc o2).ownsRow w.heap.size 46 8 u3 ps.length (rcells ps) := fun o o2 => (hown.1.alloc o).alloc o2
          have HM := hide hM
          have HMORE : Hid (∀ o v10 w10, World.ownsRow w10 w.heap.size 46 8 v10 (ps.length + 1) (rcells ps ++ rcell (r, .slice none 0 0)) → ((wr.alloc (.cells #[.int .i64 r.kind, .int .i64 r.lo, .int .i64 r.hi, .int .i64 r.n, .slice none 0 0, .string r.name, .string r.other, .float .f64 r.wt] 46)).alloc o).grownBy w10 u3.ownBlock → Rown w10 w.heap.size v10 (ps ++ [(r, .slice none 0 0)]) ∧ Below w.heap.size w w10) := fun o v10 w10 a b => copied_nil hown hbel hto0 a b
          have HNEW := hide (rec_new2 (wr.alloc (.cells #[.int .i64 r.kind, .int .i64 r.lo, .int .i64 r.hi, .int .i64 r.n, .slice none 0 0, .string r.name, .string r.other, .float .f64 r.wt] 46)) (wr.heap.size + 1) (by simp) r (.slice none 0 0))
          have HONE := hide (rec_one r (vt := .slice none 0 0) rfl)
          clear hM hown hbel hsk
          go_wp2_with (first | (at_builtin; refine wpList_append_own_none rfl (.tmp 17) (.tmp 22) 43 rfl w.heap.size 21 i0 1 Tryz.underlying43 hi _ _ _ rfl (World.ownsRow_nil _ _ _ _) rfl ?_) | (at_builtin; refine wpList_append_own _ rfl (.tmp 25) (.tmp 27) 22 rfl w.heap.size 46 i1 (.agg #[.int .i64 0, .int .i64 0, .int .i64 0, .int .i64 0, .slice none 0 0, .string ⟨#[]⟩, .string ⟨#[]⟩, .float .f64 0]) 8 96 Tryz.underlying22 hj hy0 hy1 hy2 rfl (by decide) _ _ _ rfl ((unhide HM) _ _) ⟨wr.heap.size + 1, 0, none⟩ 1 1 (rcell (r, .slice none 0 0)) rfl rfl (unhide HNEW) (unhide HONE) (by unfold maxLen; omega) (by omega) (by simp; omega) ?_))
          intro v10 w10 hrow10 hg10 _
          obtain ⟨hR, hBW⟩ := (unhide HMORE) _ v10 w10 (by rw [hpl]; exact hrow10) hg10
          have HR := hide hR
          clear HMORE HM HNEW HONE hrow10 hg10 hR
          go_wp2
          go_roundw
          case rel => exact ⟨k + 1, ps ++ [(r, .slice none 0 0)], by go_num, by omega, by rw [unhide HTK]; simp, by simp [hpl], unhide HR, hBW⟩
          case measure => simp [intOf]; omega
        · have hml : (r.to.map (Value.int .i32)).length = r.to.length := List.length_map _
          rw [hml] at x4
          have hX : ∀ o, (wr.alloc o).cell? ⟨b, off + k * 8 + 4, none⟩ = some (.slice (some ad) r.to.length tcap) := fun o => by
            rw [Below.cell ((Below.refl wr.heap.size wr).alloc (Nat.le_refl _) o) (lt_of_cell? x4)]; exact x4
          have hS : ∀ o, ∀ j u, (r.to.map (Value.int .i32))[j]? = some u → (wr.alloc o).cell? (ad.add j) = some u := fun o j u hu => by
            have h := hsrc j u hu
            rw [Below.cell ((Below.refl wr.heap.size wr).alloc (Nat.le_refl _) o) (World.block_lt_of_cell? _ _ h)]; exact h
          have HS := hide hS
          have hfl : ∀ W a m, (store a (.float .f64 r.wt) m).run Tryz.prog W = stored Tryz.prog W a (.float .f64 r.wt) m := fun W a m => run_store Tryz.prog W a _ m rfl
          clear hS hsrc hsk
          go_wp2_with (at_builtin; refine wpList_append_own _ rfl (.tmp 17) (.tmp 22) 43 rfl w.heap.size 21 i0 (.int .i32 0) 1 4 Tryz.underlying43 hi hz0 hz1 hz2 rfl (by decide) _ _ _ rfl (World.ownsRow_nil _ _ _ _) ad r.to.length tcap (r.to.map (Value.int .i32)) rfl (by simp) ((unhide HS) _) (fun u hu => by obtain ⟨z, _, rfl⟩ := List.mem_map.1 hu; rfl) (by unfold maxLen; omega) (by omega) (by simp; omega) ?_)
          intro v9 w9 hrow9 hg9 _
          have hok9 : Ok .i32 21 w9 w.heap.size v9 r.to := Ok.of hskf (by omega) hrow9 (by simp) (by simp)
          have hbox : w9.heap[wr.heap.size]? = some (.cells (rarr r (.slice (some ad) r.to.length tcap)) 46 (0, 0)) := by
            rw [hg9.block _ (by simp) (by simp [Value.ownBlock])]
            show (wr.heap.push _)[wr.heap.size]? = _
            simp [rarr]
          have s9 : wr.heap.size + 1 ≤ w9.heap.size := by simpa using hg9.size
          obtain ⟨ao9, cap9, hv9, _, _⟩ := hok9.sk.shape
          subst hv9
          have hM : ∀ o, ((w9.setCell ⟨wr.heap.size, 4, none⟩ (.slice ao9 r.to.length cap9)).alloc o).ownsRow w.heap.size 46 8 u3 ps.length (rcells ps) := fun o => by
            refine World.ownsRow.alloc (own_keep hown.1 fun g h => ?_) o
            have hlt9 := (hown.1.lt g h).2
            rw [set_other _ (by omega), hg9.block g (by simp; omega) (by simp [Value.ownBlock])]
            exact ((Below.refl wr.heap.size wr).alloc (Nat.le_refl _) _).block g hlt9
          have HM := hide hM
          have HMORE : Hid (∀ o v10 w10, World.ownsRow w10 w.heap.size 46 8 v10 (ps.length + 1) (rcells ps ++ rcell (r, .slice ao9 r.to.length cap9)) → ((w9.setCell ⟨wr.heap.size, 4, none⟩ (.slice ao9 r.to.length cap9)).alloc o).grownBy w10 u3.ownBlock → Rown w10 w.heap.size v10 (ps ++ [(r, .slice ao9 r.to.length cap9)]) ∧ Below w.heap.size w w10) := fun o v10 w10 a b => copied_more hown hbel hok9 hg9 a b
          have y0 := cell_of (j := 0) hbox (by show _ < 8; omega)
          have y1 := cell_of (j := 1) hbox (by show _ < 8; omega)
          have y2 := cell_of (j := 2) hbox (by show _ < 8; omega)
          have y3 := cell_of (j := 3) hbox (by show _ < 8; omega)
          have y4 := cell_of (j := 4) hbox (by show _ < 8; omega)
          have y5 := cell_of (j := 5) hbox (by show _ < 8; omega)
          have y6 := cell_of (j := 6) hbox (by show _ < 8; omega)
          have y7 := cell_of (j := 7) hbox (by show _ < 8; omega)
          have yf := frozen_of (j := 4) hbox
          have z0 : w9.cell? ⟨wr.heap.size, 0, none⟩ = some (.int .i64 r.kind) := y0
          have z1 : w9.cell? ⟨wr.heap.size, 1, none⟩ = some (.int .i64 r.lo) := y1
          have z2 : w9.cell? ⟨wr.heap.size, 2, none⟩ = some (.int .i64 r.hi) := y2
          have z3 : w9.cell? ⟨wr.heap.size, 3, none⟩ = some (.int .i64 r.n) := y3
          have z4 : w9.cell? ⟨wr.heap.size, 4, none⟩ = some (.slice (some ad) r.to.length tcap) := y4
          have z5 : w9.cell? ⟨wr.heap.size, 5, none⟩ = some (.string r.name) := y5
          have z6 : w9.cell? ⟨wr.heap.size, 6, none⟩ = some (.string r.other) := y6
          have z7 : w9.cell? ⟨wr.heap.size, 7, none⟩ = some (.float .f64 r.wt) := y7
          have hnew := rec_new2 (w9.setCell ⟨wr.heap.size, 4, none⟩ (.slice ao9 r.to.length cap9)) w9.heap.size (set_size _ _ _ _) r (.slice ao9 r.to.length cap9)
          have hone := rec_one r (vt := .slice ao9 r.to.length cap9) rfl
          have HNEW := hide hnew
          have HONE := hide hone
          clear hM hnew hone hrow9 hg9 hok9 hbox y0 y1 y2 y3 y4 y5 y6 y7 hown hbel
          go_wp2_with (at_builtin; refine wpList_append_own _ rfl (.tmp 25) (.tmp 27) 22 rfl w.heap.size 46 i1 (.agg #[.int .i64 0, .int .i64 0, .int .i64 0, .int .i64 0, .slice none 0 0, .string ⟨#[]⟩, .string ⟨#[]⟩, .float .f64 0]) 8 96 Tryz.underlying22 hj hy0 hy1 hy2 rfl (by decide) _ _ _ rfl ((unhide HM) _) ⟨w9.heap.size, 0, none⟩ 1 1 (rcell (r, .slice ao9 r.to.length cap9)) rfl rfl (unhide HNEW) (unhide HONE) (by unfold maxLen; omega) (by omega) (by simp; omega) ?_)
          intro v10 w10 hrow10 hg10 _
          obtain ⟨hR, hBW⟩ := (unhide HMORE) _ v10 w10 (by rw [hpl]; exact hrow10) hg10
          have HR := hide hR
          clear HMORE HM HNEW HONE hrow10 hg10 hR
          go_wp2
          go_roundw
          case rel => exact ⟨k + 1, ps ++ [(r, .slice ao9 r.to.length cap9)], by go_num, by omega, by rw [unhide HTK]; simp, by simp [hpl], unhide HR, hBW⟩
          case measure => simp [intOf]; omega
      · obtain rfl : k = rs.length := by omega
        rw [List.take_length] at hps
        have HF : RecsNew w rs (.returned u3) wr := ⟨u3, ps, rfl, hps, hown, hbel⟩
        clear hps hown HC HFit HTake
        go_wp2
        go_ret
        exact HF
end Go.Proofs.YtdnkfnccbmbpaaaGreatDoor
/- The document's own SameRecord and Same, of records that are the same. -/
namespace Go.Proofs.YtdnkfnccbmbpaaaGreatDoor
open Go.RowKit

theorem run_bits (b : Nat) (w : World) : (callFunc 59 #[.float .f64 b]).run Tryz.prog w = .ok (.value (.int .u64 b)) w := by
  rw [run_callFunc_extern (e := Extern.MathFloatBits.float64bits) Tryz.func59 (by kernel_rfl) (by kernel_rfl) (by kernel_rfl) (by kernel_rfl)]
  rfl
theorem bits_any (b : Nat) (w : World) : Calls Tryz.prog 33 #[.float .f64 b] w fun e w' => e = .returned (.int .u64 b) ∧ w' = w := by
  have h := fun w => run_bits b w
  go_enter Tryz.func33, Tryz.ntmps33
  go_wp2
  go_ret
  exact ⟨rfl, rfl⟩
theorem self_beq (t : ByteArray) : (t.toList == t.toList) = true := beq_self_eq_true _
/-- A bool; what was there stays. -/
theorem sk_drew {w : World} {v : Value} {zs : List Int} (h : Sk .i32 w v zs) (n : Nat) : Sk .i32 (w.drewN n) v zs := h.below (drewB ⟨n, rfl⟩)
set_option maxRecDepth 4000 in
set_option maxHeartbeats 4000000 in
theorem sameRecord_eq (r : Rec) (va vb : Value) (w : World) (ha : Sk .i32 w va r.to) (hb : Sk .i32 w vb r.to) (hl : r.to.length ≤ 1000000000) : Calls Tryz.prog 21 #[recV r va, recV r vb] w (BoolB w true) := by
  have HB := hide (fun w => bits_any r.wt w)
  have KA : Hid (∀ o1 o2 n, Calls Tryz.prog 36 #[va, vb] (((w.alloc o1).alloc o2).drewN n) (Draws (((w.alloc o1).alloc o2).drewN n) true)) := fun o1 o2 n => by
    have hbw : Below w.heap.size w ((w.alloc o1).alloc o2) := ((Below.refl _ _).alloc (Nat.le_refl _) _).alloc (by simp) _
    exact same3_eq va vb r.to _ (sk_drew (ha.below hbw) n) (sk_drew (hb.below hbw) n) hl
  obtain ⟨ao, ca, rfl, _, _⟩ := ha.shape
  obtain ⟨bo, cb, rfl, _, _⟩ := hb.shape
  unfold recV
  have q1 := self_beq r.name
  have q2 := self_beq r.other
  clear ha hb
  generalize r.kind = kd at *
  generalize r.n = n at *
  generalize r.lo = lo at *
  generalize r.hi = hi at *
  generalize r.name = nm at *
  generalize r.other = ot at *
  generalize r.wt = wt at *
  generalize r.to.length = tl at *
  have q3 : (kd == kd) = true := beq_self_eq_true _
  have q4 : (lo == lo) = true := beq_self_eq_true _
  have q5 : (hi == hi) = true := beq_self_eq_true _
  have q6 : (n == n) = true := beq_self_eq_true _
  have q7 : ((wt : Int) == (wt : Int)) = true := beq_self_eq_true _
  go_enter Tryz.func21, Tryz.ntmps21
  go_wp2
  go_big_quiet (first | exact Calls.quiet_of ((unhide KA) _ _ _) | exact Calls.quiet_of_same ((unhide HB) _))
  go_wp2
  go_ret
  exact ⟨rfl, (((Below.refl _ _).alloc (Nat.le_refl _) _).alloc (by simp) _).trans ((drewB ⟨_, rfl⟩).mono (by simp; omega))⟩
end Go.Proofs.YtdnkfnccbmbpaaaGreatDoor
/- The document's own Same, of records that are the same. -/
namespace Go.Proofs.YtdnkfnccbmbpaaaGreatDoor
open Go.RowKit

set_option maxRecDepth 4000 in
set_option maxHeartbeats 4000000 in
theorem sameRecs_eq (v u : Value) (rs : List Rec) (w : World) (hv : Rcs w v rs) (hu : Rcs w u rs) : Calls Tryz.prog 9 #[v, u] w (BoolB w true) := by
  have hlen := hv.1
  rcases Nat.eq_zero_or_pos rs.length with h0 | h0
  · obtain ⟨ao, cap, rfl, _, _⟩ := hv.shape
    obtain ⟨ao', cap', rfl, _, _⟩ := hu.shape
    rw [h0]
    clear hv hu
    go_enter Tryz.func9, Tryz.ntmps9
    go_wp2
    refine wp_loop_rounds 1 ?_
    rw [rounds_succ]
    go_wp2
    go_ret
    exact ⟨rfl, Below.refl _ _⟩
  · have HFit := hide (fun i hi => hv.fit (i := i) hi)
    obtain ⟨b, off, cap, rfl, hc1, hc2, hc⟩ := hv.place h0
    obtain ⟨b', off', cap', rfl, hc1', hc2', hc'⟩ := hu.place h0
    have HC : Hid (∀ i, i < rs.length → ∀ W, Below w.heap.size w W → RecAt W b (off + i * 8) (rs.getD i Cn.none) ∧ RecAt W b' (off' + i * 8) (rs.getD i Cn.none)) := fun i hi W hb => ⟨(hc i hi).below hb, (hc' i hi).below hb⟩
    have qn : ((rs.length : Int) != (rs.length : Int)) = false := by simp
    clear hv hu hc hc'
    go_enter Tryz.func9, Tryz.ntmps9
    go_wp2
    go_loopw [5] (fun i wr => ∃ k : Nat, i = .int .i64 k ∧ k ≤ rs.length ∧ Below w.heap.size w wr) (fun i _ => rs.length - (intOf i).toNat)
    case atStart => exact ⟨0, rfl, by omega, Below.refl _ _⟩
    case round =>
      obtain ⟨k, rfl, hk, hbel⟩ := hrel
      by_cases hlt : k < rs.length
      · obtain ⟨hA, hB⟩ := (unhide HC) k hlt wr hbel
        have hf := (unhide HFit) k hlt
        have hto := hf.len
        clear HC HFit hf
        generalize rs.getD k Cn.none = r at *
        obtain ⟨x0, x1, x2, x3, ⟨va, x4, ska⟩, x5, x6, x7⟩ := hA
        obtain ⟨y0, y1, y2, y3, ⟨vb, y4, skb⟩, y5, y6, y7⟩ := hB
        have KR : Hid (∀ n, Calls Tryz.prog 21 #[recV r va, recV r vb] (wr.drewN n) (BoolB (wr.drewN n) true)) := fun n => sameRecord_eq r va vb _ (sk_drew ska n) (sk_drew skb n) hto
        unfold recV at KR
        obtain ⟨ao, ca, rfl, _, _⟩ := ska.shape
        obtain ⟨bo, cb, rfl, _, _⟩ := skb.shape
        clear ska skb
        generalize r.kind = kd at *
        generalize r.n = n at *
        generalize r.lo = lo at *
        generalize r.hi = hi at *
        generalize r.name = nm at *
        generalize r.other = ot at *
        generalize r.wt = wt at *
        generalize r.to.length = tl at *
        go_wp2
        go_region_with (refine ((unhide KR) _).mono ?_; rintro e w1 ⟨rfl, hb1⟩)
        all_goals
          have hbw : Below w.heap.size w w1 := hbel.trans (Below.mono (bthen (drewB ⟨_, rfl⟩) hb1) hbel.size)
          clear hb1
          go_wp2
          go_roundw
          case rel => exact ⟨k + 1, by go_num, by omega, hbw⟩
          case measure => simp [intOf]; omega
      · clear HC HFit
        go_wp2
        go_ret
        exact ⟨rfl, hbel⟩
end Go.Proofs.YtdnkfnccbmbpaaaGreatDoor
