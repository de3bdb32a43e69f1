/- Records sorted by Lo. -/
import Derived.Test.YteigibncdbgpmaaGreatDoorCcL7
import Derived.Test.YteigibncdbgpmaaGreatDoorSort7
import Derived.Shelf.SlSortCmp.WholeK
namespace Go.Proofs.YteigibncdbgpmaaGreatDoor
open Go.RowKit Go.Sort Go.Shelf

/-- A record, and where its list lies. -/
abbrev Sp := Rec × Option Addr × Nat × Nat
def sval (x : Sp) : Value := .slice x.2.1 x.2.2.1 x.2.2.2
def encR (x : Sp) : List Value := rcell (x.1, sval x)
theorem encR_len (x : Sp) : (encR x).length = 8 := rfl
theorem encR_one (x : Sp) : ∀ v ∈ encR x, v.oneCell' = true := rec_one x.1 rfl
def loOf (x y : Sp) : Int := Lib.compareInt x.1.lo y.1.lo
theorem ltLo (x y : Sp) : ltOf loOf x y = decide (x.1.lo < y.1.lo) := by
  unfold ltOf loOf Lib.compareInt
  by_cases h1 : x.1.lo < y.1.lo
  · simp [h1]
  · by_cases h2 : y.1.lo < x.1.lo <;> simp [h1, h2]
theorem swoLo : SWO (ltOf loOf) := {
  irrefl := fun x => by rw [ltLo]; simp
  trans := fun x y z h1 h2 => by rw [ltLo] at *; simp at *; omega
  ntrans := fun x y z h1 h2 => by rw [ltLo] at *; simp at *; omega }
set_option maxRecDepth 8000 in
set_option maxHeartbeats 1000000 in
theorem byLo_any (x y : Sp) (W : World) : Calls Tryz.prog 61 #[.agg (encR x).toArray, .agg (encR y).toArray] W fun e w' => e = .returned (.int .i64 (loOf x y)) ∧ ∃ q os', w' = grow (W.drewN q) os' := by
  have K := hide (fun W => compareI_any x.1.lo y.1.lo W)
  have e : Lib.compareInt x.1.lo y.1.lo = loOf x y := rfl
  rw [e] at K
  generalize loOf x y = z at *
  obtain ⟨a, ao, al, ac⟩ := x
  obtain ⟨b, bo, bl, bc⟩ := y
  show Calls Tryz.prog 61 #[.agg #[.int .i64 a.kind, .int .i64 a.lo, .int .i64 a.hi, .int .i64 a.n, .slice ao al ac, .string a.name, .string a.other, .float .f64 a.wt], .agg #[.int .i64 b.kind, .int .i64 b.lo, .int .i64 b.hi, .int .i64 b.n, .slice bo bl bc, .string b.name, .string b.other, .float .f64 b.wt]] W _
  clear e
  go_enter Tryz.func61, Tryz.ntmps61
  go_wp2_with fail
  refine ((unhide K) _).mono ?_
  rintro e w1 ⟨rfl, rfl⟩
  clear K
  go_wp2
  go_ret
  exact ⟨rfl, 0, _, by rw [alloc_eq_grow, alloc_eq_grow, grow_grow]; rfl⟩
/-- Records in memory of the call's own, their lists where they were at the world w0. -/
def Lists (w0 : World) (xs : List Sp) : Prop := ∀ x ∈ xs, Sk .i32 w0 (sval x) x.1.to ∧ RecFit x.1
def Rsh (w0 w : World) (v : Value) (xs : List Sp) : Prop := w.ownsRow w0.heap.size 47 8 v xs.length (xs.flatMap encR) ∧ Lists w0 xs
def Rsx (w0 w : World) (v : Value) (xs : List Sp) : Prop := Lists w0 xs ∧ ((xs = [] ∧ ∃ ao cap, v = .slice ao 0 cap ∧ cap ≤ 9223372036854775807) ∨
  ∃ blk cap, v = .slice (some ⟨blk, 0, none⟩) xs.length cap ∧ w0.heap.size ≤ blk ∧ blk < w.heap.size ∧ xs.length ≤ cap ∧ cap ≤ 9223372036854775807 ∧ ∀ i j, i < xs.length → j < 8 → w.cell? ⟨blk, i * 8 + j, none⟩ = some ((encR (xs.getD i (Cn.none, none, 0, 0)))[j]!))
theorem flat_rcells (xs : List Sp) : xs.flatMap encR = rcells (xs.map fun x => (x.1, sval x)) := by
  induction xs with
  | nil => rfl
  | cons x xs ih => rw [List.flatMap_cons, ih]; rfl
theorem flat_len (xs : List Sp) : (xs.flatMap encR).length = xs.length * 8 := by rw [flat_rcells, rcells_length, List.length_map]
theorem flat_at (xs : List Sp) (i j : Nat) (hi : i < xs.length) (hj : j < 8) : (xs.flatMap encR)[i * 8 + j]? = some ((encR (xs.getD i (Cn.none, none, 0, 0)))[j]!) := by
  rw [flat_rcells, rcells_at _ i j (by simpa using hi) hj]
  have e : (xs.map fun x => (x.1, sval x)).getD i (Cn.none, undef) = ((xs.getD i (Cn.none, none, 0, 0)).1, sval (xs.getD i (Cn.none, none, 0, 0))) := by simp [List.getD, hi]
  rw [e]
  show (encR (xs.getD i (Cn.none, none, 0, 0)))[j]? = _
  have hl := encR_len (xs.getD i (Cn.none, none, 0, 0))
  rw [List.getElem?_eq_getElem (by rw [hl]; exact hj), getElem!_pos _ j (by rw [hl]; exact hj)]
theorem Rsx.keep {w0 w w' : World} {v : Value} {xs : List Sp} (h : Rsx w0 w v xs) (hs : w.heap.size ≤ w'.heap.size) (hk : ∀ g, v.ownBlock = some g → w'.heap[g]? = w.heap[g]?) : Rsx w0 w' v xs := by
  refine ⟨h.1, ?_⟩
  rcases h.2 with h2 | ⟨blk, cap, rfl, h1, h2, h3, h4, h5⟩
  · exact .inl h2
  · exact .inr ⟨blk, cap, rfl, h1, by omega, h3, h4, fun i j hi hj => by rw [World.cell?_of_block (hk blk rfl)]; exact h5 i j hi hj⟩
theorem Rsx.rcs {w0 w : World} {v : Value} {xs : List Sp} (h : Rsx w0 w v xs) (hw : Below w0.heap.size w0 w) (hl : xs.length ≤ 1000000000) : Rcs w v (xs.map (·.1)) := by
  refine ⟨by simpa using hl, fun r hr => ?_, ?_⟩
  · obtain ⟨x, hx, rfl⟩ := List.mem_map.1 hr
    exact (h.1 x hx).2
  · rcases h.2 with ⟨rfl, ao, cap, rfl, hc⟩ | ⟨blk, cap, rfl, h1, h2, h3, h4, h5⟩
    · exact .inl ⟨rfl, ao, cap, rfl, hc⟩
    · refine .inr ⟨blk, 0, cap, by simp, by simpa using h3, h4, fun i hi => ?_⟩
      rw [List.length_map] at hi
      have e : (xs.map (·.1)).getD i Cn.none = (xs.getD i (Cn.none, none, 0, 0)).1 := by simp [List.getD, hi]
      have hm : xs.getD i (Cn.none, none, 0, 0) ∈ xs := by simp [List.getD, hi]
      rw [e, Nat.zero_add]
      exact ⟨h5 i 0 hi (by omega), h5 i 1 hi (by omega), h5 i 2 hi (by omega), h5 i 3 hi (by omega), ⟨_, h5 i 4 hi (by omega), (h.1 _ hm).1.below hw⟩, h5 i 5 hi (by omega), h5 i 6 hi (by omega), h5 i 7 hi (by omega)⟩
theorem Rsh.rsx {w0 w : World} {v : Value} {xs : List Sp} (h : Rsh w0 w v xs) : Rsx w0 w v xs := by
  refine ⟨h.2, ?_⟩
  have h1 := h.1
  rcases h.1.2 with ⟨rfl, h0⟩ | ⟨g, cap, cur, rfl, hg, hh, hn, hcap, hsz, htake⟩
  · exact .inl ⟨List.eq_nil_of_length_eq_zero h0, none, 0, rfl, by omega⟩
  · refine .inr ⟨g, cap, rfl, hg, (h1.lt g rfl).2, hn, by unfold maxLen at hcap; omega, fun i j hi hj => ?_⟩
    have e := h1.cells (g := g) rfl (i * 8 + j) _ (flat_at xs i j hi hj)
    rw [addr_add, Nat.zero_add] at e
    exact e
theorem Rsh.holds [Inhabited Rec] {w0 w : World} {xs : List Sp} {g cap : Nat} (h : Rsh w0 w (.slice (some ⟨g, 0, none⟩) xs.length cap) xs) : HoldsK encR 8 w g 0 xs.toArray := by
  intro j hj
  rw [size_flatK] at hj
  have hj2 : j < xs.length * 8 := by simpa using hj
  rw [get_flatK _ _ _ _ hj]
  have hd : j / 8 < xs.length := by omega
  have e := h.1.cells (g := g) rfl j _ (by
    have := flat_at xs (j / 8) (j % 8) hd (by omega)
    rw [show j / 8 * 8 + j % 8 = j by omega] at this
    exact this)
  rw [addr_add, Nat.zero_add] at e
  have ed : xs.toArray[j / 8]! = xs.getD (j / 8) (Cn.none, none, 0, 0) := by
    rw [getElem!_pos _ _ (by simpa using hd)]
    simp [List.getD, hd]
  rw [ed, Nat.zero_add]
  refine ⟨e, ?_⟩
  rcases h.1.2 with ⟨hv, _⟩ | ⟨g', cap', cur, hv, _, hh, _⟩
  · simp at hv
  · simp only [Value.slice.injEq, Option.some.injEq, Addr.mk.injEq, and_true] at hv
    obtain ⟨rfl, _, _⟩ := hv
    exact frozen_of hh
/-- What a sort leaves alone. -/
theorem sort_grown [Inhabited Rec] {w : World} {blk n : Nat} {d : Array Sp} {os : Array Obj} : w.grownBy (sortWorldK encR 8 w blk 0 n d os) (some blk) := by
  refine ⟨rfl, rfl, rfl, ?_, fun k hk hne => ?_⟩
  · show w.heap.size ≤ ((putRowK encR 8 (Sort.ahead w n) blk 0 d).heap ++ os).size
    rw [Array.size_append]
    have : (putRowK encR 8 (Sort.ahead w n) blk 0 d).heap.size = w.heap.size := by unfold putRowK; rw [size_putRow]; rfl
    omega
  · show ((putRowK encR 8 (Sort.ahead w n) blk 0 d).heap ++ os)[k]? = _
    have hs : (putRowK encR 8 (Sort.ahead w n) blk 0 d).heap.size = w.heap.size := by unfold putRowK; rw [size_putRow]; rfl
    rw [Array.getElem?_append_left (by omega)]
    show (w.heap.modify blk _)[k]? = _
    rw [Array.getElem?_modify, if_neg (fun e => hne (by rw [e]))]
set_option maxRecDepth 8000 in
set_option maxHeartbeats 2000000 in
theorem ins_nil (p : Option Addr) (cap : Nat) (fv : Value) (w : World) : Calls Tryz.prog 98 #[.slice p 0 cap, .int .i64 0, .int .i64 0, fv] w fun e w' => e = .returned (.tuple #[]) ∧ w' = w := by
  go_enter Tryz.func98, Tryz.ntmps98
  go_wp2
  refine wp_loop_rounds 1 ?_
  rw [rounds_succ]
  go_wp2
  go_end0
  exact ⟨rfl, rfl⟩
set_option maxRecDepth 8000 in
set_option maxHeartbeats 2000000 in
theorem pdq_nil (p : Option Addr) (cap : Nat) (lim : Int) (fv : Value) (w : World) : Calls Tryz.prog 82 #[.slice p 0 cap, .int .i64 0, .int .i64 0, .int .i64 lim, fv] w fun e w' => e = .returned (.tuple #[]) ∧ w' = w := by
  have hi := fun W => ins_nil p cap fv W
  go_enter Tryz.func82, Tryz.ntmps82
  go_wp2
  refine wp_loop_rounds 1 ?_
  rw [rounds_succ]
  go_wp2_with (go_at_call 98; refine (hi _).mono ?_; rintro e w' ⟨rfl, rfl⟩)
  (try simp only [Exit.inBlock, Exit.then]); refine bodyPost_ret (results_none rfl _ _ _) rfl ?_
  exact ⟨rfl, rfl⟩
set_option maxRecDepth 8000 in
set_option maxHeartbeats 2000000 in
theorem sort_nil (p : Option Addr) (cap : Nat) (fv : Value) (w : World) : Calls Tryz.prog 60 #[.slice p 0 cap, fv] w fun e w' => e = .returned (.tuple #[]) ∧ w' = w := by
  have hl : ∀ W, Calls Tryz.prog 83 #[.int .u64 0] W fun e w' => e = .returned (.int .i64 0) ∧ w' = W := fun W =>
    Any.bits_Len (SlLaysF0.n15.bits (P := Tryz.prog) (ρ := Tryz.lays60_ren) { Tryz.lays60 with }) 0 W (by omega) (by omega)
  have hp := fun lim W => pdq_nil p cap lim fv W
  go_enter Tryz.func60, Tryz.ntmps60
  go_wp2_with (first | (go_at_call 83; refine (hl _).mono ?_; rintro e w' ⟨rfl, rfl⟩) | (go_at_call 82; refine (hp _ _).mono ?_; rintro e w' ⟨rfl, rfl⟩))
  go_end0
  exact ⟨rfl, rfl⟩
def SortB (w0 w : World) (v : Value) (xs : List Sp) (e : Ending) (w' : World) : Prop := e = .returned (.tuple #[]) ∧ ∃ xs' : List Sp, xs'.Perm xs ∧ (xs'.Pairwise fun a b => a.1.lo ≤ b.1.lo) ∧ Rsx w0 w' v xs' ∧ w.grownBy w' v.ownBlock
theorem sort_any (w0 w : World) (v : Value) (xs : List Sp) (h : Rsh w0 w v xs) (hl : xs.length ≤ 1000000000) : Calls Tryz.prog 60 #[v, .func (.func 61) #[] #[]] w (SortB w0 w v xs) := by
  have inh : Inhabited Rec := ⟨Cn.none⟩
  rcases h.1.2 with ⟨rfl, h0⟩ | ⟨g, cap, cur, rfl, hg, hh, hn, hcap, hsz, htake⟩
  · obtain rfl : xs = [] := List.eq_nil_of_length_eq_zero h0
    refine (sort_nil none 0 _ w).mono ?_
    rintro e w' ⟨rfl, rfl⟩
    exact ⟨rfl, [], List.Perm.refl _, .nil, h.rsx, ⟨rfl, rfl, rfl, Nat.le_refl _, fun _ _ _ => rfl⟩⟩
  · have hlt := (h.1.lt g rfl).2
    have hH := h.holds
    have eg : ∀ args w, (callFunc 61 args).run Tryz.prog w = .ok (.enter 61 args) w := enters_of Tryz.func61 (by kernel_rfl) rfl
    have hcmp : CmpLays Tryz.prog 61 #[] encR 8 loOf g 0 xs.toArray.size w := fun _ _ _ _ x y => byLo_any x y _
    have aE : ∀ w, (isAgg 47).run Tryz.prog w = .ok true w := Tryz.isAgg47
    have zE : ∀ w, (Go.sizeOf 47).run Tryz.prog w = .ok 8 w := Tryz.sizeOf47
    have K := AnyQ.slices_SortFunc Tryz.lays60 8 aE zE encR encR_len encR_one loOf swoLo 61 #[] g 0 cap xs.toArray w eg hcmp hH hlt (by simp; omega)
    change Calls Tryz.prog 60 #[.slice (some ⟨g, 0, none⟩) xs.length cap, _] w _ at K
    refine K.mono ?_
    rintro e w' ⟨rfl, d', n, os, ⟨p1, _, p3⟩, hs, rfl⟩
    have hds : d'.size = xs.length := by simpa using p1
    have hper : d'.toList.Perm xs := by
      have e1 : d'.extract 0 xs.toArray.size = d' := by rw [← p1, Array.extract_size]
      rw [e1] at p3
      simpa using p3
    have hw' : SWK encR 8 w g 0 d' (sortWorldK encR 8 w g 0 n d' os) := ⟨n, os, rfl⟩
    have hh' := hw'.holds hlt hH p1
    refine ⟨rfl, d'.toList, hper, ?_, ⟨fun x hx => h.2 x (hper.mem_iff.1 hx), .inr ⟨g, cap, by rw [show d'.toList.length = xs.length by simpa using hds], hg, hw'.lt hlt, by rw [Array.length_toList, hds]; exact hn, by unfold maxLen at hcap; omega, fun i j hi hj => ?_⟩⟩, sort_grown⟩
    · rw [List.pairwise_iff_getElem]
      intro i j hi hj hij
      have := hs i j (Nat.zero_le _) hij (by simp at hj ⊢; omega)
      rw [ltLo, decide_eq_false_iff_not] at this
      rw [getElem!_pos d' j (by simpa using hj), getElem!_pos d' i (by simpa using hi)] at this
      simp only [Array.getElem_toList]
      omega
    · rw [Array.length_toList] at hi
      have := (hh'.cell (i := i) (c := j) hi hj).1
      rw [Nat.zero_add] at this
      rw [this, getElem!_pos d' i hi]
      simp [List.getD, hi]
end Go.Proofs.YteigibncdbgpmaaGreatDoor
