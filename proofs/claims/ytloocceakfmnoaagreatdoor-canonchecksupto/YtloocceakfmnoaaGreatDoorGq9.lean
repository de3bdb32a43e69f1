import Derived.Test.YtloocceakfmnoaaGreatDoorMCcM7
import Derived.Test.YtloocceakfmnoaaGreatDoorMTbT7
import Derived.Test.YtloocceakfmnoaaGreatDoorMTbU7
/- The map of pairs; pairOf. -/
namespace Go.Proofs.YtloocceakfmnoaaGreatDoor
open Go.RowKit Go.MapKept Go.WideMaps
open Go.ChangeMaps (setBlock)

theorem pairLaw2 : KeyLaw Tryz.prog 122 := deep_law_laid laidOut7 (m := 3) (by decide) (of_decide_eq_true (by kernel_rfl)) (by kernel_rfl) (by kernel_rfl)
def pk2 (a b : Int) : Value := .agg #[.int .i32 a, .int .i32 b]
theorem cellsPk2 : Tryz.prog.cellsOf 122 = 2 := by kernel_rfl
theorem cellsRn : Tryz.prog.cellsOf 21 = 1 := by kernel_rfl
theorem keyTypePk2 : Tryz.prog.keyType 122 = true := by kernel_rfl
theorem keyLits_rn {a : Int} (h : Rune a) (D : Nat) : Tryz.prog.keyLits (D + 1) 21 [.int .i32 a] = some [.int .i32 a] := by
  rw [Program.keyLits.eq_def]
  simp only [Tryz.underlying21]
  have hw : (Lit.int .i32 a).wf = true := by
    unfold Rune at h
    simp [Lit.wf, IntKind.min, IntKind.max, IntKind.signed, IntKind.bits]; omega
  rw [if_pos ⟨trivial, hw⟩]
theorem keyLits_pk2 {a b : Int} (ha : Rune a) (hb : Rune b) (D : Nat) : Tryz.prog.keyLits (D + 2) 122 [.int .i32 a, .int .i32 b] = some [.int .i32 a, .int .i32 b] := by
  rw [Program.keyLits.eq_def]
  simp only [Tryz.underlying122, cellsPk2, cellsRn]
  rw [if_pos (show [Value.int .i32 a, Value.int .i32 b].length = 2 from rfl)]
  have e : List.range 2 = [0, 1] := rfl
  rw [e]
  simp [List.mapM_cons, keyLits_rn ha D, keyLits_rn hb D]
theorem pk2_key {a b : Int} (ha : Rune a) (hb : Rune b) : ∃ l, keyOf Tryz.prog 122 (pk2 a b) = some l := by
  have hf : (pk2 a b).formed Tryz.prog 122 = true := by
    simp [pk2, Value.formed, Tryz.underlying122, cellsPk2]
  obtain ⟨n, hn⟩ : ∃ n, Tryz.prog.types.size + 1 = n + 2 := ⟨Tryz.prog.types.size - 1, by have : 0 < Tryz.prog.types.size := of_decide_eq_true (by kernel_rfl); omega⟩
  refine ⟨.string (keyBytes [.int .i32 a, .int .i32 b]), ?_⟩
  unfold keyOf
  simp only [Tryz.underlying122, keyTypePk2, hf, Bool.and_self, if_true, hn]
  show (Tryz.prog.keyLits (n + 2) 122 [.int .i32 a, .int .i32 b]).map _ = _
  rw [keyLits_pk2 ha hb n]
  rfl
theorem pk2_inj {a b a' b' : Int} (h : pk2 a b = pk2 a' b') : a = a' ∧ b = b' := by
  unfold pk2 at h
  simpa using h
/-- Where each pair was met first. -/
structure PObj (es : Array MapEntry) (clock : Nat) (c : Int → Int → Option Int) : Prop where
  st : Stamped es clock
  keys : ∀ x ∈ es.toList, ∃ a b n, x.key = pk2 a b ∧ x.val = .int .i64 n ∧ c a b = some n ∧ Rune a ∧ Rune b
  none : ∀ a b, (∀ x ∈ es.toList, x.key ≠ pk2 a b) → c a b = none
def PAt (w : World) (r : Nat) (c : Int → Int → Option Int) : Prop := ∃ es clock, w.heap[r]? = some (.map es clock) ∧ PObj es clock c
theorem PObj.ks {es : Array MapEntry} {clock : Nat} {c : Int → Int → Option Int} (h : PObj es clock c) : ∀ x ∈ es.toList, ∃ l, keyOf Tryz.prog 122 x.key = some l := fun x hx => by
  obtain ⟨a, b, n, e, _, _, ha, hb⟩ := h.keys x hx
  rw [e]
  exact pk2_key ha hb
theorem pempty : PObj #[] 0 (fun _ _ => none) := ⟨⟨fun x hx => by simp at hx, by simp, by simp⟩, fun x hx => by simp at hx, fun _ _ _ => rfl⟩
theorem look_ok {w : World} {r : Nat} {c : Int → Int → Option Int} (h : PAt w r c) {a b : Int} (ha : Rune a) (hb' : Rune b) :
    (Instr.lookup 65 (.map (some r)) (pk2 a b) true).run Tryz.prog w = .ok (.tuple #[.int .i64 ((c a b).getD 0), .bool (c a b).isSome]) w ∧ (Instr.lookup 65 (.map (some r)) (pk2 a b) false).run Tryz.prog w = .ok (.int .i64 ((c a b).getD 0)) w := by
  obtain ⟨es, clock, hb, h⟩ := h
  obtain ⟨l, hl⟩ := pk2_key ha hb'
  rcases pairLaw2.find w hl es.toList h.ks with ⟨h1, h2⟩ | ⟨j, e0, h1, h2, h3⟩
  · rw [h.none a b h2]
    refine ⟨?_, ?_⟩
    · simp [Instr.lookup, run_underlying Tryz.underlying65, MapKept.run_getObj_map hb, pairLaw2.check w _ hl, h1, Result.andThen]
    · simp [Instr.lookup, run_underlying Tryz.underlying65, MapKept.run_getObj_map hb, pairLaw2.check w _ hl, h1, Result.andThen]
  · obtain ⟨a', b', n, e1, e2, e3, _, _⟩ := h.keys e0 (List.mem_of_getElem? h2)
    obtain ⟨rfl, rfl⟩ := pk2_inj (e1.symm.trans h3)
    rw [e3]
    refine ⟨?_, ?_⟩
    · simp [Instr.lookup, run_underlying Tryz.underlying65, MapKept.run_getObj_map hb, pairLaw2.check w _ hl, h1, Result.andThen, e2]
    · simp [Instr.lookup, run_underlying Tryz.underlying65, MapKept.run_getObj_map hb, pairLaw2.check w _ hl, h1, Result.andThen, e2]
def setP (c : Int → Int → Option Int) (a b n : Int) : Int → Int → Option Int := fun x y => if x = a ∧ y = b then some n else c x y
theorem run_update {w : World} {r : Nat} {c : Int → Int → Option Int} (h : PAt w r c) {a b : Int} (ha : Rune a) (hb' : Rune b) (hn : c a b = none) (n : Int) :
    ∃ es' clock', (Instr.mapUpdate 65 (.map (some r)) (pk2 a b) (.int .i64 n)).run Tryz.prog w = .ok () (setBlock w r (.map es' clock')) ∧ PObj es' clock' (setP c a b n) := by
  obtain ⟨es, clock, hb, h⟩ := h
  obtain ⟨l, hl⟩ := pk2_key ha hb'
  rcases pairLaw2.find w hl es.toList h.ks with ⟨h1, h2⟩ | ⟨j, e0, h1, h2, h3⟩
  · refine ⟨es.push ⟨pk2 a b, .int .i64 n, clock⟩, clock + 1, ?_, ⟨stamped_push h.st h2, fun x hx => ?_, fun a' b' hn' => ?_⟩⟩
    · simp [Instr.mapUpdate, run_underlying Tryz.underlying65, MapKept.run_getObj_map hb, pairLaw2.check w false hl, h1, MapKept.run_setObj_map _ hb, Result.andThen, setBlock]
    · simp only [Array.toList_push, List.mem_append, List.mem_singleton] at hx
      rcases hx with hx | rfl
      · obtain ⟨a', b', m, e1, e2, e3, e4⟩ := h.keys x hx
        refine ⟨a', b', m, e1, e2, ?_, e4⟩
        unfold setP
        rw [if_neg, e3]
        rintro ⟨rfl, rfl⟩
        rw [hn] at e3; cases e3
      · exact ⟨a, b, n, rfl, rfl, by unfold setP; rw [if_pos ⟨rfl, rfl⟩], ha, hb'⟩
    · unfold setP
      rw [if_neg]
      · exact h.none a' b' fun x hx => hn' x (by simp [hx])
      · rintro ⟨rfl, rfl⟩
        exact hn' ⟨pk2 a' b', .int .i64 n, clock⟩ (by simp) rfl
  · obtain ⟨a', b', m, e1, e2, e3, _, _⟩ := h.keys e0 (List.mem_of_getElem? h2)
    obtain ⟨rfl, rfl⟩ := pk2_inj (e1.symm.trans h3)
    rw [hn] at e3; cases e3
set_option maxRecDepth 8000 in
set_option maxHeartbeats 2000000 in
theorem pairOf_any (r : Rec) (vt : Value) (w : World) (hv : Sk .i32 w vt r.to) (h2 : r.to.length = 2) : Calls Tryz.prog 75 #[recV r vt] w fun e w' => e = .returned (pk2 (r.to.getD 0 0) (r.to.getD 1 0)) ∧ Below w.heap.size w w' := by
  obtain ⟨b, off, cap, rfl, _, hc, hcell⟩ := hv.place (by omega)
  have y0 := hcell 0 (by omega)
  have y1 := hcell 1 (by omega)
  rw [Nat.add_zero] at y0
  have hlt := lt_of_cell? y0
  have Y0 : ∀ W, Below w.heap.size w W → W.cell? ⟨b, off, none⟩ = some (.int .i32 (r.to.getD 0 0)) := fun W h => by rw [h.cell hlt]; exact y0
  have Y1 : ∀ W, Below w.heap.size w W → W.cell? ⟨b, off + 1, none⟩ = some (.int .i32 (r.to.getD 1 0)) := fun W h => by rw [h.cell hlt]; exact y1
  have hB : Below w.heap.size w ((w.alloc (.cells #[.int .i64 r.kind, .int .i64 r.lo, .int .i64 r.hi, .int .i64 r.n, .slice (some ⟨b, off, none⟩) 2 cap, .string r.name, .string r.other, .float .f64 r.wt] 60)).alloc (.cells #[.int .i32 0, .int .i32 0] 122)) := ((Below.refl _ _).alloc (Nat.le_refl _) _).alloc (by simp) _
  have z0 := Y0 _ hB
  have z1 := Y1 _ hB
  rw [h2]
  unfold recV pk2
  clear hv hcell Y0 Y1 y0 y1 hB
  generalize r.to.getD 0 0 = p at *
  generalize r.to.getD 1 0 = q at *
  go_enter Tryz.func75, Tryz.ntmps75
  go_wp2
  go_region
  go_wp2
  go_returns
  exact ⟨rfl, (((Below.refl _ _).alloc (Nat.le_refl _) _).alloc (by simp) _).trans ((drewB ⟨1, rfl⟩).mono (by simp; omega))⟩
end Go.Proofs.YtloocceakfmnoaaGreatDoor
/- An index in the making. -/
namespace Go.Proofs.YtloocceakfmnoaaGreatDoor
namespace Cn
/-- Is the record a decomposition to the two? -/
def isP (a b : Int) (r : Rec) : Bool := decide (r.kind = 7 ∧ r.to.getD 0 0 = a ∧ r.to.getD 1 0 = b)
def firstP (l : List Rec) (a b : Int) : Option Int := (l.findIdx? (isP a b)).map Int.ofNat
theorem firstP_snoc (l : List Rec) (r : Rec) (a b : Int) : firstP (l ++ [r]) a b = (firstP l a b).or (if isP a b r then some (l.length : Int) else Option.none) := by
  unfold firstP
  rw [List.findIdx?_append]
  cases h : l.findIdx? (isP a b) with
  | some n => simp
  | none =>
    simp only [Option.map_none, Option.none_or]
    rw [List.findIdx?_cons]
    by_cases hp : isP a b r = true
    · simp [hp]
    · simp [hp]
theorem firstP_other {l : List Rec} {r : Rec} (h : r.kind ≠ 7) : firstP (l ++ [r]) = firstP l := by
  funext a b
  rw [firstP_snoc, show isP a b r = false by unfold isP; exact decide_eq_false (fun q => h q.1)]
  simp
theorem firstP_known {l : List Rec} {r : Rec} (hk : (firstP l (r.to.getD 0 0) (r.to.getD 1 0)).isSome = true) : firstP (l ++ [r]) = firstP l := by
  funext a b
  rw [firstP_snoc]
  by_cases h : isP a b r = true
  · obtain ⟨_, rfl, rfl⟩ := of_decide_eq_true h
    obtain ⟨n, hn⟩ := Option.isSome_iff_exists.1 hk
    rw [hn]; rfl
  · rw [if_neg h]; simp
theorem firstP_new {l : List Rec} {r : Rec} (h7 : r.kind = 7) (hk : firstP l (r.to.getD 0 0) (r.to.getD 1 0) = Option.none) : firstP (l ++ [r]) = setP (firstP l) (r.to.getD 0 0) (r.to.getD 1 0) (l.length : Int) := by
  funext a b
  rw [firstP_snoc]
  unfold setP
  by_cases h : a = r.to.getD 0 0 ∧ b = r.to.getD 1 0
  · obtain ⟨rfl, rfl⟩ := h
    rw [hk, show isP (r.to.getD 0 0) (r.to.getD 1 0) r = true from decide_eq_true ⟨h7, rfl, rfl⟩]
    simp
  · rw [if_neg h, show isP a b r = false from decide_eq_false (fun q => h ⟨q.2.1.symm, q.2.2.symm⟩)]
    simp
/-- A pair that stands ahead. -/
theorem firstP_lt {l : List Rec} {i : Nat} (hi : i < l.length) (h7 : (l.getD i none).kind = 7) : ((firstP l ((l.getD i none).to.getD 0 0) ((l.getD i none).to.getD 1 0)).getD 0 < (i : Int)) ↔ ((l.take i).any fun k => decide (k.kind = 7 ∧ k.to.getD 0 0 = (l.getD i none).to.getD 0 0 ∧ k.to.getD 1 0 = (l.getD i none).to.getD 1 0)) = true := by
  have eg : l.getD i none = l[i] := getD_at hi
  have hp : isP ((l.getD i none).to.getD 0 0) ((l.getD i none).to.getD 1 0) l[i] = true := by
    rw [eg] at h7 ⊢
    exact decide_eq_true ⟨h7, rfl, rfl⟩
  generalize (l.getD i none).to.getD 0 0 = a at *
  generalize (l.getD i none).to.getD 1 0 = b at *
  have hany : ((l.take i).any fun k => decide (k.kind = 7 ∧ k.to.getD 0 0 = a ∧ k.to.getD 1 0 = b)) = (l.take i).any (isP a b) := rfl
  rw [hany]
  unfold firstP
  cases hf : l.findIdx? (isP a b) with
  | none =>
    rw [List.findIdx?_eq_none_iff] at hf
    rw [hf _ (List.getElem_mem hi)] at hp
    cases hp
  | some n =>
    obtain ⟨hn, hn1, hn2⟩ := List.findIdx?_eq_some_iff_getElem.1 hf
    simp only [Option.map_some, Option.getD_some, List.any_eq_true]
    constructor
    · intro h
      have hlt : n < i := by
        have : (Int.ofNat n) = (n : Int) := rfl
        omega
      exact ⟨l[n], List.mem_take_iff_getElem.2 ⟨n, by omega, rfl⟩, hn1⟩
    · rintro ⟨x, hx, hxp⟩
      obtain ⟨j, hj, rfl⟩ := List.mem_take_iff_getElem.1 hx
      have hjn : n ≤ j := by
        rcases Nat.lt_or_ge j n with h | h
        · exact absurd hxp (by simpa using hn2 j h)
        · exact h
      show (Int.ofNat n) < (i : Int)
      have : (Int.ofNat n) = (n : Int) := rfl
      omega
end Cn
open Go.RowKit
open Go.ChangeMaps (setBlock)
/-- The index that newIndex is making: its result's variable, its map, its fields. -/
structure NI (w0 W : World) (c : Int → Int → Option Int) (cv ov : Value) (cxs oxs : List Sp) : Prop where
  hr : W.heap[w0.heap.size]? = some (.cells #[.slice none 0 0, .slice none 0 0, .map none] 67 (0, 0))
  hm : PAt W (w0.heap.size + 1) c
  hx : W.heap[w0.heap.size + 2]? = some (.cells #[cv, ov, .map (some (w0.heap.size + 1))] 67 (0, 0))
  hc : Rsh w0 W cv cxs
  ho : Rsh w0 W ov oxs
  ap : ∀ g, cv.ownBlock = some g → ov.ownBlock ≠ some g
  bel : Below w0.heap.size w0 W
theorem heap_lt {W : World} {g : Nat} {o : Obj} (h : W.heap[g]? = some o) : g < W.heap.size := by
  rcases Nat.lt_or_ge g W.heap.size with h1 | h1
  · exact h1
  · rw [Array.getElem?_eq_none h1] at h; cases h
theorem Rsh.keep {w0 W W' : World} {v : Value} {xs : List Sp} (h : Rsh w0 W v xs) (hk : ∀ g, v.ownBlock = some g → W'.heap[g]? = W.heap[g]?) : Rsh w0 W' v xs := ⟨own_keep h.1 hk, h.2⟩
theorem NI.below {w0 W W' : World} {c : Int → Int → Option Int} {cv ov : Value} {cxs oxs : List Sp} (h : NI w0 W c cv ov cxs oxs) (hb : Below W.heap.size W W') : NI w0 W' c cv ov cxs oxs := by
  obtain ⟨es, cl, hm1, hm2⟩ := h.hm
  exact ⟨by rw [hb.block _ (heap_lt h.hr)]; exact h.hr, ⟨es, cl, by rw [hb.block _ (heap_lt hm1)]; exact hm1, hm2⟩, by rw [hb.block _ (heap_lt h.hx)]; exact h.hx,
    h.hc.keep fun g hg => hb.block g (h.hc.1.lt g hg).2, h.ho.keep fun g hg => hb.block g (h.ho.1.lt g hg).2, h.ap, bthen h.bel hb⟩
theorem rsh_tag {w0 W : World} {v : Value} {xs : List Sp} (h : Rsh w0 W v xs) {g : Nat} (hg : v.ownBlock = some g) : ∃ cur, W.heap[g]? = some (.cells cur 60 (0, 0)) := by
  rcases h.1.2 with ⟨rfl, _⟩ | ⟨k, cap, cur, rfl, _, hh, _⟩
  · cases hg
  · simp [Value.ownBlock] at hg
    subst hg
    exact ⟨cur, hh⟩
theorem NI.far {w0 W : World} {c : Int → Int → Option Int} {cv ov v : Value} {cxs oxs xs : List Sp} (h : NI w0 W c cv ov cxs oxs) (hv : Rsh w0 W v xs) : ∀ g, v.ownBlock = some g → g ≠ w0.heap.size ∧ g ≠ w0.heap.size + 1 ∧ g ≠ w0.heap.size + 2 := by
  intro g hg
  obtain ⟨cur, hcur⟩ := rsh_tag hv hg
  refine ⟨fun e => ?_, fun e => ?_, fun e => ?_⟩
  · rw [e, h.hr] at hcur; simp at hcur
  · obtain ⟨es, cl, hm1, _⟩ := h.hm
    rw [e, hm1] at hcur; simp at hcur
  · rw [e, h.hx] at hcur; simp at hcur
/-- One more class: the append, and the field's store. -/
theorem NI.classes {w0 W w1 : World} {c : Int → Int → Option Int} {cv ov v' : Value} {cxs oxs : List Sp} {o : Obj} {x : Sp} (h : NI w0 W c cv ov cxs oxs) (hx : Sk .i32 w0 (sval x) x.1.to ∧ RecFit x.1)
    (hown : w1.ownsRow w0.heap.size 60 8 v' (cxs.length + 1) (cxs.flatMap encR ++ encR x)) (hg : (W.alloc o).grownBy w1 cv.ownBlock) (hat : v'.ownBlock = cv.ownBlock ∨ v'.ownBlock = some (W.heap.size + 1)) :
    w1.heap[w0.heap.size + 2]? = some (.cells #[cv, ov, .map (some (w0.heap.size + 1))] 67 (0, 0)) ∧ NI w0 (w1.setCell ⟨w0.heap.size + 2, 0, none⟩ v') c v' ov (cxs ++ [x]) oxs := by
  have kA : ∀ g, g < W.heap.size → (W.alloc o).heap[g]? = W.heap[g]? := fun g hg => ((Below.refl W.heap.size W).alloc (Nat.le_refl _) _).block g hg
  have k1 : ∀ g, g < W.heap.size → cv.ownBlock ≠ some g → w1.heap[g]? = W.heap[g]? := fun g h1 h2 => by
    rw [hg.block g (by simp; omega) (fun e => h2 e.symm), kA g h1]
  have hfar := h.far h.hc
  have hb2 : w1.heap[w0.heap.size + 2]? = some (.cells #[cv, ov, .map (some (w0.heap.size + 1))] 67 (0, 0)) := by rw [k1 _ (heap_lt h.hx) (fun e => (hfar _ e).2.2 rfl)]; exact h.hx
  have hnew : Rsh w0 w1 v' (cxs ++ [x]) := ⟨by simpa using hown, fun y hy => by
    rcases List.mem_append.1 hy with hy | hy
    · exact h.hc.2 y hy
    · simp only [List.mem_singleton] at hy
      subst hy; exact hx⟩
  have hold : ∀ g, v'.ownBlock = some g → g ≠ w0.heap.size + 2 ∧ ov.ownBlock ≠ some g := fun g hg' => by
    rcases hat with e | e
    · rw [e] at hg'
      exact ⟨(hfar g hg').2.2, h.ap g hg'⟩
    · rw [e] at hg'
      simp at hg'
      have l1 := heap_lt h.hx
      refine ⟨by omega, fun e2 => ?_⟩
      have := (h.ho.1.lt g e2).2
      omega
  obtain ⟨es, cl, hm1, hm2⟩ := h.hm
  refine ⟨hb2, ⟨?_, ⟨es, cl, ?_, hm2⟩, ?_, ?_, ?_, fun g hg' => (hold g hg').2, ?_⟩⟩
  · rw [set_other _ (by omega), k1 _ (heap_lt h.hr) (fun e => (hfar _ e).1 rfl)]; exact h.hr
  · rw [set_other _ (by omega), k1 _ (heap_lt hm1) (fun e => (hfar _ e).2.1 rfl)]; exact hm1
  · rw [set_block hb2]; rfl
  · exact hnew.keep fun g hg' => by rw [set_other _ (hold g hg').1]
  · refine h.ho.keep fun g hg' => ?_
    rw [set_other _ (h.far h.ho g hg').2.2, k1 g (h.ho.1.lt g hg').2 (fun e => h.ap g e hg')]
  · have b1 : Below w0.heap.size w0 w1 := (h.bel.alloc h.bel.size o).grown hg (by have := h.bel.size; simp; omega) (fun k hk => (h.hc.1.lt k hk).1)
    exact below_set b1 (by omega) v'
theorem NI.opens {w0 W w1 : World} {c : Int → Int → Option Int} {cv ov v' : Value} {cxs oxs : List Sp} {o : Obj} {x : Sp} (h : NI w0 W c cv ov cxs oxs) (hx : Sk .i32 w0 (sval x) x.1.to ∧ RecFit x.1)
    (hown : w1.ownsRow w0.heap.size 60 8 v' (oxs.length + 1) (oxs.flatMap encR ++ encR x)) (hg : (W.alloc o).grownBy w1 ov.ownBlock) (hat : v'.ownBlock = ov.ownBlock ∨ v'.ownBlock = some (W.heap.size + 1)) :
    w1.heap[w0.heap.size + 2]? = some (.cells #[cv, ov, .map (some (w0.heap.size + 1))] 67 (0, 0)) ∧ NI w0 (w1.setCell ⟨w0.heap.size + 2, 1, none⟩ v') c cv v' cxs (oxs ++ [x]) := by
  have kA : ∀ g, g < W.heap.size → (W.alloc o).heap[g]? = W.heap[g]? := fun g hg => ((Below.refl W.heap.size W).alloc (Nat.le_refl _) _).block g hg
  have k1 : ∀ g, g < W.heap.size → ov.ownBlock ≠ some g → w1.heap[g]? = W.heap[g]? := fun g h1 h2 => by
    rw [hg.block g (by simp; omega) (fun e => h2 e.symm), kA g h1]
  have hfar := h.far h.ho
  have hb2 : w1.heap[w0.heap.size + 2]? = some (.cells #[cv, ov, .map (some (w0.heap.size + 1))] 67 (0, 0)) := by rw [k1 _ (heap_lt h.hx) (fun e => (hfar _ e).2.2 rfl)]; exact h.hx
  have hnew : Rsh w0 w1 v' (oxs ++ [x]) := ⟨by simpa using hown, fun y hy => by
    rcases List.mem_append.1 hy with hy | hy
    · exact h.ho.2 y hy
    · simp only [List.mem_singleton] at hy
      subst hy; exact hx⟩
  have hold : ∀ g, v'.ownBlock = some g → g ≠ w0.heap.size + 2 ∧ cv.ownBlock ≠ some g := fun g hg' => by
    rcases hat with e | e
    · rw [e] at hg'
      exact ⟨(hfar g hg').2.2, fun e2 => h.ap g e2 hg'⟩
    · rw [e] at hg'
      simp at hg'
      have l1 := heap_lt h.hx
      refine ⟨by omega, fun e2 => ?_⟩
      have := (h.hc.1.lt g e2).2
      omega
  obtain ⟨es, cl, hm1, hm2⟩ := h.hm
  refine ⟨hb2, ⟨?_, ⟨es, cl, ?_, hm2⟩, ?_, ?_, ?_, fun g h1 h2 => (hold g h2).2 h1, ?_⟩⟩
  · rw [set_other _ (by omega), k1 _ (heap_lt h.hr) (fun e => (hfar _ e).1 rfl)]; exact h.hr
  · rw [set_other _ (by omega), k1 _ (heap_lt hm1) (fun e => (hfar _ e).2.1 rfl)]; exact hm1
  · rw [set_block hb2]; rfl
  · refine h.hc.keep fun g hg' => ?_
    rw [set_other _ (h.far h.hc g hg').2.2, k1 g (h.hc.1.lt g hg').2 (fun e => h.ap g hg' e)]
  · exact hnew.keep fun g hg' => by rw [set_other _ (hold g hg').1]
  · have b1 : Below w0.heap.size w0 w1 := (h.bel.alloc h.bel.size o).grown hg (by have := h.bel.size; simp; omega) (fun k hk => (h.ho.1.lt k hk).1)
    exact below_set b1 (by omega) v'
/-- The map, written. -/
theorem NI.upd {w0 W : World} {c c' : Int → Int → Option Int} {cv ov : Value} {cxs oxs : List Sp} {es : Array MapEntry} {cl : Nat} (h : NI w0 W c cv ov cxs oxs) (ho : PObj es cl c') : NI w0 (setBlock W (w0.heap.size + 1) (.map es cl)) c' cv ov cxs oxs := by
  obtain ⟨es0, cl0, hm1, _⟩ := h.hm
  have hlt := heap_lt hm1
  refine ⟨by rw [setB_far _ _ (by omega)]; exact h.hr, ⟨es, cl, setB_at _ _ _ hlt, ho⟩, by rw [setB_far _ _ (by omega)]; exact h.hx, ?_, ?_, h.ap, ?_⟩
  · exact h.hc.keep fun g hg => setB_far _ _ (h.far h.hc g hg).2.1
  · exact h.ho.keep fun g hg => setB_far _ _ (h.far h.ho g hg).2.1
  · exact h.bel.trans (below_setB _ W _ _ (by omega))
end Go.Proofs.YtloocceakfmnoaaGreatDoor
/- newIndex: what its sorted lists come to. -/
namespace Go.Proofs.YtloocceakfmnoaaGreatDoor
namespace Cn
theorem fam_two {k : Int} (h : fam k = 2) : k = 6 := by
  revert h
  unfold fam
  split
  · intro e; omega
  · split
    · intro e; omega
    · split
      · intro _; assumption
      · split <;> (intro e; omega)
theorem fam_three' {k : Int} (h : fam k = 3) : k = 7 ∨ k = 8 := by
  revert h
  unfold fam
  split
  · intro e; omega
  · split
    · intro e; omega
    · split
      · intro e; omega
      · split <;> (intro e; omega)
def Apart2 (a b : Rec) : Prop := right a = 0 ∧ right b = 0 ∧ clash a b = false
theorem sorted_ordered {f : Int} (hf : f = 2 ∨ f = 3) {l cs : List Rec} {p : Rec → Bool} (hl : (check6 l).2 = 0) (hp : ∀ r, p r = true ↔ fam r.kind = f) (hper : cs.Perm (l.filter p)) (hs : cs.Pairwise fun a b => a.lo ≤ b.lo) : Ordered f cs ∧ ∀ r, r ∈ cs ↔ r ∈ l ∧ fam r.kind = f := by
  obtain ⟨_, hr, hc⟩ := check6_iff.1 hl
  have hm : ∀ r, r ∈ cs ↔ r ∈ l ∧ fam r.kind = f := fun r => by rw [hper.mem_iff, List.mem_filter, hp]
  have h1 : l.Pairwise Apart2 := hc.imp_of_mem fun {a b} ha hb h => ⟨hr a ha, hr b hb, h⟩
  have h2 : (l.filter p).Pairwise Apart2 := h1.filter p
  have h3 : cs.Pairwise Apart2 := (hper.pairwise_iff (fun {x y} ⟨a, b, c⟩ => ⟨b, a, clash_no a b c⟩)).2 h2
  exact ⟨ordered_of hf (fun r hrc => ⟨hr r ((hm r).1 hrc).1, ((hm r).1 hrc).2⟩) (h3.imp fun ⟨_, _, c⟩ => c) hs, hm⟩
end Cn
end Go.Proofs.YtloocceakfmnoaaGreatDoor
