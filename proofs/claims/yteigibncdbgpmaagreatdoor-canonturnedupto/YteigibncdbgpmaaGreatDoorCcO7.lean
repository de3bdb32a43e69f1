/- An index in the making. -/
import Derived.Test.YteigibncdbgpmaaGreatDoorCcN7
import Derived.Test.YteigibncdbgpmaaGreatDoorTbU7
namespace Go.Proofs.YteigibncdbgpmaaGreatDoor
namespace Cn
/-- Is the record a decomposition to the two? -/
def isP (a b : Int) (r : Rec) : Bool := decide (r.kind = 7 ∧ r.to.getD 0 0 = a ∧ r.to.getD 1 0 = b)
def firstP (l : List Rec) (a b : Int) : Option Int := (l.findIdx? (isP a b)).map Int.ofNat
theorem firstP_snoc (l : List Rec) (r : Rec) (a b : Int) : firstP (l ++ [r]) a b = (firstP l a b).or (if isP a b r then some (l.length : Int) else Option.none) := by
  unfold firstP
  rw [List.findIdx?_append]
  cases h : l.findIdx? (isP a b) with
  | some n => simp
  | none =>
    simp only [Option.map_none, Option.none_or]
    rw [List.findIdx?_cons]
    by_cases hp : isP a b r = true
    · simp [hp]
    · simp [hp]
theorem firstP_other {l : List Rec} {r : Rec} (h : r.kind ≠ 7) : firstP (l ++ [r]) = firstP l := by
  funext a b
  rw [firstP_snoc, show isP a b r = false by unfold isP; exact decide_eq_false (fun q => h q.1)]
  simp
theorem firstP_known {l : List Rec} {r : Rec} (hk : (firstP l (r.to.getD 0 0) (r.to.getD 1 0)).isSome = true) : firstP (l ++ [r]) = firstP l := by
  funext a b
  rw [firstP_snoc]
  by_cases h : isP a b r = true
  · obtain ⟨_, rfl, rfl⟩ := of_decide_eq_true h
    obtain ⟨n, hn⟩ := Option.isSome_iff_exists.1 hk
    rw [hn]; rfl
  · rw [if_neg h]; simp
theorem firstP_new {l : List Rec} {r : Rec} (h7 : r.kind = 7) (hk : firstP l (r.to.getD 0 0) (r.to.getD 1 0) = Option.none) : firstP (l ++ [r]) = setP (firstP l) (r.to.getD 0 0) (r.to.getD 1 0) (l.length : Int) := by
  funext a b
  rw [firstP_snoc]
  unfold setP
  by_cases h : a = r.to.getD 0 0 ∧ b = r.to.getD 1 0
  · obtain ⟨rfl, rfl⟩ := h
    rw [hk, show isP (r.to.getD 0 0) (r.to.getD 1 0) r = true from decide_eq_true ⟨h7, rfl, rfl⟩]
    simp
  · rw [if_neg h, show isP a b r = false from decide_eq_false (fun q => h ⟨q.2.1.symm, q.2.2.symm⟩)]
    simp
/-- A pair that stands ahead. -/
theorem firstP_lt {l : List Rec} {i : Nat} (hi : i < l.length) (h7 : (l.getD i none).kind = 7) : ((firstP l ((l.getD i none).to.getD 0 0) ((l.getD i none).to.getD 1 0)).getD 0 < (i : Int)) ↔ ((l.take i).any fun k => decide (k.kind = 7 ∧ k.to.getD 0 0 = (l.getD i none).to.getD 0 0 ∧ k.to.getD 1 0 = (l.getD i none).to.getD 1 0)) = true := by
  have eg : l.getD i none = l[i] := getD_at hi
  have hp : isP ((l.getD i none).to.getD 0 0) ((l.getD i none).to.getD 1 0) l[i] = true := by
    rw [eg] at h7 ⊢
    exact decide_eq_true ⟨h7, rfl, rfl⟩
  generalize (l.getD i none).to.getD 0 0 = a at *
  generalize (l.getD i none).to.getD 1 0 = b at *
  have hany : ((l.take i).any fun k => decide (k.kind = 7 ∧ k.to.getD 0 0 = a ∧ k.to.getD 1 0 = b)) = (l.take i).any (isP a b) := rfl
  rw [hany]
  unfold firstP
  cases hf : l.findIdx? (isP a b) with
  | none =>
    rw [List.findIdx?_eq_none_iff] at hf
    rw [hf _ (List.getElem_mem hi)] at hp
    cases hp
  | some n =>
    obtain ⟨hn, hn1, hn2⟩ := List.findIdx?_eq_some_iff_getElem.1 hf
    simp only [Option.map_some, Option.getD_some, List.any_eq_true]
    constructor
    · intro h
      have hlt : n < i := by
        have : (Int.ofNat n) = (n : Int) := rfl
        omega
      exact ⟨l[n], List.mem_take_iff_getElem.2 ⟨n, by omega, rfl⟩, hn1⟩
    · rintro ⟨x, hx, hxp⟩
      obtain ⟨j, hj, rfl⟩ := List.mem_take_iff_getElem.1 hx
      have hjn : n ≤ j := by
        rcases Nat.lt_or_ge j n with h | h
        · exact absurd hxp (by simpa using hn2 j h)
        · exact h
      show (Int.ofNat n) < (i : Int)
      have : (Int.ofNat n) = (n : Int) := rfl
      omega
end Cn
open Go.RowKit
open Go.ChangeMaps (setBlock)
/-- The index that newIndex is making: its result's variable, its map, its fields. -/
structure NI (w0 W : World) (c : Int → Int → Option Int) (cv ov : Value) (cxs oxs : List Sp) : Prop where
  hr : W.heap[w0.heap.size]? = some (.cells #[.slice none 0 0, .slice none 0 0, .map none] 64 (0, 0))
  hm : PAt W (w0.heap.size + 1) c
  hx : W.heap[w0.heap.size + 2]? = some (.cells #[cv, ov, .map (some (w0.heap.size + 1))] 64 (0, 0))
  hc : Rsh w0 W cv cxs
  ho : Rsh w0 W ov oxs
  ap : ∀ g, cv.ownBlock = some g → ov.ownBlock ≠ some g
  bel : Below w0.heap.size w0 W
theorem heap_lt {W : World} {g : Nat} {o : Obj} (h : W.heap[g]? = some o) : g < W.heap.size := by
  rcases Nat.lt_or_ge g W.heap.size with h1 | h1
  · exact h1
  · rw [Array.getElem?_eq_none h1] at h; cases h
theorem Rsh.keep {w0 W W' : World} {v : Value} {xs : List Sp} (h : Rsh w0 W v xs) (hk : ∀ g, v.ownBlock = some g → W'.heap[g]? = W.heap[g]?) : Rsh w0 W' v xs := ⟨own_keep h.1 hk, h.2⟩
theorem NI.below {w0 W W' : World} {c : Int → Int → Option Int} {cv ov : Value} {cxs oxs : List Sp} (h : NI w0 W c cv ov cxs oxs) (hb : Below W.heap.size W W') : NI w0 W' c cv ov cxs oxs := by
  obtain ⟨es, cl, hm1, hm2⟩ := h.hm
  exact ⟨by rw [hb.block _ (heap_lt h.hr)]; exact h.hr, ⟨es, cl, by rw [hb.block _ (heap_lt hm1)]; exact hm1, hm2⟩, by rw [hb.block _ (heap_lt h.hx)]; exact h.hx,
    h.hc.keep fun g hg => hb.block g (h.hc.1.lt g hg).2, h.ho.keep fun g hg => hb.block g (h.ho.1.lt g hg).2, h.ap, bthen h.bel hb⟩
theorem rsh_tag {w0 W : World} {v : Value} {xs : List Sp} (h : Rsh w0 W v xs) {g : Nat} (hg : v.ownBlock = some g) : ∃ cur, W.heap[g]? = some (.cells cur 47 (0, 0)) := by
  rcases h.1.2 with ⟨rfl, _⟩ | ⟨k, cap, cur, rfl, _, hh, _⟩
  · cases hg
  · simp [Value.ownBlock] at hg
    subst hg
    exact ⟨cur, hh⟩
theorem NI.far {w0 W : World} {c : Int → Int → Option Int} {cv ov v : Value} {cxs oxs xs : List Sp} (h : NI w0 W c cv ov cxs oxs) (hv : Rsh w0 W v xs) : ∀ g, v.ownBlock = some g → g ≠ w0.heap.size ∧ g ≠ w0.heap.size + 1 ∧ g ≠ w0.heap.size + 2 := by
  intro g hg
  obtain ⟨cur, hcur⟩ := rsh_tag hv hg
  refine ⟨fun e => ?_, fun e => ?_, fun e => ?_⟩
  · rw [e, h.hr] at hcur; simp at hcur
  · obtain ⟨es, cl, hm1, _⟩ := h.hm
    rw [e, hm1] at hcur; simp at hcur
  · rw [e, h.hx] at hcur; simp at hcur
/-- One more class: the append, and the field's store. -/
theorem NI.classes {w0 W w1 : World} {c : Int → Int → Option Int} {cv ov v' : Value} {cxs oxs : List Sp} {o : Obj} {x : Sp} (h : NI w0 W c cv ov cxs oxs) (hx : Sk .i32 w0 (sval x) x.1.to ∧ RecFit x.1)
    (hown : w1.ownsRow w0.heap.size 47 8 v' (cxs.length + 1) (cxs.flatMap encR ++ encR x)) (hg : (W.alloc o).grownBy w1 cv.ownBlock) (hat : v'.ownBlock = cv.ownBlock ∨ v'.ownBlock = some (W.heap.size + 1)) :
    w1.heap[w0.heap.size + 2]? = some (.cells #[cv, ov, .map (some (w0.heap.size + 1))] 64 (0, 0)) ∧ NI w0 (w1.setCell ⟨w0.heap.size + 2, 0, none⟩ v') c v' ov (cxs ++ [x]) oxs := by
  have kA : ∀ g, g < W.heap.size → (W.alloc o).heap[g]? = W.heap[g]? := fun g hg => ((Below.refl W.heap.size W).alloc (Nat.le_refl _) _).block g hg
  have k1 : ∀ g, g < W.heap.size → cv.ownBlock ≠ some g → w1.heap[g]? = W.heap[g]? := fun g h1 h2 => by
    rw [hg.block g (by simp; omega) (fun e => h2 e.symm), kA g h1]
  have hfar := h.far h.hc
  have hb2 : w1.heap[w0.heap.size + 2]? = some (.cells #[cv, ov, .map (some (w0.heap.size + 1))] 64 (0, 0)) := by rw [k1 _ (heap_lt h.hx) (fun e => (hfar _ e).2.2 rfl)]; exact h.hx
  have hnew : Rsh w0 w1 v' (cxs ++ [x]) := ⟨by simpa using hown, fun y hy => by
    rcases List.mem_append.1 hy with hy | hy
    · exact h.hc.2 y hy
    · simp only [List.mem_singleton] at hy
      subst hy; exact hx⟩
  have hold : ∀ g, v'.ownBlock = some g → g ≠ w0.heap.size + 2 ∧ ov.ownBlock ≠ some g := fun g hg' => by
    rcases hat with e | e
    · rw [e] at hg'
      exact ⟨(hfar g hg').2.2, h.ap g hg'⟩
    · rw [e] at hg'
      simp at hg'
      have l1 := heap_lt h.hx
      refine ⟨by omega, fun e2 => ?_⟩
      have := (h.ho.1.lt g e2).2
      omega
  obtain ⟨es, cl, hm1, hm2⟩ := h.hm
  refine ⟨hb2, ⟨?_, ⟨es, cl, ?_, hm2⟩, ?_, ?_, ?_, fun g hg' => (hold g hg').2, ?_⟩⟩
  · rw [set_other _ (by omega), k1 _ (heap_lt h.hr) (fun e => (hfar _ e).1 rfl)]; exact h.hr
  · rw [set_other _ (by omega), k1 _ (heap_lt hm1) (fun e => (hfar _ e).2.1 rfl)]; exact hm1
  · rw [set_block hb2]; rfl
  · exact hnew.keep fun g hg' => by rw [set_other _ (hold g hg').1]
  · refine h.ho.keep fun g hg' => ?_
    rw [set_other _ (h.far h.ho g hg').2.2, k1 g (h.ho.1.lt g hg').2 (fun e => h.ap g e hg')]
  · have b1 : Below w0.heap.size w0 w1 := (h.bel.alloc h.bel.size o).grown hg (by have := h.bel.size; simp; omega) (fun k hk => (h.hc.1.lt k hk).1)
    exact below_set b1 (by omega) v'
theorem NI.opens {w0 W w1 : World} {c : Int → Int → Option Int} {cv ov v' : Value} {cxs oxs : List Sp} {o : Obj} {x : Sp} (h : NI w0 W c cv ov cxs oxs) (hx : Sk .i32 w0 (sval x) x.1.to ∧ RecFit x.1)
    (hown : w1.ownsRow w0.heap.size 47 8 v' (oxs.length + 1) (oxs.flatMap encR ++ encR x)) (hg : (W.alloc o).grownBy w1 ov.ownBlock) (hat : v'.ownBlock = ov.ownBlock ∨ v'.ownBlock = some (W.heap.size + 1)) :
    w1.heap[w0.heap.size + 2]? = some (.cells #[cv, ov, .map (some (w0.heap.size + 1))] 64 (0, 0)) ∧ NI w0 (w1.setCell ⟨w0.heap.size + 2, 1, none⟩ v') c cv v' cxs (oxs ++ [x]) := by
  have kA : ∀ g, g < W.heap.size → (W.alloc o).heap[g]? = W.heap[g]? := fun g hg => ((Below.refl W.heap.size W).alloc (Nat.le_refl _) _).block g hg
  have k1 : ∀ g, g < W.heap.size → ov.ownBlock ≠ some g → w1.heap[g]? = W.heap[g]? := fun g h1 h2 => by
    rw [hg.block g (by simp; omega) (fun e => h2 e.symm), kA g h1]
  have hfar := h.far h.ho
  have hb2 : w1.heap[w0.heap.size + 2]? = some (.cells #[cv, ov, .map (some (w0.heap.size + 1))] 64 (0, 0)) := by rw [k1 _ (heap_lt h.hx) (fun e => (hfar _ e).2.2 rfl)]; exact h.hx
  have hnew : Rsh w0 w1 v' (oxs ++ [x]) := ⟨by simpa using hown, fun y hy => by
    rcases List.mem_append.1 hy with hy | hy
    · exact h.ho.2 y hy
    · simp only [List.mem_singleton] at hy
      subst hy; exact hx⟩
  have hold : ∀ g, v'.ownBlock = some g → g ≠ w0.heap.size + 2 ∧ cv.ownBlock ≠ some g := fun g hg' => by
    rcases hat with e | e
    · rw [e] at hg'
      exact ⟨(hfar g hg').2.2, fun e2 => h.ap g e2 hg'⟩
    · rw [e] at hg'
      simp at hg'
      have l1 := heap_lt h.hx
      refine ⟨by omega, fun e2 => ?_⟩
      have := (h.hc.1.lt g e2).2
      omega
  obtain ⟨es, cl, hm1, hm2⟩ := h.hm
  refine ⟨hb2, ⟨?_, ⟨es, cl, ?_, hm2⟩, ?_, ?_, ?_, fun g h1 h2 => (hold g h2).2 h1, ?_⟩⟩
  · rw [set_other _ (by omega), k1 _ (heap_lt h.hr) (fun e => (hfar _ e).1 rfl)]; exact h.hr
  · rw [set_other _ (by omega), k1 _ (heap_lt hm1) (fun e => (hfar _ e).2.1 rfl)]; exact hm1
  · rw [set_block hb2]; rfl
  · refine h.hc.keep fun g hg' => ?_
    rw [set_other _ (h.far h.hc g hg').2.2, k1 g (h.hc.1.lt g hg').2 (fun e => h.ap g hg' e)]
  · exact hnew.keep fun g hg' => by rw [set_other _ (hold g hg').1]
  · have b1 : Below w0.heap.size w0 w1 := (h.bel.alloc h.bel.size o).grown hg (by have := h.bel.size; simp; omega) (fun k hk => (h.ho.1.lt k hk).1)
    exact below_set b1 (by omega) v'
/-- The map, written. -/
theorem NI.upd {w0 W : World} {c c' : Int → Int → Option Int} {cv ov : Value} {cxs oxs : List Sp} {es : Array MapEntry} {cl : Nat} (h : NI w0 W c cv ov cxs oxs) (ho : PObj es cl c') : NI w0 (setBlock W (w0.heap.size + 1) (.map es cl)) c' cv ov cxs oxs := by
  obtain ⟨es0, cl0, hm1, _⟩ := h.hm
  have hlt := heap_lt hm1
  refine ⟨by rw [setB_far _ _ (by omega)]; exact h.hr, ⟨es, cl, setB_at _ _ _ hlt, ho⟩, by rw [setB_far _ _ (by omega)]; exact h.hx, ?_, ?_, h.ap, ?_⟩
  · exact h.hc.keep fun g hg => setB_far _ _ (h.far h.hc g hg).2.1
  · exact h.ho.keep fun g hg => setB_far _ _ (h.far h.ho g hg).2.1
  · exact h.bel.trans (below_setB _ W _ _ (by omega))
end Go.Proofs.YteigibncdbgpmaaGreatDoor
