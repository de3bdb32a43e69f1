/- The document's Decode of Punycode. (By program: genph11.py.) -/
import Derived.Test.YtgccindoinhphaaPuG11
import Derived.Deep.CutBlock
import Derived.Deep.DeepCutAuto
namespace Go.Proofs.Ytgccindoinhphaa
open Go.RowKit

/-- A value as the document keeps it: no greater than one above the limit. -/
def vm (x : Int) : Int := if 2147483648 < x then 2147483648 else x
theorem vm_le (x : Int) : vm x ≤ 2147483648 := by unfold vm; split <;> omega
theorem vm_nn {x : Int} (h : 0 ≤ x) : 0 ≤ vm x := by unfold vm; split <;> omega
theorem vm_over {x d : Int} (h : 0 ≤ x) (hd : 1 ≤ d) : vm (x + d * 2147483648) = 2147483648 := by unfold vm; split <;> omega
theorem vm_big {x y : Int} (h : 2147483648 < vm x + y) : vm (x + y) = 2147483648 := by unfold vm at h ⊢; split at h <;> split <;> omega
theorem vm_small {x y : Int} (hy : 0 ≤ y) (h : ¬ 2147483648 < vm x + y) : vm (x + y) = vm x + y := by unfold vm at h ⊢; split at h <;> split <;> first | omega | (rw [if_neg (by omega)]) | (rw [if_pos (by omega)]; omega)
theorem vm_min {x y : Int} (hy : 0 ≤ y) : min (vm x + y) 2147483648 = vm (x + y) := by unfold vm; simp only [Int.min_def]; split <;> split <;> split <;> omega
theorem vm_gt {x : Int} : 2147483647 < vm x ↔ 2147483647 < x := by unfold vm; split <;> omega
theorem vm_id {x : Int} (h : ¬ 2147483647 < x) : vm x = x := by unfold vm; rw [if_neg (by omega)]

theorem lastH_step {zs : List Int} {k l : Nat} (hk : k < zs.length) : Pu.lastH (zs.drop k) k l = Pu.lastH (zs.drop (k + 1)) (k + 1) (if zs.getD k 0 = 45 then k else l) := by
  rw [drop_next hk, Pu.lastH]

/-- Memory while the document reads numbers. -/
structure Rn (X0 B b : Nat) (w0 : World) (k : Nat) (st : Pu.St) (v : Value) (wr : World) : Prop where
  row : Ok .i32 21 wr B v st.xs
  nil : st.xs = [] → v = .slice none 0 0
  state : StR wr b v st.n st.i st.bias st.first
  bel : Below B w0 wr
  hB : B ≤ b
  ne : v.ownBlock ≠ some b
  len : st.xs.length ≤ X0 + k
  n : 0 ≤ st.n ∧ st.n ≤ 1114111
  i : 0 ≤ st.i ∧ st.i ≤ st.xs.length
  bias : 0 ≤ st.bias ∧ st.bias ≤ 468

theorem Rn.lt {X0 B b : Nat} {w0 : World} {k : Nat} {st : Pu.St} {v : Value} {wr : World} (h : Rn X0 B b w0 k st v wr) : b < wr.heap.size := (Array.getElem?_eq_some_iff.1 h.state).1
theorem Rn.later {X0 B b : Nat} {w0 : World} {k k' : Nat} {st : Pu.St} {v : Value} {wr : World} (h : Rn X0 B b w0 k st v wr) (hk : k ≤ k') : Rn X0 B b w0 k' st v wr :=
  { h with len := by have := h.len; omega }

theorem Rn.step {X0 B b : Nat} {w0 : World} {k k' : Nat} {st : Pu.St} {v v' : Value} {wr w2 : World} {d : Int} (h : Rn X0 B b w0 k st v wr) (hk : k < k') (hd : 0 ≤ d ∧ d ≤ 2147483647)
    (hok : Utf.okc (Pu.stepN st d)) (hrow : Ok .i32 21 w2 wr.heap.size v' (Pu.step st d).xs) (hbel : Below wr.heap.size wr w2) :
    ∃ W', ((((w2.setCell ⟨b, 0, none⟩ v').setCell ⟨b, 1, none⟩ (.int .i64 (Pu.step st d).n)).setCell ⟨b, 2, none⟩ (.int .i64 (Pu.step st d).i)).setCell ⟨b, 3, none⟩ (.int .i64 (Pu.step st d).bias)).setCell ⟨b, 4, none⟩ (.bool false) = W' ∧ Rn X0 B b w0 k' (Pu.step st d) v' W' := by
  have hlt := h.lt
  have hst2 : StR w2 b v st.n st.i st.bias st.first := by
    unfold StR; rw [hbel.block b hlt]; exact h.state
  have hB := h.hB
  have hb2 : Below B w0 w2 := h.bel.trans (hbel.mono (by omega))
  obtain ⟨W', hW, hst, hbl, hsz, hgr⟩ := put5 hst2 hb2 h.hB v' (Pu.step st d).n (Pu.step st d).i (Pu.step st d).bias false
  have hlen : (Pu.step st d).xs.length = st.xs.length + 1 := ins_len _ _ _
  have hne : v'.ownBlock ≠ some b := fun hh => by have := (hrow.row.lt b hh).1; omega
  have hr0 : 0 ≤ Pu.stepP st d := Int.emod_nonneg _ (by omega)
  have hr1 : Pu.stepP st d < (st.xs.length : Int) + 1 := Int.emod_lt_of_pos _ (by omega)
  refine ⟨W', hW, ⟨ok_grown (hrow.lower (by omega)) hgr (.inr hne), fun hh => ?_, hst, hbl, h.hB, hne, ?_, ?_, ?_, ?_⟩⟩
  · rw [hh] at hlen; simp at hlen
  · rw [hlen]; have := h.len; omega
  · show 0 ≤ Pu.stepN st d ∧ Pu.stepN st d ≤ 1114111
    rcases hok with h3 | h3 <;> omega
  · rw [hlen]
    show 0 ≤ Pu.stepP st d + 1 ∧ Pu.stepP st d + 1 ≤ ((st.xs.length + 1 : Nat) : Int)
    omega
  · exact Pu.adapt_bounds d _ st.first (by omega)

end Go.Proofs.Ytgccindoinhphaa
