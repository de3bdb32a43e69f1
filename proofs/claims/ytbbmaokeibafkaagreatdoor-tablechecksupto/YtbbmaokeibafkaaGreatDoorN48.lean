import Derived.Test.YtbbmaokeibafkaaGreatDoorN40
import Derived.Deep.QuietTactic
import Derived.Test.YtbbmaokeibafkaaGreatDoorN19
import Derived.Test.YtbbmaokeibafkaaGreatDoorN41
import Derived.Deep.DeepCutAuto
namespace Go.Proofs.YtbbmaokeibafkaaGreatDoor
open Go.RowKit
namespace Cn
theorem decomp_two {r : Rec} (h : right r = 0) (h7 : r.kind = 7) : r.to.length = 2 ∧ scalar (r.to.getD 0 0) = true ∧ scalar (r.to.getD 1 0) = true ∧ 0 ≤ r.lo ∧ r.lo ≤ 1114111 := by
  obtain ⟨h1, h2, h3⟩ := right_decomp h h7
  unfold list at h3
  rw [Bool.and_eq_true] at h3
  have h4 := of_decide_eq_true h3.1
  have hl : r.to.length = 2 := by omega
  have h5 := List.all_eq_true.1 h3.2
  have hs := of_decide_eq_true h2
  exact ⟨hl, h5 _ (by simp [List.getD, hl]), h5 _ (by simp [List.getD, hl]), hs.1, hs.2.1⟩
def twin (r k : Rec) : Bool := decide (k.kind = 7 ∧ k.to.getD 0 0 = r.to.getD 0 0 ∧ k.to.getD 1 0 = r.to.getD 1 0)
theorem pair_eq (l : List Rec) (i : Nat) (r : Rec) : pair l i r = (!(decide (cls l r.lo ≠ 0) || decide (cls l (r.to.getD 0 0) ≠ 0) || decide (0 < (opn l (r.to.getD 1 0)).length) || (decide (0 < (opn l (r.to.getD 0 0)).length) && !(prim l (r.to.getD 0 0)).isSome) || decide (r.to.getD 1 0 < 128) || decide (r.to.getD 0 0 = 46)) && !((l.take i).any (twin r))) := by
  have hn : ∀ x : List Int, decide (x ≠ []) = decide (0 < x.length) := fun x => by cases x <;> simp
  unfold pair
  rw [hn, hn]
  cases prim l (r.to.getD 0 0) <;> rfl
theorem twin_hit {l : List Rec} {i k : Nat} {r : Rec} (hi : i ≤ l.length) (hk : k < i) (h : twin r (l.getD k none) = true) : (l.take i).any (twin r) = true := by
  rw [List.any_eq_true]
  exact ⟨_, List.mem_take_iff_getElem.2 ⟨k, by omega, rfl⟩, by have e : l.getD k none = l[k] := (by simp [List.getD, show k < l.length by omega]); rw [← e]; exact h⟩
theorem twin_none {l : List Rec} {i : Nat} {r : Rec} (hi : i ≤ l.length) (h : ∀ k, k < i → twin r (l.getD k none) = false) : (l.take i).any (twin r) = false := by
  rw [List.any_eq_false]
  intro x hx
  obtain ⟨k, hk, rfl⟩ := List.mem_take_iff_getElem.1 hx
  have := h k (by omega)
  rw [show l.getD k none = l[k] by simp [List.getD, show k < l.length by omega]] at this
  rw [this]
  exact Bool.false_ne_true
end Cn
theorem rune_scalar {c : Int} (h : Cn.scalar c = true) : Rune c := by
  have := of_decide_eq_true h
  exact ⟨by omega, by omega⟩
theorem two_cells {w : World} {va : Value} {zs : List Int} (h : Sk .i32 w va zs) (hl : zs.length = 2) : ∃ b off cap, va = .slice (some ⟨b, off, none⟩) 2 cap ∧ 2 ≤ cap ∧ cap ≤ 9223372036854775807 ∧ w.cell? ⟨b, off, none⟩ = some (.int .i32 (zs.getD 0 0)) ∧ w.cell? ⟨b, off + 1, none⟩ = some (.int .i32 (zs.getD 1 0)) := by
  obtain ⟨b, off, cap, he, h1, h2, hc⟩ := h.place (by omega)
  exact ⟨b, off, cap, by rw [he, hl], by omega, by omega, by first | simp | simpa using hc 0 (by omega), by first | simp | simpa using hc 1 (by omega)⟩
def pairG (n1 n2 : Int) (l3 l4 : Nat) (p5 : Bool) (bb a : Int) (an : Bool) : Bool := !(decide (n1 ≠ 0) || decide (n2 ≠ 0) || decide (0 < l3) || (decide (0 < l4) && !p5) || decide (bb < 128) || decide (a = 46)) && !an
theorem pairG_no {n1 n2 : Int} {l3 l4 : Nat} {p5 : Bool} {bb a : Int} {an : Bool} (h : n1 ≠ 0 ∨ n2 ≠ 0 ∨ 0 < l3 ∨ (0 < l4 ∧ p5 = false) ∨ bb < 128 ∨ a = 46 ∨ an = true) : Ending.returned (.bool false) = Ending.returned (.bool (pairG n1 n2 l3 l4 p5 bb a an)) := by
  have e : pairG n1 n2 l3 l4 p5 bb a an = false := by
    unfold pairG
    rcases h with h | h | h | ⟨h, rfl⟩ | h | h | h
    · rw [decide_eq_true h]; simp
    · rw [decide_eq_true h]; simp
    · rw [decide_eq_true h]; simp
    · rw [decide_eq_true h]; simp
    · rw [decide_eq_true h]; simp
    · rw [decide_eq_true h]; simp
    · rw [h]; simp
  rw [e]
theorem pairG_yes {l3 l4 : Nat} {p5 : Bool} {bb a : Int} {an : Bool} (h3 : ¬ 0 < l3) (h4 : 0 < l4 → p5 = true) (h5 : ¬ bb < 128) (h6 : ¬ a = 46) (h7 : an = false) : Ending.returned (.bool true) = Ending.returned (.bool (pairG 0 0 l3 l4 p5 bb a an)) := by
  have e : pairG 0 0 l3 l4 p5 bb a an = true := by
    unfold pairG
    rw [h7, decide_eq_false h3, decide_eq_false h5, decide_eq_false h6]
    by_cases h8 : 0 < l4
    · rw [h4 h8]; simp
    · rw [decide_eq_false h8]; simp
  rw [e]
end Go.Proofs.YtbbmaokeibafkaaGreatDoor
namespace Go.Proofs.YtbbmaokeibafkaaGreatDoor
open Go.RowKit
def recG (f : Int) (v0 v1 v2 v3 v4 k7 hg : Bool) (fe : Int) (fl pb : Bool) : Int :=
  if f ≠ 2 ∧ f ≠ 3 then 0 else if v0 = true then 70 else if (v1 || v2 || v3 || v4) = true then 71 else if (k7 && hg) = true then 71 else if f = 2 then 0 else if fe ≠ 0 then fe else if fl = true then 75 else if (k7 && !pb) = true then 74 else 0
def hanG (jlb jvb syb md jtb : Bool) : Bool := (jlb && jvb) || (syb && md && jtb)
theorem record_eq (l : List Rec) (i : Nat) (r : Rec) : Cn.record l i r = recG (Cn.fam r.kind) (Cn.covers r 0 127) (Cn.covers r 4352 4370) (Cn.covers r 4449 4469) (Cn.covers r 4520 4546) (Cn.covers r 44032 55203) (decide (r.kind = 7)) (hanG (Cn.jl (r.to.getD 0 0)) (Cn.jv (r.to.getD 1 0)) (Cn.syl (r.to.getD 0 0)) (decide ((r.to.getD 0 0 - 44032) % 28 = 0)) (Cn.jt (r.to.getD 1 0))) (Cn.full l r.lo).2 (Cn.fallsA l (Cn.full l r.lo).1) (Cn.pair l i r) := by
  unfold Cn.record recG hanG
  by_cases h7 : r.kind = 7
  · simp only [h7, true_and, decide_true, Bool.true_and]
    simp
  · simp only [h7, false_and, decide_false, Bool.false_and]
    simp
theorem recG_other {f : Int} {v0 v1 v2 v3 v4 k7 hg : Bool} {fe : Int} {fl pb : Bool} (h2 : f ≠ 2) (h3 : f ≠ 3) : Ending.returned (.int .i64 0) = Ending.returned (.int .i64 (recG f v0 v1 v2 v3 v4 k7 hg fe fl pb)) := by
  unfold recG
  rw [if_pos ⟨h2, h3⟩]
theorem recG_full {k7 hg : Bool} {fe : Int} {fl pb : Bool} (h : (k7 && hg) = false) (he : ¬ fe = 0) : Ending.returned (.int .i64 fe) = Ending.returned (.int .i64 (recG 3 false false false false false k7 hg fe fl pb)) := by
  unfold recG
  rw [h, if_neg (by decide), if_neg (by decide), if_neg (by decide), if_neg (by decide), if_neg (by decide), if_pos he]
end Go.Proofs.YtbbmaokeibafkaaGreatDoor
