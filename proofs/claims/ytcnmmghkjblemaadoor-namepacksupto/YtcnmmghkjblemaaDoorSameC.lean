/- The contract of the document's Same. -/
import Derived.Test.YtcnmmghkjblemaaDoorSeq
import Derived.Deep.QuietTactic
import Derived.BigQuiet
namespace Go.Proofs.YtcnmmghkjblemaaDoor
open Go.RowKit

/-- A call that answers a bool and changes nothing that was there. -/
def Tells (w : World) (b : Bool) (e : Ending) (w' : World) : Prop := e = .returned (.bool b) ∧ Below w.heap.size w w'

theorem Tells.mk' {w w' : World} {b c : Bool} (h : b = c) (hb : Below w.heap.size w w') : Tells w c (.returned (.bool b)) w' := by subst h; exact ⟨rfl, hb⟩

theorem take_next {xs ys : List Int} {k : Nat} (h : xs.take k = ys.take k) (hx : k < xs.length) (hy : k < ys.length) (he : xs.getD k 0 = ys.getD k 0) : xs.take (k + 1) = ys.take (k + 1) := by
  rw [List.take_add_one, List.take_add_one, h]
  simp only [List.getD, List.getElem?_eq_getElem hx, List.getElem?_eq_getElem hy, Option.getD_some] at he
  rw [List.getElem?_eq_getElem hx, List.getElem?_eq_getElem hy, he]

/-- A call that answers a bool and only draws. -/
def Draws (w : World) (b : Bool) (e : Ending) (w' : World) : Prop := e = .returned (.bool b) ∧ ∃ m, w' = w.drewN m
theorem Draws.mk' {w w' : World} {b c : Bool} (h : b = c) (hb : ∃ m, w' = w.drewN m) : Draws w c (.returned (.bool b)) w' := by subst h; exact ⟨rfl, hb⟩
theorem drew0 (w : World) : ∃ m, w = w.drewN m := ⟨0, rfl⟩
theorem drews {w w' : World} (h : ∃ m, w' = w.drewN m) (n : Nat) : ∃ m, w'.drewN n = w.drewN m := by
  obtain ⟨m, rfl⟩ := h
  exact ⟨m + n, by rw [World.drewN_drewN]⟩
theorem drewB {w w' : World} (h : ∃ m, w' = w.drewN m) : Below w.heap.size w w' := by
  obtain ⟨m, rfl⟩ := h
  exact below_drewN (Below.refl _ _) m

end Go.Proofs.YtcnmmghkjblemaaDoor
