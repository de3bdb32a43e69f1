import Derived.Test.YtceflkeaenepcaaGreatDoorN41
import Derived.Test.YtceflkeaenepcaaGreatDoorN0
namespace Go.Proofs.YtceflkeaenepcaaGreatDoor
open Go.RowKit Go.ChangeShapes Go.WideShapes Go.Deep
theorem rec_open {H : Type} {enc : TypeId × Value → H} {W : World} {base : Nat} {held : Bool} {v : Value} {d : DataW H} {p : List MemPlace} (h : DataW.Trod enc Tryz.prog W base (fun _ => true) held 29 v d p) (hb : Rows.uptoBulk d ≤ 1048576) : ∃ r vt, v = recV r vt ∧ RecFit r ∧ Sk .i32 W vt r.to := by
  obtain ⟨fuel, hf⟩ := h
  obtain ⟨q, hq, f, s⟩ := rec_of hf hb
  refine ⟨q.1, q.2, ?_, f, s⟩
  cases v with
  | agg cs =>
    unfold recV
    have : cs = (rcell q).toArray := by
      apply Array.toList_inj.1
      simpa [Value.cells] using hq
    rw [this]
    rfl
  | _ => simp [Value.cells, rcell] at hq
end Go.Proofs.YtceflkeaenepcaaGreatDoor
