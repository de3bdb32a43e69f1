/- From an argument that is a slice of whole numbers to what it holds. -/
import Derived.Test.YteigibncdbgpmaaGreatDoorRecOpen
namespace Go.Proofs.YteigibncdbgpmaaGreatDoor
open Go.RowKit Go.ChangeShapes Go.WideShapes Go.Deep

theorem ints_open {H : Type} {enc : TypeId × Value → H} {W : World} {base : Nat} {held : Bool} {a : Option Addr} {len cap : Nat} {d : DataW H} {p : List MemPlace} (h : DataW.Trod enc Tryz.prog W base (fun _ => true) held 43 (.slice a len cap) d p) (hb : Rows.uptoBulk d ≤ 1048576) : ∃ zs, Sk .i64 W (.slice a len cap) zs ∧ zs.length ≤ 1048576 := by
  obtain ⟨fuel, hf⟩ := h
  obtain ⟨v, zs, e, s, l⟩ := openInts Tryz.underlying43 Tryz.underlying3 (by kernel_rfl) hf hb
  simp [Value.cells] at e
  subst e
  exact ⟨zs, s, l⟩
end Go.Proofs.YteigibncdbgpmaaGreatDoor
