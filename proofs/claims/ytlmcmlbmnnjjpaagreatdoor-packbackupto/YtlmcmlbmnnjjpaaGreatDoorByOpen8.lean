/- From an argument that is a slice of bytes to what it holds. -/
import Derived.Test.YtlmcmlbmnnjjpaaGreatDoorRecOpen
import Derived.Test.YtlmcmlbmnnjjpaaGreatDoorGl8
namespace Go.Proofs.YtlmcmlbmnnjjpaaGreatDoor
open Go.RowKit Go.ChangeShapes Go.WideShapes Go.Deep

theorem sl_of_sk {w : World} {v : Value} {zs : List Int} (h : Sk .u8 w v zs) : Wi.Sl w v zs := by
  refine ⟨fun z hz => fit_u8 (h.1 z hz), h.len, ?_⟩
  rcases h.2.2 with ⟨hn, ao, cap, hv, hc, hnil⟩ | ⟨b, off, cap, hv, hl, hm, hcells⟩
  · exact .inl ⟨by simpa using hn, ao, cap, hv, hc, hnil⟩
  · refine .inr ⟨b, off, cap, by simpa using hv, by simpa using hl, hm, fun i hi => ?_⟩
    have := hcells i (by simpa using hi)
    rw [map_getD .u8 zs i hi] at this
    exact this
theorem bytes_open {H : Type} {enc : TypeId × Value → H} {W : World} {base : Nat} {held : Bool} {a : Option Addr} {len cap : Nat} {d : DataW H} {p : List MemPlace} (h : DataW.Trod enc Tryz.prog W base (fun _ => true) held 24 (.slice a len cap) d p) (hb : Rows.uptoBulk d ≤ 1048576) : ∃ zs, Wi.Sl W (.slice a len cap) zs ∧ zs.length ≤ 1048576 := by
  obtain ⟨fuel, hf⟩ := h
  obtain ⟨v, zs, e, s, l⟩ := openInts Tryz.underlying24 Tryz.underlying5 (by kernel_rfl) hf hb
  simp [Value.cells] at e
  subst e
  exact ⟨zs, sl_of_sk s, l⟩
end Go.Proofs.YtlmcmlbmnnjjpaaGreatDoor
