/- From an argument as it is read to the bytes that it holds. -/
import Derived.Test.YtmdbdfigpccbpaaSl
import Derived.OpenShut
namespace Go.Proofs.Ytmdbdfigpccbpaa
open Go.RowKit

theorem plain_of_cell {w : World} {x : Addr} {v : Value} (h : w.cell? x = some v) : x = ⟨x.block, x.off, none⟩ := by
  obtain ⟨b, o, s⟩ := x
  cases s with
  | none => rfl
  | some s =>
    unfold World.cell? at h
    split at h <;> simp at h

theorem sl_of_row {w : World} {a : Option Addr} {len cap : Nat} {zs : List Int} (h : (a = none ∧ len = 0 ∧ cap = 0 ∧ zs = []) ∨
    ∃ x, a = some x ∧ len ≤ cap ∧ cap ≤ maxLen ∧ zs.length = cap ∧ (∀ i, i < zs.length → w.cell? (x.add i) = some (.int .u8 (zs.getD i 0))) ∧ ∀ n ∈ zs, (Lit.int .u8 n).wf = true) (hl : len ≤ 140737488351232) :
    Sl w (.slice a len cap) (zs.take len) := by
  rcases h with ⟨rfl, rfl, rfl, rfl⟩ | ⟨x, rfl, h1, h2, h3, h4, h5⟩
  · exact Sl.nil w
  · unfold maxLen at h2
    have hb : Byt (zs.take len) := fun z hz => by
      have := bounds_u8 (h5 z (List.mem_of_mem_take hz))
      omega
    have hlen : (zs.take len).length = len := by simp; omega
    refine ⟨hb, by omega, ?_⟩
    rcases Nat.eq_zero_or_pos len with h0 | h0
    · subst h0
      exact .inl ⟨by simp, some x, cap, rfl, by omega, fun h => by cases h⟩
    · have hx := h4 0 (by omega)
      have hx0 : x.add 0 = x := by simp [Addr.add]
      rw [hx0] at hx
      have hp := plain_of_cell hx
      generalize x.block = b at *
      generalize x.off = o at *
      subst hp
      refine .inr ⟨b, o, cap, by rw [hlen], by omega, by omega, fun i hi => ?_⟩
      have hplain : (⟨b, o, none⟩ : Addr).add i = ⟨b, o + i, none⟩ := by unfold Addr.add; split <;> simp_all
      rw [← hplain, h4 i (by omega)]
      simp [List.getD, List.getElem?_take_of_lt (show i < len by omega)]
end Go.Proofs.Ytmdbdfigpccbpaa
