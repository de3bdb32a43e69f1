/- From bytes to a string. -/
import Derived.Test.YtmdbdfigpccbpaaMake
import Derived.Laws.BytesArg
import Derived.Laws.AppendOwnNone
namespace Go.Proofs.Ytmdbdfigpccbpaa
open Go.RowKit

theorem conv_zero (w : World) (ad : Addr) (c : Nat) : (convert 22 9 (.slice (some ad) 0 c)).run Try.prog w = .ok (.string (strOfNums [])) w := by
  rw [run_convert_bytes_string w 22 9 5 _ 0 c Try.underlying22 Try.underlying5 Try.underlying9, run_bytesToString w ad 0 c [] (run_loadCells_list (P := Try.prog) w ad [] (fun j v hj => by simp at hj))]
  rfl

theorem Sl.conv {w : World} {v : Value} {zs : List Int} (h : Sl w v zs) : (convert 22 9 v).run Try.prog w = .ok (.string (strOfNums zs)) w := by
  rcases h.2.2 with ⟨rfl, ao, cap, rfl, _, _⟩ | ⟨b, off, cap, rfl, hl, hm, hc⟩
  · cases ao with
    | none => rw [run_convert_bytes_nil w 22 5 Try.underlying22 Try.underlying5 0 cap 9 Try.underlying9]; rfl
    | some ad => exact conv_zero w ad cap
  · exact run_convert_bytes_arg w 22 5 Try.underlying22 Try.underlying5 b off zs.length cap zs rfl hc 9 Try.underlying9

/-- The slice as the source of an append. -/
theorem Sl.src {w : World} {v : Value} {zs : List Int} (h : Sl w v zs) : (zs = [] ∧ v = .slice none 0 0) ∨
    ∃ ad cap, v = .slice (some ad) zs.length cap ∧ ∀ j u, (zs.map (Value.int .u8))[j]? = some u → w.cell? (ad.add j) = some u := by
  rcases h.2.2 with ⟨rfl, ao, cap, rfl, _, hnil⟩ | ⟨b, off, cap, rfl, hl, hm, hc⟩
  · cases ao with
    | none => exact .inl ⟨rfl, by rw [hnil rfl]⟩
    | some ad => exact .inr ⟨ad, cap, rfl, fun j u hj => by simp at hj⟩
  · refine .inr ⟨_, cap, rfl, fun j u hj => ?_⟩
    have hjl : j < zs.length := by
      rcases Nat.lt_or_ge j zs.length with h | h
      · exact h
      · simp [List.getElem?_eq_none (show zs.length ≤ j from h)] at hj
    have hplain : (⟨b, off, none⟩ : Addr).add j = ⟨b, off + j, none⟩ := by unfold Addr.add; split <;> simp_all
    rw [hplain, hc j hjl]
    simp [List.getElem?_eq_getElem hjl] at hj
    simp [List.getD, List.getElem?_eq_getElem hjl, hj]

theorem ints_one (zs : List Int) : ∀ u ∈ zs.map (Value.int .u8), u.oneCell' = true := by
  intro u hu
  obtain ⟨z, _, rfl⟩ := List.mem_map.1 hu
  rfl

/-- The first bytes. -/
theorem Sl.head {w : World} {ao : Option Addr} {len cap k : Nat} {zs : List Int} (hs : Sl w (.slice ao len cap) zs) (hk : k ≤ len) (hl : len ≤ cap) : Sl w (.slice ao k cap) (zs.take k) := by
  have h := hs.cut (l := 0) (h := k) (m := cap) (by omega) (by omega) (by omega) (by omega)
  have e : sliced ao 0 k cap 1 = .slice ao k cap := by
    unfold sliced
    congr 1
    split
    · rfl
    · cases ao <;> simp [Addr.add]
  rw [e] at h
  simpa using h
end Go.Proofs.Ytmdbdfigpccbpaa
