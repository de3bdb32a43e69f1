/- Bytes in memory: 'Sl w v zs': the slice value v holds the bytes zs in the world w. -/
import Derived.WalkKit
import Derived.WalkSpells
import Derived.WalkLawsBesides
import Derived.Test.YtmdbdfigpccbpaaProg
import Derived.Test.YtmdbdfigpccbpaaRef
namespace Go.Proofs.Ytmdbdfigpccbpaa
open Go.RowKit

theorem hide {p : Prop} (h : p) : Hid p := h
theorem unhide {p : Prop} (h : Hid p) : p := h

theorem bthen {a b c : World} (h : Below a.heap.size a b) (k : Below b.heap.size b c) : Below a.heap.size a c := h.trans (k.mono h.size)

def Byt (zs : List Int) : Prop := ∀ z ∈ zs, 0 ≤ z ∧ z ≤ 255

theorem Byt.at {zs : List Int} (h : Byt zs) (i : Nat) : 0 ≤ zs[i]?.getD 0 ∧ zs[i]?.getD 0 ≤ 255 := by
  rcases Nat.lt_or_ge i zs.length with hi | hi
  · simp only [List.getElem?_eq_getElem hi, Option.getD_some]; exact h _ (List.getElem_mem hi)
  · simp [List.getElem?_eq_none hi]

/-- The slice value v holds the bytes zs. -/
def Sl (w : World) (v : Value) (zs : List Int) : Prop :=
  Byt zs ∧ zs.length ≤ 140737488355328 ∧
    ((zs = [] ∧ ∃ ao cap, v = .slice ao 0 cap ∧ cap ≤ 9223372036854775807 ∧ (ao = none → cap = 0)) ∨
      ∃ b off cap, v = .slice (some ⟨b, off, none⟩) zs.length cap ∧ zs.length ≤ cap ∧ cap ≤ 9223372036854775807 ∧ ∀ i, i < zs.length → w.cell? ⟨b, off + i, none⟩ = some (.int .u8 (zs.getD i 0)))

theorem Sl.nil (w : World) : Sl w (.slice none 0 0) [] := by
  refine ⟨?_, ?_, ?_⟩
  · intro z h; cases h
  · simp
  · exact .inl ⟨rfl, none, 0, rfl, by omega, fun _ => rfl⟩

theorem lt_of_cell? {w : World} {b o : Nat} {v : Value} (h : w.cell? ⟨b, o, none⟩ = some v) : b < w.heap.size := World.block_lt_of_cell? w _ h

/-- What a call keeps it keeps of the bytes that were there. -/
theorem Sl.below {w w' : World} {v : Value} {zs : List Int} (h : Sl w v zs) (hb : Below w.heap.size w w') : Sl w' v zs := by
  obtain ⟨h1, h2, h3⟩ := h
  refine ⟨h1, h2, ?_⟩
  rcases h3 with h3 | ⟨b, off, cap, hv, hl, hm, hc⟩
  · exact .inl h3
  · refine .inr ⟨b, off, cap, hv, hl, hm, fun i hi => ?_⟩
    rw [hb.cell (lt_of_cell? (hc i hi))]
    exact hc i hi

/-- A part of the bytes, cut by a slice expression with three bounds, or two. -/
theorem Sl.cut {w : World} {ao : Option Addr} {len cap l h m : Nat} {zs : List Int} (hs : Sl w (.slice ao len cap) zs) (h1 : l ≤ h) (h2 : h ≤ len) (h3 : h ≤ m) (h4 : m ≤ cap) :
    Sl w (sliced ao l h m 1) ((zs.drop l).take (h - l)) := by
  obtain ⟨b1, b2, b3⟩ := hs
  have hb : Byt ((zs.drop l).take (h - l)) := fun z hz => b1 z (List.mem_of_mem_drop (List.mem_of_mem_take hz))
  rcases b3 with ⟨rfl, ao', cap', hv, hm, hnil⟩ | ⟨b, off, cap', hv, hl, hm, hc⟩
  · simp only [Value.slice.injEq] at hv
    obtain ⟨rfl, rfl, rfl⟩ := hv
    refine ⟨hb, by simp, .inl ⟨by simp, (if m = l then ao else ao.map (·.add (l * 1))), m - l, ?_, by omega, fun hn => ?_⟩⟩
    · have : h - l = 0 := by omega
      simp only [sliced, this]
    · split at hn
      · omega
      · have := hnil (by simpa using hn)
        omega
  · simp only [Value.slice.injEq] at hv
    obtain ⟨rfl, rfl, rfl⟩ := hv
    have hlen : ((zs.drop l).take (h - l)).length = h - l := by simp; omega
    refine ⟨hb, by omega, ?_⟩
    by_cases he : h = l
    · refine .inl ⟨by rw [he]; simp, (if m = l then some ⟨b, off, none⟩ else (some ⟨b, off, none⟩ : Option Addr).map (·.add (l * 1))), m - l, ?_, by omega, fun hn => ?_⟩
      · have : h - l = 0 := by omega
        simp only [sliced, this]
      · split at hn <;> simp at hn
    · refine .inr ⟨b, off + l, m - l, ?_, by omega, by omega, fun i hi => ?_⟩
      · rw [hlen]
        have : ¬ m = l := by omega
        simp only [sliced, this, if_false, Option.map_some, Nat.mul_one]
        congr 2
        unfold Addr.add; split <;> simp_all
      · rw [Nat.add_assoc, hc (l + i) (by omega)]
        simp [List.getD, List.getElem?_take_of_lt (show i < h - l by omega), List.getElem?_drop]

/-- The value is a slice. -/
theorem Sl.shape {w : World} {v : Value} {zs : List Int} (h : Sl w v zs) : ∃ ao cap, v = .slice ao zs.length cap ∧ zs.length ≤ cap ∧ cap ≤ 9223372036854775807 := by
  rcases h.2.2 with ⟨rfl, ao, cap, hv, hm, _⟩ | ⟨b, off, cap, hv, hl, hm, _⟩
  · exact ⟨ao, cap, hv, by simp, hm⟩
  · exact ⟨_, cap, hv, hl, hm⟩

/-- A slice that holds a byte lies at a plain place. -/
theorem Sl.place {w : World} {v : Value} {zs : List Int} (h : Sl w v zs) (hne : 0 < zs.length) :
    ∃ b off cap, v = .slice (some ⟨b, off, none⟩) zs.length cap ∧ zs.length ≤ cap ∧ cap ≤ 9223372036854775807 ∧ ∀ i, i < zs.length → w.cell? ⟨b, off + i, none⟩ = some (.int .u8 (zs.getD i 0)) := by
  rcases h.2.2 with ⟨rfl, _⟩ | h
  · simp at hne
  · exact h

theorem Sl.len {w : World} {v : Value} {zs : List Int} (h : Sl w v zs) : zs.length ≤ 140737488355328 := h.2.1

end Go.Proofs.Ytmdbdfigpccbpaa
