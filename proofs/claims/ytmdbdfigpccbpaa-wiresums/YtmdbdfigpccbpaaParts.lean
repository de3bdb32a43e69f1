/- WireSums: the parts, each with its marks, in rows of the call's own. -/
import Derived.Test.YtmdbdfigpccbpaaJoin
import Derived.Test.YtmdbdfigpccbpaaRoom
import Derived.Test.YtmdbdfigpccbpaaRefS
import Derived.Test.YtmdbdfigpccbpaaRefT
namespace Go.Proofs.Ytmdbdfigpccbpaa
open Go.RowKit

theorem Try.info22 : (Try.prog.info? 22).map (fun i => (i.zero, i.size, i.bytes)) = some (some (.slice none 0 0), 1, 24) := by kernel_rfl

/-- What roomy handed back, in the world as it stands. -/
def Rm (w : World) (B : Nat) (u : Value) (l : List Int) : Prop :=
  ∃ g cap, u = .slice (some ⟨g, 0, none⟩) l.length cap ∧ Own w B (.slice (some ⟨g, 0, none⟩) (l.length + 2) cap) (l ++ [77, 78]) ∧ l.length + 2 ≤ cap ∧ cap ≤ 9223372036854775807 ∧ Byt l

/-- The parts: a row of the call's own whose cells are such slices. -/
def Ps (w : World) (B : Nat) (v : Value) (ls : List (List Int)) : Prop :=
  ∃ us : List Value, us.length = ls.length ∧ w.ownsRow B 22 1 v ls.length us ∧ ∀ i, i < ls.length → Rm w B (us.getD i undef) (ls.getD i [])

theorem own_lower5 {w : World} {B B' : Nat} {v : Value} {zs : List Int} (h : Own w B v zs) (hB : B' ≤ B) : Own w B' v zs := by
  refine ⟨h.1, h.2.1, h.2.2.1, ?_⟩
  rcases h.2.2.2 with h2 | ⟨g, cap, cur, hv, hg, r⟩
  · exact .inl h2
  · exact .inr ⟨g, cap, cur, hv, by omega, r⟩

theorem Rm.below {w w' : World} {B : Nat} {u : Value} {l : List Int} (h : Rm w B u l) (hb : Below w.heap.size w w') : Rm w' B u l := by
  obtain ⟨g, cap, h1, h2, h3⟩ := h
  exact ⟨g, cap, h1, own_below h2 hb, h3⟩

theorem row_below {w w' : World} {B : Nat} {e : TypeId} {v : Value} {n : Nat} {xs : List Value} (h : w.ownsRow B e 1 v n xs) (hb : Below w.heap.size w w') : w'.ownsRow B e 1 v n xs := by
  refine h.kept (row := none) ⟨hb.os, hb.tape, hb.output, hb.size, fun k hk _ => hb.block k hk⟩ ?_
  cases h' : v.ownBlock with
  | none => exact .inl rfl
  | some k => exact .inr (by simp)

theorem Ps.below {w w' : World} {B : Nat} {v : Value} {ls : List (List Int)} (h : Ps w B v ls) (hb : Below w.heap.size w w') : Ps w' B v ls := by
  obtain ⟨us, h1, h2, h3⟩ := h
  exact ⟨us, h1, row_below h2 hb, fun i hi => (h3 i hi).below hb⟩

/-- A row of bytes and a row of slices are two rows. -/
theorem rows_apart {w : World} {B B' : Nat} {v u : Value} {n m : Nat} {xs ys : List Value} (h : w.ownsRow B 5 1 v n xs) (k : w.ownsRow B' 22 1 u m ys) : v.ownBlock = none ∨ v.ownBlock ≠ u.ownBlock := by
  rcases h.2 with ⟨rfl, _⟩ | ⟨g, cap, cur, rfl, hg, hh, _⟩
  · exact .inl rfl
  · right
    rcases k.2 with ⟨rfl, _⟩ | ⟨g', cap', cur', rfl, hg', hh', _⟩
    · simp [Value.ownBlock]
    · intro e
      simp only [Value.ownBlock, Option.some.injEq] at e
      subst e
      rw [hh] at hh'
      simp at hh'

theorem Ps.nil (w : World) (B : Nat) : Ps w B (.slice none 0 0) [] := ⟨[], rfl, World.ownsRow_nil _ _ _ _, fun i hi => by simp at hi⟩

/-- One part more: the row behind an append. -/
theorem Ps.snoc {w w2 : World} {B : Nat} {v v' u : Value} {ls : List (List Int)} {l : List Int} {o : Obj} {us : List Value} (hus : us.length = ls.length) (hrow : w.ownsRow B 22 1 v ls.length us)
    (hrm : ∀ i, i < ls.length → Rm w B (us.getD i undef) (ls.getD i [])) (hu : Rm w B u l) (hrow2 : w2.ownsRow B 22 1 v' (ls.length + 1) (us ++ [u])) (hg : (w.alloc o).grownBy w2 v.ownBlock) : Ps w2 B v' (ls ++ [l]) := by
  have hk : ∀ u l, Rm w B u l → Rm w2 B u l := by
    intro u l h
    obtain ⟨g, cap, h1, h2, h3⟩ := h
    exact ⟨g, cap, h1, ⟨h2.1, h2.2.1, (h2.2.2.alloc o).kept hg (rows_apart h2.2.2 hrow)⟩, h3⟩
  refine ⟨us ++ [u], by simp [hus], by simpa using hrow2, fun i hi => ?_⟩
  simp only [List.length_append, List.length_cons, List.length_nil] at hi
  rcases Nat.lt_or_ge i ls.length with h | h
  · have e1 : (us ++ [u]).getD i undef = us.getD i undef := by simp [List.getD, List.getElem?_append_left (show i < us.length by omega)]
    have e2 : (ls ++ [l]).getD i [] = ls.getD i [] := by simp [List.getD, List.getElem?_append_left h]
    rw [e1, e2]
    exact hk _ _ (hrm i h)
  · obtain rfl : i = ls.length := by omega
    have e1 : (us ++ [u]).getD ls.length undef = u := by simp [List.getD, ← hus]
    have e2 : (ls ++ [l]).getD ls.length [] = l := by simp [List.getD]
    rw [e1, e2]
    exact hk _ _ hu

theorem Rm.sl {w : World} {B : Nat} {u : Value} {l : List Int} (h : Rm w B u l) : Sl w u l := by
  obtain ⟨g, cap, rfl, h2, h3, h4, h5⟩ := h
  exact room_sl h5 h2.sl

/-- The parts as wire reads them. -/
theorem Ps.pa {w : World} {B : Nat} {v : Value} {ls : List (List Int)} (h : Ps w B v ls) (hl : ls.length ≤ 1000) : Pa w v ls := by
  obtain ⟨us, h1, h2, h3⟩ := h
  refine ⟨by omega, ?_⟩
  have h2' := h2
  rcases h2.2 with ⟨rfl, h0⟩ | ⟨g, cap, cur, rfl, hg, hh, hn, hcap, hsz, htake⟩
  · exact .inl ⟨List.eq_nil_of_length_eq_zero h0, none, 0, rfl⟩
  · refine .inr ⟨g, 0, cap, rfl, hn, fun i hi => ?_⟩
    refine ⟨us.getD i undef, ?_, (h3 i hi).sl⟩
    rw [Nat.zero_add, h2'.cellAt i (by omega)]
    simp [List.getD, show i < us.length by omega]

theorem Ps.byt {w : World} {B : Nat} {v : Value} {ls : List (List Int)} (h : Ps w B v ls) : ∀ l ∈ ls, Byt l := by
  obtain ⟨us, h1, h2, h3⟩ := h
  intro l hl
  obtain ⟨i, hi, rfl⟩ := List.getElem_of_mem hl
  obtain ⟨g, cap, _, _, _, _, h5⟩ := h3 i hi
  simpa [List.getD, hi] using h5
end Go.Proofs.Ytmdbdfigpccbpaa
