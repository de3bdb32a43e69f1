/- Lists, each with its marks behind it, in rows of the call's own. -/
import Derived.Test.YtchjnplceelgoaaRows3
import Derived.Test.YtchjnplceelgoaaRoom3
namespace Go.Proofs.Ytchjnplceelgoaa
open Go.RowKit

/-- What roomy handed back, in the world as it stands. -/
def Rm (w : World) (B : Nat) (u : Value) (l : List Int) : Prop :=
  ∃ g cap, u = .slice (some ⟨g, 0, none⟩) l.length cap ∧ Ok .i32 21 w B (.slice (some ⟨g, 0, none⟩) (l.length + 2) cap) (l ++ [-7, -8]) ∧ l.length + 2 ≤ cap ∧ cap ≤ 9223372036854775807

/-- A row of the call's own whose cells are such slices. -/
def Ps (w : World) (B : Nat) (v : Value) (ls : List (List Int)) : Prop :=
  ∃ us : List Value, us.length = ls.length ∧ w.ownsRow B 22 1 v ls.length us ∧ ∀ i, i < ls.length → Rm w B (us.getD i undef) (ls.getD i [])

theorem Rm.below {w w' : World} {B : Nat} {u : Value} {l : List Int} (h : Rm w B u l) (hb : Below w.heap.size w w') : Rm w' B u l := by
  obtain ⟨g, cap, h1, h2, h3⟩ := h
  exact ⟨g, cap, h1, h2.below hb, h3⟩
theorem Rm.lower {w : World} {B B' : Nat} {u : Value} {l : List Int} (h : Rm w B u l) (hB : B' ≤ B) : Rm w B' u l := by
  obtain ⟨g, cap, h1, h2, h3⟩ := h
  exact ⟨g, cap, h1, h2.lower hB, h3⟩

theorem row_below {w w' : World} {B : Nat} {e : TypeId} {v : Value} {n : Nat} {xs : List Value} (h : w.ownsRow B e 1 v n xs) (hb : Below w.heap.size w w') : w'.ownsRow B e 1 v n xs := by
  refine h.kept (row := none) ⟨hb.os, hb.tape, hb.output, hb.size, fun k hk _ => hb.block k hk⟩ ?_
  cases h' : v.ownBlock with
  | none => exact .inl rfl
  | some k => exact .inr (by simp)

theorem Ps.below {w w' : World} {B : Nat} {v : Value} {ls : List (List Int)} (h : Ps w B v ls) (hb : Below w.heap.size w w') : Ps w' B v ls := by
  obtain ⟨us, h1, h2, h3⟩ := h
  exact ⟨us, h1, row_below h2 hb, fun i hi => (h3 i hi).below hb⟩

theorem Ps.nil (w : World) (B : Nat) : Ps w B (.slice none 0 0) [] := ⟨[], rfl, World.ownsRow_nil _ _ _ _, fun i hi => by simp at hi⟩

theorem Ps.snoc {w w2 : World} {B : Nat} {v v' u : Value} {ls : List (List Int)} {l : List Int} {o : Obj} {us : List Value} (hus : us.length = ls.length) (hrow : w.ownsRow B 22 1 v ls.length us)
    (hrm : ∀ i, i < ls.length → Rm w B (us.getD i undef) (ls.getD i [])) (hu : Rm w B u l) (hrow2 : w2.ownsRow B 22 1 v' (ls.length + 1) (us ++ [u])) (hg : (w.alloc o).grownBy w2 v.ownBlock) : Ps w2 B v' (ls ++ [l]) := by
  have hk : ∀ u l, Rm w B u l → Rm w2 B u l := by
    intro u l h
    obtain ⟨g, cap, h1, h2, h3⟩ := h
    exact ⟨g, cap, h1, ⟨h2.1, h2.2.1, (h2.2.2.alloc o).kept hg (types_apart (by decide) h2.2.2 hrow)⟩, h3⟩
  refine ⟨us ++ [u], by simp [hus], by simpa using hrow2, fun i hi => ?_⟩
  simp only [List.length_append, List.length_cons, List.length_nil] at hi
  rcases Nat.lt_or_ge i ls.length with h | h
  · have e1 : (us ++ [u]).getD i undef = us.getD i undef := by simp [List.getD, List.getElem?_append_left (show i < us.length by omega)]
    have e2 : (ls ++ [l]).getD i [] = ls.getD i [] := by simp [List.getD, List.getElem?_append_left h]
    rw [e1, e2]
    exact hk _ _ (hrm i h)
  · obtain rfl : i = ls.length := by omega
    have e1 : (us ++ [u]).getD ls.length undef = u := by simp [List.getD, ← hus]
    have e2 : (ls ++ [l]).getD ls.length [] = l := by simp [List.getD]
    rw [e1, e2]
    exact hk _ _ hu

theorem Rm.sk {w : World} {B : Nat} {u : Value} {l : List Int} (h : Rm w B u l) : Sk .i32 w u l := by
  obtain ⟨g, cap, rfl, h2, h3⟩ := h
  exact room_sk h2.sk

theorem Ps.rws {w : World} {B : Nat} {v : Value} {ls : List (List Int)} (h : Ps w B v ls) (hl : ls.length ≤ 1000000000) : Rws w v ls := by
  obtain ⟨us, h1, h2, h3⟩ := h
  exact ⟨us, h1, Ow.sv (e := 22) (B := B) ⟨by omega, by rw [h1]; exact h2⟩, fun i hi => (h3 i hi).sk⟩

theorem Ps.cell {w : World} {B : Nat} {v : Value} {ls : List (List Int)} (h : Ps w B v ls) (hne : 0 < ls.length) :
    ∃ (g cap : Nat) (us : List Value), v = .slice (some ⟨g, 0, none⟩) ls.length cap ∧ ls.length ≤ cap ∧ ∀ i, i < ls.length → w.cell? ⟨g, i, none⟩ = some (us.getD i undef) ∧ Rm w B (us.getD i undef) (ls.getD i []) := by
  obtain ⟨us, h1, h2, h3⟩ := h
  obtain ⟨g, cap, hv, hc1, hc2⟩ := own_shape h2 hne
  subst hv
  refine ⟨g, cap, us, rfl, hc1, fun i hi => ⟨?_, h3 i hi⟩⟩
  rw [h2.cellAt i (by omega)]
  simp [List.getD, show i < us.length by omega]
end Go.Proofs.Ytchjnplceelgoaa
