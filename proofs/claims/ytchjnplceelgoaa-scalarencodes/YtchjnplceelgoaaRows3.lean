/- Lists of lists in memory of the call's own. -/
import Derived.Test.YtchjnplceelgoaaPost
namespace Go.Proofs.Ytchjnplceelgoaa
open Go.RowKit

theorem Try.info22 : (Try.prog.info? 22).map (fun i => (i.zero, i.size, i.bytes)) = some (some (.slice none 0 0), 1, 24) := by kernel_rfl

/-- A row of one type and a row of another are two rows. -/
theorem types_apart {w : World} {B B' n m : Nat} {e e' : TypeId} {v u : Value} {xs ys : List Value} (hne : e ≠ e') (h : w.ownsRow B e 1 v n xs) (k : w.ownsRow B' e' 1 u m ys) : v.ownBlock = none ∨ v.ownBlock ≠ u.ownBlock := by
  rcases h.2 with ⟨rfl, _⟩ | ⟨g, cap, cur, rfl, hg, hh, _⟩
  · exact .inl rfl
  · right
    rcases k.2 with ⟨rfl, _⟩ | ⟨g', cap', cur', rfl, hg', hh', _⟩
    · simp [Value.ownBlock]
    · intro e
      simp only [Value.ownBlock, Option.some.injEq] at e
      subst e
      rw [hh] at hh'
      simp at hh'
      exact hne hh'.2

theorem slices_one {us : List Value} (h : ∀ i, i < us.length → ∃ ao n cap, us.getD i undef = .slice ao n cap) : ∀ u ∈ us, u.oneCell' = true := by
  intro u hu
  obtain ⟨i, hi, rfl⟩ := List.getElem_of_mem hu
  obtain ⟨ao, n, cap, h1⟩ := h i hi
  simp only [List.getD, List.getElem?_eq_getElem hi, Option.getD_some] at h1
  rw [h1]; rfl
theorem slice_one (ao : Option Addr) (n cap : Nat) : ∀ u ∈ [Value.slice ao n cap], u.oneCell' = true := by intro u hu; simp at hu; subst hu; rfl

/-- A row of the call's own whose cells are slices of numbers of the call's own. -/
def Mr (w : World) (B : Nat) (v : Value) (xss : List (List Int)) : Prop :=
  ∃ us : List Value, us.length = xss.length ∧ Ow 22 w B v us ∧ ∀ i, i < xss.length → Ok .i32 21 w B (us.getD i undef) (xss.getD i [])

theorem Mr.nil (w : World) (B : Nat) : Mr w B (.slice none 0 0) [] := ⟨[], rfl, Ow.nil _ _ _, fun i hi => by simp at hi⟩
theorem Mr.below {w w' : World} {B : Nat} {v : Value} {xss : List (List Int)} (h : Mr w B v xss) (hb : Below w.heap.size w w') : Mr w' B v xss := by
  obtain ⟨us, h1, h2, h3⟩ := h
  exact ⟨us, h1, h2.below hb, fun i hi => (h3 i hi).below hb⟩
theorem Mr.rws {w : World} {B : Nat} {v : Value} {xss : List (List Int)} (h : Mr w B v xss) : Rws w v xss := by
  obtain ⟨us, h1, h2, h3⟩ := h
  exact ⟨us, h1, h2.sv, fun i hi => (h3 i hi).sk⟩

/-- One list more: the row behind an append. -/
theorem Mr.snoc {w w2 : World} {B : Nat} {v v' u : Value} {xss : List (List Int)} {xs : List Int} {o : Obj} {us : List Value} (hl : xss.length ≤ 100000000) (hus : us.length = xss.length) (hrow : w.ownsRow B 22 1 v xss.length us)
    (hrm : ∀ i, i < xss.length → Ok .i32 21 w B (us.getD i undef) (xss.getD i [])) (hu : Ok .i32 21 w B u xs) (hrow2 : w2.ownsRow B 22 1 v' (xss.length + 1) (us ++ [u])) (hg : (w.alloc o).grownBy w2 v.ownBlock) : Mr w2 B v' (xss ++ [xs]) := by
  have hk : ∀ u l, Ok .i32 21 w B u l → Ok .i32 21 w2 B u l := fun u l h => ⟨h.1, h.2.1, (h.2.2.alloc o).kept hg (types_apart (by decide) h.2.2 hrow)⟩
  refine ⟨us ++ [u], by simp [hus], ⟨by simp; omega, by simpa [hus] using hrow2⟩, fun i hi => ?_⟩
  simp only [List.length_append, List.length_cons, List.length_nil] at hi
  rcases Nat.lt_or_ge i xss.length with h | h
  · have e1 : (us ++ [u]).getD i undef = us.getD i undef := by simp [List.getD, List.getElem?_append_left (show i < us.length by omega)]
    have e2 : (xss ++ [xs]).getD i [] = xss.getD i [] := by simp [List.getD, List.getElem?_append_left h]
    rw [e1, e2]
    exact hk _ _ (hrm i h)
  · obtain rfl : i = xss.length := by omega
    have e1 : (us ++ [u]).getD xss.length undef = u := by simp [List.getD, ← hus]
    have e2 : (xss ++ [xs]).getD xss.length [] = xs := by simp [List.getD]
    rw [e1, e2]
    exact hk _ _ hu

theorem Mr.open {w : World} {B : Nat} {v : Value} {xss : List (List Int)} (h : Mr w B v xss) : ∃ us : List Value, us.length = xss.length ∧ w.ownsRow B 22 1 v xss.length us ∧ ∀ i, i < xss.length → Ok .i32 21 w B (us.getD i undef) (xss.getD i []) := by
  obtain ⟨us, h1, h2, h3⟩ := h
  have := h2.2
  rw [h1] at this
  exact ⟨us, h1, this, h3⟩

def JoinPost (w : World) (xs : List Int) (e : Ending) (w' : World) : Prop := ∃ v, e = .returned v ∧ Ok .i32 21 w' w.heap.size v xs ∧ Below w.heap.size w w'
def JoinC : Prop := ∀ (v : Value) (xss : List (List Int)) (w : World), Rws w v xss → Spl.total xss + xss.length ≤ 1000000000 → Calls Try.prog 28 #[v] w (JoinPost w (Spl.join xss))

theorem take_snoc {α : Type} (l : List α) (k : Nat) (d : α) (hk : k < l.length) : l.take (k + 1) = l.take k ++ [l.getD k d] := by
  rw [List.take_add_one]
  simp [List.getD, hk]
end Go.Proofs.Ytchjnplceelgoaa
