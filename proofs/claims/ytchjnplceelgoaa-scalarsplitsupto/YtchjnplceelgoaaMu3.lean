/- Rows that are pushed one by one, each apart from the others; the contract of the document's own Split. -/
import Derived.Test.YtchjnplceelgoaaRows3
import Derived.Test.YtchjnplceelgoaaOwnW
namespace Go.Proofs.Ytchjnplceelgoaa
open Go.RowKit

/-- A row of the call's own whose cells are slices of the call's own, all below block U, no two in one block. -/
def Mu (w : World) (B U : Nat) (v : Value) (xss : List (List Int)) : Prop :=
  ∃ us : List Value, us.length = xss.length ∧ w.ownsRow B 22 1 v xss.length us ∧ (∀ i, i < xss.length → Ok .i32 21 w B (us.getD i undef) (xss.getD i [])) ∧
    (∀ i, i < xss.length → ∀ k, (us.getD i undef).ownBlock = some k → k < U) ∧ ∀ i j k, i < j → j < xss.length → (us.getD i undef).ownBlock = some k → (us.getD j undef).ownBlock ≠ some k

theorem Mu.nil (w : World) (B U : Nat) : Mu w B U (.slice none 0 0) [] := ⟨[], rfl, World.ownsRow_nil _ _ _ _, fun i hi => by simp at hi, fun i hi => by simp at hi, fun i j k _ hj => by simp at hj⟩
theorem Mu.mr {w : World} {B U : Nat} {v : Value} {xss : List (List Int)} (h : Mu w B U v xss) (hl : xss.length ≤ 1000000000) : Mr w B v xss := by
  obtain ⟨us, h1, h2, h3, _⟩ := h
  exact ⟨us, h1, ⟨by omega, by rw [h1]; exact h2⟩, h3⟩

/-- The list that is being made grows. -/
theorem Mu.grown {w w2 : World} {B U : Nat} {v u : Value} {xss : List (List Int)} {ys : List Value} {n : Nat} {o : Obj} (h : Mu w B U v xss) (hu : w.ownsRow U 21 1 u n ys) (hg : (w.alloc o).grownBy w2 u.ownBlock) : Mu w2 B U v xss := by
  obtain ⟨us, h1, h2, h3, h4, h5⟩ := h
  refine ⟨us, h1, (h2.alloc o).kept hg ?_, fun i hi => ?_, h4, h5⟩
  · rcases types_apart (by decide) hu h2 with h' | h'
    · rw [h']
      cases hb : v.ownBlock <;> simp
    · exact .inr (fun e => h' e.symm)
  · have hr := h3 i hi
    refine ⟨hr.1, hr.2.1, (hr.2.2.alloc o).kept hg ?_⟩
    cases hb : (us.getD i undef).ownBlock with
    | none => exact .inl rfl
    | some k =>
      refine .inr (fun e => ?_)
      have a1 := h4 i hi k hb
      have a2 := hu.lt k e.symm
      omega

/-- The list that was made is pushed. -/
theorem Mu.snoc {w w2 : World} {B U : Nat} {v v' u : Value} {xss : List (List Int)} {xs : List Int} {o : Obj} {us : List Value} (hBU : B ≤ U) (hus : us.length = xss.length) (hrow : w.ownsRow B 22 1 v xss.length us)
    (hrm : ∀ i, i < xss.length → Ok .i32 21 w B (us.getD i undef) (xss.getD i [])) (hlt : ∀ i, i < xss.length → ∀ k, (us.getD i undef).ownBlock = some k → k < U)
    (hap : ∀ i j k, i < j → j < xss.length → (us.getD i undef).ownBlock = some k → (us.getD j undef).ownBlock ≠ some k)
    (hu : Ok .i32 21 w U u xs) (hrow2 : w2.ownsRow B 22 1 v' (xss.length + 1) (us ++ [u])) (hg : (w.alloc o).grownBy w2 v.ownBlock) : Mu w2 B w2.heap.size v' (xss ++ [xs]) := by
  have hsz : w.heap.size ≤ w2.heap.size := by have := hg.size; simp at this; omega
  have hk : ∀ u l, Ok .i32 21 w B u l → Ok .i32 21 w2 B u l := fun u l h => ⟨h.1, h.2.1, (h.2.2.alloc o).kept hg (types_apart (by decide) h.2.2 hrow)⟩
  have e1 : ∀ i, i < xss.length → (us ++ [u]).getD i undef = us.getD i undef := fun i h => by simp [List.getD, List.getElem?_append_left (show i < us.length by omega)]
  have e2 : (us ++ [u]).getD xss.length undef = u := by simp [List.getD, ← hus]
  refine ⟨us ++ [u], by simp [hus], by simpa using hrow2, fun i hi => ?_, fun i hi k hb => ?_, fun i j k hij hj hb => ?_⟩
  · simp only [List.length_append, List.length_cons, List.length_nil] at hi
    rcases Nat.lt_or_ge i xss.length with h | h
    · have e3 : (xss ++ [xs]).getD i [] = xss.getD i [] := by simp [List.getD, List.getElem?_append_left h]
      rw [e1 i h, e3]
      exact hk _ _ (hrm i h)
    · obtain rfl : i = xss.length := by omega
      have e3 : (xss ++ [xs]).getD xss.length [] = xs := by simp [List.getD]
      rw [e2, e3]
      exact hk _ _ (hu.lower hBU)
  · simp only [List.length_append, List.length_cons, List.length_nil] at hi
    rcases Nat.lt_or_ge i xss.length with h | h
    · rw [e1 i h] at hb
      have := ((hrm i h).row.lt k hb).2
      omega
    · obtain rfl : i = xss.length := by omega
      rw [e2] at hb
      have := (hu.row.lt k hb).2
      omega
  · simp only [List.length_append, List.length_cons, List.length_nil] at hj
    rw [e1 i (by omega)] at hb
    rcases Nat.lt_or_ge j xss.length with h | h
    · rw [e1 j h]
      exact hap i j k hij h hb
    · obtain rfl : j = xss.length := by omega
      rw [e2]
      intro hb2
      have a1 := hlt i (by omega) k hb
      have a2 := (hu.row.lt k hb2).1
      omega

def SplOPost (w : World) (xss : List (List Int)) (e : Ending) (w' : World) : Prop := ∃ v, e = .returned v ∧ Mu w' w.heap.size w'.heap.size v xss ∧ Below w.heap.size w w'

theorem splitA_step {xs p : List Int} {k : Nat} (hk : k < xs.length) : Spl.splitA p (xs.drop k) = if xs.getD k 0 = 46 then p :: Spl.splitA [] (xs.drop (k + 1)) else Spl.splitA (p ++ [xs.getD k 0]) (xs.drop (k + 1)) := by
  rw [drop_next hk]; rfl
end Go.Proofs.Ytchjnplceelgoaa
