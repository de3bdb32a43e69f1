/- Slices whose elements are of several cells; slices of ranges. -/
import Derived.Test.YtehdeipeehaejaaSeq
import Derived.Test.YtehdeipeehaejaaTri
namespace Go.Proofs.Ytehdeipeehaejaa
open Go.RowKit

/-- The slice v holds len elements of sz cells each: the cells us. -/
def Sz (sz : Nat) (w : World) (v : Value) (len : Nat) (us : List Value) : Prop :=
  us.length = len * sz ∧ len ≤ 5864062014805 ∧
    ((len = 0 ∧ ∃ ao cap, v = .slice ao 0 cap ∧ cap ≤ 9223372036854775807 ∧ (ao = none → cap = 0)) ∨
      ∃ b off cap, v = .slice (some ⟨b, off, none⟩) len cap ∧ len ≤ cap ∧ cap ≤ 9223372036854775807 ∧ ∀ i, i < len * sz → w.cell? ⟨b, off + i, none⟩ = some (us.getD i undef))

theorem Sz.nil (sz : Nat) (w : World) : Sz sz w (.slice none 0 0) 0 [] := ⟨by simp, by omega, .inl ⟨rfl, none, 0, rfl, by omega, fun _ => rfl⟩⟩
theorem Sz.below {sz len : Nat} {w w' : World} {v : Value} {us : List Value} (h : Sz sz w v len us) (hb : Below w.heap.size w w') : Sz sz w' v len us := by
  obtain ⟨h1, h2, h3⟩ := h
  refine ⟨h1, h2, ?_⟩
  rcases h3 with h3 | ⟨b, off, cap, hv, hl, hm, hc⟩
  · exact .inl h3
  · refine .inr ⟨b, off, cap, hv, hl, hm, fun i hi => ?_⟩
    rw [hb.cell (lt_of_cell? (hc i hi))]
    exact hc i hi
theorem Sz.shape {sz len : Nat} {w : World} {v : Value} {us : List Value} (h : Sz sz w v len us) : ∃ ao cap, v = .slice ao len cap ∧ len ≤ cap ∧ cap ≤ 9223372036854775807 := by
  rcases h.2.2 with ⟨rfl, ao, cap, hv, hm, _⟩ | ⟨b, off, cap, hv, hl, hm, _⟩
  · exact ⟨ao, cap, hv, by simp, hm⟩
  · exact ⟨_, cap, hv, hl, hm⟩
theorem Sz.place {sz len : Nat} {w : World} {v : Value} {us : List Value} (h : Sz sz w v len us) (hne : 0 < len) :
    ∃ b off cap, v = .slice (some ⟨b, off, none⟩) len cap ∧ len ≤ cap ∧ cap ≤ 9223372036854775807 ∧ ∀ i, i < len * sz → w.cell? ⟨b, off + i, none⟩ = some (us.getD i undef) := by
  rcases h.2.2 with ⟨rfl, _⟩ | h
  · omega
  · exact h
theorem Sz.src {sz len : Nat} {w : World} {v : Value} {us : List Value} (h : Sz sz w v len us) : (len = 0 ∧ us = [] ∧ v = .slice none 0 0) ∨
    ∃ ad cap, v = .slice (some ad) len cap ∧ ∀ j u, us[j]? = some u → w.cell? (ad.add j) = some u := by
  obtain ⟨h1, h2, h3⟩ := h
  rcases h3 with ⟨rfl, ao, cap, rfl, _, hnil⟩ | ⟨b, off, cap, rfl, hl, hm, hc⟩
  · have hus : us = [] := List.eq_nil_of_length_eq_zero (by simpa using h1)
    cases ao with
    | none => exact .inl ⟨rfl, hus, by rw [hnil rfl]⟩
    | some ad => exact .inr ⟨ad, cap, rfl, fun j u hj => by rw [hus] at hj; simp at hj⟩
  · refine .inr ⟨_, cap, rfl, fun j u hj => ?_⟩
    have hjl := (List.getElem?_eq_some_iff.1 hj).1
    rw [addr_add, hc j (by omega)]
    simp [List.getD, hj]
theorem Sz.head {sz len k : Nat} {w : World} {ao : Option Addr} {cap : Nat} {us : List Value} (h : Sz sz w (.slice ao len cap) len us) (hk : k ≤ len) : Sz sz w (.slice ao k cap) k (us.take (k * sz)) := by
  obtain ⟨h1, h2, h3⟩ := h
  have hks : k * sz ≤ len * sz := Nat.mul_le_mul_right _ hk
  refine ⟨by rw [List.length_take]; omega, by omega, ?_⟩
  rcases h3 with ⟨h0, ao', cap', hv, hm, hnil⟩ | ⟨b, off, cap', hv, hl, hm, hc⟩
  · simp only [Value.slice.injEq] at hv
    obtain ⟨rfl, _, rfl⟩ := hv
    exact .inl ⟨by omega, ao, cap, by rw [show k = 0 by omega], hm, hnil⟩
  · simp only [Value.slice.injEq] at hv
    obtain ⟨rfl, _, rfl⟩ := hv
    rcases Nat.eq_zero_or_pos k with hk0 | hk0
    · subst hk0
      exact .inl ⟨rfl, _, cap, rfl, hm, fun h => by cases h⟩
    · refine .inr ⟨b, off, cap, rfl, by omega, hm, fun i hi => ?_⟩
      rw [hc i (by omega)]
      simp [List.getD, List.getElem?_take_of_lt hi]

/-- The cells of a range, and of ranges. -/
def rcell (r : Tri.Rg) : List Value := [.int .i64 (Tri.lo r), .int .i64 (Tri.hi r), .int .i64 (Tri.vl r)]
def rcells : List Tri.Rg → List Value
  | [] => []
  | r :: rs => rcell r ++ rcells rs
theorem rcells_len (rs : List Tri.Rg) : (rcells rs).length = rs.length * 3 := by
  induction rs with
  | nil => rfl
  | cons r rs ih => simp [rcells, rcell, ih]; omega
theorem rcells_app (a b : List Tri.Rg) : rcells (a ++ b) = rcells a ++ rcells b := by
  induction a with
  | nil => rfl
  | cons r a ih => simp [rcells, ih]
theorem rcells_take (rs : List Tri.Rg) (k : Nat) : (rcells rs).take (k * 3) = rcells (rs.take k) := by
  induction rs generalizing k with
  | nil => simp [rcells]
  | cons r rs ih =>
    cases k with
    | zero => simp [rcells]
    | succ k =>
      have := ih k
      simp only [rcells, rcell, List.take_succ_cons, show (k + 1) * 3 = k * 3 + 1 + 1 + 1 by omega, List.cons_append, List.nil_append]
      rw [this]
theorem rcells_at (rs : List Tri.Rg) (i : Nat) (hi : i < rs.length) : (rcells rs).getD (i * 3) undef = .int .i64 (Tri.lo (rs.getD i (0, 0, 0))) ∧ (rcells rs).getD (i * 3 + 1) undef = .int .i64 (Tri.hi (rs.getD i (0, 0, 0))) ∧ (rcells rs).getD (i * 3 + 2) undef = .int .i64 (Tri.vl (rs.getD i (0, 0, 0))) := by
  induction rs generalizing i with
  | nil => simp at hi
  | cons r rs ih =>
    cases i with
    | zero => exact ⟨rfl, rfl, rfl⟩
    | succ i =>
      have := ih i (by simpa using hi)
      have e : ∀ j, (rcells (r :: rs)).getD (j + 3) undef = (rcells rs).getD j undef := fun j => rfl
      rw [show (i + 1) * 3 = i * 3 + 3 by omega, show i * 3 + 3 + 1 = (i * 3 + 1) + 3 by omega, show i * 3 + 3 + 2 = (i * 3 + 2) + 3 by omega, e, e, e]
      exact this

/-- Numbers that are ints. -/
def Fi (z : Int) : Prop := -9223372036854775808 ≤ z ∧ z ≤ 9223372036854775807
def FitR (rs : List Tri.Rg) : Prop := ∀ r ∈ rs, Fi (Tri.lo r) ∧ Fi (Tri.hi r) ∧ Fi (Tri.vl r)
theorem FitR.at {rs : List Tri.Rg} (h : FitR rs) (i : Nat) : Fi (Tri.lo (rs.getD i (0, 0, 0))) ∧ Fi (Tri.hi (rs.getD i (0, 0, 0))) ∧ Fi (Tri.vl (rs.getD i (0, 0, 0))) := by
  rcases Nat.lt_or_ge i rs.length with hi | hi
  · simp only [List.getD, List.getElem?_eq_getElem hi, Option.getD_some]; exact h _ (List.getElem_mem hi)
  · simp only [List.getD, List.getElem?_eq_none hi, Option.getD_none]
    simp [Fi, Tri.lo, Tri.hi, Tri.vl]

def Sr (w : World) (v : Value) (rs : List Tri.Rg) : Prop := FitR rs ∧ Sz 3 w v rs.length (rcells rs)
theorem Sr.below {w w' : World} {v : Value} {rs : List Tri.Rg} (h : Sr w v rs) (hb : Below w.heap.size w w') : Sr w' v rs := ⟨h.1, h.2.below hb⟩
theorem Sr.nil (w : World) : Sr w (.slice none 0 0) [] := ⟨fun r hr => by simp at hr, Sz.nil 3 w⟩
theorem Sr.shape {w : World} {v : Value} {rs : List Tri.Rg} (h : Sr w v rs) : ∃ ao cap, v = .slice ao rs.length cap ∧ rs.length ≤ cap ∧ cap ≤ 9223372036854775807 := h.2.shape
theorem Sr.len {w : World} {v : Value} {rs : List Tri.Rg} (h : Sr w v rs) : rs.length ≤ 5864062014805 := h.2.2.1
theorem Sr.head {w : World} {ao : Option Addr} {len cap k : Nat} {rs : List Tri.Rg} (h : Sr w (.slice ao len cap) rs) (hl : len = rs.length) (hk : k ≤ len) : Sr w (.slice ao k cap) (rs.take k) := by
  subst hl
  refine ⟨fun r hr => h.1 r (List.mem_of_mem_take hr), ?_⟩
  have := h.2.head hk
  rw [rcells_take] at this
  rw [show (rs.take k).length = k by rw [List.length_take]; omega]
  exact this
theorem Sr.place {w : World} {v : Value} {rs : List Tri.Rg} (h : Sr w v rs) (hne : 0 < rs.length) :
    ∃ b off cap, v = .slice (some ⟨b, off, none⟩) rs.length cap ∧ rs.length ≤ cap ∧ cap ≤ 9223372036854775807 ∧ ∀ i, i < rs.length →
      w.cell? ⟨b, off + i * 3, none⟩ = some (.int .i64 (Tri.lo (rs.getD i (0, 0, 0)))) ∧ w.cell? ⟨b, off + i * 3 + 1, none⟩ = some (.int .i64 (Tri.hi (rs.getD i (0, 0, 0)))) ∧ w.cell? ⟨b, off + i * 3 + 2, none⟩ = some (.int .i64 (Tri.vl (rs.getD i (0, 0, 0)))) := by
  obtain ⟨b, off, cap, h1, h2, h3, h4⟩ := h.2.place hne
  refine ⟨b, off, cap, h1, h2, h3, fun i hi => ?_⟩
  have hr := rcells_at rs i hi
  have k0 := h4 (i * 3) (by omega)
  have k1 := h4 (i * 3 + 1) (by omega)
  have k2 := h4 (i * 3 + 2) (by omega)
  rw [hr.1] at k0
  rw [hr.2.1] at k1
  rw [hr.2.2] at k2
  exact ⟨k0, k1, k2⟩
end Go.Proofs.Ytehdeipeehaejaa
