/- From an argument that is a slice, or a slice of slices, of integers to what it holds; with the second form's bound. -/
import Derived.Test.YtchjnplceelgoaaPost
import Derived.Test.YtchjnplceelgoaaBulk
import Derived.Deep.Matrix
namespace Go.Proofs.Ytchjnplceelgoaa
open Go.RowKit Go.ChangeShapes Go.WideShapes Go.Deep

theorem bulkAll_lits {H : Type} (k : IntKind) (zs : List Int) : Rows.uptoBulkAll (lits (H := H) k zs) = zs.length := by
  induction zs with
  | nil => rfl
  | cons z zs ih =>
    have e : lits (H := H) k (z :: zs) = .lit (.int k z) :: lits k zs := rfl
    rw [e, Rows.uptoBulkAll, ih]
    simp [Rows.uptoBulk]; omega

theorem bulk_intRow {H : Type} (k : IntKind) (A : Option Addr) (L : Nat) (zs : List Int) (h : A = none → zs = []) : (zs.take L).length + 1 ≤ Rows.uptoBulk (intRow (H := H) k A L zs) := by
  cases A with
  | none => rw [h rfl]; simp [intRow, Rows.uptoBulk]
  | some a =>
    simp only [intRow, Rows.uptoBulk, bulkAll_lits]
    omega

theorem bulk_map {H : Type} {α : Type} (f : α → DataW H) (g : α → List Int) (l : List α) (h : ∀ x ∈ l, (g x).length + 1 ≤ Rows.uptoBulk (f x)) : Spl.total (l.map g) + l.length ≤ Rows.uptoBulkAll (l.map f) := by
  induction l with
  | nil => simp [Spl.total, Rows.uptoBulkAll]
  | cons x l ih =>
    have h1 := h x (by simp)
    have h2 := ih (fun y hy => h y (List.mem_cons_of_mem _ hy))
    simp only [Spl.total, List.map_cons, List.sum_cons, List.length_cons, Rows.uptoBulkAll] at h2 ⊢
    omega

section
variable {H : Type} {enc : TypeId × Value → H} {P : Program} {W : World} {base : Nat} {held : Bool}

theorem ints_open {t q : TypeId} {k : IntKind} {a : Option Addr} {len cap : Nat} {d : DataW H} {p : List MemPlace} (ht : P.underlying t = some (.slice q)) (hq : P.underlying q = some (.int k)) (cq : P.cellsOf q = 1)
    (h : DataW.Trod enc P W base (fun _ => true) held t (.slice a len cap) d p) (hb : Rows.uptoBulk d ≤ 1048576) : ∃ zs, Sk k W (.slice a len cap) zs ∧ zs.length ≤ Rows.uptoBulk d := by
  obtain ⟨fuel, hf⟩ := h
  rcases open_ints ht hq cq hf with ⟨hcs, _⟩ | ⟨x, l, c, zs, hcs, _, hl, hm, hz, hx, hcell, hwz⟩
  · simp [Value.cells] at hcs
    obtain ⟨rfl, rfl, rfl⟩ := hcs
    exact ⟨[], Sk.nil _ _, by simp⟩
  · simp [Value.cells] at hcs
    obtain ⟨rfl, rfl, rfl⟩ := hcs
    simp only [if_true] at hz
    simp only [Prod.mk.injEq] at hx
    have hw : len ≤ Rows.uptoBulk d := by
      rw [hx.1, Rows.uptoBulk, bulkAll_lits, bulkAll_lits, List.length_take, List.length_drop]
      omega
    refine ⟨zs.take len, sk_of_row (.inr ⟨_, rfl, hl, hm, hz, hcell, hwz⟩) (by omega), ?_⟩
    rw [List.length_take]; omega

theorem rows_open {t e q : TypeId} {a : Option Addr} {len cap : Nat} {d : DataW H} {p : List MemPlace} (ht : P.underlying t = some (.slice e)) (he : P.underlying e = some (.slice q)) (hq : P.underlying q = some (.int .i32)) (ce : P.cellsOf e = 1) (cq : P.cellsOf q = 1)
    (h : DataW.Trod enc P W base (fun _ => true) held t (.slice a len cap) d p) (hb : Rows.uptoBulk d ≤ 1048576) : ∃ lss, Rws W (.slice a len cap) lss ∧ Spl.total lss + lss.length ≤ Rows.uptoBulk d := by
  obtain ⟨fuel, hf⟩ := h
  rcases open_int_rows ht he hq ce cq hf with ⟨hcs, _⟩ | ⟨x, l, c, A, L, C, Z, hcs, _, hl, hm, hx, hcell⟩
  · simp [Value.cells] at hcs
    obtain ⟨rfl, rfl, rfl⟩ := hcs
    exact ⟨[], Rws.nil _, by simp [Spl.total]⟩
  · simp [Value.cells] at hcs
    obtain ⟨rfl, rfl, rfl⟩ := hcs
    simp only [Prod.mk.injEq] at hx
    have hnone : ∀ r, r < cap → A r = none → Z r = [] := fun r hr hn => List.eq_nil_of_length_eq_zero (by rw [(hcell r hr).2.2.2.1]; exact (hcell r hr).2.2.2.2.2.1 hn)
    have hbk : Spl.total ((List.range len).map fun r => (Z r).take (L r)) + len ≤ Rows.uptoBulk d := by
      have h1 := bulk_map (fun r => intRow (H := H) .i32 (A r) (L r) (Z r)) (fun r => (Z r).take (L r)) (List.range len) (fun r hr => bulk_intRow _ _ _ _ (hnone r (by have := List.mem_range.1 hr; omega)))
      rw [List.length_range] at h1
      rw [hx.1, Rows.uptoBulk]
      omega
    have hrl : ∀ r, r < len → L r ≤ 1048576 := by
      intro r hr
      have h4 : ((Z r).take (L r)).length = L r := by
        have := hcell r (by omega)
        rw [List.length_take, this.2.2.2.1]; omega
      have h5 := Spl.row_le ((List.range len).map fun r => (Z r).take (L r)) r
      have e2 : ((List.range len).map fun r => (Z r).take (L r)).getD r [] = (Z r).take (L r) := by simp [List.getD, hr]
      rw [e2, h4] at h5
      omega
    refine ⟨(List.range len).map fun r => (Z r).take (L r), ?_, by simpa using hbk⟩
    refine ⟨(List.range len).map fun r => .slice (A r) (L r) (C r), by simp, ?_, ?_⟩
    · refine ⟨by simp; omega, ?_⟩
      unfold maxLen at hm
      rcases Nat.eq_zero_or_pos len with h0 | h0
      · subst h0
        exact .inl ⟨rfl, some x, cap, rfl, by omega, fun h => by cases h⟩
      · have hx0 := (hcell 0 (by omega)).1
        have hx1 : x.add 0 = x := by simp [Addr.add]
        rw [hx1] at hx0
        have hp := plain_of_cell hx0
        generalize x.block = b at *
        generalize x.off = o at *
        subst hp
        refine .inr ⟨b, o, cap, by simp, by simp; omega, by omega, fun i hi => ?_⟩
        simp only [List.length_map, List.length_range] at hi
        rw [← addr_add, (hcell i (by omega)).1]
        simp [List.getD, hi]
    · intro i hi
      simp only [List.length_map, List.length_range] at hi
      have hc := hcell i (by omega)
      have e1 : ((List.range len).map fun r => Value.slice (A r) (L r) (C r)).getD i undef = .slice (A i) (L i) (C i) := by simp [List.getD, hi]
      have e2 : ((List.range len).map fun r => (Z r).take (L r)).getD i [] = (Z i).take (L i) := by simp [List.getD, hi]
      rw [e1, e2]
      have hli := hrl i hi
      cases hA : A i with
      | none =>
        have hc0 := hc.2.2.2.2.2.1 hA
        have hl0 : L i = 0 := by have := hc.2.1; omega
        rw [hl0, hc0, List.take_zero]
        exact Sk.nil _ _
      | some y =>
        refine sk_of_row (.inr ⟨y, rfl, hc.2.1, hc.2.2.1, hc.2.2.2.1, fun j hj => ?_, hc.2.2.2.2.1⟩) (by omega)
        exact (hc.2.2.2.2.2.2 y hA).2 j (by rw [← hc.2.2.2.1]; exact hj)
end
end Go.Proofs.Ytchjnplceelgoaa
