/- From an argument that is a slice of strings, or of ints, to what it holds; with the second form's bound. -/
import Derived.Test.YtkdkmnohnhhojaaDoorSeq
import Derived.Test.YtkdkmnohnhhojaaDoorBulk
import Derived.OpenShut
import Derived.Deep.Strs
import Derived.Deep.Matrix
namespace Go.Proofs.YtkdkmnohnhhojaaDoor
open Go.RowKit Go.ChangeShapes Go.WideShapes Go.Deep

theorem bulkAll_lits {H : Type} (k : IntKind) (zs : List Int) : Rows.uptoBulkAll (lits (H := H) k zs) = zs.length := by
  induction zs with
  | nil => rfl
  | cons z zs ih =>
    have e : lits (H := H) k (z :: zs) = .lit (.int k z) :: lits k zs := rfl
    rw [e, Rows.uptoBulkAll, ih]
    simp [Rows.uptoBulk]; omega

section
variable {H : Type} {enc : TypeId × Value → H} {P : Program} {W : World} {base : Nat} {held : Bool}

theorem ints_open {t q : TypeId} {k : IntKind} {a : Option Addr} {len cap : Nat} {d : DataW H} {p : List MemPlace} (ht : P.underlying t = some (.slice q)) (hq : P.underlying q = some (.int k)) (cq : P.cellsOf q = 1)
    (h : DataW.Trod enc P W base (fun _ => true) held t (.slice a len cap) d p) (hb : Rows.uptoBulk d ≤ 1048576) : ∃ zs, Sk k W (.slice a len cap) zs ∧ zs.length ≤ Rows.uptoBulk d := by
  obtain ⟨fuel, hf⟩ := h
  rcases open_ints ht hq cq hf with ⟨hcs, _⟩ | ⟨x, l, c, zs, hcs, _, hl, hm, hz, hx, hcell, hwz⟩
  · simp [Value.cells] at hcs
    obtain ⟨rfl, rfl, rfl⟩ := hcs
    exact ⟨[], Sk.nil _ _, by simp⟩
  · simp [Value.cells] at hcs
    obtain ⟨rfl, rfl, rfl⟩ := hcs
    simp only [if_true] at hz
    simp only [Prod.mk.injEq] at hx
    have hw : len ≤ Rows.uptoBulk d := by
      rw [hx.1, Rows.uptoBulk, bulkAll_lits, bulkAll_lits, List.length_take, List.length_drop]
      omega
    refine ⟨zs.take len, sk_of_row (.inr ⟨_, rfl, hl, hm, hz, hcell, hwz⟩) (by omega), ?_⟩
    rw [List.length_take]; omega

theorem texts_open {t q : TypeId} {a : Option Addr} {len cap : Nat} {d : DataW H} {p : List MemPlace} (ht : P.underlying t = some (.slice q)) (hq : P.underlying q = some .string) (cq : P.cellsOf q = 1)
    (h : DataW.Trod enc P W base (fun _ => true) held t (.slice a len cap) d p) (hb : Rows.uptoBulk d ≤ 1048576) : ∃ ts : List ByteArray, Sv W (.slice a len cap) (ts.map Value.string) ∧ ts.length ≤ Rows.uptoBulk d := by
  obtain ⟨fuel, hf⟩ := h
  rcases open_strs ht hq cq hf with ⟨hcs, _⟩ | ⟨x, l, c, m, Sx, hcs, _, hl, hm, hmm, hx, hcell⟩
  · simp [Value.cells] at hcs
    obtain ⟨rfl, rfl, rfl⟩ := hcs
    exact ⟨[], Sv.nil _, by simp⟩
  · simp [Value.cells] at hcs
    obtain ⟨rfl, rfl, rfl⟩ := hcs
    simp only [if_true] at hmm
    subst hmm
    simp only [Prod.mk.injEq] at hx
    have hw : len ≤ Rows.uptoBulk d := by
      have h1 := bulk_slice ((List.range len).map fun i => (.lit (.string (Sx i).data.toList) : DataW H)) ((List.range (m - len)).map fun j => .lit (.string (Sx (len + j)).data.toList))
      rw [← hx.1] at h1
      simpa using h1
    unfold maxLen at hm
    refine ⟨(List.range len).map Sx, ⟨by simp; omega, ?_⟩, by simpa using hw⟩
    rcases Nat.eq_zero_or_pos len with h0 | h0
    · subst h0
      exact .inl ⟨rfl, some x, m, rfl, by omega, fun h => by cases h⟩
    · have hx0 := (hcell 0 (by omega)).1
      have hx1 : x.add 0 = x := by simp [Addr.add]
      rw [hx1] at hx0
      have hp := plain_of_cell hx0
      generalize x.block = b at *
      generalize x.off = o at *
      subst hp
      refine .inr ⟨b, o, m, by simp, by simp; omega, by omega, fun i hi => ?_⟩
      simp only [List.length_map, List.length_range] at hi
      rw [← addr_add, (hcell i (by omega)).1]
      simp [List.getD, hi]
end
end Go.Proofs.YtkdkmnohnhhojaaDoor
