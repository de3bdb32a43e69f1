/- From an argument that is a slice of strings, or of ints, to what it holds; with the second form's bound. -/
import Derived.Test.YtcnmmghkjblemaaDoorSeq
import Derived.Test.YtcnmmghkjblemaaDoorBulk
import Derived.OpenShut
import Derived.Deep.Strs
import Derived.Deep.Matrix
namespace Go.Proofs.YtcnmmghkjblemaaDoor
open Go.RowKit Go.ChangeShapes Go.WideShapes Go.Deep

theorem bulkAll_lits {H : Type} (k : IntKind) (zs : List Int) : Rows.uptoBulkAll (lits (H := H) k zs) = zs.length := by
  induction zs with
  | nil => rfl
  | cons z zs ih =>
    have e : lits (H := H) k (z :: zs) = .lit (.int k z) :: lits k zs := rfl
    rw [e, Rows.uptoBulkAll, ih]
    simp [Rows.uptoBulk]; omega

section
variable {H : Type} {enc : TypeId × Value → H} {P : Program} {W : World} {base : Nat} {held : Bool}

theorem ints_open {t q : TypeId} {k : IntKind} {a : Option Addr} {len cap : Nat} {d : DataW H} {p : List MemPlace} (ht : P.underlying t = some (.slice q)) (hq : P.underlying q = some (.int k)) (cq : P.cellsOf q = 1)
    (h : DataW.Trod enc P W base (fun _ => true) held t (.slice a len cap) d p) (hb : Rows.uptoBulk d ≤ 1048576) : ∃ zs, Sk k W (.slice a len cap) zs ∧ zs.length ≤ Rows.uptoBulk d := by
  obtain ⟨fuel, hf⟩ := h
  rcases open_ints ht hq cq hf with ⟨hcs, _⟩ | ⟨x, l, c, zs, hcs, _, hl, hm, hz, hx, hcell, hwz⟩
  · simp [Value.cells] at hcs
    obtain ⟨rfl, rfl, rfl⟩ := hcs
    exact ⟨[], Sk.nil _ _, by simp⟩
  · simp [Value.cells] at hcs
    obtain ⟨rfl, rfl, rfl⟩ := hcs
    simp only [if_true] at hz
    simp only [Prod.mk.injEq] at hx
    have hw : len ≤ Rows.uptoBulk d := by
      rw [hx.1, Rows.uptoBulk, bulkAll_lits, bulkAll_lits, List.length_take, List.length_drop]
      omega
    refine ⟨zs.take len, sk_of_row (.inr ⟨_, rfl, hl, hm, hz, hcell, hwz⟩) (by omega), ?_⟩
    rw [List.length_take]; omega

theorem bulk_mem20 {H : Type} {l : List (DataW H)} {x : DataW H} (h : x ∈ l) : Rows.uptoBulk x ≤ Rows.uptoBulkAll l := by
  induction l with
  | nil => cases h
  | cons y l ih =>
    rw [Rows.uptoBulkAll]
    rcases List.mem_cons.1 h with rfl | h
    · omega
    · have := ih h; omega
theorem bulk_slice20 {H : Type} (a b : List (DataW H)) : Rows.uptoBulkAll a ≤ Rows.uptoBulk (.slice a b) := by
  simp only [Rows.uptoBulk]
  omega
theorem texts_open20 {t q : TypeId} {a : Option Addr} {len cap : Nat} {d : DataW H} {p : List MemPlace} (ht : P.underlying t = some (.slice q)) (hq : P.underlying q = some .string) (cq : P.cellsOf q = 1)
    (h : DataW.Trod enc P W base (fun _ => true) held t (.slice a len cap) d p) (hb : Rows.uptoBulk d ≤ 1048576) : ∃ ts : List ByteArray, Sv W (.slice a len cap) (ts.map Value.string) ∧ ts.length ≤ Rows.uptoBulk d ∧ ∀ x ∈ ts, x.size ≤ Rows.uptoBulk d := by
  obtain ⟨fuel, hf⟩ := h
  rcases open_strs ht hq cq hf with ⟨hcs, _⟩ | ⟨x, l, c, m, Sx, hcs, _, hl, hm, hmm, hx, hcell⟩
  · simp [Value.cells] at hcs
    obtain ⟨rfl, rfl, rfl⟩ := hcs
    exact ⟨[], Sv.nil _, by simp, fun x hx => by cases hx⟩
  · simp [Value.cells] at hcs
    obtain ⟨rfl, rfl, rfl⟩ := hcs
    simp only [if_true] at hmm
    subst hmm
    simp only [Prod.mk.injEq] at hx
    have hw : len ≤ Rows.uptoBulk d := by
      have h1 := bulk_slice ((List.range len).map fun i => (.lit (.string (Sx i).data.toList) : DataW H)) ((List.range (m - len)).map fun j => .lit (.string (Sx (len + j)).data.toList))
      rw [← hx.1] at h1
      simpa using h1
    have hz : ∀ i, i < len → (Sx i).size ≤ Rows.uptoBulk d := fun i hi => by
      have h2 := bulk_mem20 (H := H) (l := (List.range len).map fun i => .lit (.string (Sx i).data.toList)) (x := .lit (.string (Sx i).data.toList)) (List.mem_map.2 ⟨i, List.mem_range.2 hi, rfl⟩)
      have h3 := bulk_string (H := H) (Sx i).data.toList
      have h4 := bulk_slice20 ((List.range len).map fun i => (.lit (.string (Sx i).data.toList) : DataW H)) ((List.range (m - len)).map fun j => .lit (.string (Sx (len + j)).data.toList))
      rw [← hx.1] at h4
      have h5 : (Sx i).data.toList.length = (Sx i).size := Array.length_toList
      omega
    unfold maxLen at hm
    refine ⟨(List.range len).map Sx, ⟨by simp; omega, ?_⟩, by simpa using hw, fun x hx => by
      obtain ⟨i, hi, rfl⟩ := List.mem_map.1 hx
      exact hz i (List.mem_range.1 hi)⟩
    rcases Nat.eq_zero_or_pos len with h0 | h0
    · subst h0
      exact .inl ⟨rfl, some x, m, rfl, by omega, fun h => by cases h⟩
    · have hx0 := (hcell 0 (by omega)).1
      have hx1 : x.add 0 = x := by simp [Addr.add]
      rw [hx1] at hx0
      have hp := plain_of_cell hx0
      generalize x.block = b at *
      generalize x.off = o at *
      subst hp
      refine .inr ⟨b, o, m, by simp, by simp; omega, by omega, fun i hi => ?_⟩
      simp only [List.length_map, List.length_range] at hi
      rw [← addr_add, (hcell i (by omega)).1]
      simp [List.getD, hi]
theorem bounds20 {n : Int} (h : (Lit.int .i64 n).wf = true) : -9223372036854775808 ≤ n ∧ n ≤ 9223372036854775807 := by
  simp [Lit.wf, IntKind.min, IntKind.max, IntKind.signed, IntKind.bits] at h
  omega
end
end Go.Proofs.YtcnmmghkjblemaaDoor
