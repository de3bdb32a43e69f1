/- From an argument that is a slice of ranges, or of whole numbers, to what it holds. -/
import Derived.Test.YtehdeipeehaejaaSz
import Derived.Deep.Slices
import Derived.OpenShut
namespace Go.Proofs.Ytehdeipeehaejaa
open Go.RowKit Go.ChangeShapes Go.WideShapes Go.Deep

theorem wf_fi {n : Int} (h : (Lit.int .i64 n).wf = true) : Fi n := by
  have : IntKind.i64.min ≤ n ∧ n ≤ IntKind.i64.max := by simpa [Lit.wf] using h
  simpa [Fi, IntKind.min, IntKind.max, IntKind.signed, IntKind.bits] using this

theorem rcells_get (rs : List Tri.Rg) (i : Nat) (hi : i < rs.length * 3) : (rcells rs).getD i undef = if i % 3 = 0 then .int .i64 (Tri.lo (rs.getD (i / 3) (0, 0, 0))) else if i % 3 = 1 then .int .i64 (Tri.hi (rs.getD (i / 3) (0, 0, 0))) else .int .i64 (Tri.vl (rs.getD (i / 3) (0, 0, 0))) := by
  obtain ⟨h0, h1, h2⟩ := rcells_at rs (i / 3) (by omega)
  by_cases a0 : i % 3 = 0
  · rw [if_pos a0, ← h0]; congr 1; omega
  · by_cases a1 : i % 3 = 1
    · rw [if_neg a0, if_pos a1, ← h1]; congr 1; omega
    · rw [if_neg a0, if_neg a1, ← h2]; congr 1; omega

section
variable {H : Type} {enc : TypeId × Value → H} {W : World} {base : Nat} {held : Bool}

theorem range_of {n : Nat} {cs : List Value} {x : DataW H × List MemPlace} (h : DataW.trod enc Try.prog W base (fun _ => true) held n 35 cs = some x) : ∃ r : Tri.Rg, cs = rcell r ∧ Fi (Tri.lo r) ∧ Fi (Tri.hi r) ∧ Fi (Tri.vl r) := by
  obtain ⟨xs, k, hk, hxy, hcl, hxl, hf⟩ := DataW.trod_struct Try.underlying35 h
  have c3 : Try.prog.cellsOf 35 = 3 := by kernel_rfl
  have c1 : Try.prog.cellsOf 3 = 1 := by kernel_rfl
  rw [c3] at hcl
  match xs, hxl, cs, hcl with
  | [y0, y1, y2], _, [v0, v1, v2], _ =>
    have g0 := hf 0 _ rfl
    have g1 := hf 1 _ rfl
    have g2 := hf 2 _ rfl
    simp [c1] at g0 g1 g2
    obtain ⟨n0, e0, _, w0⟩ := DataW.trod_int Try.underlying3 g0
    obtain ⟨n1, e1, _, w1⟩ := DataW.trod_int Try.underlying3 g1
    obtain ⟨n2, e2, _, w2⟩ := DataW.trod_int Try.underlying3 g2
    simp only [List.cons.injEq, and_true] at e0 e1 e2
    exact ⟨(n0, n1, n2), by rw [e0, e1, e2]; rfl, wf_fi w0, wf_fi w1, wf_fi w2⟩

theorem ranges_open {a : Option Addr} {len cap : Nat} {d : DataW H} {p : List MemPlace} (h : DataW.Trod enc Try.prog W base (fun _ => true) held 22 (.slice a len cap) d p)
    (hb : ∀ elems spare, d = .slice elems spare → (elems.length + spare.length) * 24 ≤ 140737488351232) : ∃ rs, Sr W (.slice a len cap) rs := by
  obtain ⟨fuel, hf⟩ := h
  have c3 : Try.prog.cellsOf 35 = 3 := by kernel_rfl
  rcases open_slice Try.underlying22 hf with ⟨hcs, _⟩ | ⟨x, l, c, m, n, D, Pl, hcs, _, hl, hm, hmm, hx, hel⟩
  · simp [Value.cells] at hcs
    obtain ⟨rfl, rfl, rfl⟩ := hcs
    exact ⟨[], Sr.nil W⟩
  · simp [Value.cells] at hcs
    obtain ⟨rfl, rfl, rfl⟩ := hcs
    simp only [if_true] at hmm
    subst hmm
    simp only [Prod.mk.injEq] at hx
    have hlen := hb _ _ hx.1
    simp only [List.length_map, List.length_range] at hlen
    rw [c3] at hel
    obtain ⟨R, hR⟩ := choose_lt (α := Tri.Rg) (p := fun i r => W.cells? base (x.add (i * 3)) 3 = some (rcell r) ∧ Fi (Tri.lo r) ∧ Fi (Tri.hi r) ∧ Fi (Tri.vl r)) (n := m) (fun i hi => by
      obtain ⟨cs', h1, h2⟩ := hel i hi
      obtain ⟨r, rfl, f⟩ := range_of h2
      exact ⟨r, h1, f⟩)
    refine ⟨(List.range len).map R, ?_, ?_⟩
    · intro r hr
      obtain ⟨i, hi, rfl⟩ := List.mem_map.1 hr
      exact (hR i (by have := List.mem_range.1 hi; omega)).2
    · have hrl : ((List.range len).map R).length = len := by simp
      rw [hrl]
      refine ⟨by rw [rcells_len, hrl], by omega, ?_⟩
      unfold maxLen at hm
      rcases Nat.eq_zero_or_pos len with h0 | h0
      · subst h0
        exact .inl ⟨rfl, some x, m, rfl, by omega, fun h => by cases h⟩
      · have hcell : ∀ i, i < len → ∀ j, j < 3 → W.cell? (x.add (i * 3 + j)) = (rcell (R i))[j]? := by
          intro i hi j hj
          obtain ⟨_, hln, hcc⟩ := World.cells?_some (hR i (by omega)).1
          have := hcc j (by omega)
          rw [add_add] at this
          exact this
        have hx0 := hcell 0 h0 0 (by omega)
        have hx1 : x.add (0 * 3 + 0) = x := by simp [Addr.add]
        rw [hx1] at hx0
        have hp := plain_of_cell (v := .int .i64 (Tri.lo (R 0))) hx0
        generalize x.block = b at *
        generalize x.off = o at *
        subst hp
        refine .inr ⟨b, o, m, rfl, hl, by omega, fun i hi => ?_⟩
        have hg : ((List.range len).map R).getD (i / 3) (0, 0, 0) = R (i / 3) := by simp [List.getD, show i / 3 < len by omega]
        rw [rcells_get _ i (by rw [hrl]; exact hi), hg]
        have hq := hcell (i / 3) (by omega) (i % 3) (by omega)
        rw [addr_add, show o + (i / 3 * 3 + i % 3) = o + i by omega] at hq
        rw [hq]
        by_cases a0 : i % 3 = 0
        · rw [if_pos a0, a0]; rfl
        · by_cases a1 : i % 3 = 1
          · rw [if_neg a0, if_pos a1, a1]; rfl
          · rw [if_neg a0, if_neg a1, show i % 3 = 2 by omega]; rfl

theorem ints_open4 {a : Option Addr} {len cap : Nat} {d : DataW H} {p : List MemPlace} (h : DataW.Trod enc Try.prog W base (fun _ => true) held 23 (.slice a len cap) d p)
    (hb : ∀ elems spare, d = .slice elems spare → (elems.length + spare.length) * 8 ≤ 140737488351232) : ∃ zs, Sk .i64 W (.slice a len cap) zs := by
  obtain ⟨fuel, hf⟩ := h
  rcases open_ints Try.underlying23 Try.underlying3 (by kernel_rfl) hf with ⟨hcs, _⟩ | ⟨x, l, c, zs, hcs, _, hl, hm, hz, hx, hcell, hwz⟩
  · simp [Value.cells] at hcs
    obtain ⟨rfl, rfl, rfl⟩ := hcs
    exact ⟨[], Sk.nil _ _⟩
  · simp [Value.cells] at hcs
    obtain ⟨rfl, rfl, rfl⟩ := hcs
    simp only [if_true] at hz
    simp only [Prod.mk.injEq] at hx
    have hw := hb _ _ hx.1
    simp only [lits, List.length_map, List.length_take, List.length_drop] at hw
    exact ⟨zs.take len, sk_of_row (.inr ⟨_, rfl, hl, hm, hz, hcell, hwz⟩) (by omega)⟩
end
end Go.Proofs.Ytehdeipeehaejaa
