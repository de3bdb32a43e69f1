/- The contract of the statements' helper few. -/
import Derived.Test.YtehdeipeehaejaaRefR4
import Derived.Maps.AppendAt
import Derived.Laws.AppendOwnNone
namespace Go.Proofs.Ytehdeipeehaejaa
open Go.RowKit

theorem own_apart4 {w : World} {B n sz : Nat} {e : TypeId} {v u : Value} {xs : List Value} (h : w.ownsRow B e sz v n xs) (hu : ∀ k, u.ownBlock = some k → k < B) : v.ownBlock = none ∨ v.ownBlock ≠ u.ownBlock := by
  cases h' : v.ownBlock with
  | none => exact .inl rfl
  | some k =>
    refine .inr ?_
    intro e
    have h1 := h.lt k h'
    have h2 := hu k e.symm
    omega

def marks4 : List Tri.Rg := [(-7, 0, 0), (-8, 0, 0)]
theorem marks4_new (w : World) : ∀ (j : Nat) (u : Value), (rcells marks4)[j]? = some u → (w.alloc (.cells #[.int .i64 (-7), .int .i64 0, .int .i64 0, .int .i64 (-8), .int .i64 0, .int .i64 0] 35)).cell? ((⟨w.heap.size, 0, none⟩ : Addr).add j) = some u := by
  intro j u hj
  match j, hj with
  | 0, hj => simp [rcells, rcell, marks4, Tri.lo] at hj; subst hj; simp [Addr.add]
  | 1, hj => simp [rcells, rcell, marks4, Tri.hi] at hj; subst hj; simp [Addr.add]
  | 2, hj => simp [rcells, rcell, marks4, Tri.vl] at hj; subst hj; simp [Addr.add]
  | 3, hj => simp [rcells, rcell, marks4, Tri.lo] at hj; subst hj; simp [Addr.add]
  | 4, hj => simp [rcells, rcell, marks4, Tri.hi] at hj; subst hj; simp [Addr.add]
  | 5, hj => simp [rcells, rcell, marks4, Tri.vl] at hj; subst hj; simp [Addr.add]
  | j + 6, hj => simp [rcells, rcell, marks4] at hj
theorem marks4_fit : FitR marks4 := by
  intro r hr
  simp only [marks4, List.mem_cons, List.mem_nil_iff, or_false] at hr
  rcases hr with rfl | rfl <;> simp [Fi, Tri.lo, Tri.hi, Tri.vl]

/-- few's answer: the first ranges twice, each in memory of its own, two marks behind the first. -/
def FewPost (w : World) (xs : List Tri.Rg) (e : Ending) (w' : World) : Prop :=
  ∃ g cap vb B, e = .returned (.tuple #[.slice (some ⟨g, 0, none⟩) xs.length cap, vb]) ∧ Or4 w' w.heap.size (.slice (some ⟨g, 0, none⟩) (xs.length + 2) cap) (xs ++ marks4) ∧ xs.length + 2 ≤ cap ∧ cap ≤ 9223372036854775807 ∧
    Or4 w' B vb xs ∧ w.heap.size ≤ B ∧ vb.ownBlock ≠ some g ∧ Below w.heap.size w w'

set_option maxHeartbeats 2000000 in
theorem few_any (v : Value) (rs : List Tri.Rg) (w : World) (hv : Sr w v rs) : Calls Try.prog 8 #[v] w (FewPost w (rs.take 200)) := by
  obtain ⟨i0, hi, hz0, hz1, hz2⟩ := info_parts Try.info35
  have hl := hv.len
  have hfit : FitR (rs.take 200) := fun r hr => hv.1 r (List.mem_of_mem_take hr)
  rcases Nat.lt_or_ge 200 rs.length with h200 | h200
  · obtain ⟨ao, cap, rfl, hc1, hc2⟩ := hv.shape
    have h2 := hv.head rfl (show 200 ≤ rs.length by omega)
    have hn : (rs.take 200).length = 200 := by rw [List.length_take]; omega
    have hm1 : ¬ (rs.length : Int) ≤ 200 := by omega
    have hm2 : (200 : Int) ≤ (rs.length : Int) := by omega
    have hm3 : (200 : Int) < (rs.length : Int) := by omega
    have hm4 : min (rs.length : Int) 200 = 200 := by omega
    have hn1 : (200 : Int) ≤ (cap : Int) := by omega
    have s0 := h2.2.src
    rw [hn] at s0
    clear h2 hv
    generalize rs.take 200 = xs at *
    have hcl := rcells_len xs
    rw [hn] at hcl
    rcases s0 with ⟨h1, _⟩ | ⟨ad, cp, h3, hsrc⟩
    · omega
    simp only [Value.slice.injEq, true_and] at h3
    obtain ⟨rfl, rfl⟩ := h3
    go_enter Try.func8, Try.ntmps8
    go_wp2_with (at_builtin; refine wpList_append_own _ rfl (.tmp 10) (.tmp 13) 22 rfl w.heap.size 35 i0 (.agg #[.int .i64 0, .int .i64 0, .int .i64 0]) 3 24 Try.underlying22 hi hz0 hz1 hz2 rfl (by decide) _ _ _ rfl (World.ownsRow_nil _ _ _ _) ad 200 cap (rcells xs) rfl (by rw [hcl]) hsrc (rcells_one xs) (by unfold maxLen; omega) (by omega) (Nat.le_refl _) ?_)
    intro v1 w1 hr1 hg1 _
    have hb1 : Below w.heap.size w w1 := (Below.refl _ _).grown hg1 (Nat.le_refl _) (fun k hk => by simp [Value.ownBlock] at hk)
    have hs1 := hb1.size
    have hsrc1 : ∀ j u, (rcells xs)[j]? = some u → w1.cell? (ad.add j) = some u := fun j u hj => by
      have h0 := hsrc j u hj
      have hp : (ad.add j).block < w.heap.size := World.block_lt_of_cell? w _ h0
      rw [hb1.cell hp]; exact h0
    clear hg1
    go_wp2_with (at_builtin; refine wpList_append_own _ rfl (.tmp 15) (.tmp 18) 22 rfl w1.heap.size 35 i0 (.agg #[.int .i64 0, .int .i64 0, .int .i64 0]) 3 24 Try.underlying22 hi hz0 hz1 hz2 rfl (by decide) _ _ _ rfl (World.ownsRow_nil _ _ _ _) ad 200 cap (rcells xs) rfl (by rw [hcl]) hsrc1 (rcells_one xs) (by unfold maxLen; omega) (by omega) (Nat.le_refl _) ?_)
    intro v2 w2 hr2 hg2 _
    have hb2 : Below w1.heap.size w1 w2 := (Below.refl _ _).grown hg2 (Nat.le_refl _) (fun k hk => by simp [Value.ownBlock] at hk)
    have hs2 := hb2.size
    have hr12 := row_below3 hr1 hb2
    have hblk : ∀ k, v1.ownBlock = some k → k < w1.heap.size := fun k hk => (hr1.lt k hk).2
    have hb02 := hb1.trans (hb2.mono hs1)
    clear hg2 hr1
    go_wp2_with (at_builtin; refine wpList_append_own_at _ rfl (.tmp 20) (.tmp 23) 22 rfl w.heap.size 35 i0 (.agg #[.int .i64 0, .int .i64 0, .int .i64 0]) 3 24 Try.underlying22 hi hz0 hz1 hz2 rfl (by decide) _ _ _ rfl (hr12.alloc _) ⟨w2.heap.size, 0, none⟩ 2 2 (rcells marks4) rfl rfl (marks4_new w2) (rcells_one marks4) (by unfold maxLen; omega) (by omega) (by simp; omega) ?_)
    intro v3 w3 hr3 hg3 _ hat3
    have hb3 : Below w.heap.size w w3 := below_append3 (by omega) hr12 hb02 hg3
    have hr23 := (hr2.alloc _).kept hg3 (own_apart4 hr2 hblk)
    obtain ⟨g, cap3, hv3, hc3, hc4⟩ := own_shape3 hr3 (by omega)
    have hne : v2.ownBlock ≠ some g := by
      intro e
      have h1 := hr2.lt g e
      rw [hv3] at hat3
      rcases hat3 with h | h
      · have := hblk g (by rw [← h]; rfl)
        omega
      · simp only [Value.ownBlock, Option.some.injEq] at h
        omega
    subst hv3
    obtain ⟨aob, capb, hvb, _, _⟩ := (Or4.of (rs := xs) hfit (by omega) hr2 (by omega) rfl).sr.shape
    have HF : FewPost w xs (.returned (.tuple #[.slice (some ⟨g, 0, none⟩) 200 cap3, v2])) w3 := by
      refine ⟨g, cap3, v2, w1.heap.size, by first | rfl | (rw [hn]), ?_, by omega, hc4, Or4.of hfit (by omega) hr23 (by omega) rfl, hs1, hne, hb3⟩
      refine Or4.of ?_ (by simp [marks4] <;> omega) (by first | exact hr3 | (rw [hn]; exact hr3)) (by simp [marks4] <;> omega) (by rw [rcells_app])
      intro r hr
      rcases List.mem_append.1 hr with hr | hr
      · exact hfit r hr
      · exact marks4_fit r hr
    clear hr3 hg3 hb3 hr23 hr2 hr12 hat3 hne hblk hb02 hb2 hb1 hsrc hsrc1
    go_wp2
    go_ret2
    exact HF
  · have e2 : rs.take 200 = rs := List.take_of_length_le h200
    rw [e2] at hfit ⊢
    obtain ⟨ao, cap, rfl, hc1, hc2⟩ := hv.shape
    have hm2 : (rs.length : Int) ≤ 200 := by omega
    have hm4 : min (rs.length : Int) 200 = (rs.length : Int) := by omega
    have hn0 : (0 : Int) ≤ (rs.length : Int) := by omega
    have hn1 : (rs.length : Int) ≤ (cap : Int) := by omega
    have s0 := hv.2.src
    clear hv e2
    generalize rs = xs at *
    have hcl := rcells_len xs
    rcases s0 with ⟨h1, h2, h3⟩ | ⟨ad, cp, h3, hsrc⟩
    · have hxs : xs = [] := List.eq_nil_of_length_eq_zero h1
      subst hxs
      simp only [Value.slice.injEq] at h3
      obtain ⟨rfl, _, rfl⟩ := h3
      have hr0 : w.ownsRow w.heap.size 35 3 (.slice none 0 0) 0 [] := World.ownsRow_nil _ _ _ _
      go_enter Try.func8, Try.ntmps8
      go_wp2_with (first
        | (at_builtin; refine wpList_append_own_none rfl (.tmp 10) (.tmp 13) 22 rfl w.heap.size 35 i0 3 Try.underlying22 hi _ _ _ rfl hr0 rfl ?_)
        | (at_builtin; refine wpList_append_own_none rfl (.tmp 15) (.tmp 18) 22 rfl w.heap.size 35 i0 3 Try.underlying22 hi _ _ _ rfl hr0 rfl ?_)
        | (at_builtin; refine wpList_append_own _ rfl (.tmp 20) (.tmp 23) 22 rfl w.heap.size 35 i0 (.agg #[.int .i64 0, .int .i64 0, .int .i64 0]) 3 24 Try.underlying22 hi hz0 hz1 hz2 rfl (by decide) _ _ _ rfl (hr0.alloc _) ⟨w.heap.size, 0, none⟩ 2 2 (rcells marks4) rfl rfl (marks4_new w) (rcells_one marks4) (by unfold maxLen; omega) (by omega) (by simp) ?_))
      intro v3 w3 hr3 hg3 _
      have hb3 : Below w.heap.size w w3 := below_append3 (Nat.le_refl _) hr0 (Below.refl _ _) hg3
      obtain ⟨g, cap3, hv3, hc3, hc4⟩ := own_shape3 hr3 (by omega)
      subst hv3
      have HF : FewPost w [] (.returned (.tuple #[.slice (some ⟨g, 0, none⟩) 0 cap3, .slice none 0 0])) w3 :=
        ⟨g, cap3, _, w.heap.size, rfl, Or4.of marks4_fit (by simp [marks4]) hr3 rfl rfl, by simpa using hc3, hc4, Or4.nil _ _, Nat.le_refl _, by simp [Value.ownBlock], hb3⟩
      clear hr3 hg3 hb3 hr0
      go_wp2
      go_ret2
      exact HF
    simp only [Value.slice.injEq, true_and] at h3
    obtain ⟨rfl, rfl⟩ := h3
    go_enter Try.func8, Try.ntmps8
    go_wp2_with (at_builtin; refine wpList_append_own _ rfl (.tmp 10) (.tmp 13) 22 rfl w.heap.size 35 i0 (.agg #[.int .i64 0, .int .i64 0, .int .i64 0]) 3 24 Try.underlying22 hi hz0 hz1 hz2 rfl (by decide) _ _ _ rfl (World.ownsRow_nil _ _ _ _) ad xs.length cap (rcells xs) rfl (by rw [hcl]) hsrc (rcells_one xs) (by unfold maxLen; omega) (by omega) (Nat.le_refl _) ?_)
    intro v1 w1 hr1 hg1 _
    have hb1 : Below w.heap.size w w1 := (Below.refl _ _).grown hg1 (Nat.le_refl _) (fun k hk => by simp [Value.ownBlock] at hk)
    have hs1 := hb1.size
    have hsrc1 : ∀ j u, (rcells xs)[j]? = some u → w1.cell? (ad.add j) = some u := fun j u hj => by
      have h0 := hsrc j u hj
      have hp : (ad.add j).block < w.heap.size := World.block_lt_of_cell? w _ h0
      rw [hb1.cell hp]; exact h0
    clear hg1
    go_wp2_with (at_builtin; refine wpList_append_own _ rfl (.tmp 15) (.tmp 18) 22 rfl w1.heap.size 35 i0 (.agg #[.int .i64 0, .int .i64 0, .int .i64 0]) 3 24 Try.underlying22 hi hz0 hz1 hz2 rfl (by decide) _ _ _ rfl (World.ownsRow_nil _ _ _ _) ad xs.length cap (rcells xs) rfl (by rw [hcl]) hsrc1 (rcells_one xs) (by unfold maxLen; omega) (by omega) (Nat.le_refl _) ?_)
    intro v2 w2 hr2 hg2 _
    have hb2 : Below w1.heap.size w1 w2 := (Below.refl _ _).grown hg2 (Nat.le_refl _) (fun k hk => by simp [Value.ownBlock] at hk)
    have hs2 := hb2.size
    have hr12 := row_below3 hr1 hb2
    have hblk : ∀ k, v1.ownBlock = some k → k < w1.heap.size := fun k hk => (hr1.lt k hk).2
    have hb02 := hb1.trans (hb2.mono hs1)
    clear hg2 hr1
    go_wp2_with (at_builtin; refine wpList_append_own_at _ rfl (.tmp 20) (.tmp 23) 22 rfl w.heap.size 35 i0 (.agg #[.int .i64 0, .int .i64 0, .int .i64 0]) 3 24 Try.underlying22 hi hz0 hz1 hz2 rfl (by decide) _ _ _ rfl (hr12.alloc _) ⟨w2.heap.size, 0, none⟩ 2 2 (rcells marks4) rfl rfl (marks4_new w2) (rcells_one marks4) (by unfold maxLen; omega) (by omega) (by simp; omega) ?_)
    intro v3 w3 hr3 hg3 _ hat3
    have hb3 : Below w.heap.size w w3 := below_append3 (by omega) hr12 hb02 hg3
    have hr23 := (hr2.alloc _).kept hg3 (own_apart4 hr2 hblk)
    obtain ⟨g, cap3, hv3, hc3, hc4⟩ := own_shape3 hr3 (by omega)
    have hne : v2.ownBlock ≠ some g := by
      intro e
      have h1 := hr2.lt g e
      rw [hv3] at hat3
      rcases hat3 with h | h
      · have := hblk g (by rw [← h]; rfl)
        omega
      · simp only [Value.ownBlock, Option.some.injEq] at h
        omega
    subst hv3
    obtain ⟨aob, capb, hvb, _, _⟩ := (Or4.of (rs := xs) hfit (by omega) hr2 (by omega) rfl).sr.shape
    have HF : FewPost w xs (.returned (.tuple #[.slice (some ⟨g, 0, none⟩) xs.length cap3, v2])) w3 := by
      refine ⟨g, cap3, v2, w1.heap.size, by first | rfl | (rw [hn]), ?_, by omega, hc4, Or4.of hfit (by omega) hr23 (by omega) rfl, hs1, hne, hb3⟩
      refine Or4.of ?_ (by simp [marks4] <;> omega) (by first | exact hr3 | (rw [hn]; exact hr3)) (by simp [marks4] <;> omega) (by rw [rcells_app])
      intro r hr
      rcases List.mem_append.1 hr with hr | hr
      · exact hfit r hr
      · exact marks4_fit r hr
    clear hr3 hg3 hb3 hr23 hr2 hr12 hat3 hne hblk hb02 hb2 hb1 hsrc hsrc1
    go_wp2
    go_ret2
    exact HF
end Go.Proofs.Ytehdeipeehaejaa
