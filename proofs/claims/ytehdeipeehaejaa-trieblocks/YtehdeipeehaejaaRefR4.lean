/- Ranges in memory of the call's own; the contracts of the document's own Same and few. -/
import Derived.Test.YtehdeipeehaejaaRefC4
namespace Go.Proofs.Ytehdeipeehaejaa
open Go.RowKit

theorem Try.info35 : (Try.prog.info? 35).map (fun i => (i.zero, i.size, i.bytes)) = some (some (.agg #[.int .i64 0, .int .i64 0, .int .i64 0]), 3, 24) := by kernel_rfl

/-- Ranges in memory of the call's own. -/
def Or4 (w : World) (B : Nat) (v : Value) (rs : List Tri.Rg) : Prop := FitR rs ∧ rs.length ≤ 5864062014805 ∧ w.ownsRow B 35 3 v rs.length (rcells rs)

theorem Or4.sr {w : World} {B : Nat} {v : Value} {rs : List Tri.Rg} (h : Or4 w B v rs) : Sr w v rs := by
  obtain ⟨h1, h2, h3⟩ := h
  have h3' := h3
  obtain ⟨_, hcase⟩ := h3
  refine ⟨h1, rcells_len rs, h2, ?_⟩
  rcases hcase with ⟨rfl, h0⟩ | ⟨g, cap, cur, hv, hg, hh, hn, hcap, hsz, htake⟩
  · exact .inl ⟨h0, none, 0, rfl, by omega, fun _ => rfl⟩
  · refine .inr ⟨g, 0, cap, hv, hn, by unfold maxLen at hcap; omega, fun i hi => ?_⟩
    have hl := rcells_len rs
    have := h3'.cells (g := g) (by rw [hv]; rfl) i ((rcells rs).getD i undef) (by simp [List.getD, show i < (rcells rs).length by omega])
    rw [addr_add] at this
    exact this
theorem Or4.nil (w : World) (B : Nat) : Or4 w B (.slice none 0 0) [] := ⟨fun r hr => by simp at hr, by simp, World.ownsRow_nil _ _ _ _⟩
theorem row_below3 {w w' : World} {B sz : Nat} {e : TypeId} {v : Value} {n : Nat} {xs : List Value} (h : w.ownsRow B e sz v n xs) (hb : Below w.heap.size w w') : w'.ownsRow B e sz v n xs := by
  refine h.kept (row := none) ⟨hb.os, hb.tape, hb.output, hb.size, fun k hk _ => hb.block k hk⟩ ?_
  cases h' : v.ownBlock with
  | none => exact .inl rfl
  | some k => exact .inr (by simp)
theorem Or4.below {w w' : World} {B : Nat} {v : Value} {rs : List Tri.Rg} (h : Or4 w B v rs) (hb : Below w.heap.size w w') : Or4 w' B v rs := ⟨h.1, h.2.1, row_below3 h.2.2 hb⟩
theorem Or4.of {w : World} {B n : Nat} {v : Value} {rs : List Tri.Rg} {us : List Value} (hf : FitR rs) (hl : rs.length ≤ 5864062014805) (h : w.ownsRow B 35 3 v n us) (hn : n = rs.length) (hu : us = rcells rs) : Or4 w B v rs := by
  subst hu; subst hn; exact ⟨hf, hl, h⟩
theorem rcells_one (rs : List Tri.Rg) : ∀ u ∈ rcells rs, u.oneCell' = true := by
  induction rs with
  | nil => intro u hu; simp [rcells] at hu
  | cons r rs ih =>
    intro u hu
    simp only [rcells, rcell, List.mem_append, List.mem_cons, List.mem_nil_iff, or_false] at hu
    rcases hu with (rfl | rfl | rfl) | hu
    · rfl
    · rfl
    · rfl
    · exact ih u hu
theorem below_append3 {e : TypeId} {sz : Nat} {w wr w1 : World} {v : Value} {us : List Value} {n : Nat} {o : Obj} {B : Nat} (hB : B ≤ wr.heap.size) (hown : wr.ownsRow B e sz v n us)
    (hbel : Below B w wr) (hg : (wr.alloc o).grownBy w1 v.ownBlock) : Below B w w1 :=
  (hbel.alloc hB o).grown hg (by simp; omega) (fun k hk => (hown.lt k hk).1)
theorem below_append30 {e : TypeId} {sz : Nat} {w wr w1 : World} {v : Value} {us : List Value} {n : Nat} {B : Nat} (hB : B ≤ wr.heap.size) (hown : wr.ownsRow B e sz v n us)
    (hbel : Below B w wr) (hg : wr.grownBy w1 v.ownBlock) : Below B w w1 :=
  hbel.grown hg hB (fun k hk => (hown.lt k hk).1)
theorem own_shape3 {e : TypeId} {sz : Nat} {w : World} {B n : Nat} {v : Value} {us : List Value} (h : w.ownsRow B e sz v n us) (hn : 0 < n) : ∃ g cap, v = .slice (some ⟨g, 0, none⟩) n cap ∧ n ≤ cap ∧ cap ≤ 9223372036854775807 := by
  rcases h.2 with ⟨_, h0⟩ | ⟨g, cap, cur, hv, hg, hh, hn', hcap, hsz, htake⟩
  · omega
  · exact ⟨g, cap, hv, hn', by unfold maxLen at hcap; omega⟩

def Tells4 (w : World) (b : Bool) (e : Ending) (w' : World) : Prop := e = .returned (.bool b) ∧ Below w.heap.size w w'
theorem Tells4.mk' {w w' : World} {b c : Bool} (h : b = c) (hb : Below w.heap.size w w') : Tells4 w c (.returned (.bool b)) w' := by subst h; exact ⟨rfl, hb⟩

theorem takeR_next {xs ys : List Tri.Rg} {k : Nat} (h : xs.take k = ys.take k) (hx : k < xs.length) (hy : k < ys.length) (he : xs.getD k (0, 0, 0) = ys.getD k (0, 0, 0)) : xs.take (k + 1) = ys.take (k + 1) := by
  rw [List.take_add_one, List.take_add_one, h]
  simp only [List.getD, List.getElem?_eq_getElem hx, List.getElem?_eq_getElem hy, Option.getD_some] at he
  rw [List.getElem?_eq_getElem hx, List.getElem?_eq_getElem hy, he]
theorem rg_ext {a b : Tri.Rg} (h1 : Tri.lo a = Tri.lo b) (h2 : Tri.hi a = Tri.hi b) (h3 : Tri.vl a = Tri.vl b) : a = b := by
  obtain ⟨a1, a2, a3⟩ := a
  obtain ⟨b1, b2, b3⟩ := b
  simp only [Tri.lo, Tri.hi, Tri.vl] at h1 h2 h3
  rw [h1, h2, h3]

set_option maxHeartbeats 1000000 in
theorem refSameR_any (v u : Value) (xs ys : List Tri.Rg) (w : World) (hv : Sr w v xs) (hu : Sr w u ys) :
    Calls Try.prog 12 #[v, u] w (Tells4 w (decide (xs = ys))) := by
  have hlx := hv.len
  have hly := hu.len
  by_cases hn : xs.length = ys.length
  · rcases Nat.eq_zero_or_pos xs.length with h0 | h0
    · have HF : ∀ w', Below w.heap.size w w' → Tells4 w (decide (xs = ys)) (.returned (.bool true)) w' := fun w' hb => Tells4.mk' (by
        have h1 := List.eq_nil_of_length_eq_zero h0
        have h2 := List.eq_nil_of_length_eq_zero (hn ▸ h0)
        simp [h1, h2]) hb
      obtain ⟨ao, cap, rfl, _, _⟩ := hv.shape
      obtain ⟨ao', cap', rfl, _, _⟩ := hu.shape
      rw [← hn, h0]
      clear hv hu
      generalize decide (xs = ys) = b at *
      go_enter Try.func12, Try.ntmps12
      go_wp2
      refine wp_loop_rounds 1 ?_
      rw [rounds_succ]
      go_wp2
      go_ret
      exact HF _ (Below.refl _ _)
    · have HE : ∀ w', Below w.heap.size w w' → xs.take xs.length = ys.take xs.length → Tells4 w (decide (xs = ys)) (.returned (.bool true)) w' := fun w' hb ht => Tells4.mk' (by
        rw [List.take_length, hn, List.take_length] at ht
        simp [ht]) hb
      have HN : ∀ w' k, Below w.heap.size w w' → ¬ xs.getD k (0, 0, 0) = ys.getD k (0, 0, 0) → Tells4 w (decide (xs = ys)) (.returned (.bool false)) w' := fun w' k hb ht => Tells4.mk' (by
        symm; rw [decide_eq_false_iff_not]; intro h; subst h; exact ht rfl) hb
      have hfx := hv.1
      have hfy := hu.1
      have hvb := fun wr (hb : Below w.heap.size w wr) => And.intro (hv.below hb) (hu.below hb)
      obtain ⟨b, off, cap, rfl, hc1, hc2, hc⟩ := hv.place h0
      obtain ⟨b', off', cap', rfl, hc1', hc2', hc'⟩ := hu.place (by omega)
      have HC : Hid (∀ wr, Below w.heap.size w wr → ∀ i, i < xs.length → (wr.cell? ⟨b, off + i * 3, none⟩ = some (.int .i64 (Tri.lo (xs.getD i (0, 0, 0)))) ∧ wr.cell? ⟨b, off + i * 3 + 1, none⟩ = some (.int .i64 (Tri.hi (xs.getD i (0, 0, 0)))) ∧ wr.cell? ⟨b, off + i * 3 + 2, none⟩ = some (.int .i64 (Tri.vl (xs.getD i (0, 0, 0))))) ∧
          wr.cell? ⟨b', off' + i * 3, none⟩ = some (.int .i64 (Tri.lo (ys.getD i (0, 0, 0)))) ∧ wr.cell? ⟨b', off' + i * 3 + 1, none⟩ = some (.int .i64 (Tri.hi (ys.getD i (0, 0, 0)))) ∧ wr.cell? ⟨b', off' + i * 3 + 2, none⟩ = some (.int .i64 (Tri.vl (ys.getD i (0, 0, 0))))) := by
        intro wr hb i hi
        obtain ⟨a0, a1, a2⟩ := hc i hi
        obtain ⟨d0, d1, d2⟩ := hc' i (by omega)
        exact ⟨⟨by rw [hb.cell (lt_of_cell? a0)]; exact a0, by rw [hb.cell (lt_of_cell? a1)]; exact a1, by rw [hb.cell (lt_of_cell? a2)]; exact a2⟩, by rw [hb.cell (lt_of_cell? d0)]; exact d0, by rw [hb.cell (lt_of_cell? d1)]; exact d1, by rw [hb.cell (lt_of_cell? d2)]; exact d2⟩
      rw [← hn] at hc1' ⊢
      have hln := hide hn
      clear hv hu hc hc' hn hvb hfx hfy
      generalize decide (xs = ys) = bb at *
      go_enter Try.func12, Try.ntmps12
      go_wp2
      go_loopw [5] (fun i wr => ∃ k : Nat, i = .int .i64 k ∧ k ≤ xs.length ∧ xs.take k = ys.take k ∧ Below w.heap.size w wr) (fun i _ => xs.length - (intOf i).toNat)
      case atStart => exact ⟨0, rfl, by omega, by simp, Below.refl _ _⟩
      case round =>
        obtain ⟨k, rfl, hk, htk, hbel⟩ := hrel
        by_cases hlt : k < xs.length
        · obtain ⟨⟨a0, a1, a2⟩, d0, d1, d2⟩ := (unhide HC) _ hbel k hlt
          have HT := hide htk
          have hext := @rg_ext (xs.getD k (0, 0, 0)) (ys.getD k (0, 0, 0))
          have hnext := fun he => takeR_next htk hlt (by have := unhide hln; omega) he
          have hnot := fun w' hb he => HN w' k hb he
          clear htk HN HC
          generalize xs.getD k (0, 0, 0) = p at *
          generalize ys.getD k (0, 0, 0) = q at *
          by_cases b0 : Tri.lo p = Tri.lo q
          · by_cases b1 : Tri.hi p = Tri.hi q
            · by_cases b2 : Tri.vl p = Tri.vl q
              · have HT2 := hide (hnext (hext b0 b1 b2))
                rw [b0] at a0; rw [b1] at a1; rw [b2] at a2
                clear hext hnext hnot HT HE b0 b1 b2
                generalize Tri.lo q = q0 at *
                generalize Tri.hi q = q1 at *
                generalize Tri.vl q = q2 at *
                go_wp2
                go_quiet (fail)
                go_wp2
                go_roundw
                case rel => exact ⟨k + 1, by go_num, by omega, unhide HT2, below_drewN hbel nq⟩
                case measure => simp [intOf]; omega
              · have HR := fun w' hb => hnot w' hb (fun e => b2 (by rw [e]))
                have b2' : (Tri.vl p == Tri.vl q) = false := beq_eq_false_iff_ne.2 b2
                clear hext hnext hnot HT HE b0 b1 b2
                generalize Tri.vl q = q2 at *
                generalize Tri.vl p = p2 at *
                generalize Tri.lo q = q0 at *
                generalize Tri.hi q = q1 at *
                generalize Tri.lo p = p0 at *
                generalize Tri.hi p = p1 at *
                go_wp2
                go_quiet (fail)
                go_wp2
                all_goals
                  go_ret
                  exact HR _ (below_drewN hbel nq)
            · have HR := fun w' hb => hnot w' hb (fun e => b1 (by rw [e]))
              have b1' : (Tri.hi p == Tri.hi q) = false := beq_eq_false_iff_ne.2 b1
              clear hext hnext hnot HT HE b0 b1
              generalize Tri.vl q = q2 at *
              generalize Tri.vl p = p2 at *
              generalize Tri.lo q = q0 at *
              generalize Tri.hi q = q1 at *
              generalize Tri.lo p = p0 at *
              generalize Tri.hi p = p1 at *
              go_wp2
              go_quiet (fail)
              go_wp2
              all_goals
                go_ret
                exact HR _ (below_drewN hbel nq)
          · have HR := fun w' hb => hnot w' hb (fun e => b0 (by rw [e]))
            have b0' : (Tri.lo p == Tri.lo q) = false := beq_eq_false_iff_ne.2 b0
            clear hext hnext hnot HT HE b0
            generalize Tri.vl q = q2 at *
            generalize Tri.vl p = p2 at *
            generalize Tri.lo q = q0 at *
            generalize Tri.hi q = q1 at *
            generalize Tri.lo p = p0 at *
            generalize Tri.hi p = p1 at *
            go_wp2
            go_quiet (fail)
            go_wp2
            all_goals
              go_ret
              exact HR _ (below_drewN hbel nq)
        · obtain rfl : k = xs.length := by omega
          have HR := HE _ hbel htk
          clear HN HE HC
          go_wp2
          go_ret
          exact HR
  · have HF : Tells4 w (decide (xs = ys)) (.returned (.bool false)) w := Tells4.mk' (by
      symm; rw [decide_eq_false_iff_not]; intro h; subst h; exact hn rfl) (Below.refl _ _)
    have hne : ((xs.length : Int) != (ys.length : Int)) = true := by simp; omega
    obtain ⟨ao, cap, rfl, _, _⟩ := hv.shape
    obtain ⟨ao', cap', rfl, _, _⟩ := hu.shape
    clear hv hu hn
    generalize decide (xs = ys) = b at *
    go_enter Try.func12, Try.ntmps12
    go_wp2
    go_ret
    exact HF
end Go.Proofs.Ytehdeipeehaejaa
