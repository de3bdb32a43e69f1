/- The statements' own sameWords, of lists that are the same. -/
import Derived.Test.YtkdkmnohnhhojaaDoorSame5
namespace Go.Proofs.YtkdkmnohnhhojaaDoor
open Go.RowKit

abbrev Wrd := List Int × Nat
theorem wvals_length (ws : List Wrd) : (wvals ws).length = ws.length * 2 := by
  induction ws with
  | nil => rfl
  | cons p ws ih =>
    rw [wvals, List.flatMap_cons, List.length_append] at *
    simp only [List.length_cons, List.length_nil]
    rw [ih]; omega
theorem wvals_at : ∀ (ws : List Wrd) (i : Nat), i < ws.length → (wvals ws)[i * 2]? = some (.string (strOfNums (ws.getD i ([], 0)).1)) ∧ (wvals ws)[i * 2 + 1]? = some (.int .i64 ((ws.getD i ([], 0)).2 : Int))
  | [], i, h => by simp at h
  | p :: ws, 0, _ => ⟨rfl, rfl⟩
  | p :: ws, i + 1, h => by
    have := wvals_at ws i (by simpa using h)
    rw [show (i + 1) * 2 = i * 2 + 2 by omega]
    exact this
/-- Words that lie in memory, to be read. -/
def Wd (w : World) (v : Value) (ws : List Wrd) : Prop := (ws = [] ∧ ∃ ao cap, v = .slice ao 0 cap ∧ cap ≤ 9223372036854775807) ∨
  ∃ b off cap, v = .slice (some ⟨b, off, none⟩) ws.length cap ∧ ws.length ≤ cap ∧ cap ≤ 9223372036854775807 ∧ ∀ i, i < ws.length → w.cell? ⟨b, off + i * 2, none⟩ = some (.string (strOfNums (ws.getD i ([], 0)).1)) ∧ w.cell? ⟨b, off + i * 2 + 1, none⟩ = some (.int .i64 ((ws.getD i ([], 0)).2 : Int))
theorem Wd.own {w : World} {B : Nat} {t : TypeId} {v : Value} {ws : List Wrd} (h : w.ownsRow B t 2 v ws.length (wvals ws)) : Wd w v ws := by
  have h3' := h
  obtain ⟨_, hcase⟩ := h
  rcases hcase with ⟨rfl, h0⟩ | ⟨g, cap, cur, hv, hg, hh, hn, hcap, hsz, htake⟩
  · exact .inl ⟨List.eq_nil_of_length_eq_zero h0, none, 0, rfl, by omega⟩
  · refine .inr ⟨g, 0, cap, hv, hn, by unfold maxLen at hcap; omega, fun i hi => ?_⟩
    obtain ⟨h1, h2⟩ := wvals_at ws i hi
    have e1 := h3'.cells (g := g) (by rw [hv]; rfl) _ _ h1
    have e2 := h3'.cells (g := g) (by rw [hv]; rfl) _ _ h2
    rw [addr_add] at e1 e2
    exact ⟨e1, e2⟩
theorem Wd.below {w w' : World} {v : Value} {ws : List Wrd} (h : Wd w v ws) (hb : Below w.heap.size w w') : Wd w' v ws := by
  rcases h with h | ⟨b, off, cap, h1, h2, h3, h4⟩
  · exact .inl h
  · refine .inr ⟨b, off, cap, h1, h2, h3, fun i hi => ?_⟩
    obtain ⟨a, c⟩ := h4 i hi
    exact ⟨by rw [hb.cell (lt_of_cell? a)]; exact a, by rw [hb.cell (lt_of_cell? c)]; exact c⟩
theorem Wd.shape {w : World} {v : Value} {ws : List Wrd} (h : Wd w v ws) : ∃ ao cap, v = .slice ao ws.length cap ∧ cap ≤ 9223372036854775807 := by
  rcases h with ⟨rfl, ao, cap, h1, h2⟩ | ⟨b, off, cap, h1, h2, h3, h4⟩
  · exact ⟨ao, cap, h1, h2⟩
  · exact ⟨_, cap, h1, h3⟩
theorem Wd.place {w : World} {v : Value} {ws : List Wrd} (h : Wd w v ws) (hp : 0 < ws.length) : ∃ b off cap, v = .slice (some ⟨b, off, none⟩) ws.length cap ∧ ws.length ≤ cap ∧ cap ≤ 9223372036854775807 ∧ ∀ i, i < ws.length → w.cell? ⟨b, off + i * 2, none⟩ = some (.string (strOfNums (ws.getD i ([], 0)).1)) ∧ w.cell? ⟨b, off + i * 2 + 1, none⟩ = some (.int .i64 ((ws.getD i ([], 0)).2 : Int)) := by
  rcases h with ⟨rfl, _⟩ | h
  · simp at hp
  · exact h

set_option maxHeartbeats 1000000 in
theorem sameWords_eq (v u : Value) (ws : List Wrd) (w : World) (hv : Wd w v ws) (hu : Wd w u ws) (hlx : ws.length ≤ 1000000000) :
    Calls Tryd.prog 14 #[v, u] w (Draws w true) := by
  rcases Nat.eq_zero_or_pos ws.length with h0 | h0
  · obtain ⟨ao, cap, rfl, _⟩ := hv.shape
    obtain ⟨ao', cap', rfl, _⟩ := hu.shape
    rw [h0]
    clear hv hu
    go_enter Tryd.func14, Tryd.ntmps14
    go_wp2
    refine wp_loop_rounds 1 ?_
    rw [rounds_succ]
    go_wp2
    go_ret
    exact ⟨rfl, drew0 w⟩
  · obtain ⟨b, off, cap, rfl, hc1, hc2, hc⟩ := hv.place h0
    obtain ⟨b', off', cap', rfl, hc1', hc2', hc'⟩ := hu.place h0
    have HC : Hid (∀ wr, Below w.heap.size w wr → ∀ i, i < ws.length → (wr.cell? ⟨b, off + i * 2, none⟩ = some (.string (strOfNums (ws.getD i ([], 0)).1)) ∧ wr.cell? ⟨b, off + i * 2 + 1, none⟩ = some (.int .i64 ((ws.getD i ([], 0)).2 : Int))) ∧ wr.cell? ⟨b', off' + i * 2, none⟩ = some (.string (strOfNums (ws.getD i ([], 0)).1)) ∧ wr.cell? ⟨b', off' + i * 2 + 1, none⟩ = some (.int .i64 ((ws.getD i ([], 0)).2 : Int))) := by
      intro wr hb i hi
      obtain ⟨a0, a1⟩ := hc i hi
      obtain ⟨d0, d1⟩ := hc' i hi
      exact ⟨⟨by rw [hb.cell (lt_of_cell? a0)]; exact a0, by rw [hb.cell (lt_of_cell? a1)]; exact a1⟩, by rw [hb.cell (lt_of_cell? d0)]; exact d0, by rw [hb.cell (lt_of_cell? d1)]; exact d1⟩
    clear hv hu hc hc'
    go_enter Tryd.func14, Tryd.ntmps14
    go_wp2
    go_loopw [5] (fun i wr => ∃ k : Nat, i = .int .i64 k ∧ k ≤ ws.length ∧ ∃ m, wr = w.drewN m) (fun i _ => ws.length - (intOf i).toNat)
    case atStart => exact ⟨0, rfl, by omega, drew0 w⟩
    case round =>
      obtain ⟨k, rfl, hk, hdr⟩ := hrel
      by_cases hlt : k < ws.length
      · obtain ⟨⟨a0, a1⟩, d0, d1⟩ := (unhide HC) _ (drewB hdr) k hlt
        clear HC
        generalize strOfNums (ws.getD k ([], 0)).1 = t at *
        generalize ((ws.getD k ([], 0)).2 : Int) = p at *
        have ht := self_beq t
        have hp : (p == p) = true := beq_self_eq_true _
        go_wp2
        go_quiet (fail)
        go_wp2
        go_roundw
        case rel => exact ⟨k + 1, by go_num, by omega, drews hdr _⟩
        case measure => simp [intOf]; omega
      · clear HC
        go_wp2
        go_ret
        exact ⟨rfl, hdr⟩
end Go.Proofs.YtkdkmnohnhhojaaDoor
