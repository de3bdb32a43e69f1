/- The statements' own sameTexts and sameWords, of lists that are the same. -/
import Derived.Test.YtkdkmnohnhhojaaDoorRefZ5
import Derived.Deep.QuietTactic
import Derived.BigQuiet
namespace Go.Proofs.YtkdkmnohnhhojaaDoor
open Go.RowKit

/-- A call that answers a bool and only draws. -/
def Draws (w : World) (b : Bool) (e : Ending) (w' : World) : Prop := e = .returned (.bool b) ∧ ∃ m, w' = w.drewN m
theorem drew0 (w : World) : ∃ m, w = w.drewN m := ⟨0, rfl⟩
theorem drews {w w' : World} (h : ∃ m, w' = w.drewN m) (n : Nat) : ∃ m, w'.drewN n = w.drewN m := by
  obtain ⟨m, rfl⟩ := h
  exact ⟨m + n, by rw [World.drewN_drewN]⟩
theorem drewB {w w' : World} (h : ∃ m, w' = w.drewN m) : Below w.heap.size w w' := by
  obtain ⟨m, rfl⟩ := h
  exact below_drewN (Below.refl _ _) m
theorem self_beq (t : ByteArray) : (t.toList == t.toList) = true := beq_self_eq_true _
theorem txts_length (ls : List (List Int)) : (txts ls).length = ls.length := List.length_map _
theorem txts_at {ls : List (List Int)} {i : Nat} (h : i < ls.length) : (txts ls).getD i undef = .string (strOfNums (ls.getD i [])) := by simp [txts, List.getD, h]

set_option maxHeartbeats 1000000 in
theorem sameTexts_eq (v u : Value) (ls : List (List Int)) (w : World) (hv : Sv w v (txts ls)) (hu : Sv w u (txts ls)) :
    Calls Tryd.prog 11 #[v, u] w (Draws w true) := by
  have hl := txts_length ls
  have hlx := hv.1
  rcases Nat.eq_zero_or_pos ls.length with h0 | h0
  · obtain ⟨ao, cap, rfl, _, _⟩ := hv.shape
    obtain ⟨ao', cap', rfl, _, _⟩ := hu.shape
    rw [hl, h0]
    clear hv hu
    go_enter Tryd.func11, Tryd.ntmps11
    go_wp2
    refine wp_loop_rounds 1 ?_
    rw [rounds_succ]
    go_wp2
    go_ret
    exact ⟨rfl, drew0 w⟩
  · obtain ⟨b, off, cap, rfl, hc1, hc2, hc⟩ := hv.place (by omega)
    obtain ⟨b', off', cap', rfl, hc1', hc2', hc'⟩ := hu.place (by omega)
    have HC : Hid (∀ wr, Below w.heap.size w wr → ∀ i, i < ls.length → wr.cell? ⟨b, off + i, none⟩ = some (.string (strOfNums (ls.getD i []))) ∧ wr.cell? ⟨b', off' + i, none⟩ = some (.string (strOfNums (ls.getD i [])))) := by
      intro wr hb i hi
      have a0 := hc i (by omega)
      have d0 := hc' i (by omega)
      rw [txts_at hi] at a0 d0
      exact ⟨by rw [hb.cell (lt_of_cell? a0)]; exact a0, by rw [hb.cell (lt_of_cell? d0)]; exact d0⟩
    rw [hl] at hc1 hc1' ⊢
    clear hv hu hc hc'
    rw [hl] at hlx
    clear hl
    go_enter Tryd.func11, Tryd.ntmps11
    go_wp2
    go_loopw [5] (fun i wr => ∃ k : Nat, i = .int .i64 k ∧ k ≤ ls.length ∧ ∃ m, wr = w.drewN m) (fun i _ => ls.length - (intOf i).toNat)
    case atStart => exact ⟨0, rfl, by omega, drew0 w⟩
    case round =>
      obtain ⟨k, rfl, hk, hdr⟩ := hrel
      by_cases hlt : k < ls.length
      · obtain ⟨a0, d0⟩ := (unhide HC) _ (drewB hdr) k hlt
        clear HC
        generalize strOfNums (ls.getD k []) = t at *
        have ht := self_beq t
        go_wp2
        go_quiet (fail)
        go_wp2
        go_roundw
        case rel => exact ⟨k + 1, by go_num, by omega, drews hdr _⟩
        case measure => simp [intOf]; omega
      · clear HC
        go_wp2
        go_ret
        exact ⟨rfl, hdr⟩
end Go.Proofs.YtkdkmnohnhhojaaDoor
