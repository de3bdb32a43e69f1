/- The contract of the document's Same. -/
import Derived.Test.YtgccindoinhphaaSeq
import Derived.Deep.QuietTactic
import Derived.BigQuiet
namespace Go.Proofs.Ytgccindoinhphaa
open Go.RowKit

/-- A call that answers a bool and changes nothing that was there. -/
def Tells (w : World) (b : Bool) (e : Ending) (w' : World) : Prop := e = .returned (.bool b) ∧ Below w.heap.size w w'

theorem Tells.mk' {w w' : World} {b c : Bool} (h : b = c) (hb : Below w.heap.size w w') : Tells w c (.returned (.bool b)) w' := by subst h; exact ⟨rfl, hb⟩

theorem take_next {xs ys : List Int} {k : Nat} (h : xs.take k = ys.take k) (hx : k < xs.length) (hy : k < ys.length) (he : xs.getD k 0 = ys.getD k 0) : xs.take (k + 1) = ys.take (k + 1) := by
  rw [List.take_add_one, List.take_add_one, h]
  simp only [List.getD, List.getElem?_eq_getElem hx, List.getElem?_eq_getElem hy, Option.getD_some] at he
  rw [List.getElem?_eq_getElem hx, List.getElem?_eq_getElem hy, he]

/-- A call that answers a bool and only draws. -/
def Draws (w : World) (b : Bool) (e : Ending) (w' : World) : Prop := e = .returned (.bool b) ∧ ∃ m, w' = w.drewN m
theorem Draws.mk' {w w' : World} {b c : Bool} (h : b = c) (hb : ∃ m, w' = w.drewN m) : Draws w c (.returned (.bool b)) w' := by subst h; exact ⟨rfl, hb⟩
theorem drew0 (w : World) : ∃ m, w = w.drewN m := ⟨0, rfl⟩
theorem drews {w w' : World} (h : ∃ m, w' = w.drewN m) (n : Nat) : ∃ m, w'.drewN n = w.drewN m := by
  obtain ⟨m, rfl⟩ := h
  exact ⟨m + n, by rw [World.drewN_drewN]⟩
theorem drewB {w w' : World} (h : ∃ m, w' = w.drewN m) : Below w.heap.size w w' := by
  obtain ⟨m, rfl⟩ := h
  exact below_drewN (Below.refl _ _) m

set_option maxHeartbeats 1000000 in
theorem same_q (v u : Value) (xs ys : List Int) (w : World) (hv : Sk .i32 w v xs) (hu : Sk .i32 w u ys) :
    Calls Try.prog 13 #[v, u] w (Draws w (decide (xs = ys))) := by
  have hlx := hv.len
  have hly := hu.len
  by_cases hn : xs.length = ys.length
  · rcases Nat.eq_zero_or_pos xs.length with h0 | h0
    · have HF : ∀ w', (∃ m, w' = w.drewN m) → Draws w (decide (xs = ys)) (.returned (.bool true)) w' := fun w' hb => Draws.mk' (by
        have h1 := List.eq_nil_of_length_eq_zero h0
        have h2 := List.eq_nil_of_length_eq_zero (hn ▸ h0)
        simp [h1, h2]) hb
      obtain ⟨ao, cap, rfl, _, _⟩ := hv.shape
      obtain ⟨ao', cap', rfl, _, _⟩ := hu.shape
      rw [← hn, h0]
      clear hv hu
      generalize decide (xs = ys) = b at *
      go_enter Try.func13, Try.ntmps13
      go_wp2
      refine wp_loop_rounds 1 ?_
      rw [rounds_succ]
      go_wp2
      go_ret
      exact HF _ (drew0 w)
    · have HE : ∀ w', (∃ m, w' = w.drewN m) → xs.take xs.length = ys.take xs.length → Draws w (decide (xs = ys)) (.returned (.bool true)) w' := fun w' hb ht => Draws.mk' (by
        rw [List.take_length, hn, List.take_length] at ht
        simp [ht]) hb
      have HN : ∀ w' k, (∃ m, w' = w.drewN m) → ¬ xs.getD k 0 = ys.getD k 0 → Draws w (decide (xs = ys)) (.returned (.bool false)) w' := fun w' k hb ht => Draws.mk' (by
        symm; rw [decide_eq_false_iff_not]; intro h; subst h; exact ht rfl) hb
      have HS : ∀ wr, Below w.heap.size w wr → Sk .i32 wr v xs ∧ Sk .i32 wr u ys := fun wr hb => ⟨hv.below hb, hu.below hb⟩
      obtain ⟨b, off, cap, rfl, hc1, hc2, hc⟩ := hv.place h0
      obtain ⟨b', off', cap', rfl, hc1', hc2', hc'⟩ := hu.place (by omega)
      have HC : ∀ wr, Below w.heap.size w wr → ∀ i, i < xs.length → wr.cell? ⟨b, off + i, none⟩ = some (.int .i32 (xs.getD i 0)) ∧ wr.cell? ⟨b', off' + i, none⟩ = some (.int .i32 (ys.getD i 0)) := by
        intro wr hb i hi
        constructor
        · rw [hb.cell (lt_of_cell? (hc i hi))]; exact hc i hi
        · rw [hb.cell (lt_of_cell? (hc' i (by omega)))]; exact hc' i (by omega)
      rw [← hn] at hc1' ⊢
      have HFx := hide hv.1
      have HFy := hide hu.1
      have hln := hide hn
      clear hv hu HS hc hc' hn
      generalize decide (xs = ys) = bb at *
      go_enter Try.func13, Try.ntmps13
      go_wp2
      go_loopw [5] (fun i wr => ∃ k : Nat, i = .int .i64 k ∧ k ≤ xs.length ∧ xs.take k = ys.take k ∧ ∃ m, wr = w.drewN m) (fun i _ => xs.length - (intOf i).toNat)
      case atStart => exact ⟨0, rfl, by omega, by simp, drew0 w⟩
      case round =>
        obtain ⟨k, rfl, hk, htk, hbel⟩ := hrel
        by_cases hlt : k < xs.length
        · obtain ⟨c1, c2⟩ := HC _ (drewB hbel) k hlt
          have HT := hide htk
          clear htk
          cases he : (xs.getD k 0 != ys.getD k 0) with
          | true =>
            have HR := fun w' hb => HN w' k hb (by simpa using he)
            clear HN HE HC
            generalize xs.getD k 0 = x at *
            generalize ys.getD k 0 = y at *
            go_wp2
            go_quiet (fail)
            go_wp2
            go_ret
            exact HR _ (drews hbel nq)
          | false =>
            have he' : xs.getD k 0 = ys.getD k 0 := by simpa using he
            have HT2 := hide (take_next (unhide HT) hlt (by have := unhide hln; omega) he')
            clear HN HE HC HT he'
            generalize xs.getD k 0 = x at *
            generalize ys.getD k 0 = y at *
            go_wp2
            go_quiet (fail)
            go_wp2
            go_roundw
            case rel => exact ⟨k + 1, by go_num, by omega, unhide HT2, drews hbel nq⟩
            case measure => simp [intOf]; omega
        · obtain rfl : k = xs.length := by omega
          have HR := HE _ hbel htk
          clear HN HE HC
          go_wp2
          go_ret
          exact HR
  · have HF : Draws w (decide (xs = ys)) (.returned (.bool false)) w := Draws.mk' (by
      symm; rw [decide_eq_false_iff_not]; intro h; subst h; exact hn rfl) (drew0 w)
    have hne : ((xs.length : Int) != (ys.length : Int)) = true := by simp; omega
    obtain ⟨ao, cap, rfl, _, _⟩ := hv.shape
    obtain ⟨ao', cap', rfl, _, _⟩ := hu.shape
    clear hv hu hn
    generalize decide (xs = ys) = b at *
    go_enter Try.func13, Try.ntmps13
    go_wp2
    go_ret
    exact HF

theorem same_any (v u : Value) (xs ys : List Int) (w : World) (hv : Sk .i32 w v xs) (hu : Sk .i32 w u ys) :
    Calls Try.prog 13 #[v, u] w (Tells w (decide (xs = ys))) := (same_q v u xs ys w hv hu).mono fun _ _ ⟨h1, h2⟩ => ⟨h1, drewB h2⟩
end Go.Proofs.Ytgccindoinhphaa
