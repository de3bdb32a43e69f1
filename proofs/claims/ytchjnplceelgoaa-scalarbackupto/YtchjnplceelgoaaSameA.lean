/- The contract of the document's SameAll. -/
import Derived.Test.YtchjnplceelgoaaPost
namespace Go.Proofs.Ytchjnplceelgoaa
open Go.RowKit

theorem takes_next {xs ys : List (List Int)} {k : Nat} (h : xs.take k = ys.take k) (hx : k < xs.length) (hy : k < ys.length) (he : xs.getD k [] = ys.getD k []) : xs.take (k + 1) = ys.take (k + 1) := by
  rw [List.take_add_one, List.take_add_one, h]
  simp only [List.getD, List.getElem?_eq_getElem hx, List.getElem?_eq_getElem hy, Option.getD_some] at he
  rw [List.getElem?_eq_getElem hx, List.getElem?_eq_getElem hy, he]

theorem Rws.place {w : World} {v : Value} {xss : List (List Int)} (h : Rws w v xss) (hne : 0 < xss.length) :
    ∃ (b off cap : Nat) (us : List Value), v = .slice (some ⟨b, off, none⟩) xss.length cap ∧ xss.length ≤ cap ∧ cap ≤ 9223372036854775807 ∧ (∀ i, i < xss.length → w.cell? ⟨b, off + i, none⟩ = some (us.getD i undef)) ∧ ∀ i, i < xss.length → Sk .i32 w (us.getD i undef) (xss.getD i []) := by
  obtain ⟨us, h1, h2, h3⟩ := h
  obtain ⟨b, off, cap, k1, k2, k3, k4⟩ := h2.place (by omega)
  rw [h1] at k1 k2 k4
  exact ⟨b, off, cap, us, k1, k2, k3, k4, h3⟩

theorem Rws.len {w : World} {v : Value} {xss : List (List Int)} (h : Rws w v xss) : xss.length ≤ 140737488355328 := by
  obtain ⟨us, h1, h2, h3⟩ := h
  rw [← h1]; exact h2.1

set_option maxHeartbeats 1000000 in
theorem sameAll_any (v u : Value) (xs ys : List (List Int)) (w : World) (hv : Rws w v xs) (hu : Rws w u ys) :
    Calls Try.prog 27 #[v, u] w (Tells w (decide (xs = ys))) := by
  have hlx := hv.len
  have hly := hu.len
  by_cases hn : xs.length = ys.length
  · rcases Nat.eq_zero_or_pos xs.length with h0 | h0
    · have HF : ∀ w', Below w.heap.size w w' → Tells w (decide (xs = ys)) (.returned (.bool true)) w' := fun w' hb => Tells.mk' (by
        have h1 := List.eq_nil_of_length_eq_zero h0
        have h2 := List.eq_nil_of_length_eq_zero (hn ▸ h0)
        simp [h1, h2]) hb
      obtain ⟨ao, cap, rfl, _, _⟩ := hv.shape
      obtain ⟨ao', cap', rfl, _, _⟩ := hu.shape
      rw [← hn, h0]
      clear hv hu
      generalize decide (xs = ys) = b at *
      go_enter Try.func27, Try.ntmps27
      go_wp2
      refine wp_loop_rounds 1 ?_
      rw [rounds_succ]
      go_wp2
      go_ret
      exact HF _ (Below.refl _ _)
    · have HE : ∀ w', Below w.heap.size w w' → xs.take xs.length = ys.take xs.length → Tells w (decide (xs = ys)) (.returned (.bool true)) w' := fun w' hb ht => Tells.mk' (by
        rw [List.take_length, hn, List.take_length] at ht
        simp [ht]) hb
      have HN : ∀ w' k, Below w.heap.size w w' → ¬ xs.getD k [] = ys.getD k [] → Tells w (decide (xs = ys)) (.returned (.bool false)) w' := fun w' k hb ht => Tells.mk' (by
        symm; rw [decide_eq_false_iff_not]; intro h; subst h; exact ht rfl) hb
      obtain ⟨b, off, cap, us, rfl, hc1, hc2, hc, hs⟩ := hv.place h0
      obtain ⟨b', off', cap', us', rfl, hc1', hc2', hc', hs'⟩ := hu.place (by omega)
      have HC : ∀ wr, Below w.heap.size w wr → ∀ i, i < xs.length → wr.cell? ⟨b, off + i, none⟩ = some (us.getD i undef) ∧ wr.cell? ⟨b', off' + i, none⟩ = some (us'.getD i undef) ∧ Sk .i32 wr (us.getD i undef) (xs.getD i []) ∧ Sk .i32 wr (us'.getD i undef) (ys.getD i []) := by
        intro wr hb i hi
        refine ⟨?_, ?_, (hs i hi).below hb, (hs' i (by omega)).below hb⟩
        · rw [hb.cell (lt_of_cell? (hc i hi))]; exact hc i hi
        · rw [hb.cell (lt_of_cell? (hc' i (by omega)))]; exact hc' i (by omega)
      rw [← hn] at hc1' ⊢
      have hln := hide hn
      clear hv hu hc hc' hs hs' hn
      generalize decide (xs = ys) = bb at *
      go_enter Try.func27, Try.ntmps27
      go_wp2
      go_loopw [5] (fun i wr => ∃ k : Nat, i = .int .i64 k ∧ k ≤ xs.length ∧ xs.take k = ys.take k ∧ Below w.heap.size w wr) (fun i _ => xs.length - (intOf i).toNat)
      case atStart => exact ⟨0, rfl, by omega, by simp, Below.refl _ _⟩
      case round =>
        obtain ⟨k, rfl, hk, htk, hbel⟩ := hrel
        by_cases hlt : k < xs.length
        · obtain ⟨c1, c2, s1, s2⟩ := HC _ hbel k hlt
          have HT := hide htk
          have HSq := fun n => hide (same_q _ _ _ _ (wr.drewN n) (s1.below (below_drewN (Below.refl _ _) n)) (s2.below (below_drewN (Below.refl _ _) n)))
          clear htk
          cases he : decide (xs.getD k [] = ys.getD k []) with
          | false =>
            have HR := fun w' hb => HN w' k hb (of_decide_eq_false he)
            rw [he] at HSq
            obtain ⟨ao1, cp1, hv1, _, _⟩ := s1.shape
            obtain ⟨ao2, cp2, hv2, _, _⟩ := s2.shape
            clear HN HE HC s1 s2 he hv1 hv2
            generalize us.getD k undef = x at *
            generalize us'.getD k undef = y at *
            go_wp2
            go_quiet (first | (go_at_call 12; exact Calls.quiet_of (unhide (HSq _))))
            go_wp2
            go_ret
            exact HR _ (below_drewN hbel nq)
          | true =>
            have HT2 := hide (takes_next (unhide HT) hlt (by have := unhide hln; omega) (of_decide_eq_true he))
            rw [he] at HSq
            clear HN HE HC HT s1 s2 he
            generalize us.getD k undef = x at *
            generalize us'.getD k undef = y at *
            go_wp2
            go_quiet (first | (go_at_call 12; exact Calls.quiet_of (unhide (HSq _))))
            go_wp2
            go_roundw
            case rel => exact ⟨k + 1, by go_num, by omega, unhide HT2, below_drewN hbel nq⟩
            case measure => simp [intOf]; omega
        · obtain rfl : k = xs.length := by omega
          have HR := HE _ hbel htk
          clear HN HE HC
          go_wp2
          go_ret
          exact HR
  · have HF : Tells w (decide (xs = ys)) (.returned (.bool false)) w := Tells.mk' (by
      symm; rw [decide_eq_false_iff_not]; intro h; subst h; exact hn rfl) (Below.refl _ _)
    have hne : ((xs.length : Int) != (ys.length : Int)) = true := by simp; omega
    obtain ⟨ao, cap, rfl, _, _⟩ := hv.shape
    obtain ⟨ao', cap', rfl, _, _⟩ := hu.shape
    clear hv hu hn
    generalize decide (xs = ys) = b at *
    go_enter Try.func27, Try.ntmps27
    go_wp2
    go_ret
    exact HF
end Go.Proofs.Ytchjnplceelgoaa
