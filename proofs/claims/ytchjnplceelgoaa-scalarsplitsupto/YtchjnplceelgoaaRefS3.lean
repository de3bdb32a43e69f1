/- The contract of the document's Split. -/
import Derived.Test.YtchjnplceelgoaaMu3
namespace Go.Proofs.Ytchjnplceelgoaa
open Go.RowKit

set_option maxHeartbeats 2000000 in
theorem refSplit_any (v : Value) (xs : List Int) (w : World) (hv : Sk .i32 w v xs) (hl : xs.length ≤ 1000000000) :
    Calls Try.prog 26 #[v] w (SplOPost w (Spl.split xs)) := by
  obtain ⟨i0, hi, hz0, hz1, hz2⟩ := info_parts Try.info21
  obtain ⟨j0, hj, hj0, hj1, hj2⟩ := info_parts Try.info22
  rcases Nat.eq_zero_or_pos xs.length with h0 | h0
  · have hs : Spl.split xs = [[]] := by rw [List.eq_nil_of_length_eq_zero h0]; rfl
    obtain ⟨ao, cap, rfl, _, _⟩ := hv.shape
    have hr0 : w.ownsRow w.heap.size 22 1 (.slice none 0 0) 0 [] := World.ownsRow_nil _ _ _ _
    rw [hs, h0]
    clear hv hs
    go_enter Try.func26, Try.ntmps26
    go_wp2
    refine wp_loop_rounds 1 ?_
    rw [rounds_succ]
    go_wp2_with (at_builtin; refine wpList_append_own _ rfl (.tmp 28) (.tmp 30) 40 rfl w.heap.size 22 j0 (.slice none 0 0) 1 24 Try.underlying40 hj hj0 hj1 hj2 rfl (by decide) _ _ _ rfl (hr0.alloc _) ⟨w.heap.size, 0, none⟩ 1 1 [.slice none 0 0] rfl rfl (cell_one_new _ _ _) (slice_one _ _ _) (by unfold maxLen; omega) (by omega) (by simp) ?_)
    intro v9 w9 hrow9 hg9 _
    have hm9 := Mu.snoc (xss := []) (us := []) (U := w.heap.size) (Nat.le_refl _) rfl hr0 (fun i hi => by simp at hi) (fun i hi => by simp at hi) (fun i j k _ hj => by simp at hj) (Ok.nil .i32 21 w _) hrow9 hg9
    have hb9 : Below w.heap.size w w9 := below_append (Nat.le_refl _) hr0 (Below.refl _ _) hg9
    clear hrow9 hg9 hr0
    go_wp2
    go_ret
    exact ⟨_, rfl, hm9, hb9⟩
  · have hvs := hide hv
    obtain ⟨b, off, cap, rfl, hc1, hc2, hc⟩ := hv.place h0
    have HC : Hid (∀ wx, Below w.heap.size w wx → ∀ i, i < xs.length → wx.cell? ⟨b, off + i, none⟩ = some (.int .i32 (xs.getD i 0))) := by
      intro wx hb i hi
      rw [hb.cell (lt_of_cell? (hc i hi))]; exact hc i hi
    have hfit := hide hv.1
    clear hv hc
    generalize hsp : Spl.split xs = res at *
    have HSP := hide hsp
    clear hsp
    go_enter Try.func26, Try.ntmps26
    go_wp2
    go_loopw [3, 4, 5] (fun vl vp i wr => ∃ (k U : Nat) (ls : List (List Int)) (p : List Int), i = .int .i64 k ∧ k ≤ xs.length ∧ Mu wr w.heap.size U vl ls ∧ Ok .i32 21 wr U vp p ∧ w.heap.size ≤ U ∧ U ≤ wr.heap.size ∧ ls.length ≤ k ∧ p.length ≤ k ∧ Below w.heap.size w wr ∧ res = ls ++ Spl.splitA p (xs.drop k)) (fun _ _ i _ => xs.length - (intOf i).toNat)
    case atStart => exact ⟨0, w.heap.size, [], [], rfl, by omega, Mu.nil _ _ _, Ok.nil _ _ _ _, Nat.le_refl _, Nat.le_refl _, by simp, by simp, Below.refl _ _, by rw [← unhide HSP]; rfl⟩
    case round =>
      obtain ⟨k, U, ls, p, rfl, hk, hmu, hop, hBU, hUw, hll, hpl, hbel, hres⟩ := hrel
      by_cases hlt : k < xs.length
      · have hcell := (unhide HC) _ hbel k hlt
        have hrg := (unhide hfit).i32at k
        rw [splitA_step hlt] at hres
        have HR := hide hres
        clear hres
        generalize xs.getD k 0 = c at *
        by_cases h46 : c = 46
        · have e46 : (c == 46) = true := by simp [h46]
          have HR2 : Hid (res = (ls ++ [p]) ++ Spl.splitA [] (xs.drop (k + 1))) := by have := unhide HR; rw [if_pos h46] at this; simpa [Hid] using this
          obtain ⟨ms, m1, m2, m3, m4, m5⟩ := hmu
          obtain ⟨aop, cpp, hvp, _, _⟩ := hop.sk.shape
          subst hvp
          clear HR h46
          go_wp2_with (at_builtin; refine wpList_append_own _ rfl (.tmp 17) (.tmp 19) 40 rfl w.heap.size 22 j0 (.slice none 0 0) 1 24 Try.underlying40 hj hj0 hj1 hj2 rfl (by decide) _ _ _ rfl (m2.alloc _) ⟨wr.heap.size, 0, none⟩ 1 1 [.slice aop p.length cpp] rfl rfl (cell_one_new _ _ _) (slice_one _ _ _) (by unfold maxLen; omega) (by omega) (by simp; omega) ?_)
          intro v9 w9 hrow9 hg9 _
          have hm9 := Mu.snoc hBU m1 m2 m3 m4 m5 hop hrow9 hg9
          have hb9 : Below w.heap.size w w9 := below_append (by omega) m2 hbel hg9
          have hs9 := hb9.size
          clear hrow9 hg9 m2 m3 m4 m5 hop hbel
          go_wp2
          go_roundw
          case rel => exact ⟨k + 1, w9.heap.size, ls ++ [p], [], by go_num, by omega, hm9, Ok.nil _ _ _ _, hs9, Nat.le_refl _, by simp; omega, by simp, hb9, unhide HR2⟩
          case measure => simp [intOf]; omega
        · have e46 : (c == 46) = false := by simp [h46]
          have HR2 : Hid (res = ls ++ Spl.splitA (p ++ [c]) (xs.drop (k + 1))) := by have := unhide HR; rw [if_neg h46] at this; exact this
          clear HR h46
          go_wp2_with (at_builtin; refine wpList_append_own _ rfl (.tmp 21) (.tmp 26) 22 rfl U 21 i0 (.int .i32 0) 1 4 Try.underlying22 hi hz0 hz1 hz2 rfl (by decide) _ _ _ rfl (hop.row.alloc _) ⟨wr.heap.size, 0, none⟩ 1 1 [.int .i32 c] rfl rfl (cell_one_new _ _ _) (int_one .i32 c) (by unfold maxLen; omega) (by omega) (by simp; omega) ?_)
          intro v9 w9 hrow9 hg9 _
          have hm9 := hmu.grown hop.row hg9
          have ok9 : Ok .i32 21 w9 U v9 (p ++ [c]) := Ok.of (hop.1.snoc (i32_fit hrg)) (by simp; omega) hrow9 (by simp) (by simp)
          have hb9 : Below w.heap.size w w9 := (hbel.alloc (by omega) _).grown hg9 (by simp; omega) (fun k hk => Nat.le_trans hBU (hop.row.lt k hk).1)
          have hs9 : U ≤ w9.heap.size := by have := hg9.size; simp at this; omega
          clear hrow9 hg9 hop hbel hmu
          go_wp2
          go_roundw
          case rel => exact ⟨k + 1, U, ls, p ++ [c], by go_num, by omega, hm9, ok9, hBU, hs9, by omega, by simp; omega, hb9, unhide HR2⟩
          case measure => simp [intOf]; omega
      · have hres2 : res = ls ++ [p] := by rw [hres, List.drop_eq_nil_of_le (by omega)]; rfl
        subst hres2
        obtain ⟨ms, m1, m2, m3, m4, m5⟩ := hmu
        obtain ⟨aop, cpp, hvp, _, _⟩ := hop.sk.shape
        subst hvp
        clear hres HC HSP
        go_wp2_with (at_builtin; refine wpList_append_own _ rfl (.tmp 28) (.tmp 30) 40 rfl w.heap.size 22 j0 (.slice none 0 0) 1 24 Try.underlying40 hj hj0 hj1 hj2 rfl (by decide) _ _ _ rfl (m2.alloc _) ⟨wr.heap.size, 0, none⟩ 1 1 [.slice aop p.length cpp] rfl rfl (cell_one_new _ _ _) (slice_one _ _ _) (by unfold maxLen; omega) (by omega) (by simp; omega) ?_)
        intro v9 w9 hrow9 hg9 _
        have hm9 := Mu.snoc hBU m1 m2 m3 m4 m5 hop hrow9 hg9
        have hb9 : Below w.heap.size w w9 := below_append (by omega) m2 hbel hg9
        clear hrow9 hg9 m2 m3 m4 m5 hop hbel
        go_wp2
        go_ret
        exact ⟨_, rfl, hm9, hb9⟩
end Go.Proofs.Ytchjnplceelgoaa
