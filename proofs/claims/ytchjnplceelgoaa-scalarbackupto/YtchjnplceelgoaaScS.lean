/- The contracts of scalar's copied and Split. -/
import Derived.Test.YtchjnplceelgoaaMu3
namespace Go.Proofs.Ytchjnplceelgoaa
open Go.RowKit

/-- A copy, in memory of the call's own. -/
def CopPost (w : World) (xs : List Int) (e : Ending) (w' : World) : Prop := ∃ v, e = .returned v ∧ Ok .i32 21 w' w.heap.size v xs ∧ Below w.heap.size w w'

set_option maxHeartbeats 1000000 in
theorem copied_any (v : Value) (xs : List Int) (w : World) (hv : Sk .i32 w v xs) (hl : xs.length ≤ 1000000000) :
    Calls Try.prog 39 #[v] w (CopPost w xs) := by
  obtain ⟨i0, hi, hz0, hz1, hz2⟩ := info_parts Try.info21
  have hfit := hide hv.1
  have hok := Ok.nil .i32 21 w w.heap.size
  rcases hv.src with ⟨h1, h2⟩ | ⟨ad, cp, h2, hsrc⟩
  · subst h1
    subst h2
    clear hv
    go_enter Try.func39, Try.ntmps39
    go_wp2_with (at_builtin; refine wpList_append_own_none rfl (.const (.slice none 0 0)) (.tmp 3) 22 rfl w.heap.size 21 i0 1 Try.underlying22 hi _ _ _ rfl hok.row rfl ?_)
    go_ret
    exact ⟨_, rfl, hok, Below.refl _ _⟩
  · subst h2
    clear hv
    go_enter Try.func39, Try.ntmps39
    go_wp2_with (at_builtin; refine wpList_append_own _ rfl (.const (.slice none 0 0)) (.tmp 3) 22 rfl w.heap.size 21 i0 (.int .i32 0) 1 4 Try.underlying22 hi hz0 hz1 hz2 rfl (by decide) _ _ _ rfl hok.row ad xs.length cp (xs.map (Value.int .i32)) rfl (by simp) hsrc (ints_one .i32 xs) (by unfold maxLen; simp; omega) (by simp; omega) (by omega) ?_)
    intro v2 w2 hrow2 hg2 _
    have hb2 : Below w.heap.size w w2 := below_append0 (Nat.le_refl _) hok.row (Below.refl _ _) hg2
    have ok2 : Ok .i32 21 w2 w.heap.size v2 xs := Ok.of (unhide hfit) (by omega) hrow2 (by simp) (by simp)
    clear hok hrow2 hg2 hsrc
    go_wp2
    go_ret
    exact ⟨_, rfl, ok2, hb2⟩

theorem Mu.below {w w' : World} {B U : Nat} {v : Value} {xss : List (List Int)} (h : Mu w B U v xss) (hb : Below w.heap.size w w') : Mu w' B U v xss := by
  obtain ⟨us, h1, h2, h3, h4, h5⟩ := h
  refine ⟨us, h1, h2.kept (row := none) ⟨hb.os, hb.tape, hb.output, hb.size, fun k hk _ => hb.block k hk⟩ ?_, fun i hi => (h3 i hi).below hb, h4, h5⟩
  cases h' : v.ownBlock with
  | none => exact .inl rfl
  | some k => exact .inr (by simp)

theorem piece_next {xs : List Int} {f k : Nat} (hf : f ≤ k) (hk : k < xs.length) : (xs.drop f).take (k + 1 - f) = (xs.drop f).take (k - f) ++ [xs.getD k 0] := by
  rw [show k + 1 - f = (k - f) + 1 by omega, List.take_add_one, List.getElem?_drop, show f + (k - f) = k by omega]
  simp [List.getD, hk]

set_option maxHeartbeats 2000000 in
theorem splO_any (v : Value) (xs : List Int) (w : World) (hv : Sk .i32 w v xs) (hl : xs.length ≤ 1000000000) : Calls Try.prog 25 #[v] w (SplOPost w (Spl.split xs)) := by
  obtain ⟨j0, hj, hj0, hj1, hj2⟩ := info_parts Try.info22
  rcases Nat.eq_zero_or_pos xs.length with h0 | h0
  · have hs : Spl.split xs = [[]] := by rw [List.eq_nil_of_length_eq_zero h0]; rfl
    have hxs : xs = [] := List.eq_nil_of_length_eq_zero h0
    have hr0 : w.ownsRow w.heap.size 22 1 (.slice none 0 0) 0 [] := World.ownsRow_nil _ _ _ _
    have HV := hide hv
    obtain ⟨ao, cap, rfl, _, _⟩ := hv.shape
    rw [hs, h0]
    rw [h0, hxs] at HV
    have HQ := fun ao' (h : Sk .i32 w (.slice ao' 0 cap) []) => hide (copied_any _ _ w h (by simp))
    clear hv hs hxs h0
    cases ao with
    | none =>
      have HC := HQ _ (unhide HV)
      clear HQ
      go_enter Try.func25, Try.ntmps25
      go_wp2
      refine wp_loop_rounds 1 ?_
      rw [rounds_succ]
      go_wp2_with fail
      refine (unhide HC).mono ?_
      rintro e w1 ⟨v1, rfl, ok1, hb1⟩
      have hs1 := hb1.size
      have hm1 : Mu w1 w.heap.size w.heap.size (.slice none 0 0) [] := Mu.nil _ _ _
      have hr1 : w1.ownsRow w.heap.size 22 1 (.slice none 0 0) 0 [] := World.ownsRow_nil _ _ _ _
      obtain ⟨aop, cpp, hvp, _, _⟩ := ok1.sk.shape
      subst hvp
      clear HC hm1
      go_wp2_with (at_builtin; refine wpList_append_own _ rfl (.tmp 27) (.tmp 32) 40 rfl w.heap.size 22 j0 (.slice none 0 0) 1 24 Try.underlying40 hj hj0 hj1 hj2 rfl (by decide) _ _ _ rfl (hr1.alloc _) ⟨w1.heap.size, 0, none⟩ 1 1 [.slice aop 0 cpp] rfl rfl (cell_one_new _ _ _) (slice_one _ _ _) (by unfold maxLen; omega) (by omega) (by simp; omega) ?_)
      intro v9 w9 hrow9 hg9 _
      have hm9 := Mu.snoc (xss := []) (us := []) (U := w.heap.size) (Nat.le_refl _) rfl hr1 (fun i hi => by simp at hi) (fun i hi => by simp at hi) (fun i j k _ hj => by simp at hj) ok1 hrow9 hg9
      have hb9 : Below w.heap.size w w9 := below_append hs1 hr1 hb1 hg9
      clear hrow9 hg9 hr1 hr0 ok1
      go_wp2
      go_ret
      exact ⟨_, rfl, hm9, hb9⟩
    | some ad =>
      have HC := HQ _ (unhide HV)
      clear HQ
      go_enter Try.func25, Try.ntmps25
      go_wp2
      refine wp_loop_rounds 1 ?_
      rw [rounds_succ]
      go_wp2_with fail
      refine (unhide HC).mono ?_
      rintro e w1 ⟨v1, rfl, ok1, hb1⟩
      have hs1 := hb1.size
      have hm1 : Mu w1 w.heap.size w.heap.size (.slice none 0 0) [] := Mu.nil _ _ _
      have hr1 : w1.ownsRow w.heap.size 22 1 (.slice none 0 0) 0 [] := World.ownsRow_nil _ _ _ _
      obtain ⟨aop, cpp, hvp, _, _⟩ := ok1.sk.shape
      subst hvp
      clear HC hm1
      go_wp2_with (at_builtin; refine wpList_append_own _ rfl (.tmp 27) (.tmp 32) 40 rfl w.heap.size 22 j0 (.slice none 0 0) 1 24 Try.underlying40 hj hj0 hj1 hj2 rfl (by decide) _ _ _ rfl (hr1.alloc _) ⟨w1.heap.size, 0, none⟩ 1 1 [.slice aop 0 cpp] rfl rfl (cell_one_new _ _ _) (slice_one _ _ _) (by unfold maxLen; omega) (by omega) (by simp; omega) ?_)
      intro v9 w9 hrow9 hg9 _
      have hm9 := Mu.snoc (xss := []) (us := []) (U := w.heap.size) (Nat.le_refl _) rfl hr1 (fun i hi => by simp at hi) (fun i hi => by simp at hi) (fun i j k _ hj => by simp at hj) ok1 hrow9 hg9
      have hb9 : Below w.heap.size w w9 := below_append hs1 hr1 hb1 hg9
      clear hrow9 hg9 hr1 hr0 ok1
      go_wp2
      go_ret
      exact ⟨_, rfl, hm9, hb9⟩
  · obtain ⟨b, off, cap, rfl, hc1, hc2, hc⟩ := hv.place h0
    have HV := hide hv
    have HC : Hid (∀ wx, Below w.heap.size w wx → ∀ i, i < xs.length → wx.cell? ⟨b, off + i, none⟩ = some (.int .i32 (xs.getD i 0))) := by
      intro wx hb i hi
      rw [hb.cell (lt_of_cell? (hc i hi))]; exact hc i hi
    have hfit := hide hv.1
    clear hv hc
    generalize hsp : Spl.split xs = res at *
    have HSP := hide hsp
    clear hsp
    go_enter Try.func25, Try.ntmps25
    go_wp2
    go_loopw [3, 4, 9] (fun vl vf i wr => ∃ (k f : Nat) (ls : List (List Int)), i = .int .i64 k ∧ k ≤ xs.length ∧ vf = .int .i64 f ∧ f ≤ k ∧ Mu wr w.heap.size wr.heap.size vl ls ∧ w.heap.size ≤ wr.heap.size ∧ ls.length ≤ k ∧ Below w.heap.size w wr ∧ res = ls ++ Spl.splitA ((xs.drop f).take (k - f)) (xs.drop k)) (fun _ _ i _ => xs.length - (intOf i).toNat)
    case atStart => exact ⟨0, 0, [], rfl, by omega, rfl, by omega, Mu.nil _ _ _, Nat.le_refl _, by simp, Below.refl _ _, by rw [← unhide HSP]; rfl⟩
    case round =>
      obtain ⟨k, f, ls, rfl, hk, rfl, hfk, hmu, hBU, hll, hbel, hres⟩ := hrel
      by_cases hlt : k < xs.length
      · have hcell := (unhide HC) _ hbel k hlt
        have hrg := (unhide hfit).i32at k
        rw [splitA_step hlt] at hres
        have HR := hide hres
        clear hres
        have hcp : ¬ cap = f := by omega
        by_cases h46 : xs.getD k 0 = 46
        · have e46 : (xs.getD k 0 == 46) = true := by rw [h46]; rfl
          have HR2 : Hid (res = (ls ++ [(xs.drop f).take (k - f)]) ++ Spl.splitA ((xs.drop (k + 1)).take (k + 1 - (k + 1))) (xs.drop (k + 1))) := by
            have := unhide HR
            rw [if_pos h46] at this
            rw [Nat.sub_self, List.take_zero]
            simpa [Hid] using this
          have hcut := ((unhide HV).below hbel).cut (l := f) (h := k) (m := cap) (by omega) (by omega) (by omega) (by omega)
          simp only [sliced, hcp, if_false, Option.map_some, Nat.mul_one, addr_add] at hcut
          have hpl : ((xs.drop f).take (k - f)).length ≤ 1000000000 := by rw [List.length_take, List.length_drop]; omega
          have HQ := hide (copied_any _ _ wr hcut hpl)
          clear hcut HR h46
          generalize (xs.drop f).take (k - f) = p at *
          generalize xs.getD k 0 = c at *
          go_wp2_with fail
          refine (unhide HQ).mono ?_
          rintro e w1 ⟨v1, rfl, ok1, hb1⟩
          obtain ⟨ms, m1, m2, m3, m4, m5⟩ := hmu.below hb1
          have hb2 : Below w.heap.size w w1 := bthen hbel hb1
          have hs1 := hb1.size
          obtain ⟨aop, cpp, hvp, _, _⟩ := ok1.sk.shape
          subst hvp
          clear HQ hmu hbel hb1
          go_wp2_with (at_builtin; refine wpList_append_own _ rfl (.tmp 16) (.tmp 22) 40 rfl w.heap.size 22 j0 (.slice none 0 0) 1 24 Try.underlying40 hj hj0 hj1 hj2 rfl (by decide) _ _ _ rfl (m2.alloc _) ⟨w1.heap.size, 0, none⟩ 1 1 [.slice aop p.length cpp] rfl rfl (cell_one_new _ _ _) (slice_one _ _ _) (by unfold maxLen; omega) (by omega) (by simp; omega) ?_)
          intro v9 w9 hrow9 hg9 _
          have hm9 := Mu.snoc hBU m1 m2 m3 m4 m5 ok1 hrow9 hg9
          have hb9 : Below w.heap.size w w9 := below_append (by omega) m2 hb2 hg9
          have hs9 := hb9.size
          clear hrow9 hg9 m2 m3 m4 m5 ok1 hb2
          go_wp2
          go_roundw
          case rel => exact ⟨k + 1, k + 1, ls ++ [p], by go_num, by omega, by go_num, by omega, hm9, hs9, by simp; omega, hb9, unhide HR2⟩
          case measure => simp [intOf]; omega
        · have e46 : (xs.getD k 0 == 46) = false := by simpa using h46
          have HR2 : Hid (res = ls ++ Spl.splitA ((xs.drop f).take (k + 1 - f)) (xs.drop (k + 1))) := by
            have := unhide HR
            rw [if_neg h46] at this
            rw [piece_next hfk hlt]; exact this
          clear HR h46
          generalize xs.getD k 0 = c at *
          go_wp2
          go_roundw
          case rel => exact ⟨k + 1, f, ls, by go_num, by omega, rfl, by omega, hmu, hBU, by omega, hbel, unhide HR2⟩
          case measure => simp [intOf]; omega
      · obtain rfl : k = xs.length := by omega
        have hres2 : res = ls ++ [xs.drop f] := by
          rw [hres, List.drop_length, List.take_of_length_le (by rw [List.length_drop]; omega)]; rfl
        subst hres2
        have hcut := ((unhide HV).below hbel).cut (l := f) (h := xs.length) (m := cap) (by omega) (by omega) (by omega) (by omega)
        rw [List.take_of_length_le (by rw [List.length_drop]; omega)] at hcut
        have hpl : (xs.drop f).length ≤ 1000000000 := by rw [List.length_drop]; omega
        have HQ := hide (copied_any _ _ wr hcut hpl)
        clear hcut hres HC HSP
        by_cases hcp : cap = f
        · simp only [sliced, hcp, if_true, Nat.sub_self] at HQ
          generalize xs.drop f = p at *
          go_wp2_with fail
          refine (unhide HQ).mono ?_
          rintro e w1 ⟨v1, rfl, ok1, hb1⟩
          obtain ⟨ms, m1, m2, m3, m4, m5⟩ := hmu.below hb1
          have hb2 : Below w.heap.size w w1 := bthen hbel hb1
          have hs1 := hb1.size
          obtain ⟨aop, cpp, hvp, _, _⟩ := ok1.sk.shape
          subst hvp
          clear HQ hmu hbel hb1
          go_wp2_with (at_builtin; refine wpList_append_own _ rfl (.tmp 27) (.tmp 32) 40 rfl w.heap.size 22 j0 (.slice none 0 0) 1 24 Try.underlying40 hj hj0 hj1 hj2 rfl (by decide) _ _ _ rfl (m2.alloc _) ⟨w1.heap.size, 0, none⟩ 1 1 [.slice aop p.length cpp] rfl rfl (cell_one_new _ _ _) (slice_one _ _ _) (by unfold maxLen; omega) (by omega) (by simp; omega) ?_)
          intro v9 w9 hrow9 hg9 _
          have hm9 := Mu.snoc hBU m1 m2 m3 m4 m5 ok1 hrow9 hg9
          have hb9 : Below w.heap.size w w9 := below_append (by omega) m2 hb2 hg9
          clear hrow9 hg9 m2 m3 m4 m5 ok1 hb2
          go_wp2
          go_ret
          exact ⟨_, rfl, hm9, hb9⟩
        · simp only [sliced, hcp, if_false, Option.map_some, Nat.mul_one, addr_add] at HQ
          generalize xs.drop f = p at *
          go_wp2_with fail
          refine (unhide HQ).mono ?_
          rintro e w1 ⟨v1, rfl, ok1, hb1⟩
          obtain ⟨ms, m1, m2, m3, m4, m5⟩ := hmu.below hb1
          have hb2 : Below w.heap.size w w1 := bthen hbel hb1
          have hs1 := hb1.size
          obtain ⟨aop, cpp, hvp, _, _⟩ := ok1.sk.shape
          subst hvp
          clear HQ hmu hbel hb1
          go_wp2_with (at_builtin; refine wpList_append_own _ rfl (.tmp 27) (.tmp 32) 40 rfl w.heap.size 22 j0 (.slice none 0 0) 1 24 Try.underlying40 hj hj0 hj1 hj2 rfl (by decide) _ _ _ rfl (m2.alloc _) ⟨w1.heap.size, 0, none⟩ 1 1 [.slice aop p.length cpp] rfl rfl (cell_one_new _ _ _) (slice_one _ _ _) (by unfold maxLen; omega) (by omega) (by simp; omega) ?_)
          intro v9 w9 hrow9 hg9 _
          have hm9 := Mu.snoc hBU m1 m2 m3 m4 m5 ok1 hrow9 hg9
          have hb9 : Below w.heap.size w w9 := below_append (by omega) m2 hb2 hg9
          clear hrow9 hg9 m2 m3 m4 m5 ok1 hb2
          go_wp2
          go_ret
          exact ⟨_, rfl, hm9, hb9⟩

theorem Mu.rwsS {w : World} {B U : Nat} {v : Value} {xss : List (List Int)} (h : Mu w B U v xss) (hl : xss.length ≤ 1000000001) : Rws w v xss := by
  obtain ⟨us, h1, h2, h3, h4, h5⟩ := h
  exact ⟨us, h1, Ow.sv (e := 22) (B := B) ⟨by omega, by rw [h1]; exact h2⟩, fun i hi => (h3 i hi).sk⟩
theorem splC : SplC := fun v xs w hv hl => (splO_any v xs w hv hl).mono fun _ _ ⟨u, h1, h2, h3⟩ => ⟨u, h1, h2.rwsS (by have := Spl.splitA_len [] xs; unfold Spl.split; omega), h3⟩
end Go.Proofs.Ytchjnplceelgoaa
