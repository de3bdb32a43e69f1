/- Where a run begins behind a number; whether two runs meet. -/
import Derived.Test.YtlmcmlbmnnjjpaaGreatDoorTbP7
import Derived.Deep.QuietTactic
import Derived.BigQuiet
namespace Go.Proofs.YtlmcmlbmnnjjpaaGreatDoor
open Go.RowKit

/-- A run of code points. -/
structure RunOk (lo hi s : Int) : Prop where
  l0 : 0 ≤ lo
  lh : lo ≤ hi
  h1 : hi ≤ 1114111
  s0 : 1 ≤ s
  s1 : s ≤ 64
def fromI (lo s c : Int) : Int := if c ≤ lo then lo else c + (s - (c - lo) % s) % s
set_option maxRecDepth 8000 in
set_option maxHeartbeats 4000000 in
theorem from_any (lo hi s c : Int) (w : World) (h : RunOk lo hi s) (hc : 0 ≤ c ∧ c ≤ 1114111) : Calls Tryz.prog 108 #[runV lo hi s, .int .i64 c] w (IntB w (fromI lo s c)) := by
  have hb : Below w.heap.size w (w.alloc (.cells #[.int .i64 lo, .int .i64 hi, .int .i64 s] 116)) := (Below.refl _ _).alloc (Nat.le_refl _) _
  obtain ⟨l0, lh, h1, s0, s1⟩ := h
  obtain ⟨c0, c1⟩ := hc
  unfold runV fromI
  by_cases hle : c ≤ lo
  · rw [if_pos hle]
    have d := decide_eq_true hle
    go_enter Tryz.func108, Tryz.ntmps108
    go_wp2
    go_ret
    exact ⟨rfl, hb⟩
  · rw [if_neg hle]
    have d := decide_eq_false hle
    have m0 := Int.emod_nonneg (c - lo) (show s ≠ 0 by omega)
    have m1 := Int.emod_lt_of_pos (c - lo) (show 0 < s by omega)
    have n0 := Int.emod_nonneg (s - (c - lo) % s) (show s ≠ 0 by omega)
    have n1 := Int.emod_lt_of_pos (s - (c - lo) % s) (show 0 < s by omega)
    have e1 : (c - lo).tmod s = (c - lo) % s := Int.tmod_eq_emod_of_nonneg (by omega)
    have e2 : (s - (c - lo) % s).tmod s = (s - (c - lo) % s) % s := Int.tmod_eq_emod_of_nonneg (by omega)
    have w1 : IntKind.i64.wrap (c - lo) = c - lo := IntWalk.i64_in _ ⟨by omega, by omega⟩
    have w2 : IntKind.i64.wrap (s - (c - lo) % s) = s - (c - lo) % s := IntWalk.i64_in _ ⟨by omega, by omega⟩
    have w3 : IntKind.i64.wrap ((c - lo) % s) = (c - lo) % s := IntWalk.i64_in _ ⟨by omega, by omega⟩
    have w4 : IntKind.i64.wrap ((s - (c - lo) % s) % s) = (s - (c - lo) % s) % s := IntWalk.i64_in _ ⟨by omega, by omega⟩
    have w5 : IntKind.i64.wrap (c + (s - (c - lo) % s) % s) = c + (s - (c - lo) % s) % s := IntWalk.i64_in _ ⟨by omega, by omega⟩
    have q0 : (s == 0) = false := beq_eq_false_iff_ne.2 (by omega)
    go_enter Tryz.func108, Tryz.ntmps108
    go_wp2
    go_quiet (fail)
    go_wp2
    go_ret
    have e3 : (s - (c - lo) % s) % s = -((c - lo) % s) % s := by
      rw [show s - (c - lo) % s = -((c - lo) % s) + s * 1 by omega, Int.add_mul_emod_self_left]
    refine ⟨?_, bthen hb (drewB ⟨_, rfl⟩)⟩
    show Ending.returned (.int .i64 (wrap64 (c + -((c - lo) % s) % s))) = _
    rw [← e3, IntWalk.wrap64_in _ ⟨by omega, by omega⟩]
/-- Along the run with the greater step. -/
def mA (s hi : Int) (p : Int → Bool) : Nat → Int → Bool
  | 0, _ => false
  | k + 1, c => if hi < c then false else if p c then true else mA s hi p k (c + s)
/-- Whether two runs meet, as the program asks it. -/
def meetsB (lo hi s lo' hi' s' : Int) : Bool :=
  if hi < lo' ∨ hi' < lo then false
  else if s < s' then mA s' hi' (hasB lo hi s) s.toNat (fromI lo' s' lo)
  else mA s hi (hasB lo' hi' s') s'.toNat (fromI lo s lo')
set_option maxRecDepth 8000 in
set_option maxHeartbeats 4000000 in
theorem meets_any (lo hi s lo' hi' s' : Int) (w : World) (h : RunOk lo hi s) (h' : RunOk lo' hi' s') : Calls Tryz.prog 75 #[runV lo hi s, runV lo' hi' s'] w (BoolB w (meetsB lo hi s lo' hi' s')) := by
  have hb0 := below2 w (.cells #[.int .i64 lo, .int .i64 hi, .int .i64 s] 116) (.cells #[.int .i64 lo', .int .i64 hi', .int .i64 s'] 116)
  unfold meetsB
  by_cases ha : hi < lo'
  · rw [if_pos (.inl ha)]
    have d := decide_eq_true ha
    unfold runV
    go_enter Tryz.func75, Tryz.ntmps75
    go_wp2
    go_ret
    exact ⟨rfl, hb0⟩
  · have d := decide_eq_false ha
    by_cases hc : hi' < lo
    · rw [if_pos (.inr hc)]
      have d2 := decide_eq_true hc
      unfold runV
      go_enter Tryz.func75, Tryz.ntmps75
      go_wp2
      go_ret
      exact ⟨rfl, hb0⟩
    · rw [if_neg (by omega)]
      have d2 := decide_eq_false hc
      by_cases hs : s < s'
      · rw [if_pos hs]
        have d3 := decide_eq_true hs
        have hbb := below2 w (.cells #[.int .i64 lo', .int .i64 hi', .int .i64 s'] 116) (.cells #[.int .i64 lo, .int .i64 hi, .int .i64 s] 116)
        have KFR := hide (from_any lo' hi' s' lo ((w.alloc (.cells #[.int .i64 lo', .int .i64 hi', .int .i64 s'] 116)).alloc (.cells #[.int .i64 lo, .int .i64 hi, .int .i64 s] 116)) h' ⟨h.l0, by have := h.lh; have := h.h1; omega⟩)
        have KH : Hid (∀ c W, -10 ≤ c ∧ c ≤ 2000000 → Calls Tryz.prog 109 #[.agg #[.int .i64 lo, .int .i64 hi, .int .i64 s], .int .i64 c] W (BoolB W (hasB lo hi s c))) := fun c W hc => has_any lo hi s c W ⟨by have := h.l0; omega, by have := h.lh; have := h.h1; omega⟩ ⟨by have := h.l0; have := h.lh; omega, by have := h.h1; omega⟩ ⟨by have := h.s0; omega, by have := h.s1; omega⟩ ⟨by omega, by omega⟩
        have HX : Hid (∀ W, Below ((w.alloc (.cells #[.int .i64 lo', .int .i64 hi', .int .i64 s'] 116)).alloc (.cells #[.int .i64 lo, .int .i64 hi, .int .i64 s] 116)).heap.size ((w.alloc (.cells #[.int .i64 lo', .int .i64 hi', .int .i64 s'] 116)).alloc (.cells #[.int .i64 lo, .int .i64 hi, .int .i64 s] 116)) W → W.cell? ⟨w.heap.size, 1, none⟩ = some (.int .i64 hi') ∧ W.cell? ⟨w.heap.size, 2, none⟩ = some (.int .i64 s')) := fun W h => by
          have h0 : ((w.alloc (.cells #[.int .i64 lo', .int .i64 hi', .int .i64 s'] 116)).alloc (.cells #[.int .i64 lo, .int .i64 hi, .int .i64 s] 116)).heap[w.heap.size]? = some (.cells #[.int .i64 lo', .int .i64 hi', .int .i64 s'] 116 (0, 0)) := by
            show ((w.heap.push _).push _)[w.heap.size]? = _
            rw [Array.getElem?_push_lt (by simp)]
            simp
          have h2 : W.heap[w.heap.size]? = _ := (h.block _ (by simp; omega)).trans h0
          exact ⟨cell_of (j := 1) h2 (by simp), cell_of (j := 2) h2 (by simp)⟩
        have HY : Hid (∀ W, Below ((w.alloc (.cells #[.int .i64 lo', .int .i64 hi', .int .i64 s'] 116)).alloc (.cells #[.int .i64 lo, .int .i64 hi, .int .i64 s] 116)).heap.size ((w.alloc (.cells #[.int .i64 lo', .int .i64 hi', .int .i64 s'] 116)).alloc (.cells #[.int .i64 lo, .int .i64 hi, .int .i64 s] 116)) W → W.cell? ⟨w.heap.size + 1, 0, none⟩ = some (.int .i64 lo) ∧ W.cell? ⟨w.heap.size + 1, 1, none⟩ = some (.int .i64 hi) ∧ W.cell? ⟨w.heap.size + 1, 2, none⟩ = some (.int .i64 s)) := fun W h => ⟨box_cell (j := 0) h rfl, box_cell (j := 1) h rfl, box_cell (j := 2) h rfl⟩
        obtain ⟨N, hN⟩ : ∃ N : Nat, s = (N : Int) := ⟨s.toNat, by have := h.s0; omega⟩
        have hN1 : N ≤ 64 := by have := h.s1; omega
        have ht : s.toNat = N := by omega
        have hfb : 0 ≤ fromI lo' s' lo ∧ fromI lo' s' lo ≤ 1114300 := by
          obtain ⟨a0, a1, a2, a3, a4⟩ := h'
          obtain ⟨b0, b1, b2, b3, b4⟩ := h
          unfold fromI
          split
          · omega
          · have := Int.emod_nonneg (s' - (lo - lo') % s') (show s' ≠ 0 by omega)
            have := Int.emod_lt_of_pos (s' - (lo - lo') % s') (show 0 < s' by omega)
            omega
        have hxb : 0 ≤ hi' ∧ hi' ≤ 1114111 := ⟨by have := h'.l0; have := h'.lh; omega, h'.h1⟩
        have hsb : 1 ≤ s' ∧ s' ≤ 64 := ⟨h'.s0, h'.s1⟩
        rw [ht]
        have HN := hide hN
        clear h h' hb0 ht hN
        generalize hfm : fromI lo' s' lo = c0 at *
        clear hfm
        generalize hhas : hasB lo hi s = p at *
        clear hhas
        generalize hr0 : mA s' hi' p N c0 = res at *
        have HR0 := hide hr0.symm
        clear hr0
        unfold runV at *
        go_enter Tryz.func75, Tryz.ntmps75
        go_wp2_with fail
        refine (unhide KFR).mono ?_
        rintro e w1 ⟨rfl, hb1⟩
        have y2 := ((unhide HY) w1 hb1).2.2
        rw [unhide HN] at y2
        have hbb := bthen hbb hb1
        have HX := hide (fun W (h : Below w1.heap.size w1 W) => (unhide HX) W (bthen hb1 h))
        have HY := hide (fun W (h : Below w1.heap.size w1 W) => (unhide HY) W (bthen hb1 h))
        clear KFR hb1 HN
        go_wp2
        go_loopw [5, 31] (fun cv iv wr => ∃ (k : Nat) (c : Int), cv = .int .i64 c ∧ iv = .int .i64 k ∧ k ≤ N ∧ 0 ≤ c ∧ c ≤ 1114300 ∧ res = mA s' hi' p (N - k) c ∧ Below w1.heap.size w1 wr) (fun _ iv _ => N - (intOf iv).toNat)
        case atStart => exact ⟨0, c0, rfl, rfl, by omega, hfb.1, hfb.2, unhide HR0, Below.refl _ _⟩
        case round =>
          obtain ⟨k, c, rfl, rfl, hk, hc0, hc1, hres, hB⟩ := hrel
          clear HR0 y2
          by_cases hlt : k < N
          · obtain ⟨M, hM⟩ : ∃ M, N - k = M + 1 := ⟨N - k - 1, by omega⟩
            rw [hM, mA] at hres
            obtain ⟨x1, x2⟩ := (unhide HX) wr hB
            obtain ⟨z0, z1, z2⟩ := (unhide HY) wr hB
            by_cases hgt : hi' < c
            · rw [if_pos hgt] at hres
              subst hres
              have dg := decide_eq_true hgt
              have HF : BoolB w false (.returned (.bool false)) wr := ⟨rfl, bthen hbb hB⟩
              clear KH HX HY hB hM
              go_wp2
              go_ret
              exact HF
            · rw [if_neg hgt] at hres
              have dg := decide_eq_false hgt
              have KC := hide ((unhide KH) c wr ⟨by omega, by omega⟩)
              have HBB := hide hB
              clear KH hB
              cases hp : p c with
              | true =>
                rw [hp, if_pos rfl] at hres
                subst hres
                rw [hp] at KC
                clear hM HX HY
                go_wp2_with fail
                refine (unhide KC).mono ?_
                rintro e w2 ⟨rfl, hb2⟩
                have HF : BoolB w true (.returned (.bool true)) w2 := ⟨rfl, bthen (bthen hbb (unhide HBB)) hb2⟩
                clear KC hb2 HBB x1 x2 z0 z1 z2
                go_wp2
                go_ret
                exact HF
              | false =>
                rw [hp, if_neg (by decide)] at hres
                rw [hp] at KC
                have HRES : Hid (res = mA s' hi' p (N - (k + 1)) (c + s')) := by rw [show N - (k + 1) = M by omega]; exact hres
                have HX2 : Hid (∀ W, Below wr.heap.size wr W → W.cell? ⟨w.heap.size, 2, none⟩ = some (.int .i64 s')) := fun W h => ((unhide HX) W (bthen (unhide HBB) h)).2
                clear hM HX HY hres
                go_wp2_with fail
                refine (unhide KC).mono ?_
                rintro e w2 ⟨rfl, hb2⟩
                have y := (unhide HX2) w2 hb2
                have HB2 := hide (bthen (unhide HBB) hb2)
                have hw : IntKind.i64.wrap (c + s') = c + s' := IntWalk.i64_in _ ⟨by omega, by omega⟩
                clear KC hb2 HBB HX2 x1 x2 z0 z1 z2
                go_wp2
                go_round
                case rel => exact ⟨k + 1, c + s', by go_num, by go_num, by omega, by omega, by omega, unhide HRES, unhide HB2⟩
                case measure => simp [intOf]; omega
          · have e0 : N - k = 0 := by omega
            rw [e0, mA] at hres
            subst hres
            have HF : BoolB w false (.returned (.bool false)) wr := ⟨rfl, bthen hbb hB⟩
            clear KH HX HY hB
            go_wp2
            go_ret
            exact HF
      · rw [if_neg hs]
        have d3 := decide_eq_false hs
        have hbb := below2 w (.cells #[.int .i64 lo, .int .i64 hi, .int .i64 s] 116) (.cells #[.int .i64 lo', .int .i64 hi', .int .i64 s'] 116)
        have KFR := hide (from_any lo hi s lo' ((w.alloc (.cells #[.int .i64 lo, .int .i64 hi, .int .i64 s] 116)).alloc (.cells #[.int .i64 lo', .int .i64 hi', .int .i64 s'] 116)) h ⟨h'.l0, by have := h'.lh; have := h'.h1; omega⟩)
        have KH : Hid (∀ c W, -10 ≤ c ∧ c ≤ 2000000 → Calls Tryz.prog 109 #[.agg #[.int .i64 lo', .int .i64 hi', .int .i64 s'], .int .i64 c] W (BoolB W (hasB lo' hi' s' c))) := fun c W hc => has_any lo' hi' s' c W ⟨by have := h'.l0; omega, by have := h'.lh; have := h'.h1; omega⟩ ⟨by have := h'.l0; have := h'.lh; omega, by have := h'.h1; omega⟩ ⟨by have := h'.s0; omega, by have := h'.s1; omega⟩ ⟨by omega, by omega⟩
        have HX : Hid (∀ W, Below ((w.alloc (.cells #[.int .i64 lo, .int .i64 hi, .int .i64 s] 116)).alloc (.cells #[.int .i64 lo', .int .i64 hi', .int .i64 s'] 116)).heap.size ((w.alloc (.cells #[.int .i64 lo, .int .i64 hi, .int .i64 s] 116)).alloc (.cells #[.int .i64 lo', .int .i64 hi', .int .i64 s'] 116)) W → W.cell? ⟨w.heap.size, 1, none⟩ = some (.int .i64 hi) ∧ W.cell? ⟨w.heap.size, 2, none⟩ = some (.int .i64 s)) := fun W h => by
          have h0 : ((w.alloc (.cells #[.int .i64 lo, .int .i64 hi, .int .i64 s] 116)).alloc (.cells #[.int .i64 lo', .int .i64 hi', .int .i64 s'] 116)).heap[w.heap.size]? = some (.cells #[.int .i64 lo, .int .i64 hi, .int .i64 s] 116 (0, 0)) := by
            show ((w.heap.push _).push _)[w.heap.size]? = _
            rw [Array.getElem?_push_lt (by simp)]
            simp
          have h2 : W.heap[w.heap.size]? = _ := (h.block _ (by simp; omega)).trans h0
          exact ⟨cell_of (j := 1) h2 (by simp), cell_of (j := 2) h2 (by simp)⟩
        have HY : Hid (∀ W, Below ((w.alloc (.cells #[.int .i64 lo, .int .i64 hi, .int .i64 s] 116)).alloc (.cells #[.int .i64 lo', .int .i64 hi', .int .i64 s'] 116)).heap.size ((w.alloc (.cells #[.int .i64 lo, .int .i64 hi, .int .i64 s] 116)).alloc (.cells #[.int .i64 lo', .int .i64 hi', .int .i64 s'] 116)) W → W.cell? ⟨w.heap.size + 1, 0, none⟩ = some (.int .i64 lo') ∧ W.cell? ⟨w.heap.size + 1, 1, none⟩ = some (.int .i64 hi') ∧ W.cell? ⟨w.heap.size + 1, 2, none⟩ = some (.int .i64 s')) := fun W h => ⟨box_cell (j := 0) h rfl, box_cell (j := 1) h rfl, box_cell (j := 2) h rfl⟩
        obtain ⟨N, hN⟩ : ∃ N : Nat, s' = (N : Int) := ⟨s'.toNat, by have := h'.s0; omega⟩
        have hN1 : N ≤ 64 := by have := h'.s1; omega
        have ht : s'.toNat = N := by omega
        have hfb : 0 ≤ fromI lo s lo' ∧ fromI lo s lo' ≤ 1114300 := by
          obtain ⟨a0, a1, a2, a3, a4⟩ := h
          obtain ⟨b0, b1, b2, b3, b4⟩ := h'
          unfold fromI
          split
          · omega
          · have := Int.emod_nonneg (s - (lo' - lo) % s) (show s ≠ 0 by omega)
            have := Int.emod_lt_of_pos (s - (lo' - lo) % s) (show 0 < s by omega)
            omega
        have hxb : 0 ≤ hi ∧ hi ≤ 1114111 := ⟨by have := h.l0; have := h.lh; omega, h.h1⟩
        have hsb : 1 ≤ s ∧ s ≤ 64 := ⟨h.s0, h.s1⟩
        rw [ht]
        have HN := hide hN
        clear h h' hb0 ht hN
        generalize hfm : fromI lo s lo' = c0 at *
        clear hfm
        generalize hhas : hasB lo' hi' s' = p at *
        clear hhas
        generalize hr0 : mA s hi p N c0 = res at *
        have HR0 := hide hr0.symm
        clear hr0
        unfold runV at *
        go_enter Tryz.func75, Tryz.ntmps75
        go_wp2_with fail
        refine (unhide KFR).mono ?_
        rintro e w1 ⟨rfl, hb1⟩
        have y2 := ((unhide HY) w1 hb1).2.2
        rw [unhide HN] at y2
        have hbb := bthen hbb hb1
        have HX := hide (fun W (h : Below w1.heap.size w1 W) => (unhide HX) W (bthen hb1 h))
        have HY := hide (fun W (h : Below w1.heap.size w1 W) => (unhide HY) W (bthen hb1 h))
        clear KFR hb1 HN
        go_wp2
        go_loopw [5, 31] (fun cv iv wr => ∃ (k : Nat) (c : Int), cv = .int .i64 c ∧ iv = .int .i64 k ∧ k ≤ N ∧ 0 ≤ c ∧ c ≤ 1114300 ∧ res = mA s hi p (N - k) c ∧ Below w1.heap.size w1 wr) (fun _ iv _ => N - (intOf iv).toNat)
        case atStart => exact ⟨0, c0, rfl, rfl, by omega, hfb.1, hfb.2, unhide HR0, Below.refl _ _⟩
        case round =>
          obtain ⟨k, c, rfl, rfl, hk, hc0, hc1, hres, hB⟩ := hrel
          clear HR0 y2
          by_cases hlt : k < N
          · obtain ⟨M, hM⟩ : ∃ M, N - k = M + 1 := ⟨N - k - 1, by omega⟩
            rw [hM, mA] at hres
            obtain ⟨x1, x2⟩ := (unhide HX) wr hB
            obtain ⟨z0, z1, z2⟩ := (unhide HY) wr hB
            by_cases hgt : hi < c
            · rw [if_pos hgt] at hres
              subst hres
              have dg := decide_eq_true hgt
              have HF : BoolB w false (.returned (.bool false)) wr := ⟨rfl, bthen hbb hB⟩
              clear KH HX HY hB hM
              go_wp2
              go_ret
              exact HF
            · rw [if_neg hgt] at hres
              have dg := decide_eq_false hgt
              have KC := hide ((unhide KH) c wr ⟨by omega, by omega⟩)
              have HBB := hide hB
              clear KH hB
              cases hp : p c with
              | true =>
                rw [hp, if_pos rfl] at hres
                subst hres
                rw [hp] at KC
                clear hM HX HY
                go_wp2_with fail
                refine (unhide KC).mono ?_
                rintro e w2 ⟨rfl, hb2⟩
                have HF : BoolB w true (.returned (.bool true)) w2 := ⟨rfl, bthen (bthen hbb (unhide HBB)) hb2⟩
                clear KC hb2 HBB x1 x2 z0 z1 z2
                go_wp2
                go_ret
                exact HF
              | false =>
                rw [hp, if_neg (by decide)] at hres
                rw [hp] at KC
                have HRES : Hid (res = mA s hi p (N - (k + 1)) (c + s)) := by rw [show N - (k + 1) = M by omega]; exact hres
                have HX2 : Hid (∀ W, Below wr.heap.size wr W → W.cell? ⟨w.heap.size, 2, none⟩ = some (.int .i64 s)) := fun W h => ((unhide HX) W (bthen (unhide HBB) h)).2
                clear hM HX HY hres
                go_wp2_with fail
                refine (unhide KC).mono ?_
                rintro e w2 ⟨rfl, hb2⟩
                have y := (unhide HX2) w2 hb2
                have HB2 := hide (bthen (unhide HBB) hb2)
                have hw : IntKind.i64.wrap (c + s) = c + s := IntWalk.i64_in _ ⟨by omega, by omega⟩
                clear KC hb2 HBB HX2 x1 x2 z0 z1 z2
                go_wp2
                go_round
                case rel => exact ⟨k + 1, c + s, by go_num, by go_num, by omega, by omega, by omega, unhide HRES, unhide HB2⟩
                case measure => simp [intOf]; omega
          · have e0 : N - k = 0 := by omega
            rw [e0, mA] at hres
            subst hres
            have HF : BoolB w false (.returned (.bool false)) wr := ⟨rfl, bthen hbb hB⟩
            clear KH HX HY hB
            go_wp2
            go_ret
            exact HF
end Go.Proofs.YtlmcmlbmnnjjpaaGreatDoor
