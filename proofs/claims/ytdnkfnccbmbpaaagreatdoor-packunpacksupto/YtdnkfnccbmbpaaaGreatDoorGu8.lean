import Derived.Test.YtdnkfnccbmbpaaaGreatDoorMTbO7
import Derived.Deep.QuietTactic
import Derived.BigQuiet
import Derived.Test.YtdnkfnccbmbpaaaGreatDoorGc8
/- The contract of table's Right, for each shape; the first record that is not right. -/
namespace Go.Proofs.YtdnkfnccbmbpaaaGreatDoor
open Go.RowKit

theorem enters_pl4 : ∀ args w, (callFunc 155 args).run Tryz.prog w = .ok (.enter 155 args) w := enters_of Tryz.func155 (by kernel_rfl) rfl
theorem enters_pl5 : ∀ args w, (callFunc 159 args).run Tryz.prog w = .ok (.enter 159 args) w := enters_of Tryz.func159 (by kernel_rfl) rfl
theorem enters_pl15 : ∀ args w, (callFunc 162 args).run Tryz.prog w = .ok (.enter 162 args) w := enters_of Tryz.func162 (by kernel_rfl) rfl
theorem enters_pl1 : ∀ args w, (callFunc 154 args).run Tryz.prog w = .ok (.enter 154 args) w := enters_of Tryz.func154 (by kernel_rfl) rfl
/-- 6.1. -/
def RightT : Prop := ∀ (r : Rec) (vt : Value) (w : World), Glob w → RecFit r → Sk .i32 w vt r.to → Calls Tryz.prog 39 #[recV r vt] w (IntB w (Cn.right r))
theorem right_any : RightT := by
  intro r vt w hg hf hs
  have e : Cn.right r = if Cn.fam r.kind = 0 then 60 else if (plB r && (tarB r.kind r && (numB r.kind r && (namB r.kind r && weiB r.kind r)))) = true then 0 else 61 := by
    by_cases h0 : Cn.fam r.kind = 0
    · rw [if_pos h0]
      unfold Cn.right
      rw [if_pos h0]
    · rw [if_neg h0, right_eq r h0]
      rfl
  rw [e]
  have KF : ∀ W, Below w.heap.size w W → Calls Tryz.prog 99 #[shV r.kind] W (IntB W (Cn.fam r.kind)) := fun W h => sharedFam_any r.kind W (hg.on h) hf.kind
  have K2 : ∀ W, Below w.heap.size w W → Calls Tryz.prog 139 #[shV r.kind, recV r vt] W (BoolB W (tarB r.kind r)) := fun W h => targeted_any r.kind r vt W (hg.on h) hf.kind (hs.below h)
  have K3 : ∀ W, Below w.heap.size w W → Calls Tryz.prog 136 #[shV r.kind, recV r vt] W (BoolB W (numB r.kind r)) := fun W h => numbered_any r.kind r vt W (hg.on h) hf.kind hf.n
  have K4 : ∀ W, Below w.heap.size w W → Calls Tryz.prog 134 #[shV r.kind, recV r vt] W (BoolB W (namB r.kind r)) := fun W h => named_any r.kind r vt W (hg.on h) hf.kind
  have K5 : ∀ W, Below w.heap.size w W → Calls Tryz.prog 140 #[shV r.kind, recV r vt] W (BoolB W (weiB r.kind r)) := fun W h => weighed_any r.kind r vt W (hg.on h) hf.kind hf.wt
  by_cases h4 : r.kind = 4
  · have ep : plB r = shiftB r := by unfold plB; rw [if_pos h4]
    have es : shape r.kind = .iface 136 (.agg #[.int .i64 r.kind]) := by unfold shape shV; rw [if_pos h4]
    rw [ep]
    exact right_core 136 155 r vt w (fun W => es ▸ shapeOf_any r.kind W hf.kind) KF (mFamilyShifted _) (mPlacedShifted _) (mTargetedShifted _) (mNumberedShifted _) (mNamedShifted _) (mWeighedShifted _) enters_pl4 _ _ _ _ _ (fun W h => placedShifted_any r.kind r vt W hf (hs.below h)) K2 K3 K4 K5
  · by_cases h5 : r.kind = 5 ∨ r.kind = 7 ∨ r.kind = 8 ∨ r.kind = 13
    · have ep : plB r = (decide (r.lo = r.hi) && Cn.scalar r.lo) := by unfold plB; rw [if_neg h4, if_pos h5]
      have es : shape r.kind = .iface 137 (.agg #[.int .i64 r.kind]) := by unfold shape shV; rw [if_neg h4, if_pos h5]
      rw [ep]
      exact right_core 137 159 r vt w (fun W => es ▸ shapeOf_any r.kind W hf.kind) KF (mFamilySingle _) (mPlacedSingle _) (mTargetedSingle _) (mNumberedSingle _) (mNamedSingle _) (mWeighedSingle _) enters_pl5 _ _ _ _ _ (fun W _ => placedSingle_any r.kind r vt W hf) K2 K3 K4 K5
    · by_cases h15 : r.kind = 15
      · have ep : plB r = decide (r.lo = 0 ∧ r.hi = 0) := by unfold plB; rw [if_neg h4, if_neg h5, if_pos h15]
        have es : shape r.kind = .iface 138 (.agg #[.int .i64 r.kind]) := by unfold shape shV; rw [if_neg h4, if_neg h5, if_pos h15]
        rw [ep]
        exact right_core 138 162 r vt w (fun W => es ▸ shapeOf_any r.kind W hf.kind) KF (mFamilyPaired _) (mPlacedPaired _) (mTargetedPaired _) (mNumberedPaired _) (mNamedPaired _) (mWeighedPaired _) enters_pl15 _ _ _ _ _ (fun W _ => placedPaired_any r.kind r vt W hf) K2 K3 K4 K5
      · have ep : plB r = spanB r := by unfold plB; rw [if_neg h4, if_neg h5, if_neg h15]
        have es : shape r.kind = .iface 134 (.agg #[.int .i64 r.kind]) := by unfold shape shV; rw [if_neg h4, if_neg h5, if_neg h15]
        rw [ep]
        exact right_core 134 154 r vt w (fun W => es ▸ shapeOf_any r.kind W hf.kind) KF (mFamilySpanned _) (mPlacedSpanned _) (mTargetedSpanned _) (mNumberedSpanned _) (mNamedSpanned _) (mWeighedSpanned _) enters_pl1 _ _ _ _ _ (fun W _ => placedSpanned_any r.kind r vt W hf) K2 K3 K4 K5
/-- The first record that is not right, unless there are too many. -/
def firstW (rs : List Rec) : Nat × Int := if 4096 < rs.length then (0, 3) else match Cn.rightA 0 rs with | some x => x | Option.none => (0, 0)
def tailF (rs : List Rec) (k : Nat) : Nat × Int := match Cn.rightA k (rs.drop k) with | some x => x | Option.none => (0, 0)
theorem tf_hit {rs : List Rec} {k : Nat} (hk : k < rs.length) (h : Cn.right (rs.getD k Cn.none) ≠ 0) : tailF rs k = (k, Cn.right (rs.getD k Cn.none)) := by
  have e : rs.getD k Cn.none = rs[k] := by simp [List.getD, hk]
  rw [e] at h ⊢
  unfold tailF
  rw [List.drop_eq_getElem_cons hk, Cn.rightA, if_neg h]
theorem tf_next {rs : List Rec} {k : Nat} (hk : k < rs.length) (h : Cn.right (rs.getD k Cn.none) = 0) : tailF rs k = tailF rs (k + 1) := by
  have e : rs.getD k Cn.none = rs[k] := by simp [List.getD, hk]
  rw [e] at h
  unfold tailF
  rw [List.drop_eq_getElem_cons hk, Cn.rightA, if_pos h]
theorem tf_end (rs : List Rec) : tailF rs rs.length = (0, 0) := by
  unfold tailF
  rw [List.drop_length, Cn.rightA]
def PairIB (w : World) (x : Nat × Int) (e : Ending) (w' : World) : Prop := e = .returned (.tuple #[.int .i64 (x.1 : Int), .int .i64 x.2]) ∧ Below w.heap.size w w'
set_option maxRecDepth 8000 in
set_option maxHeartbeats 4000000 in
theorem firstWrong_any (v : Value) (rs : List Rec) (w : World) (hg : Glob w) (hv : Rcs w v rs) : Calls Tryz.prog 23 #[v] w (PairIB w (firstW rs)) := by
  have hlen := hv.1
  by_cases hbig : 4096 < rs.length
  · have e : firstW rs = (0, 3) := by unfold firstW; rw [if_pos hbig]
    rw [e]
    obtain ⟨ao, cap, rfl, _, _⟩ := hv.shape
    clear hv hg e
    go_enter Tryz.func23, Tryz.ntmps23
    go_wp2
    go_ret2
    exact ⟨rfl, Below.refl _ _⟩
  · have HRES : Hid (firstW rs = tailF rs 0) := by
      show firstW rs = tailF rs 0
      unfold firstW tailF
      rw [if_neg hbig, List.drop_zero]
    have HI0 : Hid (RIn w v rs w) := ⟨hv, Below.refl _ _⟩
    have HG := hide (fun W (h : Below w.heap.size w W) => hg.on h)
    obtain ⟨ao, cap, rfl, h1, h2⟩ := hv.shape
    clear hv hg
    generalize firstW rs = res at *
    go_enter Tryz.func23, Tryz.ntmps23
    go_wp2
    go_loopw [4, 5, 6, 12] (fun _ _ _ i wr => ∃ k : Nat, i = .int .i64 k ∧ k ≤ rs.length ∧ res = tailF rs k ∧ RIn w (.slice ao rs.length cap) rs wr) (fun _ _ _ i _ => rs.length - (intOf i).toNat)
    case atStart => exact ⟨0, rfl, by omega, unhide HRES, unhide HI0⟩
    case round =>
      obtain ⟨k, rfl, hk, hres, hin⟩ := hrel
      clear HRES HI0
      by_cases hlt : k < rs.length
      · obtain ⟨b, off, cap', he, hc1, hc2, hc⟩ := hin.1.place (by omega)
        obtain ⟨rfl, rfl⟩ : ao = some ⟨b, off, none⟩ ∧ cap = cap' := by simpa using he
        have hfit := hin.1.fit hlt
        obtain ⟨x0, x1, x2, x3, ⟨vt, x4, sk⟩, x5, x6, x7⟩ := hc k hlt
        have HN : Hid (Cn.right (rs.getD k Cn.none) = 0 → res = tailF rs (k + 1)) := fun h => hres.trans (tf_next hlt h)
        have HH : Hid (Cn.right (rs.getD k Cn.none) ≠ 0 → res = (k, Cn.right (rs.getD k Cn.none))) := fun h => hres.trans (tf_hit hlt h)
        have KR : Hid (∀ W, Below wr.heap.size wr W → Calls Tryz.prog 39 #[recV (rs.getD k Cn.none) vt] W (IntB W (Cn.right (rs.getD k Cn.none)))) := fun W h => right_any _ vt W ((unhide HG) W (hin.on h).2) hfit (sk.below h)
        have HIN := hide hin
        obtain ⟨to, tc, rfl, _, _⟩ := sk.shape
        clear hres hin hc he sk hfit HG
        unfold recV at KR
        generalize Cn.right (rs.getD k Cn.none) = y at KR HH HN
        generalize (rs.getD k Cn.none).kind = kd at *
        generalize (rs.getD k Cn.none).lo = lo at *
        generalize (rs.getD k Cn.none).hi = hi at *
        generalize (rs.getD k Cn.none).n = n at *
        generalize (rs.getD k Cn.none).name = nm at *
        generalize (rs.getD k Cn.none).other = ot at *
        generalize (rs.getD k Cn.none).wt = wt at *
        generalize (rs.getD k Cn.none).to.length = tl at *
        have hfl : ∀ W a m, (store a (.float .f64 wt) m).run Tryz.prog W = stored Tryz.prog W a (.float .f64 wt) m := fun W a m => run_store Tryz.prog W a _ m rfl
        go_wp2_with fail
        refine ((unhide KR) _ ((Below.refl _ _).alloc (Nat.le_refl _) _)).mono ?_
        rintro e w1 ⟨rfl, hb1⟩
        have hb2 := bthen ((Below.refl wr.heap.size wr).alloc (Nat.le_refl _) _) hb1
        clear KR x0 x1 x2 x3 x4 x5 x6 x7
        by_cases hy : y = 0
        · have HN2 := hide ((unhide HN) hy)
          subst hy
          have HI := hide ((unhide HIN).on hb2)
          clear HN HH HIN hb1 hb2
          go_wp2
          go_round
          case rel => exact ⟨k + 1, by go_num, by omega, unhide HN2, unhide HI⟩
          case measure => simp [intOf]; omega
        · obtain rfl := (unhide HH) hy
          have hyb : (y == 0) = false := beq_eq_false_iff_ne.2 hy
          have hyn : (y != 0) = true := by simp [hy]
          have HI := hide ((unhide HIN).on hb2).2
          clear HN HH HIN hb1 hb2
          go_wp2
          go_ret2
          exact ⟨rfl, unhide HI⟩
      · obtain rfl : k = rs.length := by omega
        obtain rfl := hres.trans (tf_end rs)
        have HF := hide hin.2
        clear hres hin HG
        go_wp2
        go_ret2
        exact ⟨rfl, unhide HF⟩
end Go.Proofs.YtdnkfnccbmbpaaaGreatDoor
/- Where a run begins behind a number; whether two runs meet. -/
namespace Go.Proofs.YtdnkfnccbmbpaaaGreatDoor
open Go.RowKit

/-- A run of code points. -/
structure RunOk (lo hi s : Int) : Prop where
  l0 : 0 ≤ lo
  lh : lo ≤ hi
  h1 : hi ≤ 1114111
  s0 : 1 ≤ s
  s1 : s ≤ 64
def fromI (lo s c : Int) : Int := if c ≤ lo then lo else c + (s - (c - lo) % s) % s
set_option maxRecDepth 8000 in
set_option maxHeartbeats 4000000 in
theorem from_any (lo hi s c : Int) (w : World) (h : RunOk lo hi s) (hc : 0 ≤ c ∧ c ≤ 1114111) : Calls Tryz.prog 101 #[runV lo hi s, .int .i64 c] w (IntB w (fromI lo s c)) := by
  have hb : Below w.heap.size w (w.alloc (.cells #[.int .i64 lo, .int .i64 hi, .int .i64 s] 112)) := (Below.refl _ _).alloc (Nat.le_refl _) _
  obtain ⟨l0, lh, h1, s0, s1⟩ := h
  obtain ⟨c0, c1⟩ := hc
  unfold runV fromI
  by_cases hle : c ≤ lo
  · rw [if_pos hle]
    have d := decide_eq_true hle
    go_enter Tryz.func101, Tryz.ntmps101
    go_wp2
    go_ret
    exact ⟨rfl, hb⟩
  · rw [if_neg hle]
    have d := decide_eq_false hle
    have m0 := Int.emod_nonneg (c - lo) (show s ≠ 0 by omega)
    have m1 := Int.emod_lt_of_pos (c - lo) (show 0 < s by omega)
    have n0 := Int.emod_nonneg (s - (c - lo) % s) (show s ≠ 0 by omega)
    have n1 := Int.emod_lt_of_pos (s - (c - lo) % s) (show 0 < s by omega)
    have e1 : (c - lo).tmod s = (c - lo) % s := Int.tmod_eq_emod_of_nonneg (by omega)
    have e2 : (s - (c - lo) % s).tmod s = (s - (c - lo) % s) % s := Int.tmod_eq_emod_of_nonneg (by omega)
    have w1 : IntKind.i64.wrap (c - lo) = c - lo := IntWalk.i64_in _ ⟨by omega, by omega⟩
    have w2 : IntKind.i64.wrap (s - (c - lo) % s) = s - (c - lo) % s := IntWalk.i64_in _ ⟨by omega, by omega⟩
    have w3 : IntKind.i64.wrap ((c - lo) % s) = (c - lo) % s := IntWalk.i64_in _ ⟨by omega, by omega⟩
    have w4 : IntKind.i64.wrap ((s - (c - lo) % s) % s) = (s - (c - lo) % s) % s := IntWalk.i64_in _ ⟨by omega, by omega⟩
    have w5 : IntKind.i64.wrap (c + (s - (c - lo) % s) % s) = c + (s - (c - lo) % s) % s := IntWalk.i64_in _ ⟨by omega, by omega⟩
    have q0 : (s == 0) = false := beq_eq_false_iff_ne.2 (by omega)
    go_enter Tryz.func101, Tryz.ntmps101
    go_wp2
    go_quiet (fail)
    go_wp2
    go_ret
    have e3 : (s - (c - lo) % s) % s = -((c - lo) % s) % s := by
      rw [show s - (c - lo) % s = -((c - lo) % s) + s * 1 by omega, Int.add_mul_emod_self_left]
    refine ⟨?_, bthen hb (drewB ⟨_, rfl⟩)⟩
    show Ending.returned (.int .i64 (wrap64 (c + -((c - lo) % s) % s))) = _
    rw [← e3, IntWalk.wrap64_in _ ⟨by omega, by omega⟩]
/-- Along the run with the greater step. -/
def mA (s hi : Int) (p : Int → Bool) : Nat → Int → Bool
  | 0, _ => false
  | k + 1, c => if hi < c then false else if p c then true else mA s hi p k (c + s)
/-- Whether two runs meet, as the program asks it. -/
def meetsB (lo hi s lo' hi' s' : Int) : Bool :=
  if hi < lo' ∨ hi' < lo then false
  else if s < s' then mA s' hi' (hasB lo hi s) s.toNat (fromI lo' s' lo)
  else mA s hi (hasB lo' hi' s') s'.toNat (fromI lo s lo')
set_option maxRecDepth 8000 in
set_option maxHeartbeats 4000000 in
theorem meets_any (lo hi s lo' hi' s' : Int) (w : World) (h : RunOk lo hi s) (h' : RunOk lo' hi' s') : Calls Tryz.prog 70 #[runV lo hi s, runV lo' hi' s'] w (BoolB w (meetsB lo hi s lo' hi' s')) := by
  have hb0 := below2 w (.cells #[.int .i64 lo, .int .i64 hi, .int .i64 s] 112) (.cells #[.int .i64 lo', .int .i64 hi', .int .i64 s'] 112)
  unfold meetsB
  by_cases ha : hi < lo'
  · rw [if_pos (.inl ha)]
    have d := decide_eq_true ha
    unfold runV
    go_enter Tryz.func70, Tryz.ntmps70
    go_wp2
    go_ret
    exact ⟨rfl, hb0⟩
  · have d := decide_eq_false ha
    by_cases hc : hi' < lo
    · rw [if_pos (.inr hc)]
      have d2 := decide_eq_true hc
      unfold runV
      go_enter Tryz.func70, Tryz.ntmps70
      go_wp2
      go_ret
      exact ⟨rfl, hb0⟩
    · rw [if_neg (by omega)]
      have d2 := decide_eq_false hc
      by_cases hs : s < s'
      · rw [if_pos hs]
        have d3 := decide_eq_true hs
        have hbb := below2 w (.cells #[.int .i64 lo', .int .i64 hi', .int .i64 s'] 112) (.cells #[.int .i64 lo, .int .i64 hi, .int .i64 s] 112)
        have KFR := hide (from_any lo' hi' s' lo ((w.alloc (.cells #[.int .i64 lo', .int .i64 hi', .int .i64 s'] 112)).alloc (.cells #[.int .i64 lo, .int .i64 hi, .int .i64 s] 112)) h' ⟨h.l0, by have := h.lh; have := h.h1; omega⟩)
        have KH : Hid (∀ c W, -10 ≤ c ∧ c ≤ 2000000 → Calls Tryz.prog 102 #[.agg #[.int .i64 lo, .int .i64 hi, .int .i64 s], .int .i64 c] W (BoolB W (hasB lo hi s c))) := fun c W hc => has_any lo hi s c W ⟨by have := h.l0; omega, by have := h.lh; have := h.h1; omega⟩ ⟨by have := h.l0; have := h.lh; omega, by have := h.h1; omega⟩ ⟨by have := h.s0; omega, by have := h.s1; omega⟩ ⟨by omega, by omega⟩
        have HX : Hid (∀ W, Below ((w.alloc (.cells #[.int .i64 lo', .int .i64 hi', .int .i64 s'] 112)).alloc (.cells #[.int .i64 lo, .int .i64 hi, .int .i64 s] 112)).heap.size ((w.alloc (.cells #[.int .i64 lo', .int .i64 hi', .int .i64 s'] 112)).alloc (.cells #[.int .i64 lo, .int .i64 hi, .int .i64 s] 112)) W → W.cell? ⟨w.heap.size, 1, none⟩ = some (.int .i64 hi') ∧ W.cell? ⟨w.heap.size, 2, none⟩ = some (.int .i64 s')) := fun W h => by
          have h0 : ((w.alloc (.cells #[.int .i64 lo', .int .i64 hi', .int .i64 s'] 112)).alloc (.cells #[.int .i64 lo, .int .i64 hi, .int .i64 s] 112)).heap[w.heap.size]? = some (.cells #[.int .i64 lo', .int .i64 hi', .int .i64 s'] 112 (0, 0)) := by
            show ((w.heap.push _).push _)[w.heap.size]? = _
            rw [Array.getElem?_push_lt (by simp)]
            simp
          have h2 : W.heap[w.heap.size]? = _ := (h.block _ (by simp; omega)).trans h0
          exact ⟨cell_of (j := 1) h2 (by simp), cell_of (j := 2) h2 (by simp)⟩
        have HY : Hid (∀ W, Below ((w.alloc (.cells #[.int .i64 lo', .int .i64 hi', .int .i64 s'] 112)).alloc (.cells #[.int .i64 lo, .int .i64 hi, .int .i64 s] 112)).heap.size ((w.alloc (.cells #[.int .i64 lo', .int .i64 hi', .int .i64 s'] 112)).alloc (.cells #[.int .i64 lo, .int .i64 hi, .int .i64 s] 112)) W → W.cell? ⟨w.heap.size + 1, 0, none⟩ = some (.int .i64 lo) ∧ W.cell? ⟨w.heap.size + 1, 1, none⟩ = some (.int .i64 hi) ∧ W.cell? ⟨w.heap.size + 1, 2, none⟩ = some (.int .i64 s)) := fun W h => ⟨box_cell (j := 0) h rfl, box_cell (j := 1) h rfl, box_cell (j := 2) h rfl⟩
        obtain ⟨N, hN⟩ : ∃ N : Nat, s = (N : Int) := ⟨s.toNat, by have := h.s0; omega⟩
        have hN1 : N ≤ 64 := by have := h.s1; omega
        have ht : s.toNat = N := by omega
        have hfb : 0 ≤ fromI lo' s' lo ∧ fromI lo' s' lo ≤ 1114300 := by
          obtain ⟨a0, a1, a2, a3, a4⟩ := h'
          obtain ⟨b0, b1, b2, b3, b4⟩ := h
          unfold fromI
          split
          · omega
          · have := Int.emod_nonneg (s' - (lo - lo') % s') (show s' ≠ 0 by omega)
            have := Int.emod_lt_of_pos (s' - (lo - lo') % s') (show 0 < s' by omega)
            omega
        have hxb : 0 ≤ hi' ∧ hi' ≤ 1114111 := ⟨by have := h'.l0; have := h'.lh; omega, h'.h1⟩
        have hsb : 1 ≤ s' ∧ s' ≤ 64 := ⟨h'.s0, h'.s1⟩
        rw [ht]
        have HN := hide hN
        clear h h' hb0 ht hN
        generalize hfm : fromI lo' s' lo = c0 at *
        clear hfm
        generalize hhas : hasB lo hi s = p at *
        clear hhas
        generalize hr0 : mA s' hi' p N c0 = res at *
        have HR0 := hide hr0.symm
        clear hr0
        unfold runV at *
        go_enter Tryz.func70, Tryz.ntmps70
        go_wp2_with fail
        refine (unhide KFR).mono ?_
        rintro e w1 ⟨rfl, hb1⟩
        have y2 := ((unhide HY) w1 hb1).2.2
        rw [unhide HN] at y2
        have hbb := bthen hbb hb1
        have HX := hide (fun W (h : Below w1.heap.size w1 W) => (unhide HX) W (bthen hb1 h))
        have HY := hide (fun W (h : Below w1.heap.size w1 W) => (unhide HY) W (bthen hb1 h))
        clear KFR hb1 HN
        go_wp2
        go_loopw [5, 31] (fun cv iv wr => ∃ (k : Nat) (c : Int), cv = .int .i64 c ∧ iv = .int .i64 k ∧ k ≤ N ∧ 0 ≤ c ∧ c ≤ 1114300 ∧ res = mA s' hi' p (N - k) c ∧ Below w1.heap.size w1 wr) (fun _ iv _ => N - (intOf iv).toNat)
        case atStart => exact ⟨0, c0, rfl, rfl, by omega, hfb.1, hfb.2, unhide HR0, Below.refl _ _⟩
        case round =>
          obtain ⟨k, c, rfl, rfl, hk, hc0, hc1, hres, hB⟩ := hrel
          clear HR0 y2
          by_cases hlt : k < N
          · obtain ⟨M, hM⟩ : ∃ M, N - k = M + 1 := ⟨N - k - 1, by omega⟩
            rw [hM, mA] at hres
            obtain ⟨x1, x2⟩ := (unhide HX) wr hB
            obtain ⟨z0, z1, z2⟩ := (unhide HY) wr hB
            by_cases hgt : hi' < c
            · rw [if_pos hgt] at hres
              subst hres
              have dg := decide_eq_true hgt
              have HF : BoolB w false (.returned (.bool false)) wr := ⟨rfl, bthen hbb hB⟩
              clear KH HX HY hB hM
              go_wp2
              go_ret
              exact HF
            · rw [if_neg hgt] at hres
              have dg := decide_eq_false hgt
              have KC := hide ((unhide KH) c wr ⟨by omega, by omega⟩)
              have HBB := hide hB
              clear KH hB
              cases hp : p c with
              | true =>
                rw [hp, if_pos rfl] at hres
                subst hres
                rw [hp] at KC
                clear hM HX HY
                go_wp2_with fail
                refine (unhide KC).mono ?_
                rintro e w2 ⟨rfl, hb2⟩
                have HF : BoolB w true (.returned (.bool true)) w2 := ⟨rfl, bthen (bthen hbb (unhide HBB)) hb2⟩
                clear KC hb2 HBB x1 x2 z0 z1 z2
                go_wp2
                go_ret
                exact HF
              | false =>
                rw [hp, if_neg (by decide)] at hres
                rw [hp] at KC
                have HRES : Hid (res = mA s' hi' p (N - (k + 1)) (c + s')) := by rw [show N - (k + 1) = M by omega]; exact hres
                have HX2 : Hid (∀ W, Below wr.heap.size wr W → W.cell? ⟨w.heap.size, 2, none⟩ = some (.int .i64 s')) := fun W h => ((unhide HX) W (bthen (unhide HBB) h)).2
                clear hM HX HY hres
                go_wp2_with fail
                refine (unhide KC).mono ?_
                rintro e w2 ⟨rfl, hb2⟩
                have y := (unhide HX2) w2 hb2
                have HB2 := hide (bthen (unhide HBB) hb2)
                have hw : IntKind.i64.wrap (c + s') = c + s' := IntWalk.i64_in _ ⟨by omega, by omega⟩
                clear KC hb2 HBB HX2 x1 x2 z0 z1 z2
                go_wp2
                go_round
                case rel => exact ⟨k + 1, c + s', by go_num, by go_num, by omega, by omega, by omega, unhide HRES, unhide HB2⟩
                case measure => simp [intOf]; omega
          · have e0 : N - k = 0 := by omega
            rw [e0, mA] at hres
            subst hres
            have HF : BoolB w false (.returned (.bool false)) wr := ⟨rfl, bthen hbb hB⟩
            clear KH HX HY hB
            go_wp2
            go_ret
            exact HF
      · rw [if_neg hs]
        have d3 := decide_eq_false hs
        have hbb := below2 w (.cells #[.int .i64 lo, .int .i64 hi, .int .i64 s] 112) (.cells #[.int .i64 lo', .int .i64 hi', .int .i64 s'] 112)
        have KFR := hide (from_any lo hi s lo' ((w.alloc (.cells #[.int .i64 lo, .int .i64 hi, .int .i64 s] 112)).alloc (.cells #[.int .i64 lo', .int .i64 hi', .int .i64 s'] 112)) h ⟨h'.l0, by have := h'.lh; have := h'.h1; omega⟩)
        have KH : Hid (∀ c W, -10 ≤ c ∧ c ≤ 2000000 → Calls Tryz.prog 102 #[.agg #[.int .i64 lo', .int .i64 hi', .int .i64 s'], .int .i64 c] W (BoolB W (hasB lo' hi' s' c))) := fun c W hc => has_any lo' hi' s' c W ⟨by have := h'.l0; omega, by have := h'.lh; have := h'.h1; omega⟩ ⟨by have := h'.l0; have := h'.lh; omega, by have := h'.h1; omega⟩ ⟨by have := h'.s0; omega, by have := h'.s1; omega⟩ ⟨by omega, by omega⟩
        have HX : Hid (∀ W, Below ((w.alloc (.cells #[.int .i64 lo, .int .i64 hi, .int .i64 s] 112)).alloc (.cells #[.int .i64 lo', .int .i64 hi', .int .i64 s'] 112)).heap.size ((w.alloc (.cells #[.int .i64 lo, .int .i64 hi, .int .i64 s] 112)).alloc (.cells #[.int .i64 lo', .int .i64 hi', .int .i64 s'] 112)) W → W.cell? ⟨w.heap.size, 1, none⟩ = some (.int .i64 hi) ∧ W.cell? ⟨w.heap.size, 2, none⟩ = some (.int .i64 s)) := fun W h => by
          have h0 : ((w.alloc (.cells #[.int .i64 lo, .int .i64 hi, .int .i64 s] 112)).alloc (.cells #[.int .i64 lo', .int .i64 hi', .int .i64 s'] 112)).heap[w.heap.size]? = some (.cells #[.int .i64 lo, .int .i64 hi, .int .i64 s] 112 (0, 0)) := by
            show ((w.heap.push _).push _)[w.heap.size]? = _
            rw [Array.getElem?_push_lt (by simp)]
            simp
          have h2 : W.heap[w.heap.size]? = _ := (h.block _ (by simp; omega)).trans h0
          exact ⟨cell_of (j := 1) h2 (by simp), cell_of (j := 2) h2 (by simp)⟩
        have HY : Hid (∀ W, Below ((w.alloc (.cells #[.int .i64 lo, .int .i64 hi, .int .i64 s] 112)).alloc (.cells #[.int .i64 lo', .int .i64 hi', .int .i64 s'] 112)).heap.size ((w.alloc (.cells #[.int .i64 lo, .int .i64 hi, .int .i64 s] 112)).alloc (.cells #[.int .i64 lo', .int .i64 hi', .int .i64 s'] 112)) W → W.cell? ⟨w.heap.size + 1, 0, none⟩ = some (.int .i64 lo') ∧ W.cell? ⟨w.heap.size + 1, 1, none⟩ = some (.int .i64 hi') ∧ W.cell? ⟨w.heap.size + 1, 2, none⟩ = some (.int .i64 s')) := fun W h => ⟨box_cell (j := 0) h rfl, box_cell (j := 1) h rfl, box_cell (j := 2) h rfl⟩
        obtain ⟨N, hN⟩ : ∃ N : Nat, s' = (N : Int) := ⟨s'.toNat, by have := h'.s0; omega⟩
        have hN1 : N ≤ 64 := by have := h'.s1; omega
        have ht : s'.toNat = N := by omega
        have hfb : 0 ≤ fromI lo s lo' ∧ fromI lo s lo' ≤ 1114300 := by
          obtain ⟨a0, a1, a2, a3, a4⟩ := h
          obtain ⟨b0, b1, b2, b3, b4⟩ := h'
          unfold fromI
          split
          · omega
          · have := Int.emod_nonneg (s - (lo' - lo) % s) (show s ≠ 0 by omega)
            have := Int.emod_lt_of_pos (s - (lo' - lo) % s) (show 0 < s by omega)
            omega
        have hxb : 0 ≤ hi ∧ hi ≤ 1114111 := ⟨by have := h.l0; have := h.lh; omega, h.h1⟩
        have hsb : 1 ≤ s ∧ s ≤ 64 := ⟨h.s0, h.s1⟩
        rw [ht]
        have HN := hide hN
        clear h h' hb0 ht hN
        generalize hfm : fromI lo s lo' = c0 at *
        clear hfm
        generalize hhas : hasB lo' hi' s' = p at *
        clear hhas
        generalize hr0 : mA s hi p N c0 = res at *
        have HR0 := hide hr0.symm
        clear hr0
        unfold runV at *
        go_enter Tryz.func70, Tryz.ntmps70
        go_wp2_with fail
        refine (unhide KFR).mono ?_
        rintro e w1 ⟨rfl, hb1⟩
        have y2 := ((unhide HY) w1 hb1).2.2
        rw [unhide HN] at y2
        have hbb := bthen hbb hb1
        have HX := hide (fun W (h : Below w1.heap.size w1 W) => (unhide HX) W (bthen hb1 h))
        have HY := hide (fun W (h : Below w1.heap.size w1 W) => (unhide HY) W (bthen hb1 h))
        clear KFR hb1 HN
        go_wp2
        go_loopw [5, 31] (fun cv iv wr => ∃ (k : Nat) (c : Int), cv = .int .i64 c ∧ iv = .int .i64 k ∧ k ≤ N ∧ 0 ≤ c ∧ c ≤ 1114300 ∧ res = mA s hi p (N - k) c ∧ Below w1.heap.size w1 wr) (fun _ iv _ => N - (intOf iv).toNat)
        case atStart => exact ⟨0, c0, rfl, rfl, by omega, hfb.1, hfb.2, unhide HR0, Below.refl _ _⟩
        case round =>
          obtain ⟨k, c, rfl, rfl, hk, hc0, hc1, hres, hB⟩ := hrel
          clear HR0 y2
          by_cases hlt : k < N
          · obtain ⟨M, hM⟩ : ∃ M, N - k = M + 1 := ⟨N - k - 1, by omega⟩
            rw [hM, mA] at hres
            obtain ⟨x1, x2⟩ := (unhide HX) wr hB
            obtain ⟨z0, z1, z2⟩ := (unhide HY) wr hB
            by_cases hgt : hi < c
            · rw [if_pos hgt] at hres
              subst hres
              have dg := decide_eq_true hgt
              have HF : BoolB w false (.returned (.bool false)) wr := ⟨rfl, bthen hbb hB⟩
              clear KH HX HY hB hM
              go_wp2
              go_ret
              exact HF
            · rw [if_neg hgt] at hres
              have dg := decide_eq_false hgt
              have KC := hide ((unhide KH) c wr ⟨by omega, by omega⟩)
              have HBB := hide hB
              clear KH hB
              cases hp : p c with
              | true =>
                rw [hp, if_pos rfl] at hres
                subst hres
                rw [hp] at KC
                clear hM HX HY
                go_wp2_with fail
                refine (unhide KC).mono ?_
                rintro e w2 ⟨rfl, hb2⟩
                have HF : BoolB w true (.returned (.bool true)) w2 := ⟨rfl, bthen (bthen hbb (unhide HBB)) hb2⟩
                clear KC hb2 HBB x1 x2 z0 z1 z2
                go_wp2
                go_ret
                exact HF
              | false =>
                rw [hp, if_neg (by decide)] at hres
                rw [hp] at KC
                have HRES : Hid (res = mA s hi p (N - (k + 1)) (c + s)) := by rw [show N - (k + 1) = M by omega]; exact hres
                have HX2 : Hid (∀ W, Below wr.heap.size wr W → W.cell? ⟨w.heap.size, 2, none⟩ = some (.int .i64 s)) := fun W h => ((unhide HX) W (bthen (unhide HBB) h)).2
                clear hM HX HY hres
                go_wp2_with fail
                refine (unhide KC).mono ?_
                rintro e w2 ⟨rfl, hb2⟩
                have y := (unhide HX2) w2 hb2
                have HB2 := hide (bthen (unhide HBB) hb2)
                have hw : IntKind.i64.wrap (c + s) = c + s := IntWalk.i64_in _ ⟨by omega, by omega⟩
                clear KC hb2 HBB HX2 x1 x2 z0 z1 z2
                go_wp2
                go_round
                case rel => exact ⟨k + 1, c + s, by go_num, by go_num, by omega, by omega, by omega, unhide HRES, unhide HB2⟩
                case measure => simp [intOf]; omega
          · have e0 : N - k = 0 := by omega
            rw [e0, mA] at hres
            subst hres
            have HF : BoolB w false (.returned (.bool false)) wr := ⟨rfl, bthen hbb hB⟩
            clear KH HX HY hB
            go_wp2
            go_ret
            exact HF
end Go.Proofs.YtdnkfnccbmbpaaaGreatDoor
/- When runs meet; slices.ContainsFunc over runs. -/
namespace Go.Proofs.YtdnkfnccbmbpaaaGreatDoor
open Go.RowKit

structure Run where
  lo : Int
  hi : Int
  s : Int
def Run.ok (x : Run) : Prop := RunOk x.lo x.hi x.s
def Run.val (x : Run) : Value := runV x.lo x.hi x.s
def Run.none : Run := ⟨0, 0, 0⟩
def Run.meets (x y : Run) : Bool := meetsB x.lo x.hi x.s y.lo y.hi y.s
theorem mA_iff (s hi : Int) (hs : 0 ≤ s) (p : Int → Bool) : ∀ (n : Nat) (c : Int), mA s hi p n c = true ↔ ∃ k : Nat, k < n ∧ c + k * s ≤ hi ∧ p (c + k * s) = true
  | 0, c => by simp [mA]
  | n + 1, c => by
    rw [mA]
    have e : ∀ k : Nat, c + ((k + 1 : Nat) : Int) * s = c + s + k * s := fun k => by push_cast; rw [Int.add_mul]; omega
    split
    · next h =>
      constructor
      · intro h; cases h
      · rintro ⟨k, _, h2, _⟩
        have := Int.mul_nonneg (show (0 : Int) ≤ k by omega) hs
        omega
    · next h =>
      split
      · next hp => exact ⟨fun _ => ⟨0, by omega, by simp; omega, by simpa using hp⟩, fun _ => rfl⟩
      · next hp =>
        rw [mA_iff s hi hs p n]
        constructor
        · rintro ⟨k, h1, h2, h3⟩
          exact ⟨k + 1, by omega, by rw [e]; exact h2, by rw [e]; exact h3⟩
        · rintro ⟨k, h1, h2, h3⟩
          cases k with
          | zero => exact absurd (by simpa using h3) hp
          | succ k => rw [e] at h2 h3; exact ⟨k, by omega, h2, h3⟩
theorem from_run {lo hi s c c0 : Int} (h : RunOk lo hi s) (hc : c0 = fromI lo s c) : lo ≤ c0 ∧ c ≤ c0 ∧ s ∣ c0 - lo ∧ ∀ x, lo ≤ x → c ≤ x → s ∣ x - lo → c0 ≤ x := by
  obtain ⟨_, _, _, s0, _⟩ := h
  unfold fromI at hc
  split at hc
  · subst hc; exact ⟨by omega, by assumption, by simp, fun x a _ _ => a⟩
  · next hle =>
    have e := Int.emod_add_mul_ediv (c - lo) s
    have m0 := Int.emod_nonneg (c - lo) (show s ≠ 0 by omega)
    have m1 := Int.emod_lt_of_pos (c - lo) (show 0 < s by omega)
    by_cases hz : (c - lo) % s = 0
    · have hz2 : (s - (c - lo) % s) % s = 0 := by rw [hz]; simp
      rw [hz2] at hc
      subst hc
      refine ⟨by omega, by omega, ?_, fun x _ b _ => by omega⟩
      rw [show c + 0 - lo = c - lo by omega]
      exact Int.dvd_of_emod_eq_zero hz
    · have hz2 : (s - (c - lo) % s) % s = s - (c - lo) % s := Int.emod_eq_of_lt (by omega) (by omega)
      rw [hz2] at hc
      subst hc
      have hd : s ∣ c + (s - (c - lo) % s) - lo := by
        rw [show c + (s - (c - lo) % s) - lo = s * ((c - lo) / s) + s * 1 by omega, ← Int.mul_add]
        exact Int.dvd_mul_right _ _
      refine ⟨by omega, by omega, hd, fun x a b d => ?_⟩
      obtain ⟨j, hj⟩ := Int.dvd_sub hd d
      rcases Int.lt_or_le 0 j with h' | h'
      · have : s * 1 ≤ s * j := Int.mul_le_mul_of_nonneg_left (by omega) (by omega)
        omega
      · have := Int.mul_nonpos_of_nonneg_of_nonpos (show 0 ≤ s by omega) h'
        omega
theorem meets_iff {x y : Run} (hx : x.ok) (hy : y.ok) : x.meets y = true ↔ ∃ c, Cn.inRun x.lo x.hi x.s c ∧ Cn.inRun y.lo y.hi y.s c := by
  have key : ∀ {a b : Run}, a.ok → b.ok → (mA a.s a.hi (hasB b.lo b.hi b.s) b.s.toNat (fromI a.lo a.s b.lo) = true ↔ ∃ c, Cn.inRun a.lo a.hi a.s c ∧ Cn.inRun b.lo b.hi b.s c) := by
    intro a b ha hb
    obtain ⟨f1, f2, f3, f4⟩ := from_run (c := b.lo) ha rfl
    obtain ⟨a0, a1, a2, a3, a4⟩ := ha
    obtain ⟨b0, b1, b2, b3, b4⟩ := hb
    rw [mA_iff a.s a.hi (by omega)]
    generalize fromI a.lo a.s b.lo = c0 at *
    rw [Cn.run_meet (N := b.s.toNat) (c0 := c0) (by omega) (by omega) (by omega) f1 f2 f3 f4]
    constructor
    · rintro ⟨k, h1, h2, h3⟩
      unfold hasB at h3
      obtain ⟨_, _, _, g4, _, g6⟩ := of_decide_eq_true h3
      exact ⟨k, h1, h2, g4, Int.dvd_of_emod_eq_zero g6⟩
    · rintro ⟨k, h1, h2, h3, h4⟩
      have := Int.mul_nonneg (show (0 : Int) ≤ k by omega) (show 0 ≤ a.s by omega)
      exact ⟨k, h1, h2, decide_eq_true ⟨by omega, by omega, by omega, h3, by omega, Int.emod_eq_zero_of_dvd h4⟩⟩
  unfold Run.meets meetsB
  split
  · next h =>
    constructor
    · intro h; cases h
    · rintro ⟨c, ⟨c1, c2, _⟩, c3, c4, _⟩; omega
  · split
    · rw [key hy hx]
      exact ⟨fun ⟨c, a, b⟩ => ⟨c, b, a⟩, fun ⟨c, a, b⟩ => ⟨c, b, a⟩⟩
    · exact key hx hy
/-- The run of a record. -/
def runR (r : Rec) : Run := ⟨r.lo, r.hi, stepP r⟩
theorem runR_ok {r : Rec} (h : Cn.right r = 0) (hk : r.kind ≠ 15) : (runR r).ok := by
  have h1 := Cn.right_span h hk
  have h2 := Cn.right_step h
  have : stepP r = Cn.step r := by
    unfold stepP Cn.step at *
    split
    · next h4 => rw [if_pos h4] at h2; omega
    · rfl
  exact ⟨h1.1, h1.2.1, h1.2.2, by show 1 ≤ stepP r; omega, by show stepP r ≤ 64; omega⟩
theorem stepP_eq {r : Rec} (h : Cn.right r = 0) : stepP r = Cn.step r := by
  have h2 := Cn.right_step h
  unfold stepP Cn.step at *
  split
  · next h4 => rw [if_pos h4] at h2; omega
  · rfl
theorem clash_meets {a b : Rec} (ha : Cn.right a = 0) (hb : Cn.right b = 0) (hf : Cn.fam a.kind = Cn.fam b.kind) (hk : a.kind ≠ 15) (hk' : b.kind ≠ 15) : Cn.clash a b = (runR b).meets (runR a) := by
  rw [Bool.eq_iff_iff, Cn.clash_iff ha hb hf hk hk', meets_iff (runR_ok hb hk') (runR_ok ha hk)]
  constructor
  · rintro ⟨c, h1, h2⟩
    refine ⟨c, ?_, ?_⟩
    · have := (Cn.speaks_iff hb hk' c).1 h2
      rw [← stepP_eq hb] at this
      exact this
    · have := (Cn.speaks_iff ha hk c).1 h1
      rw [← stepP_eq ha] at this
      exact this
  · rintro ⟨c, h1, h2⟩
    refine ⟨c, (Cn.speaks_iff ha hk c).2 ?_, (Cn.speaks_iff hb hk' c).2 ?_⟩
    · rw [← stepP_eq ha]; exact h2
    · rw [← stepP_eq hb]; exact h1
end Go.Proofs.YtdnkfnccbmbpaaaGreatDoor
/- Runs in memory; slices.ContainsFunc over them. -/
namespace Go.Proofs.YtdnkfnccbmbpaaaGreatDoor
open Go.RowKit

structure RnAt (w : World) (b o : Nat) (x : Run) : Prop where
  lo : w.cell? ⟨b, o, none⟩ = some (.int .i64 x.lo)
  hi : w.cell? ⟨b, o + 1, none⟩ = some (.int .i64 x.hi)
  s : w.cell? ⟨b, o + 2, none⟩ = some (.int .i64 x.s)
theorem RnAt.below {w w' : World} {b o : Nat} {x : Run} (h : RnAt w b o x) (hb : Below w.heap.size w w') : RnAt w' b o x :=
  ⟨by rw [hb.cell (lt_of_cell? h.lo)]; exact h.lo, by rw [hb.cell (lt_of_cell? h.hi)]; exact h.hi, by rw [hb.cell (lt_of_cell? h.s)]; exact h.s⟩
/-- The slice value v holds the runs xs. -/
def Rns (w : World) (v : Value) (xs : List Run) : Prop := xs.length ≤ 1000000000 ∧
  ((xs = [] ∧ ∃ ao cap, v = .slice ao 0 cap ∧ cap ≤ 9223372036854775807) ∨
    ∃ b off cap, v = .slice (some ⟨b, off, none⟩) xs.length cap ∧ xs.length ≤ cap ∧ cap ≤ 9223372036854775807 ∧ ∀ i, i < xs.length → RnAt w b (off + i * 3) (xs.getD i Run.none))
theorem Rns.below {w w' : World} {v : Value} {xs : List Run} (h : Rns w v xs) (hb : Below w.heap.size w w') : Rns w' v xs := by
  obtain ⟨h1, h3⟩ := h
  refine ⟨h1, ?_⟩
  rcases h3 with h3 | ⟨b, off, cap, hv, hl, hm, hc⟩
  · exact .inl h3
  · exact .inr ⟨b, off, cap, hv, hl, hm, fun i hi => (hc i hi).below hb⟩
theorem Rns.shape {w : World} {v : Value} {xs : List Run} (h : Rns w v xs) : ∃ ao cap, v = .slice ao xs.length cap ∧ xs.length ≤ cap ∧ cap ≤ 9223372036854775807 := by
  rcases h.2 with ⟨rfl, ao, cap, hv, hm⟩ | ⟨b, off, cap, hv, hl, hm, _⟩
  · exact ⟨ao, cap, hv, by simp, hm⟩
  · exact ⟨_, cap, hv, hl, hm⟩
theorem Rns.place {w : World} {v : Value} {xs : List Run} (h : Rns w v xs) (hne : 0 < xs.length) : ∃ b off cap, v = .slice (some ⟨b, off, none⟩) xs.length cap ∧ xs.length ≤ cap ∧ cap ≤ 9223372036854775807 ∧ ∀ i, i < xs.length → RnAt w b (off + i * 3) (xs.getD i Run.none) := by
  rcases h.2 with ⟨rfl, _⟩ | h
  · simp at hne
  · exact h
def fbN (p : Run → Bool) : Nat → List Run → Int
  | _, [] => -1
  | i, r :: l => if p r then (i : Int) else fbN p (i + 1) l
theorem fbN_hit {p : Run → Bool} {rs : List Run} {k : Nat} {x : Int} (hk : k < rs.length) (h : x = fbN p k (rs.drop k)) (hp : p (rs.getD k Run.none) = true) : x = (k : Int) := by
  rw [h, List.drop_eq_getElem_cons hk, fbN, if_pos]
  simpa [List.getD, hk] using hp
theorem fbN_next {p : Run → Bool} {rs : List Run} {k : Nat} {x : Int} (hk : k < rs.length) (h : x = fbN p k (rs.drop k)) (hp : p (rs.getD k Run.none) = false) : x = fbN p (k + 1) (rs.drop (k + 1)) := by
  rw [h, List.drop_eq_getElem_cons hk, fbN, if_neg]
  have : p rs[k] = false := by simpa [List.getD, hk] using hp
  simp [this]
theorem fbN_end {p : Run → Bool} {rs : List Run} {x : Int} (h : x = fbN p rs.length (rs.drop rs.length)) : x = -1 := by
  rw [h, List.drop_length, fbN]
theorem fbN_any (p : Run → Bool) : ∀ (l : List Run) (i : Nat), decide (0 ≤ fbN p i l) = l.any p
  | [], i => rfl
  | r :: l, i => by
    rw [fbN, List.any_cons]
    cases hp : p r with
    | true => simp
    | false => simpa using fbN_any p l (i + 1)
theorem enters_meets : ∀ args w, (callFunc 70 args).run Tryz.prog w = .ok (.enter 70 args) w := enters_of Tryz.func70 (by kernel_rfl) rfl
def NIn (w : World) (v : Value) (xs : List Run) (W : World) : Prop := Rns W v xs ∧ Below w.heap.size w W
theorem NIn.on {w W W' : World} {v : Value} {xs : List Run} (h : NIn w v xs W) (hb : Below W.heap.size W W') : NIn w v xs W' := ⟨h.1.below hb, h.2.trans (hb.mono h.2.size)⟩
set_option maxRecDepth 8000 in
set_option maxHeartbeats 4000000 in
theorem indexRuns_any (x : Run) (v : Value) (xs : List Run) (w : World) (hv : Rns w v xs) (hx : x.ok) (hxs : ∀ y ∈ xs, y.ok) :
    Calls Tryz.prog 100 #[v, .func (.func 70) #[x.val] #[]] w (IntB w (fbN (fun y => x.meets y) 0 xs)) := by
  have eg := enters_meets
  have HI0 : Hid (NIn w v xs w) := ⟨hv, Below.refl _ _⟩
  have HP : Hid (∀ k W, k < xs.length → Calls Tryz.prog 70 #[x.val, (xs.getD k Run.none).val] W (BoolB W (x.meets (xs.getD k Run.none)))) := fun k W hk => meets_any _ _ _ _ _ _ W hx (hxs _ (by simp [List.getD, hk]))
  have HR0 : Hid (fbN (fun y => x.meets y) 0 xs = fbN (fun y => x.meets y) 0 (xs.drop 0)) := by rw [List.drop_zero]; rfl
  have hlen := hv.1
  obtain ⟨ao, cap, rfl, h1, h2⟩ := hv.shape
  clear hv hx hxs
  unfold Run.val runV at *
  generalize hq : fbN (fun y => x.meets y) 0 xs = z at *
  clear hq
  go_enter Tryz.func100, Tryz.ntmps100
  go_wp2
  go_loopw [5, 8] (fun _ i wr => ∃ k : Nat, i = .int .i64 k ∧ k ≤ xs.length ∧ z = fbN (fun y => x.meets y) k (xs.drop k) ∧ NIn w (.slice ao xs.length cap) xs wr) (fun _ i _ => xs.length - (intOf i).toNat)
  case atStart => exact ⟨0, rfl, by omega, unhide HR0, unhide HI0⟩
  case round =>
    obtain ⟨k, rfl, hk, hr, hin⟩ := hrel
    clear HR0 HI0
    by_cases hlt : k < xs.length
    · obtain ⟨b, off, cap', he, hc1, hc2, hc⟩ := hin.1.place (by omega)
      obtain ⟨rfl, rfl⟩ : ao = some ⟨b, off, none⟩ ∧ cap = cap' := by simpa using he
      obtain ⟨x0, x1, x2⟩ := hc k hlt
      have HV := hide ((unhide HP) k wr hlt)
      have HH : Hid (x.meets (xs.getD k Run.none) = true → z = (k : Int)) := fun h => fbN_hit hlt hr h
      have HN : Hid (x.meets (xs.getD k Run.none) = false → z = fbN (fun y => x.meets y) (k + 1) (xs.drop (k + 1))) := fun h => fbN_next hlt hr h
      have HIN := hide hin
      clear hr hin hc he HP
      generalize x.meets (xs.getD k Run.none) = y at HV HH HN
      generalize (xs.getD k Run.none).lo = lo at *
      generalize (xs.getD k Run.none).hi = hi at *
      generalize (xs.getD k Run.none).s = st at *
      cases y with
      | true =>
        obtain rfl := (unhide HH) rfl
        clear HH HN
        go_wp2_with (go_at_fn 70; refine (unhide HV).mono ?_; rintro e w1 ⟨rfl, hb1⟩)
        have HF := hide ((unhide HIN).on hb1).2
        clear HV HIN
        go_ret
        exact ⟨rfl, unhide HF⟩
      | false =>
        have HN2 := hide ((unhide HN) rfl)
        clear HH HN
        go_wp2_with (go_at_fn 70; refine (unhide HV).mono ?_; rintro e w1 ⟨rfl, hb1⟩)
        have HF := hide ((unhide HIN).on hb1)
        clear HV HIN
        go_round
        case rel => exact ⟨k + 1, by go_num, by omega, unhide HN2, unhide HF⟩
        case measure => simp [intOf]; omega
    · obtain rfl : k = xs.length := by omega
      obtain rfl := fbN_end hr
      have HF := hide hin.2
      clear hr hin HP
      go_wp2
      go_ret
      exact ⟨rfl, unhide HF⟩
set_option maxRecDepth 8000 in
theorem containsRuns_any (x : Run) (v : Value) (xs : List Run) (w : World) (hv : Rns w v xs) (hx : x.ok) (hxs : ∀ y ∈ xs, y.ok) :
    Calls Tryz.prog 69 #[v, .func (.func 70) #[x.val] #[]] w (BoolB w (xs.any fun y => x.meets y)) := by
  have K := hide (indexRuns_any x v xs w hv hx hxs)
  rw [← fbN_any _ xs 0]
  obtain ⟨ao, cap, rfl, h1, h2⟩ := hv.shape
  clear hv hx hxs
  generalize fbN (fun y => x.meets y) 0 xs = z at *
  unfold Run.val runV at *
  go_enter Tryz.func69, Tryz.ntmps69
  go_wp2_with fail
  refine (unhide K).mono ?_
  rintro e w1 ⟨rfl, hb1⟩
  clear K
  go_wp2
  go_ret
  exact ⟨rfl, hb1⟩
end Go.Proofs.YtdnkfnccbmbpaaaGreatDoor
