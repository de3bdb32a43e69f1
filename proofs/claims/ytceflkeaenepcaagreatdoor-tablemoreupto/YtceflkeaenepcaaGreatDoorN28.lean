import Derived.Test.YtceflkeaenepcaaGreatDoorN27
import Derived.Deep.QuietTactic
import Derived.BigQuiet
namespace Go.Proofs.YtceflkeaenepcaaGreatDoor
open Go.RowKit
theorem enters_pl4 : ∀ args w, (callFunc 381 args).run Tryz.prog w = .ok (.enter 381 args) w := enters_of Tryz.func381 (by kernel_rfl) rfl
theorem enters_pl5 : ∀ args w, (callFunc 385 args).run Tryz.prog w = .ok (.enter 385 args) w := enters_of Tryz.func385 (by kernel_rfl) rfl
theorem enters_pl15 : ∀ args w, (callFunc 389 args).run Tryz.prog w = .ok (.enter 389 args) w := enters_of Tryz.func389 (by kernel_rfl) rfl
theorem enters_pl1 : ∀ args w, (callFunc 376 args).run Tryz.prog w = .ok (.enter 376 args) w := enters_of Tryz.func376 (by kernel_rfl) rfl
def RightT : Prop := ∀ (r : Rec) (vt : Value) (w : World), Glob w → RecFit r → Sk .i32 w vt r.to → Calls Tryz.prog 31 #[recV r vt] w (IntB w (Cn.right r))
theorem right_any : RightT := by
  intro r vt w hg hf hs
  have e : Cn.right r = if Cn.fam r.kind = 0 then 60 else if (plB r && (tarB r.kind r && (numB r.kind r && (namB r.kind r && weiB r.kind r)))) = true then 0 else 61 := by
    by_cases h0 : Cn.fam r.kind = 0
    · rw [if_pos h0]
      unfold Cn.right
      rw [if_pos h0]
    · rw [if_neg h0, right_eq r h0]
      rfl
  rw [e]
  have KF : ∀ W, Below w.heap.size w W → Calls Tryz.prog 27 #[shV r.kind] W (IntB W (Cn.fam r.kind)) := fun W h => sharedFam_any r.kind W (hg.on h) hf.kind
  have K2 : ∀ W, Below w.heap.size w W → Calls Tryz.prog 126 #[shV r.kind, recV r vt] W (BoolB W (tarB r.kind r)) := fun W h => targeted_any r.kind r vt W (hg.on h) hf.kind (hs.below h)
  have K3 : ∀ W, Below w.heap.size w W → Calls Tryz.prog 123 #[shV r.kind, recV r vt] W (BoolB W (numB r.kind r)) := fun W h => numbered_any r.kind r vt W (hg.on h) hf.kind hf.n
  have K4 : ∀ W, Below w.heap.size w W → Calls Tryz.prog 121 #[shV r.kind, recV r vt] W (BoolB W (namB r.kind r)) := fun W h => named_any r.kind r vt W (hg.on h) hf.kind
  have K5 : ∀ W, Below w.heap.size w W → Calls Tryz.prog 127 #[shV r.kind, recV r vt] W (BoolB W (weiB r.kind r)) := fun W h => weighed_any r.kind r vt W (hg.on h) hf.kind hf.wt
  by_cases h4 : r.kind = 4
  · have ep : plB r = shiftB r := by unfold plB; rw [if_pos h4]
    have es : shape r.kind = .iface 75 (.agg #[.int .i64 r.kind]) := by unfold shape shV; rw [if_pos h4]
    rw [ep]
    exact right_core 75 381 r vt w (fun W => es ▸ shapeOf_any r.kind W hf.kind) KF (mFamilyShifted _) (mPlacedShifted _) (mTargetedShifted _) (mNumberedShifted _) (mNamedShifted _) (mWeighedShifted _) enters_pl4 _ _ _ _ _ (fun W h => placedShifted_any r.kind r vt W hf (hs.below h)) K2 K3 K4 K5
  · by_cases h5 : r.kind = 5 ∨ r.kind = 7 ∨ r.kind = 8 ∨ r.kind = 13
    · have ep : plB r = (decide (r.lo = r.hi) && Cn.scalar r.lo) := by unfold plB; rw [if_neg h4, if_pos h5]
      have es : shape r.kind = .iface 76 (.agg #[.int .i64 r.kind]) := by unfold shape shV; rw [if_neg h4, if_pos h5]
      rw [ep]
      exact right_core 76 385 r vt w (fun W => es ▸ shapeOf_any r.kind W hf.kind) KF (mFamilySingle _) (mPlacedSingle _) (mTargetedSingle _) (mNumberedSingle _) (mNamedSingle _) (mWeighedSingle _) enters_pl5 _ _ _ _ _ (fun W _ => placedSingle_any r.kind r vt W hf) K2 K3 K4 K5
    · by_cases h15 : r.kind = 15
      · have ep : plB r = decide (r.lo = 0 ∧ r.hi = 0) := by unfold plB; rw [if_neg h4, if_neg h5, if_pos h15]
        have es : shape r.kind = .iface 77 (.agg #[.int .i64 r.kind]) := by unfold shape shV; rw [if_neg h4, if_neg h5, if_pos h15]
        rw [ep]
        exact right_core 77 389 r vt w (fun W => es ▸ shapeOf_any r.kind W hf.kind) KF (mFamilyPaired _) (mPlacedPaired _) (mTargetedPaired _) (mNumberedPaired _) (mNamedPaired _) (mWeighedPaired _) enters_pl15 _ _ _ _ _ (fun W _ => placedPaired_any r.kind r vt W hf) K2 K3 K4 K5
      · have ep : plB r = spanB r := by unfold plB; rw [if_neg h4, if_neg h5, if_neg h15]
        have es : shape r.kind = .iface 73 (.agg #[.int .i64 r.kind]) := by unfold shape shV; rw [if_neg h4, if_neg h5, if_neg h15]
        rw [ep]
        exact right_core 73 376 r vt w (fun W => es ▸ shapeOf_any r.kind W hf.kind) KF (mFamilySpanned _) (mPlacedSpanned _) (mTargetedSpanned _) (mNumberedSpanned _) (mNamedSpanned _) (mWeighedSpanned _) enters_pl1 _ _ _ _ _ (fun W _ => placedSpanned_any r.kind r vt W hf) K2 K3 K4 K5
def firstW (rs : List Rec) : Nat × Int := if 4096 < rs.length then (0, 3) else match Cn.rightA 0 rs with | some x => x | Option.none => (0, 0)
def tailF (rs : List Rec) (k : Nat) : Nat × Int := match Cn.rightA k (rs.drop k) with | some x => x | Option.none => (0, 0)
theorem tf_hit {rs : List Rec} {k : Nat} (hk : k < rs.length) (h : Cn.right (rs.getD k Cn.none) ≠ 0) : tailF rs k = (k, Cn.right (rs.getD k Cn.none)) := by
  have e : rs.getD k Cn.none = rs[k] := by simp [List.getD, hk]
  rw [e] at h ⊢
  unfold tailF
  rw [List.drop_eq_getElem_cons hk, Cn.rightA, if_neg h]
theorem tf_next {rs : List Rec} {k : Nat} (hk : k < rs.length) (h : Cn.right (rs.getD k Cn.none) = 0) : tailF rs k = tailF rs (k + 1) := by
  have e : rs.getD k Cn.none = rs[k] := by simp [List.getD, hk]
  rw [e] at h
  unfold tailF
  rw [List.drop_eq_getElem_cons hk, Cn.rightA, if_pos h]
theorem tf_end (rs : List Rec) : tailF rs rs.length = (0, 0) := by
  unfold tailF
  rw [List.drop_length, Cn.rightA]
def PairIB (w : World) (x : Nat × Int) (e : Ending) (w' : World) : Prop := e = .returned (.tuple #[.int .i64 (x.1 : Int), .int .i64 x.2]) ∧ Below w.heap.size w w'
set_option maxRecDepth 8000 in
set_option maxHeartbeats 4000000 in
theorem firstWrong_any (v : Value) (rs : List Rec) (w : World) (hg : Glob w) (hv : Rcs w v rs) : Calls Tryz.prog 18 #[v] w (PairIB w (firstW rs)) := by
  have hlen := hv.1
  by_cases hbig : 4096 < rs.length
  · have e : firstW rs = (0, 3) := by unfold firstW; rw [if_pos hbig]
    rw [e]
    obtain ⟨ao, cap, rfl, _, _⟩ := hv.shape
    clear hv hg e
    go_enter Tryz.func18, Tryz.ntmps18
    go_wp2
    go_ret2
    exact ⟨rfl, Below.refl _ _⟩
  · have HRES : Hid (firstW rs = tailF rs 0) := by
      show firstW rs = tailF rs 0
      unfold firstW tailF
      rw [if_neg hbig, List.drop_zero]
    have HI0 : Hid (RIn w v rs w) := ⟨hv, Below.refl _ _⟩
    have HG := hide (fun W (h : Below w.heap.size w W) => hg.on h)
    obtain ⟨ao, cap, rfl, h1, h2⟩ := hv.shape
    clear hv hg
    generalize firstW rs = res at *
    go_enter Tryz.func18, Tryz.ntmps18
    go_wp2
    go_loopw [4, 5, 6, 12] (fun _ _ _ i wr => ∃ k : Nat, i = .int .i64 k ∧ k ≤ rs.length ∧ res = tailF rs k ∧ RIn w (.slice ao rs.length cap) rs wr) (fun _ _ _ i _ => rs.length - (intOf i).toNat)
    case atStart => exact ⟨0, rfl, by omega, unhide HRES, unhide HI0⟩
    case round =>
      obtain ⟨k, rfl, hk, hres, hin⟩ := hrel
      clear HRES HI0
      by_cases hlt : k < rs.length
      · obtain ⟨b, off, cap', he, hc1, hc2, hc⟩ := hin.1.place (by omega)
        obtain ⟨rfl, rfl⟩ : ao = some ⟨b, off, none⟩ ∧ cap = cap' := by simpa using he
        have hfit := hin.1.fit hlt
        obtain ⟨x0, x1, x2, x3, ⟨vt, x4, sk⟩, x5, x6, x7⟩ := hc k hlt
        have HN : Hid (Cn.right (rs.getD k Cn.none) = 0 → res = tailF rs (k + 1)) := fun h => hres.trans (tf_next hlt h)
        have HH : Hid (Cn.right (rs.getD k Cn.none) ≠ 0 → res = (k, Cn.right (rs.getD k Cn.none))) := fun h => hres.trans (tf_hit hlt h)
        have KR : Hid (∀ W, Below wr.heap.size wr W → Calls Tryz.prog 31 #[recV (rs.getD k Cn.none) vt] W (IntB W (Cn.right (rs.getD k Cn.none)))) := fun W h => right_any _ vt W ((unhide HG) W (hin.on h).2) hfit (sk.below h)
        have HIN := hide hin
        obtain ⟨to, tc, rfl, _, _⟩ := sk.shape
        clear hres hin hc he sk hfit HG
        unfold recV at KR
        generalize Cn.right (rs.getD k Cn.none) = y at KR HH HN
        generalize (rs.getD k Cn.none).kind = kd at *
        generalize (rs.getD k Cn.none).lo = lo at *
        generalize (rs.getD k Cn.none).hi = hi at *
        generalize (rs.getD k Cn.none).n = n at *
        generalize (rs.getD k Cn.none).name = nm at *
        generalize (rs.getD k Cn.none).other = ot at *
        generalize (rs.getD k Cn.none).wt = wt at *
        generalize (rs.getD k Cn.none).to.length = tl at *
        have hfl : ∀ W a m, (store a (.float .f64 wt) m).run Tryz.prog W = stored Tryz.prog W a (.float .f64 wt) m := fun W a m => run_store Tryz.prog W a _ m rfl
        go_wp2_with fail
        refine ((unhide KR) _ ((Below.refl _ _).alloc (Nat.le_refl _) _)).mono ?_
        rintro e w1 ⟨rfl, hb1⟩
        have hb2 := bthen ((Below.refl wr.heap.size wr).alloc (Nat.le_refl _) _) hb1
        clear KR x0 x1 x2 x3 x4 x5 x6 x7
        by_cases hy : y = 0
        · have HN2 := hide ((unhide HN) hy)
          subst hy
          have HI := hide ((unhide HIN).on hb2)
          clear HN HH HIN hb1 hb2
          go_wp2
          go_round
          case rel => exact ⟨k + 1, by go_num, by omega, unhide HN2, unhide HI⟩
          case measure => simp [intOf]; omega
        · obtain rfl := (unhide HH) hy
          have hyb : (y == 0) = false := beq_eq_false_iff_ne.2 hy
          have hyn : (y != 0) = true := by simp [hy]
          have HI := hide ((unhide HIN).on hb2).2
          clear HN HH HIN hb1 hb2
          go_wp2
          go_ret2
          exact ⟨rfl, unhide HI⟩
      · obtain rfl : k = rs.length := by omega
        obtain rfl := hres.trans (tf_end rs)
        have HF := hide hin.2
        clear hres hin HG
        go_wp2
        go_ret2
        exact ⟨rfl, unhide HF⟩
end Go.Proofs.YtceflkeaenepcaaGreatDoor
namespace Go.Proofs.YtceflkeaenepcaaGreatDoor
open Go.RowKit
structure RunOk (lo hi s : Int) : Prop where
  l0 : 0 ≤ lo
  lh : lo ≤ hi
  h1 : hi ≤ 1114111
  s0 : 1 ≤ s
  s1 : s ≤ 64
def fromI (lo s c : Int) : Int := if c ≤ lo then lo else c + (s - (c - lo) % s) % s
set_option maxRecDepth 8000 in
set_option maxHeartbeats 4000000 in
theorem from_any (lo hi s c : Int) (w : World) (h : RunOk lo hi s) (hc : 0 ≤ c ∧ c ≤ 1114111) : Calls Tryz.prog 55 #[runV lo hi s, .int .i64 c] w (IntB w (fromI lo s c)) := by
  have hb : Below w.heap.size w (w.alloc (.cells #[.int .i64 lo, .int .i64 hi, .int .i64 s] 47)) := (Below.refl _ _).alloc (Nat.le_refl _) _
  obtain ⟨l0, lh, h1, s0, s1⟩ := h
  obtain ⟨c0, c1⟩ := hc
  unfold runV fromI
  by_cases hle : c ≤ lo
  · rw [if_pos hle]
    have d := decide_eq_true hle
    go_enter Tryz.func55, Tryz.ntmps55
    go_wp2
    go_ret
    exact ⟨rfl, hb⟩
  · rw [if_neg hle]
    have d := decide_eq_false hle
    have m0 := Int.emod_nonneg (c - lo) (show s ≠ 0 by omega)
    have m1 := Int.emod_lt_of_pos (c - lo) (show 0 < s by omega)
    have n0 := Int.emod_nonneg (s - (c - lo) % s) (show s ≠ 0 by omega)
    have n1 := Int.emod_lt_of_pos (s - (c - lo) % s) (show 0 < s by omega)
    have e1 : (c - lo).tmod s = (c - lo) % s := Int.tmod_eq_emod_of_nonneg (by omega)
    have e2 : (s - (c - lo) % s).tmod s = (s - (c - lo) % s) % s := Int.tmod_eq_emod_of_nonneg (by omega)
    have w1 : IntKind.i64.wrap (c - lo) = c - lo := IntWalk.i64_in _ ⟨by omega, by omega⟩
    have w2 : IntKind.i64.wrap (s - (c - lo) % s) = s - (c - lo) % s := IntWalk.i64_in _ ⟨by omega, by omega⟩
    have w3 : IntKind.i64.wrap ((c - lo) % s) = (c - lo) % s := IntWalk.i64_in _ ⟨by omega, by omega⟩
    have w4 : IntKind.i64.wrap ((s - (c - lo) % s) % s) = (s - (c - lo) % s) % s := IntWalk.i64_in _ ⟨by omega, by omega⟩
    have w5 : IntKind.i64.wrap (c + (s - (c - lo) % s) % s) = c + (s - (c - lo) % s) % s := IntWalk.i64_in _ ⟨by omega, by omega⟩
    have q0 : (s == 0) = false := beq_eq_false_iff_ne.2 (by omega)
    go_enter Tryz.func55, Tryz.ntmps55
    go_wp2
    go_quiet (fail)
    go_wp2
    go_ret
    have e3 : (s - (c - lo) % s) % s = -((c - lo) % s) % s := by
      rw [show s - (c - lo) % s = -((c - lo) % s) + s * 1 by omega, Int.add_mul_emod_self_left]
    refine ⟨?_, bthen hb (drewB ⟨_, rfl⟩)⟩
    show Ending.returned (.int .i64 (wrap64 (c + -((c - lo) % s) % s))) = _
    rw [← e3, IntWalk.wrap64_in _ ⟨by omega, by omega⟩]
def mA (s hi : Int) (p : Int → Bool) : Nat → Int → Bool
  | 0, _ => false
  | k + 1, c => if hi < c then false else if p c then true else mA s hi p k (c + s)
def meetsB (lo hi s lo' hi' s' : Int) : Bool :=
  if hi < lo' ∨ hi' < lo then false
  else if s < s' then mA s' hi' (hasB lo hi s) s.toNat (fromI lo' s' lo)
  else mA s hi (hasB lo' hi' s') s'.toNat (fromI lo s lo')
set_option maxRecDepth 8000 in
set_option maxHeartbeats 4000000 in
theorem meets_any (lo hi s lo' hi' s' : Int) (w : World) (h : RunOk lo hi s) (h' : RunOk lo' hi' s') : Calls Tryz.prog 45 #[runV lo hi s, runV lo' hi' s'] w (BoolB w (meetsB lo hi s lo' hi' s')) := by
  have hb0 := below2 w (.cells #[.int .i64 lo, .int .i64 hi, .int .i64 s] 47) (.cells #[.int .i64 lo', .int .i64 hi', .int .i64 s'] 47)
  unfold meetsB
  by_cases ha : hi < lo'
  · rw [if_pos (.inl ha)]
    have d := decide_eq_true ha
    unfold runV
    go_enter Tryz.func45, Tryz.ntmps45
    go_wp2
    go_ret
    exact ⟨rfl, hb0⟩
  · have d := decide_eq_false ha
    by_cases hc : hi' < lo
    · rw [if_pos (.inr hc)]
      have d2 := decide_eq_true hc
      unfold runV
      go_enter Tryz.func45, Tryz.ntmps45
      go_wp2
      go_ret
      exact ⟨rfl, hb0⟩
    · rw [if_neg (by omega)]
      have d2 := decide_eq_false hc
      by_cases hs : s < s'
      · rw [if_pos hs]
        have d3 := decide_eq_true hs
        have hbb := below2 w (.cells #[.int .i64 lo', .int .i64 hi', .int .i64 s'] 47) (.cells #[.int .i64 lo, .int .i64 hi, .int .i64 s] 47)
        have KFR := hide (from_any lo' hi' s' lo ((w.alloc (.cells #[.int .i64 lo', .int .i64 hi', .int .i64 s'] 47)).alloc (.cells #[.int .i64 lo, .int .i64 hi, .int .i64 s] 47)) h' ⟨h.l0, by have := h.lh; have := h.h1; omega⟩)
        have KH : Hid (∀ c W, -10 ≤ c ∧ c ≤ 2000000 → Calls Tryz.prog 23 #[.agg #[.int .i64 lo, .int .i64 hi, .int .i64 s], .int .i64 c] W (BoolB W (hasB lo hi s c))) := fun c W hc => has_any lo hi s c W ⟨by have := h.l0; omega, by have := h.lh; have := h.h1; omega⟩ ⟨by have := h.l0; have := h.lh; omega, by have := h.h1; omega⟩ ⟨by have := h.s0; omega, by have := h.s1; omega⟩ ⟨by omega, by omega⟩
        have HX : Hid (∀ W, Below ((w.alloc (.cells #[.int .i64 lo', .int .i64 hi', .int .i64 s'] 47)).alloc (.cells #[.int .i64 lo, .int .i64 hi, .int .i64 s] 47)).heap.size ((w.alloc (.cells #[.int .i64 lo', .int .i64 hi', .int .i64 s'] 47)).alloc (.cells #[.int .i64 lo, .int .i64 hi, .int .i64 s] 47)) W → W.cell? ⟨w.heap.size, 1, none⟩ = some (.int .i64 hi') ∧ W.cell? ⟨w.heap.size, 2, none⟩ = some (.int .i64 s')) := fun W h => by
          have h0 : ((w.alloc (.cells #[.int .i64 lo', .int .i64 hi', .int .i64 s'] 47)).alloc (.cells #[.int .i64 lo, .int .i64 hi, .int .i64 s] 47)).heap[w.heap.size]? = some (.cells #[.int .i64 lo', .int .i64 hi', .int .i64 s'] 47 (0, 0)) := by
            show ((w.heap.push _).push _)[w.heap.size]? = _
            rw [Array.getElem?_push_lt (by simp)]
            simp
          have h2 : W.heap[w.heap.size]? = _ := (h.block _ (by simp; omega)).trans h0
          exact ⟨cell_of (j := 1) h2 (by simp), cell_of (j := 2) h2 (by simp)⟩
        have HY : Hid (∀ W, Below ((w.alloc (.cells #[.int .i64 lo', .int .i64 hi', .int .i64 s'] 47)).alloc (.cells #[.int .i64 lo, .int .i64 hi, .int .i64 s] 47)).heap.size ((w.alloc (.cells #[.int .i64 lo', .int .i64 hi', .int .i64 s'] 47)).alloc (.cells #[.int .i64 lo, .int .i64 hi, .int .i64 s] 47)) W → W.cell? ⟨w.heap.size + 1, 0, none⟩ = some (.int .i64 lo) ∧ W.cell? ⟨w.heap.size + 1, 1, none⟩ = some (.int .i64 hi) ∧ W.cell? ⟨w.heap.size + 1, 2, none⟩ = some (.int .i64 s)) := fun W h => ⟨box_cell (j := 0) h rfl, box_cell (j := 1) h rfl, box_cell (j := 2) h rfl⟩
        obtain ⟨N, hN⟩ : ∃ N : Nat, s = (N : Int) := ⟨s.toNat, by have := h.s0; omega⟩
        have hN1 : N ≤ 64 := by have := h.s1; omega
        have ht : s.toNat = N := by omega
        have hfb : 0 ≤ fromI lo' s' lo ∧ fromI lo' s' lo ≤ 1114300 := by
          obtain ⟨a0, a1, a2, a3, a4⟩ := h'
          obtain ⟨b0, b1, b2, b3, b4⟩ := h
          unfold fromI
          split
          · omega
          · have := Int.emod_nonneg (s' - (lo - lo') % s') (show s' ≠ 0 by omega)
            have := Int.emod_lt_of_pos (s' - (lo - lo') % s') (show 0 < s' by omega)
            omega
        have hxb : 0 ≤ hi' ∧ hi' ≤ 1114111 := ⟨by have := h'.l0; have := h'.lh; omega, h'.h1⟩
        have hsb : 1 ≤ s' ∧ s' ≤ 64 := ⟨h'.s0, h'.s1⟩
        rw [ht]
        have HN := hide hN
        clear h h' hb0 ht hN
        generalize hfm : fromI lo' s' lo = c0 at *
        clear hfm
        generalize hhas : hasB lo hi s = p at *
        clear hhas
        generalize hr0 : mA s' hi' p N c0 = res at *
        have HR0 := hide hr0.symm
        clear hr0
        unfold runV at *
        go_enter Tryz.func45, Tryz.ntmps45
        go_wp2_with fail
        refine (unhide KFR).mono ?_
        rintro e w1 ⟨rfl, hb1⟩
        have y2 := ((unhide HY) w1 hb1).2.2
        rw [unhide HN] at y2
        have hbb := bthen hbb hb1
        have HX := hide (fun W (h : Below w1.heap.size w1 W) => (unhide HX) W (bthen hb1 h))
        have HY := hide (fun W (h : Below w1.heap.size w1 W) => (unhide HY) W (bthen hb1 h))
        clear KFR hb1 HN
        go_wp2
        go_loopw [5, 31] (fun cv iv wr => ∃ (k : Nat) (c : Int), cv = .int .i64 c ∧ iv = .int .i64 k ∧ k ≤ N ∧ 0 ≤ c ∧ c ≤ 1114300 ∧ res = mA s' hi' p (N - k) c ∧ Below w1.heap.size w1 wr) (fun _ iv _ => N - (intOf iv).toNat)
        case atStart => exact ⟨0, c0, rfl, rfl, by omega, hfb.1, hfb.2, unhide HR0, Below.refl _ _⟩
        case round =>
          obtain ⟨k, c, rfl, rfl, hk, hc0, hc1, hres, hB⟩ := hrel
          clear HR0 y2
          by_cases hlt : k < N
          · obtain ⟨M, hM⟩ : ∃ M, N - k = M + 1 := ⟨N - k - 1, by omega⟩
            rw [hM, mA] at hres
            obtain ⟨x1, x2⟩ := (unhide HX) wr hB
            obtain ⟨z0, z1, z2⟩ := (unhide HY) wr hB
            by_cases hgt : hi' < c
            · rw [if_pos hgt] at hres
              subst hres
              have dg := decide_eq_true hgt
              have HF : BoolB w false (.returned (.bool false)) wr := ⟨rfl, bthen hbb hB⟩
              clear KH HX HY hB hM
              go_wp2
              go_ret
              exact HF
            · rw [if_neg hgt] at hres
              have dg := decide_eq_false hgt
              have KC := hide ((unhide KH) c wr ⟨by omega, by omega⟩)
              have HBB := hide hB
              clear KH hB
              cases hp : p c with
              | true =>
                rw [hp, if_pos rfl] at hres
                subst hres
                rw [hp] at KC
                clear hM HX HY
                go_wp2_with fail
                refine (unhide KC).mono ?_
                rintro e w2 ⟨rfl, hb2⟩
                have HF : BoolB w true (.returned (.bool true)) w2 := ⟨rfl, bthen (bthen hbb (unhide HBB)) hb2⟩
                clear KC hb2 HBB x1 x2 z0 z1 z2
                go_wp2
                go_ret
                exact HF
              | false =>
                rw [hp, if_neg (by decide)] at hres
                rw [hp] at KC
                have HRES : Hid (res = mA s' hi' p (N - (k + 1)) (c + s')) := by rw [show N - (k + 1) = M by omega]; exact hres
                have HX2 : Hid (∀ W, Below wr.heap.size wr W → W.cell? ⟨w.heap.size, 2, none⟩ = some (.int .i64 s')) := fun W h => ((unhide HX) W (bthen (unhide HBB) h)).2
                clear hM HX HY hres
                go_wp2_with fail
                refine (unhide KC).mono ?_
                rintro e w2 ⟨rfl, hb2⟩
                have y := (unhide HX2) w2 hb2
                have HB2 := hide (bthen (unhide HBB) hb2)
                have hw : IntKind.i64.wrap (c + s') = c + s' := IntWalk.i64_in _ ⟨by omega, by omega⟩
                clear KC hb2 HBB HX2 x1 x2 z0 z1 z2
                go_wp2
                go_round
                case rel => exact ⟨k + 1, c + s', by go_num, by go_num, by omega, by omega, by omega, unhide HRES, unhide HB2⟩
                case measure => simp [intOf]; omega
          · have e0 : N - k = 0 := by omega
            rw [e0, mA] at hres
            subst hres
            have HF : BoolB w false (.returned (.bool false)) wr := ⟨rfl, bthen hbb hB⟩
            clear KH HX HY hB
            go_wp2
            go_ret
            exact HF
      · rw [if_neg hs]
        have d3 := decide_eq_false hs
        have hbb := below2 w (.cells #[.int .i64 lo, .int .i64 hi, .int .i64 s] 47) (.cells #[.int .i64 lo', .int .i64 hi', .int .i64 s'] 47)
        have KFR := hide (from_any lo hi s lo' ((w.alloc (.cells #[.int .i64 lo, .int .i64 hi, .int .i64 s] 47)).alloc (.cells #[.int .i64 lo', .int .i64 hi', .int .i64 s'] 47)) h ⟨h'.l0, by have := h'.lh; have := h'.h1; omega⟩)
        have KH : Hid (∀ c W, -10 ≤ c ∧ c ≤ 2000000 → Calls Tryz.prog 23 #[.agg #[.int .i64 lo', .int .i64 hi', .int .i64 s'], .int .i64 c] W (BoolB W (hasB lo' hi' s' c))) := fun c W hc => has_any lo' hi' s' c W ⟨by have := h'.l0; omega, by have := h'.lh; have := h'.h1; omega⟩ ⟨by have := h'.l0; have := h'.lh; omega, by have := h'.h1; omega⟩ ⟨by have := h'.s0; omega, by have := h'.s1; omega⟩ ⟨by omega, by omega⟩
        have HX : Hid (∀ W, Below ((w.alloc (.cells #[.int .i64 lo, .int .i64 hi, .int .i64 s] 47)).alloc (.cells #[.int .i64 lo', .int .i64 hi', .int .i64 s'] 47)).heap.size ((w.alloc (.cells #[.int .i64 lo, .int .i64 hi, .int .i64 s] 47)).alloc (.cells #[.int .i64 lo', .int .i64 hi', .int .i64 s'] 47)) W → W.cell? ⟨w.heap.size, 1, none⟩ = some (.int .i64 hi) ∧ W.cell? ⟨w.heap.size, 2, none⟩ = some (.int .i64 s)) := fun W h => by
          have h0 : ((w.alloc (.cells #[.int .i64 lo, .int .i64 hi, .int .i64 s] 47)).alloc (.cells #[.int .i64 lo', .int .i64 hi', .int .i64 s'] 47)).heap[w.heap.size]? = some (.cells #[.int .i64 lo, .int .i64 hi, .int .i64 s] 47 (0, 0)) := by
            show ((w.heap.push _).push _)[w.heap.size]? = _
            rw [Array.getElem?_push_lt (by simp)]
            simp
          have h2 : W.heap[w.heap.size]? = _ := (h.block _ (by simp; omega)).trans h0
          exact ⟨cell_of (j := 1) h2 (by simp), cell_of (j := 2) h2 (by simp)⟩
        have HY : Hid (∀ W, Below ((w.alloc (.cells #[.int .i64 lo, .int .i64 hi, .int .i64 s] 47)).alloc (.cells #[.int .i64 lo', .int .i64 hi', .int .i64 s'] 47)).heap.size ((w.alloc (.cells #[.int .i64 lo, .int .i64 hi, .int .i64 s] 47)).alloc (.cells #[.int .i64 lo', .int .i64 hi', .int .i64 s'] 47)) W → W.cell? ⟨w.heap.size + 1, 0, none⟩ = some (.int .i64 lo') ∧ W.cell? ⟨w.heap.size + 1, 1, none⟩ = some (.int .i64 hi') ∧ W.cell? ⟨w.heap.size + 1, 2, none⟩ = some (.int .i64 s')) := fun W h => ⟨box_cell (j := 0) h rfl, box_cell (j := 1) h rfl, box_cell (j := 2) h rfl⟩
        obtain ⟨N, hN⟩ : ∃ N : Nat, s' = (N : Int) := ⟨s'.toNat, by have := h'.s0; omega⟩
        have hN1 : N ≤ 64 := by have := h'.s1; omega
        have ht : s'.toNat = N := by omega
        have hfb : 0 ≤ fromI lo s lo' ∧ fromI lo s lo' ≤ 1114300 := by
          obtain ⟨a0, a1, a2, a3, a4⟩ := h
          obtain ⟨b0, b1, b2, b3, b4⟩ := h'
          unfold fromI
          split
          · omega
          · have := Int.emod_nonneg (s - (lo' - lo) % s) (show s ≠ 0 by omega)
            have := Int.emod_lt_of_pos (s - (lo' - lo) % s) (show 0 < s by omega)
            omega
        have hxb : 0 ≤ hi ∧ hi ≤ 1114111 := ⟨by have := h.l0; have := h.lh; omega, h.h1⟩
        have hsb : 1 ≤ s ∧ s ≤ 64 := ⟨h.s0, h.s1⟩
        rw [ht]
        have HN := hide hN
        clear h h' hb0 ht hN
        generalize hfm : fromI lo s lo' = c0 at *
        clear hfm
        generalize hhas : hasB lo' hi' s' = p at *
        clear hhas
        generalize hr0 : mA s hi p N c0 = res at *
        have HR0 := hide hr0.symm
        clear hr0
        unfold runV at *
        go_enter Tryz.func45, Tryz.ntmps45
        go_wp2_with fail
        refine (unhide KFR).mono ?_
        rintro e w1 ⟨rfl, hb1⟩
        have y2 := ((unhide HY) w1 hb1).2.2
        rw [unhide HN] at y2
        have hbb := bthen hbb hb1
        have HX := hide (fun W (h : Below w1.heap.size w1 W) => (unhide HX) W (bthen hb1 h))
        have HY := hide (fun W (h : Below w1.heap.size w1 W) => (unhide HY) W (bthen hb1 h))
        clear KFR hb1 HN
        go_wp2
        go_loopw [5, 31] (fun cv iv wr => ∃ (k : Nat) (c : Int), cv = .int .i64 c ∧ iv = .int .i64 k ∧ k ≤ N ∧ 0 ≤ c ∧ c ≤ 1114300 ∧ res = mA s hi p (N - k) c ∧ Below w1.heap.size w1 wr) (fun _ iv _ => N - (intOf iv).toNat)
        case atStart => exact ⟨0, c0, rfl, rfl, by omega, hfb.1, hfb.2, unhide HR0, Below.refl _ _⟩
        case round =>
          obtain ⟨k, c, rfl, rfl, hk, hc0, hc1, hres, hB⟩ := hrel
          clear HR0 y2
          by_cases hlt : k < N
          · obtain ⟨M, hM⟩ : ∃ M, N - k = M + 1 := ⟨N - k - 1, by omega⟩
            rw [hM, mA] at hres
            obtain ⟨x1, x2⟩ := (unhide HX) wr hB
            obtain ⟨z0, z1, z2⟩ := (unhide HY) wr hB
            by_cases hgt : hi < c
            · rw [if_pos hgt] at hres
              subst hres
              have dg := decide_eq_true hgt
              have HF : BoolB w false (.returned (.bool false)) wr := ⟨rfl, bthen hbb hB⟩
              clear KH HX HY hB hM
              go_wp2
              go_ret
              exact HF
            · rw [if_neg hgt] at hres
              have dg := decide_eq_false hgt
              have KC := hide ((unhide KH) c wr ⟨by omega, by omega⟩)
              have HBB := hide hB
              clear KH hB
              cases hp : p c with
              | true =>
                rw [hp, if_pos rfl] at hres
                subst hres
                rw [hp] at KC
                clear hM HX HY
                go_wp2_with fail
                refine (unhide KC).mono ?_
                rintro e w2 ⟨rfl, hb2⟩
                have HF : BoolB w true (.returned (.bool true)) w2 := ⟨rfl, bthen (bthen hbb (unhide HBB)) hb2⟩
                clear KC hb2 HBB x1 x2 z0 z1 z2
                go_wp2
                go_ret
                exact HF
              | false =>
                rw [hp, if_neg (by decide)] at hres
                rw [hp] at KC
                have HRES : Hid (res = mA s hi p (N - (k + 1)) (c + s)) := by rw [show N - (k + 1) = M by omega]; exact hres
                have HX2 : Hid (∀ W, Below wr.heap.size wr W → W.cell? ⟨w.heap.size, 2, none⟩ = some (.int .i64 s)) := fun W h => ((unhide HX) W (bthen (unhide HBB) h)).2
                clear hM HX HY hres
                go_wp2_with fail
                refine (unhide KC).mono ?_
                rintro e w2 ⟨rfl, hb2⟩
                have y := (unhide HX2) w2 hb2
                have HB2 := hide (bthen (unhide HBB) hb2)
                have hw : IntKind.i64.wrap (c + s) = c + s := IntWalk.i64_in _ ⟨by omega, by omega⟩
                clear KC hb2 HBB HX2 x1 x2 z0 z1 z2
                go_wp2
                go_round
                case rel => exact ⟨k + 1, c + s, by go_num, by go_num, by omega, by omega, by omega, unhide HRES, unhide HB2⟩
                case measure => simp [intOf]; omega
          · have e0 : N - k = 0 := by omega
            rw [e0, mA] at hres
            subst hres
            have HF : BoolB w false (.returned (.bool false)) wr := ⟨rfl, bthen hbb hB⟩
            clear KH HX HY hB
            go_wp2
            go_ret
            exact HF
end Go.Proofs.YtceflkeaenepcaaGreatDoor
