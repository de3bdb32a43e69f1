/- The contract of table's Right, for each shape; the first record that is not right. -/
import Derived.Test.YtlmcmlbmnnjjpaaGreatDoorTbO7
namespace Go.Proofs.YtlmcmlbmnnjjpaaGreatDoor
open Go.RowKit

theorem enters_pl4 : ∀ args w, (callFunc 159 args).run Tryz.prog w = .ok (.enter 159 args) w := enters_of Tryz.func159 (by kernel_rfl) rfl
theorem enters_pl5 : ∀ args w, (callFunc 163 args).run Tryz.prog w = .ok (.enter 163 args) w := enters_of Tryz.func163 (by kernel_rfl) rfl
theorem enters_pl15 : ∀ args w, (callFunc 166 args).run Tryz.prog w = .ok (.enter 166 args) w := enters_of Tryz.func166 (by kernel_rfl) rfl
theorem enters_pl1 : ∀ args w, (callFunc 158 args).run Tryz.prog w = .ok (.enter 158 args) w := enters_of Tryz.func158 (by kernel_rfl) rfl
/-- 6.1. -/
def RightT : Prop := ∀ (r : Rec) (vt : Value) (w : World), Glob w → RecFit r → Sk .i32 w vt r.to → Calls Tryz.prog 47 #[recV r vt] w (IntB w (Cn.right r))
theorem right_any : RightT := by
  intro r vt w hg hf hs
  have e : Cn.right r = if Cn.fam r.kind = 0 then 60 else if (plB r && (tarB r.kind r && (numB r.kind r && (namB r.kind r && weiB r.kind r)))) = true then 0 else 61 := by
    by_cases h0 : Cn.fam r.kind = 0
    · rw [if_pos h0]
      unfold Cn.right
      rw [if_pos h0]
    · rw [if_neg h0, right_eq r h0]
      rfl
  rw [e]
  have KF : ∀ W, Below w.heap.size w W → Calls Tryz.prog 106 #[shV r.kind] W (IntB W (Cn.fam r.kind)) := fun W h => sharedFam_any r.kind W (hg.on h) hf.kind
  have K2 : ∀ W, Below w.heap.size w W → Calls Tryz.prog 143 #[shV r.kind, recV r vt] W (BoolB W (tarB r.kind r)) := fun W h => targeted_any r.kind r vt W (hg.on h) hf.kind (hs.below h)
  have K3 : ∀ W, Below w.heap.size w W → Calls Tryz.prog 140 #[shV r.kind, recV r vt] W (BoolB W (numB r.kind r)) := fun W h => numbered_any r.kind r vt W (hg.on h) hf.kind hf.n
  have K4 : ∀ W, Below w.heap.size w W → Calls Tryz.prog 138 #[shV r.kind, recV r vt] W (BoolB W (namB r.kind r)) := fun W h => named_any r.kind r vt W (hg.on h) hf.kind
  have K5 : ∀ W, Below w.heap.size w W → Calls Tryz.prog 144 #[shV r.kind, recV r vt] W (BoolB W (weiB r.kind r)) := fun W h => weighed_any r.kind r vt W (hg.on h) hf.kind hf.wt
  by_cases h4 : r.kind = 4
  · have ep : plB r = shiftB r := by unfold plB; rw [if_pos h4]
    have es : shape r.kind = .iface 144 (.agg #[.int .i64 r.kind]) := by unfold shape shV; rw [if_pos h4]
    rw [ep]
    exact right_core 144 159 r vt w (fun W => es ▸ shapeOf_any r.kind W hf.kind) KF (mFamilyShifted _) (mPlacedShifted _) (mTargetedShifted _) (mNumberedShifted _) (mNamedShifted _) (mWeighedShifted _) enters_pl4 _ _ _ _ _ (fun W h => placedShifted_any r.kind r vt W hf (hs.below h)) K2 K3 K4 K5
  · by_cases h5 : r.kind = 5 ∨ r.kind = 7 ∨ r.kind = 8 ∨ r.kind = 13
    · have ep : plB r = (decide (r.lo = r.hi) && Cn.scalar r.lo) := by unfold plB; rw [if_neg h4, if_pos h5]
      have es : shape r.kind = .iface 145 (.agg #[.int .i64 r.kind]) := by unfold shape shV; rw [if_neg h4, if_pos h5]
      rw [ep]
      exact right_core 145 163 r vt w (fun W => es ▸ shapeOf_any r.kind W hf.kind) KF (mFamilySingle _) (mPlacedSingle _) (mTargetedSingle _) (mNumberedSingle _) (mNamedSingle _) (mWeighedSingle _) enters_pl5 _ _ _ _ _ (fun W _ => placedSingle_any r.kind r vt W hf) K2 K3 K4 K5
    · by_cases h15 : r.kind = 15
      · have ep : plB r = decide (r.lo = 0 ∧ r.hi = 0) := by unfold plB; rw [if_neg h4, if_neg h5, if_pos h15]
        have es : shape r.kind = .iface 146 (.agg #[.int .i64 r.kind]) := by unfold shape shV; rw [if_neg h4, if_neg h5, if_pos h15]
        rw [ep]
        exact right_core 146 166 r vt w (fun W => es ▸ shapeOf_any r.kind W hf.kind) KF (mFamilyPaired _) (mPlacedPaired _) (mTargetedPaired _) (mNumberedPaired _) (mNamedPaired _) (mWeighedPaired _) enters_pl15 _ _ _ _ _ (fun W _ => placedPaired_any r.kind r vt W hf) K2 K3 K4 K5
      · have ep : plB r = spanB r := by unfold plB; rw [if_neg h4, if_neg h5, if_neg h15]
        have es : shape r.kind = .iface 142 (.agg #[.int .i64 r.kind]) := by unfold shape shV; rw [if_neg h4, if_neg h5, if_neg h15]
        rw [ep]
        exact right_core 142 158 r vt w (fun W => es ▸ shapeOf_any r.kind W hf.kind) KF (mFamilySpanned _) (mPlacedSpanned _) (mTargetedSpanned _) (mNumberedSpanned _) (mNamedSpanned _) (mWeighedSpanned _) enters_pl1 _ _ _ _ _ (fun W _ => placedSpanned_any r.kind r vt W hf) K2 K3 K4 K5
/-- The first record that is not right, unless there are too many. -/
def firstW (rs : List Rec) : Nat × Int := if 4096 < rs.length then (0, 3) else match Cn.rightA 0 rs with | some x => x | Option.none => (0, 0)
def tailF (rs : List Rec) (k : Nat) : Nat × Int := match Cn.rightA k (rs.drop k) with | some x => x | Option.none => (0, 0)
theorem tf_hit {rs : List Rec} {k : Nat} (hk : k < rs.length) (h : Cn.right (rs.getD k Cn.none) ≠ 0) : tailF rs k = (k, Cn.right (rs.getD k Cn.none)) := by
  have e : rs.getD k Cn.none = rs[k] := by simp [List.getD, hk]
  rw [e] at h ⊢
  unfold tailF
  rw [List.drop_eq_getElem_cons hk, Cn.rightA, if_neg h]
theorem tf_next {rs : List Rec} {k : Nat} (hk : k < rs.length) (h : Cn.right (rs.getD k Cn.none) = 0) : tailF rs k = tailF rs (k + 1) := by
  have e : rs.getD k Cn.none = rs[k] := by simp [List.getD, hk]
  rw [e] at h
  unfold tailF
  rw [List.drop_eq_getElem_cons hk, Cn.rightA, if_pos h]
theorem tf_end (rs : List Rec) : tailF rs rs.length = (0, 0) := by
  unfold tailF
  rw [List.drop_length, Cn.rightA]
def PairIB (w : World) (x : Nat × Int) (e : Ending) (w' : World) : Prop := e = .returned (.tuple #[.int .i64 (x.1 : Int), .int .i64 x.2]) ∧ Below w.heap.size w w'
set_option maxRecDepth 8000 in
set_option maxHeartbeats 4000000 in
theorem firstWrong_any (v : Value) (rs : List Rec) (w : World) (hg : Glob w) (hv : Rcs w v rs) : Calls Tryz.prog 31 #[v] w (PairIB w (firstW rs)) := by
  have hlen := hv.1
  by_cases hbig : 4096 < rs.length
  · have e : firstW rs = (0, 3) := by unfold firstW; rw [if_pos hbig]
    rw [e]
    obtain ⟨ao, cap, rfl, _, _⟩ := hv.shape
    clear hv hg e
    go_enter Tryz.func31, Tryz.ntmps31
    go_wp2
    go_ret2
    exact ⟨rfl, Below.refl _ _⟩
  · have HRES : Hid (firstW rs = tailF rs 0) := by
      show firstW rs = tailF rs 0
      unfold firstW tailF
      rw [if_neg hbig, List.drop_zero]
    have HI0 : Hid (RIn w v rs w) := ⟨hv, Below.refl _ _⟩
    have HG := hide (fun W (h : Below w.heap.size w W) => hg.on h)
    obtain ⟨ao, cap, rfl, h1, h2⟩ := hv.shape
    clear hv hg
    generalize firstW rs = res at *
    go_enter Tryz.func31, Tryz.ntmps31
    go_wp2
    go_loopw [4, 5, 6, 12] (fun _ _ _ i wr => ∃ k : Nat, i = .int .i64 k ∧ k ≤ rs.length ∧ res = tailF rs k ∧ RIn w (.slice ao rs.length cap) rs wr) (fun _ _ _ i _ => rs.length - (intOf i).toNat)
    case atStart => exact ⟨0, rfl, by omega, unhide HRES, unhide HI0⟩
    case round =>
      obtain ⟨k, rfl, hk, hres, hin⟩ := hrel
      clear HRES HI0
      by_cases hlt : k < rs.length
      · obtain ⟨b, off, cap', he, hc1, hc2, hc⟩ := hin.1.place (by omega)
        obtain ⟨rfl, rfl⟩ : ao = some ⟨b, off, none⟩ ∧ cap = cap' := by simpa using he
        have hfit := hin.1.fit hlt
        obtain ⟨x0, x1, x2, x3, ⟨vt, x4, sk⟩, x5, x6, x7⟩ := hc k hlt
        have HN : Hid (Cn.right (rs.getD k Cn.none) = 0 → res = tailF rs (k + 1)) := fun h => hres.trans (tf_next hlt h)
        have HH : Hid (Cn.right (rs.getD k Cn.none) ≠ 0 → res = (k, Cn.right (rs.getD k Cn.none))) := fun h => hres.trans (tf_hit hlt h)
        have KR : Hid (∀ W, Below wr.heap.size wr W → Calls Tryz.prog 47 #[recV (rs.getD k Cn.none) vt] W (IntB W (Cn.right (rs.getD k Cn.none)))) := fun W h => right_any _ vt W ((unhide HG) W (hin.on h).2) hfit (sk.below h)
        have HIN := hide hin
        obtain ⟨to, tc, rfl, _, _⟩ := sk.shape
        clear hres hin hc he sk hfit HG
        unfold recV at KR
        generalize Cn.right (rs.getD k Cn.none) = y at KR HH HN
        generalize (rs.getD k Cn.none).kind = kd at *
        generalize (rs.getD k Cn.none).lo = lo at *
        generalize (rs.getD k Cn.none).hi = hi at *
        generalize (rs.getD k Cn.none).n = n at *
        generalize (rs.getD k Cn.none).name = nm at *
        generalize (rs.getD k Cn.none).other = ot at *
        generalize (rs.getD k Cn.none).wt = wt at *
        generalize (rs.getD k Cn.none).to.length = tl at *
        have hfl : ∀ W a m, (store a (.float .f64 wt) m).run Tryz.prog W = stored Tryz.prog W a (.float .f64 wt) m := fun W a m => run_store Tryz.prog W a _ m rfl
        go_wp2_with fail
        refine ((unhide KR) _ ((Below.refl _ _).alloc (Nat.le_refl _) _)).mono ?_
        rintro e w1 ⟨rfl, hb1⟩
        have hb2 := bthen ((Below.refl wr.heap.size wr).alloc (Nat.le_refl _) _) hb1
        clear KR x0 x1 x2 x3 x4 x5 x6 x7
        by_cases hy : y = 0
        · have HN2 := hide ((unhide HN) hy)
          subst hy
          have HI := hide ((unhide HIN).on hb2)
          clear HN HH HIN hb1 hb2
          go_wp2
          go_round
          case rel => exact ⟨k + 1, by go_num, by omega, unhide HN2, unhide HI⟩
          case measure => simp [intOf]; omega
        · obtain rfl := (unhide HH) hy
          have hyb : (y == 0) = false := beq_eq_false_iff_ne.2 hy
          have hyn : (y != 0) = true := by simp [hy]
          have HI := hide ((unhide HIN).on hb2).2
          clear HN HH HIN hb1 hb2
          go_wp2
          go_ret2
          exact ⟨rfl, unhide HI⟩
      · obtain rfl : k = rs.length := by omega
        obtain rfl := hres.trans (tf_end rs)
        have HF := hide hin.2
        clear hres hin HG
        go_wp2
        go_ret2
        exact ⟨rfl, unhide HF⟩
end Go.Proofs.YtlmcmlbmnnjjpaaGreatDoor
