/- The document's bytes of a record (8.1). -/
import Derived.Test.YtdnkfnccbmbpaaaGreatDoorGp8
import Derived.Test.YtdnkfnccbmbpaaaGreatDoorGw8
import Derived.Test.YtdnkfnccbmbpaaaGreatDoorGz8
namespace Go.Proofs.YtdnkfnccbmbpaaaGreatDoor
open Go.RowKit
open Wi

/-- What the document's form says of a kind. -/
def fstr (k : Int) : ByteArray :=
  if k = 3 then ⟨#[83, 120]⟩ else if k = 4 then ⟨#[83, 78, 84]⟩ else if k = 5 ∨ k = 7 ∨ k = 8 ∨ k = 13 then ⟨#[76, 120]⟩ else if k = 6 ∨ k = 9 ∨ k = 10 then ⟨#[83, 78]⟩
  else if k = 12 then ⟨#[83, 110]⟩ else if k = 14 then ⟨#[83, 87]⟩ else if k = 15 then ⟨#[110, 111, 87]⟩ else ⟨#[83]⟩
/-- A letter's bytes. -/
def lb (r : Rec) (c : Int) : List Int :=
  if c = 83 then Ref.uint r.lo ++ Ref.uint (r.hi - r.lo) else if c = 76 then Ref.uint r.lo else if c = 78 then Ref.uint r.n else if c = 84 then Ref.uint (r.to.getD 0 0)
  else if c = 120 then Ref.uint r.to.length ++ r.to.flatMap Ref.uint else if c = 110 then Ref.uint r.name.size ++ nums r.name else if c = 111 then Ref.uint r.other.size ++ nums r.other else Ref.fl r.wt
set_option maxRecDepth 4000 in
theorem refForm_any (k : Int) (w : World) (h : 1 ≤ k ∧ k ≤ 15) : Calls Tryz.prog 30 #[.int .i64 k] w fun e w' => e = .returned (.string (fstr k)) ∧ w' = w := by
  have hk : k = 1 ∨ k = 2 ∨ k = 3 ∨ k = 4 ∨ k = 5 ∨ k = 6 ∨ k = 7 ∨ k = 8 ∨ k = 9 ∨ k = 10 ∨ k = 11 ∨ k = 12 ∨ k = 13 ∨ k = 14 ∨ k = 15 := by omega
  rcases hk with rfl | rfl | rfl | rfl | rfl | rfl | rfl | rfl | rfl | rfl | rfl | rfl | rfl | rfl | rfl
  all_goals
    go_enter Tryz.func30, Tryz.ntmps30
    go_wp2
    go_ret
    exact ⟨rfl, rfl⟩
theorem own_more {W0 w2 w4 : World} {bv v4 : Value} {xs ys : List Int} (hB : Below W0.heap.size W0 w2) (hm : Own w2 W0.heap.size bv xs) (hy : Byt ys) (hl : xs.length + ys.length ≤ 1000000000) (hr : w4.ownsRow W0.heap.size 5 1 v4 (xs.length + ys.length) (xs.map (Value.int .u8) ++ ys.map (Value.int .u8))) (hg : w2.grownBy w4 bv.ownBlock) : Own w4 W0.heap.size v4 (xs ++ ys) ∧ Below W0.heap.size W0 w4 :=
  ⟨⟨hm.1.append hy, by rw [List.length_append]; omega, by rw [List.length_append, List.map_append]; exact hr⟩, hB.grown hg hB.size (fun g hg' => (hm.2.2.lt g hg').1)⟩
theorem own_one (w : World) (c : Int) (h : 0 ≤ c ∧ c ≤ 255) : Own (w.alloc (.cells #[.int .u8 c] 5)) w.heap.size (.slice (some ⟨w.heap.size, 0, none⟩) 1 1) [c] := by
  refine ⟨fun z hz => ?_, by simp, ⟨rfl, .inr ⟨w.heap.size, 1, #[.int .u8 c], rfl, Nat.le_refl _, ?_, Nat.le_refl _, by unfold maxLen; omega, rfl, rfl⟩⟩⟩
  · simp only [List.mem_cons, List.mem_nil_iff, or_false] at hz
    subst hz
    exact h
  · show (w.heap.push _)[w.heap.size]? = _
    simp
set_option maxRecDepth 8000 in
set_option maxHeartbeats 8000000 in
theorem refBytes_core (r : Rec) (vt : Value) (fs : ByteArray) (w : World) (hf : RecFit r) (hs : Sk .i32 w vt r.to) (hk : 0 ≤ r.kind ∧ r.kind ≤ 255) (KF : ∀ W, Calls Tryz.prog 30 #[.int .i64 r.kind] W fun e w' => e = .returned (.string fs) ∧ w' = W) (hfs : fs.size ≤ 3) (hlo : 0 ≤ r.lo) (hhi : r.lo ≤ r.hi) (hn : 0 ≤ r.n) (hto : r.to.length ≤ 24) (hz : ∀ z ∈ r.to, 0 ≤ z) (hnm : r.name.size ≤ 4) (hot : r.other.size ≤ 4) (hT : ∀ k, k < fs.size → (nums fs).getD k 0 = 84 → r.to.length = 1) : Calls Tryz.prog 18 #[recV r vt] w fun e w' => ∃ v, e = .returned v ∧ Own w' w.heap.size v (r.kind :: (nums fs).flatMap (lb r)) ∧ Below w.heap.size w w' := by
  obtain ⟨i0, hi, hz0, hz1, hz2⟩ := info_parts Tryz.info5
  have hlen := nums_length fs
  obtain ⟨ao, tc, rfl, htc, _⟩ := hs.shape
  unfold recV
  obtain ⟨W0, hW0, hbx, hb0⟩ := box_one w r.kind r.lo r.hi r.n (.slice ao r.to.length tc) r.name r.other r.wt
  have HBX : Hid (∀ W, Below W0.heap.size W0 W → BoxAt W w.heap.size r.kind r.lo r.hi r.n (.slice ao r.to.length tc) r.name r.other r.wt) := fun W h => hbx.keep h
  have HSK : Hid (∀ W, Below W0.heap.size W0 W → Sk .i32 W (.slice ao r.to.length tc) r.to) := fun W h => (hs.below hb0).below h
  have HSZ := hide hb0.size
  have HEND : Hid (∀ W v xs, Own W W0.heap.size v xs → Below W0.heap.size W0 W → Own W w.heap.size v xs ∧ Below w.heap.size w W) := fun W v xs h1 h2 => ⟨h1.lower hb0.size, bthen hb0 h2⟩
  have KU : ∀ n, n ≤ 9223372036854775807 → Hid (∀ W, Calls Tryz.prog 17 #[.int .i64 n] W fun e w' => ∃ v, e = .returned v ∧ Own w' W.heap.size v (Ref.uint n) ∧ Below W.heap.size W w') := fun n h W => refUint_any n W h
  have K1 := KU r.lo hf.lo.2
  have K2 := KU (r.hi - r.lo) (by have := hf.hi.2; omega)
  have K3 := KU r.n hf.n.2
  have K4 := KU r.to.length (by omega)
  have K5 : Hid (∀ W, Calls Tryz.prog 31 #[.string r.name] W fun e w' => ∃ v, e = .returned v ∧ Own w' W.heap.size v (Ref.uint r.name.size ++ nums r.name) ∧ Below W.heap.size W w') := fun W => refText_any r.name W (by omega)
  have K6 : Hid (∀ W, Calls Tryz.prog 31 #[.string r.other] W fun e w' => ∃ v, e = .returned v ∧ Own w' W.heap.size v (Ref.uint r.other.size ++ nums r.other) ∧ Below W.heap.size W w') := fun W => refText_any r.other W (by omega)
  have K7 : Hid (∀ W, Calls Tryz.prog 32 #[.int .u64 r.wt] W fun e w' => ∃ v, e = .returned v ∧ Own w' W.heap.size v (Ref.fl r.wt) ∧ Below W.heap.size W w') := fun W => refFloat_any r.wt hf.wt W
  have KA : Hid (∀ W k, k < r.to.length → Calls Tryz.prog 17 #[.int .i64 (r.to.getD k 0)] W fun e w' => ∃ v, e = .returned v ∧ Own w' W.heap.size v (Ref.uint (r.to.getD k 0)) ∧ Below W.heap.size W w') := fun W k hk => refUint_any _ W (by have := rune_of hs hk; unfold Rune at this; omega)
  have KB : Hid (∀ W, Calls Tryz.prog 33 #[.float .f64 r.wt] W fun e w' => e = .returned (.int .u64 r.wt) ∧ w' = W) := fun W => bits_any r.wt W
  have HIX : Hid (∀ k, k < fs.size → ∀ w, (Instr.index 9 (.string fs) (.int .i64 (k : Int))).run Tryz.prog w = .ok (.int .u8 ((nums fs).getD k 0)) w) := fun k h w => run_at fs _ k rfl h w
  have HBY : Hid (∀ k, 0 ≤ (nums fs).getD k 0 ∧ (nums fs).getD k 0 ≤ 255) := fun k => (nums_byt fs).at k
  have HSTEP : Hid (∀ k, k < fs.size → ((nums fs).take (k + 1)).flatMap (lb r) = ((nums fs).take k).flatMap (lb r) ++ lb r ((nums fs).getD k 0)) := fun k hk => flatMap_step (lb r) (nums fs) k 0 (by omega)
  have HZ : Hid (∀ k, k < r.to.length → 0 ≤ r.to.getD k 0 ∧ r.to.getD k 0 ≤ 2147483647 ∧ -2147483648 ≤ r.to.getD k 0) := fun k hk => ⟨hz _ (by simp [List.getD, hk]), (rune_of hs hk).2, (rune_of hs hk).1⟩
  have HT := hide hT
  have KF := hide KF
  have HTS : Hid (∀ k, k < r.to.length → (r.to.take (k + 1)).flatMap Ref.uint = (r.to.take k).flatMap Ref.uint ++ Ref.uint (r.to.getD k 0)) := fun k hk => flatMap_step Ref.uint r.to k 0 hk
  have HLB : Hid (∀ c, lb r c = if c = 83 then Ref.uint r.lo ++ Ref.uint (r.hi - r.lo) else if c = 76 then Ref.uint r.lo else if c = 78 then Ref.uint r.n else if c = 84 then Ref.uint (r.to.getD 0 0) else if c = 120 then Ref.uint r.to.length ++ r.to.flatMap Ref.uint else if c = 110 then Ref.uint r.name.size ++ nums r.name else if c = 111 then Ref.uint r.other.size ++ nums r.other else Ref.fl r.wt) := fun c => rfl
  have N1 : Hid (Ref.uint r.lo ≠ []) := uint_ne hlo
  have N2 : Hid (Ref.uint (r.hi - r.lo) ≠ []) := uint_ne (by omega)
  have N3 : Hid (Ref.uint r.n ≠ []) := uint_ne hn
  have N4 : Hid (Ref.uint r.to.length ≠ []) := uint_ne (by omega)
  have N5 : Hid (Ref.uint r.name.size ++ nums r.name ≠ []) := fun e => uint_ne (by omega) (List.append_eq_nil_iff.1 e).1
  have N6 : Hid (Ref.uint r.other.size ++ nums r.other ≠ []) := fun e => uint_ne (by omega) (List.append_eq_nil_iff.1 e).1
  have N7 : Hid (Ref.fl r.wt ≠ []) := fun e => by
    have := Ref.fl_length r.wt
    rw [e] at this
    cases this
  have NA : Hid (∀ k, k < r.to.length → Ref.uint (r.to.getD k 0) ≠ []) := fun k hk => uint_ne ((unhide HZ) k hk).1
  have L5 : Hid ((Ref.uint r.name.size ++ nums r.name).length ≤ 20) := by
    show _ ≤ _
    rw [List.length_append, nums_length]
    have := uint_len r.name.size
    omega
  have L6 : Hid ((Ref.uint r.other.size ++ nums r.other).length ≤ 20) := by
    show _ ≤ _
    rw [List.length_append, nums_length]
    have := uint_len r.other.size
    omega
  have L7 : Hid ((Ref.fl r.wt).length ≤ 20) := by
    show _ ≤ _
    rw [Ref.fl_length]
    omega
  obtain ⟨p1, p2⟩ := hf.lo
  obtain ⟨p3, p4⟩ := hf.hi
  obtain ⟨p5, p6⟩ := hf.n
  have hkd := hk
  have hone := own_one W0 (r.kind) hkd
  have hbone : Below W0.heap.size W0 (W0.alloc (.cells #[.int .u8 (r.kind)] 5)) := (Below.refl _ _).alloc (Nat.le_refl _) _
  have HONE := hide hone
  have HBONE := hide hbone
  obtain ⟨x0, x1, x2, x3, x4, x5, x6, x7⟩ := hbx
  have hlt0 : w.heap.size < W0.heap.size := lt_of_cell? x0
  obtain ⟨kk1, kk2⟩ := hk
  clear hf hs hb0 KU hT hz hone hbone hkd
  generalize htl : r.to.length = tl at *
  generalize r.kind = kd at *
  generalize r.lo = lo at *
  generalize r.hi = hi2 at *
  generalize r.n = n at *
  generalize r.name = nm at *
  generalize r.other = ot at *
  generalize r.wt = wt at *
  go_enter Tryz.func18, Tryz.ntmps18
  go_wp2_with fail
  refine ((unhide KF) _).mono ?_
  rintro e W1 ⟨rfl, hW1⟩
  clear KF
  have hown1 : Own W1 W0.heap.size (.slice (some ⟨W0.heap.size, 0, none⟩) 1 1) [kd] := by rw [hW1]; exact unhide HONE
  have hbel1 : Below W0.heap.size W0 W1 := by rw [hW1]; exact unhide HBONE
  clear hW1 HONE HBONE x0 x1 x2 x3 x4 x5 x6 x7
  go_wp2
  go_loopw [3, 5, 6] (fun bv iv _ wr => ∃ k : Nat, iv = .int .i64 k ∧ k ≤ fs.size ∧ ∃ xs, xs = kd :: ((nums fs).take k).flatMap (lb r) ∧ xs.length ≤ 1 + 300 * k ∧ Own wr W0.heap.size bv xs ∧ Below W0.heap.size W0 wr) (fun _ iv _ _ => fs.size - (intOf iv).toNat)
  case atStart => exact ⟨0, rfl, by omega, [kd], by simp, by simp, hown1, hbel1⟩
  case round =>
    obtain ⟨k, rfl, hk, xs, hxs, hxl, hown, hbel⟩ := hrel
    clear hown1 hbel1
    by_cases hlt : k < fs.size
    · have hix := (unhide HIX) k hlt
      obtain ⟨c1, c2⟩ := (unhide HBY) k
      have HTK := hide ((unhide HT) k hlt)
      have HNX : Hid (kd :: ((nums fs).take (k + 1)).flatMap (lb r) = xs ++ lb r ((nums fs).getD k 0)) := by
        show _ = _
        rw [(unhide HSTEP) k hlt, hxs]
        rfl
      clear HIX HBY HT HSTEP hxs
      generalize (nums fs).getD k 0 = c at *
      obtain ⟨x0, x1, x2, x3, x4, x5, x6, x7⟩ := (unhide HBX) _ hbel
      by_cases e83 : c = 83
      · subst e83
        have HL : Hid (kd :: ((nums fs).take (k + 1)).flatMap (lb r) = (xs ++ Ref.uint lo) ++ Ref.uint (hi2 - lo)) := by
          show _ = _
          rw [unhide HNX, (unhide HLB) 83, if_pos rfl, List.append_assoc]
        have hx1 : (xs ++ Ref.uint lo).length ≤ 1 + 300 * k + 9 := by rw [List.length_append]; have := uint_len lo; omega
        have hxf : ((xs ++ Ref.uint lo) ++ Ref.uint (hi2 - lo)).length ≤ 1 + 300 * (k + 1) := by rw [List.length_append]; have := uint_len (hi2 - lo); omega
        clear HNX HLB HTK K3 K4 K5 K6 K7 KA KB HTS HZ NA HSK HEND
        go_wp2_with fail
        refine ((unhide K1) _).mono ?_
        rintro e2 w2 ⟨v2, rfl, hown2, hb2⟩
        have hB2 := bthen hbel hb2
        have hm := hown.below hb2
        have hsw := hB2.size
        rcases hown2.sl.src with ⟨hnil, _⟩ | ⟨ad2, cap2, rfl, hsrc⟩
        · exact absurd hnil (unhide N1)
        have HS := hide hsrc
        have H1 := hide (ints_one .u8 (Ref.uint lo))
        have hmp : ((Ref.uint lo).map (Value.int .u8)).length = (Ref.uint lo).length := List.length_map _
        have HM := hide hm.2.2
        have hyl := uint_len lo
        have HMORE : Hid (∀ v5 w5, w5.ownsRow W0.heap.size 5 1 v5 (xs.length + (Ref.uint lo).length) (xs.map (Value.int .u8) ++ (Ref.uint lo).map (Value.int .u8)) → w2.grownBy w5 u3.ownBlock → Own w5 W0.heap.size v5 (xs ++ (Ref.uint lo)) ∧ Below W0.heap.size W0 w5) := fun v5 w5 hr hg => own_more hB2 hm hown2.1 (by omega) hr hg
        clear hown hown2 hsrc hbel hb2 hm hB2 x0 x1 x2 x3 x4 x5 x6 x7 K1 N1
        generalize (Ref.uint lo).map (Value.int .u8) = us at *
        generalize (Ref.uint lo).length = mm at *
        go_wp2_with (at_builtin; refine wpList_append_own _ rfl (.tmp 31) (.tmp 34) 24 rfl W0.heap.size 5 i0 (.int .u8 0) 1 1 Tryz.underlying24 hi hz0 hz1 hz2 rfl (by decide) _ _ _ rfl (unhide HM) ad2 mm cap2 us rfl (by rw [hmp]; simp) (unhide HS) (unhide H1) (by unfold maxLen; omega) (by omega) (by omega) ?_)
        intro v4 w4 hr4 hg4 _
        obtain ⟨hown, hbel⟩ := (unhide HMORE) v4 w4 hr4 hg4
        clear HMORE HM HS H1 hr4 hg4 hmp hsw
        obtain ⟨x0, x1, x2, x3, x4, x5, x6, x7⟩ := (unhide HBX) _ hbel
        generalize xs ++ Ref.uint lo = xs1 at *
        go_wp2_with fail
        refine ((unhide K2) _).mono ?_
        rintro e2 w2 ⟨v2, rfl, hown2, hb2⟩
        have hB2 := bthen hbel hb2
        have hm := hown.below hb2
        have hsw := hB2.size
        rcases hown2.sl.src with ⟨hnil, _⟩ | ⟨ad2, cap2, rfl, hsrc⟩
        · exact absurd hnil (unhide N2)
        have HS := hide hsrc
        have H1 := hide (ints_one .u8 (Ref.uint (hi2 - lo)))
        have hmp : ((Ref.uint (hi2 - lo)).map (Value.int .u8)).length = (Ref.uint (hi2 - lo)).length := List.length_map _
        have HM := hide hm.2.2
        have hyl := uint_len (hi2 - lo)
        have HMORE : Hid (∀ v5 w5, w5.ownsRow W0.heap.size 5 1 v5 (xs1.length + (Ref.uint (hi2 - lo)).length) (xs1.map (Value.int .u8) ++ (Ref.uint (hi2 - lo)).map (Value.int .u8)) → w2.grownBy w5 v4.ownBlock → Own w5 W0.heap.size v5 (xs1 ++ (Ref.uint (hi2 - lo))) ∧ Below W0.heap.size W0 w5) := fun v5 w5 hr hg => own_more hB2 hm hown2.1 (by omega) hr hg
        clear hown hown2 hsrc hbel hb2 hm hB2 x0 x1 x2 x3 x4 x5 x6 x7 K2 N2
        generalize (Ref.uint (hi2 - lo)).map (Value.int .u8) = us at *
        generalize (Ref.uint (hi2 - lo)).length = mm at *
        go_wp2_with (at_builtin; refine wpList_append_own _ rfl (.tmp 36) (.tmp 42) 24 rfl W0.heap.size 5 i0 (.int .u8 0) 1 1 Tryz.underlying24 hi hz0 hz1 hz2 rfl (by decide) _ _ _ rfl (unhide HM) ad2 mm cap2 us rfl (by rw [hmp]; simp) (unhide HS) (unhide H1) (by unfold maxLen; omega) (by omega) (by omega) ?_)
        intro v4 w4 hr4 hg4 _
        obtain ⟨hown, hbel⟩ := (unhide HMORE) v4 w4 hr4 hg4
        clear HMORE HM HS H1 hr4 hg4 hmp hsw
        obtain ⟨x0, x1, x2, x3, x4, x5, x6, x7⟩ := (unhide HBX) _ hbel
        go_wp2
        go_roundw
        case rel => exact ⟨k + 1, by go_num, by omega, _, (unhide HL).symm, by have := hxf; omega, hown, hbel⟩
        case measure => simp [intOf]; omega
      · skip
        by_cases e76 : c = 76
        · subst e76
          have HL : Hid (kd :: ((nums fs).take (k + 1)).flatMap (lb r) = xs ++ (Ref.uint lo)) := by
            show _ = _
            rw [unhide HNX, (unhide HLB) 76, if_neg (by decide), if_pos rfl]
          have hxf : (xs ++ (Ref.uint lo)).length ≤ 1 + 300 * (k + 1) := by rw [List.length_append]; have := uint_len lo; omega
          clear HNX HLB HTK K2 K3 K4 K5 K6 K7 KA KB HTS HZ NA HSK HEND
          go_wp2_with fail
          refine ((unhide K1) _).mono ?_
          rintro e2 w2 ⟨v2, rfl, hown2, hb2⟩
          have hB2 := bthen hbel hb2
          have hm := hown.below hb2
          have hsw := hB2.size
          rcases hown2.sl.src with ⟨hnil, _⟩ | ⟨ad2, cap2, rfl, hsrc⟩
          · exact absurd hnil (unhide N1)
          have HS := hide hsrc
          have H1 := hide (ints_one .u8 (Ref.uint lo))
          have hmp : ((Ref.uint lo).map (Value.int .u8)).length = (Ref.uint lo).length := List.length_map _
          have HM := hide hm.2.2
          have hyl := uint_len lo
          have HMORE : Hid (∀ v5 w5, w5.ownsRow W0.heap.size 5 1 v5 (xs.length + (Ref.uint lo).length) (xs.map (Value.int .u8) ++ (Ref.uint lo).map (Value.int .u8)) → w2.grownBy w5 u3.ownBlock → Own w5 W0.heap.size v5 (xs ++ (Ref.uint lo)) ∧ Below W0.heap.size W0 w5) := fun v5 w5 hr hg => own_more hB2 hm hown2.1 (by omega) hr hg
          clear hown hown2 hsrc hbel hb2 hm hB2 x0 x1 x2 x3 x4 x5 x6 x7 K1 N1
          generalize (Ref.uint lo).map (Value.int .u8) = us at *
          generalize (Ref.uint lo).length = mm at *
          go_wp2_with (at_builtin; refine wpList_append_own _ rfl (.tmp 46) (.tmp 49) 24 rfl W0.heap.size 5 i0 (.int .u8 0) 1 1 Tryz.underlying24 hi hz0 hz1 hz2 rfl (by decide) _ _ _ rfl (unhide HM) ad2 mm cap2 us rfl (by rw [hmp]; simp) (unhide HS) (unhide H1) (by unfold maxLen; omega) (by omega) (by omega) ?_)
          intro v4 w4 hr4 hg4 _
          obtain ⟨hown, hbel⟩ := (unhide HMORE) v4 w4 hr4 hg4
          clear HMORE HM HS H1 hr4 hg4 hmp hsw
          obtain ⟨x0, x1, x2, x3, x4, x5, x6, x7⟩ := (unhide HBX) _ hbel
          go_wp2
          go_roundw
          case rel => exact ⟨k + 1, by go_num, by omega, _, (unhide HL).symm, by have := hxf; omega, hown, hbel⟩
          case measure => simp [intOf]; omega
        · skip
          by_cases e78 : c = 78
          · subst e78
            have HL : Hid (kd :: ((nums fs).take (k + 1)).flatMap (lb r) = xs ++ (Ref.uint n)) := by
              show _ = _
              rw [unhide HNX, (unhide HLB) 78, if_neg (by decide), if_neg (by decide), if_pos rfl]
            have hxf : (xs ++ (Ref.uint n)).length ≤ 1 + 300 * (k + 1) := by rw [List.length_append]; have := uint_len n; omega
            clear HNX HLB HTK K1 K2 K4 K5 K6 K7 KA KB HTS HZ NA HSK HEND
            go_wp2_with fail
            refine ((unhide K3) _).mono ?_
            rintro e2 w2 ⟨v2, rfl, hown2, hb2⟩
            have hB2 := bthen hbel hb2
            have hm := hown.below hb2
            have hsw := hB2.size
            rcases hown2.sl.src with ⟨hnil, _⟩ | ⟨ad2, cap2, rfl, hsrc⟩
            · exact absurd hnil (unhide N3)
            have HS := hide hsrc
            have H1 := hide (ints_one .u8 (Ref.uint n))
            have hmp : ((Ref.uint n).map (Value.int .u8)).length = (Ref.uint n).length := List.length_map _
            have HM := hide hm.2.2
            have hyl := uint_len n
            have HMORE : Hid (∀ v5 w5, w5.ownsRow W0.heap.size 5 1 v5 (xs.length + (Ref.uint n).length) (xs.map (Value.int .u8) ++ (Ref.uint n).map (Value.int .u8)) → w2.grownBy w5 u3.ownBlock → Own w5 W0.heap.size v5 (xs ++ (Ref.uint n)) ∧ Below W0.heap.size W0 w5) := fun v5 w5 hr hg => own_more hB2 hm hown2.1 (by omega) hr hg
            clear hown hown2 hsrc hbel hb2 hm hB2 x0 x1 x2 x3 x4 x5 x6 x7 K3 N3
            generalize (Ref.uint n).map (Value.int .u8) = us at *
            generalize (Ref.uint n).length = mm at *
            go_wp2_with (at_builtin; refine wpList_append_own _ rfl (.tmp 53) (.tmp 56) 24 rfl W0.heap.size 5 i0 (.int .u8 0) 1 1 Tryz.underlying24 hi hz0 hz1 hz2 rfl (by decide) _ _ _ rfl (unhide HM) ad2 mm cap2 us rfl (by rw [hmp]; simp) (unhide HS) (unhide H1) (by unfold maxLen; omega) (by omega) (by omega) ?_)
            intro v4 w4 hr4 hg4 _
            obtain ⟨hown, hbel⟩ := (unhide HMORE) v4 w4 hr4 hg4
            clear HMORE HM HS H1 hr4 hg4 hmp hsw
            obtain ⟨x0, x1, x2, x3, x4, x5, x6, x7⟩ := (unhide HBX) _ hbel
            go_wp2
            go_roundw
            case rel => exact ⟨k + 1, by go_num, by omega, _, (unhide HL).symm, by have := hxf; omega, hown, hbel⟩
            case measure => simp [intOf]; omega
          · skip
            by_cases e84 : c = 84
            · subst e84
              obtain rfl : tl = 1 := (unhide HTK) rfl
              obtain ⟨tb, toff, tcap, hte, _, _, htc0⟩ := ((unhide HSK) _ hbel).place (by rw [htl]; omega)
              obtain ⟨e1, e2, e3⟩ := Value.slice.inj hte
              clear e2 hte
              subst e1
              subst e3
              have y0 := htc0 0 (by rw [htl]; omega)
              rw [Nat.add_zero] at y0
              have KA0 := hide (fun W => (unhide KA) W 0 (by omega))
              have NA0 := hide ((unhide NA) 0 (by omega))
              obtain ⟨z0, z1, z2⟩ := (unhide HZ) 0 (by omega)
              have HL : Hid (kd :: ((nums fs).take (k + 1)).flatMap (lb r) = xs ++ Ref.uint (r.to.getD 0 0)) := by
                show _ = _
                rw [unhide HNX, (unhide HLB) 84, if_neg (by decide), if_neg (by decide), if_neg (by decide), if_pos rfl]
              have hxf : (xs ++ Ref.uint (r.to.getD 0 0)).length ≤ 1 + 300 * (k + 1) := by rw [List.length_append]; have := uint_len (r.to.getD 0 0); omega
              clear HNX HLB HTK htc0 htl hto K1 K2 K3 K4 K5 K6 K7 KA KB HTS HZ NA HSK HEND
              generalize r.to.getD 0 0 = za at *
              go_wp2_with fail
              refine ((unhide KA0) _).mono ?_
              rintro e2 w2 ⟨v2, rfl, hown2, hb2⟩
              have hB2 := bthen hbel hb2
              have hm := hown.below hb2
              have hsw := hB2.size
              rcases hown2.sl.src with ⟨hnil, _⟩ | ⟨ad2, cap2, rfl, hsrc⟩
              · exact absurd hnil (unhide NA0)
              have HS := hide hsrc
              have H1 := hide (ints_one .u8 (Ref.uint za))
              have hmp : ((Ref.uint za).map (Value.int .u8)).length = (Ref.uint za).length := List.length_map _
              have HM := hide hm.2.2
              have hyl := uint_len za
              have HMORE : Hid (∀ v5 w5, w5.ownsRow W0.heap.size 5 1 v5 (xs.length + (Ref.uint za).length) (xs.map (Value.int .u8) ++ (Ref.uint za).map (Value.int .u8)) → w2.grownBy w5 u3.ownBlock → Own w5 W0.heap.size v5 (xs ++ (Ref.uint za)) ∧ Below W0.heap.size W0 w5) := fun v5 w5 hr hg => own_more hB2 hm hown2.1 (by omega) hr hg
              clear hown hown2 hsrc hbel hb2 hm hB2 x0 x1 x2 x3 x4 x5 x6 x7 KA0 NA0 y0
              generalize (Ref.uint za).map (Value.int .u8) = us at *
              generalize (Ref.uint za).length = mm at *
              go_wp2_with (at_builtin; refine wpList_append_own _ rfl (.tmp 60) (.tmp 66) 24 rfl W0.heap.size 5 i0 (.int .u8 0) 1 1 Tryz.underlying24 hi hz0 hz1 hz2 rfl (by decide) _ _ _ rfl (unhide HM) ad2 mm cap2 us rfl (by rw [hmp]; simp) (unhide HS) (unhide H1) (by unfold maxLen; omega) (by omega) (by omega) ?_)
              intro v4 w4 hr4 hg4 _
              obtain ⟨hown, hbel⟩ := (unhide HMORE) v4 w4 hr4 hg4
              clear HMORE HM HS H1 hr4 hg4 hmp hsw
              obtain ⟨x0, x1, x2, x3, x4, x5, x6, x7⟩ := (unhide HBX) _ hbel
              go_wp2
              go_roundw
              case rel => exact ⟨k + 1, by go_num, by omega, _, (unhide HL).symm, by have := hxf; omega, hown, hbel⟩
              case measure => simp [intOf]; omega
            · skip
              by_cases e120 : c = 120
              · subst e120
                have HL : Hid (kd :: ((nums fs).take (k + 1)).flatMap (lb r) = (xs ++ Ref.uint tl) ++ (r.to.take tl).flatMap Ref.uint) := by
                  show _ = _
                  rw [unhide HNX, (unhide HLB) 120, if_neg (by decide), if_neg (by decide), if_neg (by decide), if_neg (by decide), if_pos rfl, List.append_assoc, List.take_of_length_le (by omega)]
                have hx1 : (xs ++ Ref.uint tl).length ≤ 1 + 300 * k + 9 := by rw [List.length_append]; have := uint_len tl; omega
                clear HNX HLB HTK K1 K2 K3 K5 K6 K7 KB HEND
                go_wp2_with fail
                refine ((unhide K4) _).mono ?_
                rintro e2 w2 ⟨v2, rfl, hown2, hb2⟩
                have hB2 := bthen hbel hb2
                have hm := hown.below hb2
                have hsw := hB2.size
                rcases hown2.sl.src with ⟨hnil, _⟩ | ⟨ad2, cap2, rfl, hsrc⟩
                · exact absurd hnil (unhide N4)
                have HS := hide hsrc
                have H1 := hide (ints_one .u8 (Ref.uint tl))
                have hmp : ((Ref.uint tl).map (Value.int .u8)).length = (Ref.uint tl).length := List.length_map _
                have HM := hide hm.2.2
                have hyl := uint_len tl
                have HMORE : Hid (∀ v5 w5, w5.ownsRow W0.heap.size 5 1 v5 (xs.length + (Ref.uint tl).length) (xs.map (Value.int .u8) ++ (Ref.uint tl).map (Value.int .u8)) → w2.grownBy w5 u3.ownBlock → Own w5 W0.heap.size v5 (xs ++ (Ref.uint tl)) ∧ Below W0.heap.size W0 w5) := fun v5 w5 hr hg => own_more hB2 hm hown2.1 (by omega) hr hg
                clear hown hown2 hsrc hbel hb2 hm hB2 x0 x1 x2 x3 x4 x5 x6 x7 K4 N4
                generalize (Ref.uint tl).map (Value.int .u8) = us at *
                generalize (Ref.uint tl).length = mm at *
                go_wp2_with (at_builtin; refine wpList_append_own _ rfl (.tmp 70) (.tmp 74) 24 rfl W0.heap.size 5 i0 (.int .u8 0) 1 1 Tryz.underlying24 hi hz0 hz1 hz2 rfl (by decide) _ _ _ rfl (unhide HM) ad2 mm cap2 us rfl (by rw [hmp]; simp) (unhide HS) (unhide H1) (by unfold maxLen; omega) (by omega) (by omega) ?_)
                intro v4 w4 hr4 hg4 _
                obtain ⟨hown, hbel⟩ := (unhide HMORE) v4 w4 hr4 hg4
                clear HMORE HM HS H1 hr4 hg4 hmp hsw
                obtain ⟨x0, x1, x2, x3, x4, x5, x6, x7⟩ := (unhide HBX) _ hbel
                generalize xs ++ Ref.uint tl = xs1 at *
                go_wp2
                go_loopw [3, 6] (fun bw jv wi => ∃ j : Nat, jv = .int .i64 j ∧ j ≤ tl ∧ ∃ ys, ys = xs1 ++ (r.to.take j).flatMap Ref.uint ∧ ys.length ≤ 1 + 300 * k + 9 + 9 * j ∧ Own wi W0.heap.size bw ys ∧ Below W0.heap.size W0 wi) (fun _ jv _ => tl - (intOf jv).toNat)
                case atStart => exact ⟨0, rfl, by omega, xs1, by simp, by omega, hown, hbel⟩
                case round =>
                  obtain ⟨j, rfl, hj, ys, hys, hyl2, hown', hbel'⟩ := hrel
                  clear hown hbel x0 x1 x2 x3 x4 x5 x6 x7
                  obtain ⟨x0, x1, x2, x3, x4, x5, x6, x7⟩ := (unhide HBX) _ hbel'
                  have hown := hown'
                  have hbel := hbel'
                  clear hown' hbel'
                  by_cases hjl : j < tl
                  · obtain ⟨tb, toff, tcap, hte, _, _, htc0⟩ := ((unhide HSK) _ hbel).place (by rw [htl]; omega)
                    obtain ⟨e1, e2, e3⟩ := Value.slice.inj hte
                    clear e2 hte
                    subst e1
                    subst e3
                    have y0 := htc0 j (by rw [htl]; omega)
                    have KA0 := hide (fun W => (unhide KA) W j (by omega))
                    have NA0 := hide ((unhide NA) j (by omega))
                    obtain ⟨z0, z1, z2⟩ := (unhide HZ) j (by omega)
                    have HL2 : Hid (xs1 ++ (r.to.take (j + 1)).flatMap Ref.uint = ys ++ Ref.uint (r.to.getD j 0)) := by
                      show _ = _
                      rw [(unhide HTS) j (by omega), hys, List.append_assoc]
                    have hxg : (ys ++ Ref.uint (r.to.getD j 0)).length ≤ 1 + 300 * k + 9 + 9 * (j + 1) := by rw [List.length_append]; have := uint_len (r.to.getD j 0); omega
                    clear KA NA HZ HTS htc0 hys
                    generalize r.to.getD j 0 = za at *
                    go_wp2_with fail
                    refine ((unhide KA0) _).mono ?_
                    rintro e2 w2 ⟨v2, rfl, hown2, hb2⟩
                    have hB2 := bthen hbel hb2
                    have hm := hown.below hb2
                    have hsw := hB2.size
                    rcases hown2.sl.src with ⟨hnil, _⟩ | ⟨ad2, cap2, rfl, hsrc⟩
                    · exact absurd hnil (unhide NA0)
                    have HS := hide hsrc
                    have H1 := hide (ints_one .u8 (Ref.uint za))
                    have hmp : ((Ref.uint za).map (Value.int .u8)).length = (Ref.uint za).length := List.length_map _
                    have HM := hide hm.2.2
                    have hyl := uint_len za
                    have HMORE : Hid (∀ v5 w5, w5.ownsRow W0.heap.size 5 1 v5 (ys.length + (Ref.uint za).length) (ys.map (Value.int .u8) ++ (Ref.uint za).map (Value.int .u8)) → w2.grownBy w5 u3.ownBlock → Own w5 W0.heap.size v5 (ys ++ (Ref.uint za)) ∧ Below W0.heap.size W0 w5) := fun v5 w5 hr hg => own_more hB2 hm hown2.1 (by omega) hr hg
                    clear hown hown2 hsrc hbel hb2 hm hB2 x0 x1 x2 x3 x4 x5 x6 x7 KA0 NA0 y0
                    generalize (Ref.uint za).map (Value.int .u8) = us at *
                    generalize (Ref.uint za).length = mm at *
                    go_wp2_with (at_builtin; refine wpList_append_own _ rfl (.tmp 83) (.tmp 90) 24 rfl W0.heap.size 5 i0 (.int .u8 0) 1 1 Tryz.underlying24 hi hz0 hz1 hz2 rfl (by decide) _ _ _ rfl (unhide HM) ad2 mm cap2 us rfl (by rw [hmp]; simp) (unhide HS) (unhide H1) (by unfold maxLen; omega) (by omega) (by omega) ?_)
                    intro v4 w4 hr4 hg4 _
                    obtain ⟨hown, hbel⟩ := (unhide HMORE) v4 w4 hr4 hg4
                    clear HMORE HM HS H1 hr4 hg4 hmp hsw
                    obtain ⟨x0, x1, x2, x3, x4, x5, x6, x7⟩ := (unhide HBX) _ hbel
                    go_wp2
                    go_roundw
                    case rel => exact ⟨j + 1, by go_num, by omega, _, (unhide HL2).symm, by omega, hown, hbel⟩
                    case measure => simp [intOf]; omega
                  · obtain rfl : j = tl := by omega
                    have hxf : ys.length ≤ 1 + 300 * (k + 1) := by omega
                    have hyn := (unhide HL).trans hys.symm
                    have HYN := hide hyn
                    clear hyn hys HL KA NA HZ HTS HSK
                    go_wp2
                    go_round
                    case rel => exact ⟨k + 1, by go_num, by omega, ys, (unhide HYN).symm, hxf, hown, hbel⟩
                    case measure => simp [intOf]; omega
              · skip
                by_cases e110 : c = 110
                · subst e110
                  have HL : Hid (kd :: ((nums fs).take (k + 1)).flatMap (lb r) = xs ++ (Ref.uint nm.size ++ nums nm)) := by
                    show _ = _
                    rw [unhide HNX, (unhide HLB) 110, if_neg (by decide), if_neg (by decide), if_neg (by decide), if_neg (by decide), if_neg (by decide), if_pos rfl]
                  have hxf : (xs ++ (Ref.uint nm.size ++ nums nm)).length ≤ 1 + 300 * (k + 1) := by rw [List.length_append]; have := (unhide L5); omega
                  clear HNX HLB HTK K1 K2 K3 K4 K6 K7 KA KB HTS HZ NA HSK HEND
                  go_wp2_with fail
                  refine ((unhide K5) _).mono ?_
                  rintro e2 w2 ⟨v2, rfl, hown2, hb2⟩
                  have hB2 := bthen hbel hb2
                  have hm := hown.below hb2
                  have hsw := hB2.size
                  rcases hown2.sl.src with ⟨hnil, _⟩ | ⟨ad2, cap2, rfl, hsrc⟩
                  · exact absurd hnil (unhide N5)
                  have HS := hide hsrc
                  have H1 := hide (ints_one .u8 (Ref.uint nm.size ++ nums nm))
                  have hmp : ((Ref.uint nm.size ++ nums nm).map (Value.int .u8)).length = (Ref.uint nm.size ++ nums nm).length := List.length_map _
                  have HM := hide hm.2.2
                  have hyl := (unhide L5)
                  have HMORE : Hid (∀ v5 w5, w5.ownsRow W0.heap.size 5 1 v5 (xs.length + (Ref.uint nm.size ++ nums nm).length) (xs.map (Value.int .u8) ++ (Ref.uint nm.size ++ nums nm).map (Value.int .u8)) → w2.grownBy w5 u3.ownBlock → Own w5 W0.heap.size v5 (xs ++ (Ref.uint nm.size ++ nums nm)) ∧ Below W0.heap.size W0 w5) := fun v5 w5 hr hg => own_more hB2 hm hown2.1 (by omega) hr hg
                  clear hown hown2 hsrc hbel hb2 hm hB2 x0 x1 x2 x3 x4 x5 x6 x7 K5 N5
                  generalize (Ref.uint nm.size ++ nums nm).map (Value.int .u8) = us at *
                  generalize (Ref.uint nm.size ++ nums nm).length = mm at *
                  go_wp2_with (at_builtin; refine wpList_append_own _ rfl (.tmp 94) (.tmp 97) 24 rfl W0.heap.size 5 i0 (.int .u8 0) 1 1 Tryz.underlying24 hi hz0 hz1 hz2 rfl (by decide) _ _ _ rfl (unhide HM) ad2 mm cap2 us rfl (by rw [hmp]; simp) (unhide HS) (unhide H1) (by unfold maxLen; omega) (by omega) (by omega) ?_)
                  intro v4 w4 hr4 hg4 _
                  obtain ⟨hown, hbel⟩ := (unhide HMORE) v4 w4 hr4 hg4
                  clear HMORE HM HS H1 hr4 hg4 hmp hsw
                  obtain ⟨x0, x1, x2, x3, x4, x5, x6, x7⟩ := (unhide HBX) _ hbel
                  go_wp2
                  go_roundw
                  case rel => exact ⟨k + 1, by go_num, by omega, _, (unhide HL).symm, by have := hxf; omega, hown, hbel⟩
                  case measure => simp [intOf]; omega
                · skip
                  by_cases e111 : c = 111
                  · subst e111
                    have HL : Hid (kd :: ((nums fs).take (k + 1)).flatMap (lb r) = xs ++ (Ref.uint ot.size ++ nums ot)) := by
                      show _ = _
                      rw [unhide HNX, (unhide HLB) 111, if_neg (by decide), if_neg (by decide), if_neg (by decide), if_neg (by decide), if_neg (by decide), if_neg (by decide), if_pos rfl]
                    have hxf : (xs ++ (Ref.uint ot.size ++ nums ot)).length ≤ 1 + 300 * (k + 1) := by rw [List.length_append]; have := (unhide L6); omega
                    clear HNX HLB HTK K1 K2 K3 K4 K5 K7 KA KB HTS HZ NA HSK HEND
                    go_wp2_with fail
                    refine ((unhide K6) _).mono ?_
                    rintro e2 w2 ⟨v2, rfl, hown2, hb2⟩
                    have hB2 := bthen hbel hb2
                    have hm := hown.below hb2
                    have hsw := hB2.size
                    rcases hown2.sl.src with ⟨hnil, _⟩ | ⟨ad2, cap2, rfl, hsrc⟩
                    · exact absurd hnil (unhide N6)
                    have HS := hide hsrc
                    have H1 := hide (ints_one .u8 (Ref.uint ot.size ++ nums ot))
                    have hmp : ((Ref.uint ot.size ++ nums ot).map (Value.int .u8)).length = (Ref.uint ot.size ++ nums ot).length := List.length_map _
                    have HM := hide hm.2.2
                    have hyl := (unhide L6)
                    have HMORE : Hid (∀ v5 w5, w5.ownsRow W0.heap.size 5 1 v5 (xs.length + (Ref.uint ot.size ++ nums ot).length) (xs.map (Value.int .u8) ++ (Ref.uint ot.size ++ nums ot).map (Value.int .u8)) → w2.grownBy w5 u3.ownBlock → Own w5 W0.heap.size v5 (xs ++ (Ref.uint ot.size ++ nums ot)) ∧ Below W0.heap.size W0 w5) := fun v5 w5 hr hg => own_more hB2 hm hown2.1 (by omega) hr hg
                    clear hown hown2 hsrc hbel hb2 hm hB2 x0 x1 x2 x3 x4 x5 x6 x7 K6 N6
                    generalize (Ref.uint ot.size ++ nums ot).map (Value.int .u8) = us at *
                    generalize (Ref.uint ot.size ++ nums ot).length = mm at *
                    go_wp2_with (at_builtin; refine wpList_append_own _ rfl (.tmp 101) (.tmp 104) 24 rfl W0.heap.size 5 i0 (.int .u8 0) 1 1 Tryz.underlying24 hi hz0 hz1 hz2 rfl (by decide) _ _ _ rfl (unhide HM) ad2 mm cap2 us rfl (by rw [hmp]; simp) (unhide HS) (unhide H1) (by unfold maxLen; omega) (by omega) (by omega) ?_)
                    intro v4 w4 hr4 hg4 _
                    obtain ⟨hown, hbel⟩ := (unhide HMORE) v4 w4 hr4 hg4
                    clear HMORE HM HS H1 hr4 hg4 hmp hsw
                    obtain ⟨x0, x1, x2, x3, x4, x5, x6, x7⟩ := (unhide HBX) _ hbel
                    go_wp2
                    go_roundw
                    case rel => exact ⟨k + 1, by go_num, by omega, _, (unhide HL).symm, by have := hxf; omega, hown, hbel⟩
                    case measure => simp [intOf]; omega
                  · skip
                    have d83 : (c == 83) = false := beq_eq_false_iff_ne.2 e83
                    have d76 : (c == 76) = false := beq_eq_false_iff_ne.2 e76
                    have d78 : (c == 78) = false := beq_eq_false_iff_ne.2 e78
                    have d84 : (c == 84) = false := beq_eq_false_iff_ne.2 e84
                    have d120 : (c == 120) = false := beq_eq_false_iff_ne.2 e120
                    have d110 : (c == 110) = false := beq_eq_false_iff_ne.2 e110
                    have d111 : (c == 111) = false := beq_eq_false_iff_ne.2 e111
                    have HL : Hid (kd :: ((nums fs).take (k + 1)).flatMap (lb r) = xs ++ Ref.fl wt) := by
                      show _ = _
                      rw [unhide HNX, (unhide HLB) c, if_neg e83, if_neg e76, if_neg e78, if_neg e84, if_neg e120, if_neg e110, if_neg e111]
                    have hxf : (xs ++ Ref.fl wt).length ≤ 1 + 300 * (k + 1) := by rw [List.length_append]; have := unhide L7; omega
                    clear HNX HLB HTK K1 K2 K3 K4 K5 K6 KA HTS HZ NA HSK HEND e83 e76 e78 e84 e120 e110 e111
                    go_wp2_with fail
                    refine ((unhide KB) _).mono ?_
                    rintro e3 w3 ⟨rfl, rfl⟩
                    clear KB
                    go_wp2_with fail
                    refine ((unhide K7) _).mono ?_
                    rintro e2 w2 ⟨v2, rfl, hown2, hb2⟩
                    have hB2 := bthen hbel hb2
                    have hm := hown.below hb2
                    have hsw := hB2.size
                    rcases hown2.sl.src with ⟨hnil, _⟩ | ⟨ad2, cap2, rfl, hsrc⟩
                    · exact absurd hnil (unhide N7)
                    have HS := hide hsrc
                    have H1 := hide (ints_one .u8 (Ref.fl wt))
                    have hmp : ((Ref.fl wt).map (Value.int .u8)).length = (Ref.fl wt).length := List.length_map _
                    have HM := hide hm.2.2
                    have hyl := (unhide L7)
                    have HMORE : Hid (∀ v5 w5, w5.ownsRow W0.heap.size 5 1 v5 (xs.length + (Ref.fl wt).length) (xs.map (Value.int .u8) ++ (Ref.fl wt).map (Value.int .u8)) → w2.grownBy w5 u3.ownBlock → Own w5 W0.heap.size v5 (xs ++ (Ref.fl wt)) ∧ Below W0.heap.size W0 w5) := fun v5 w5 hr hg => own_more hB2 hm hown2.1 (by omega) hr hg
                    clear hown hown2 hsrc hbel hb2 hm hB2 x0 x1 x2 x3 x4 x5 x6 x7 K7 N7
                    generalize (Ref.fl wt).map (Value.int .u8) = us at *
                    generalize (Ref.fl wt).length = mm at *
                    go_wp2_with (at_builtin; refine wpList_append_own _ rfl (.tmp 23) (.tmp 27) 24 rfl W0.heap.size 5 i0 (.int .u8 0) 1 1 Tryz.underlying24 hi hz0 hz1 hz2 rfl (by decide) _ _ _ rfl (unhide HM) ad2 mm cap2 us rfl (by rw [hmp]; simp) (unhide HS) (unhide H1) (by unfold maxLen; omega) (by omega) (by omega) ?_)
                    intro v4 w4 hr4 hg4 _
                    obtain ⟨hown, hbel⟩ := (unhide HMORE) v4 w4 hr4 hg4
                    clear HMORE HM HS H1 hr4 hg4 hmp hsw
                    obtain ⟨x0, x1, x2, x3, x4, x5, x6, x7⟩ := (unhide HBX) _ hbel
                    go_wp2
                    go_roundw
                    case rel => exact ⟨k + 1, by go_num, by omega, _, (unhide HL).symm, by have := hxf; omega, hown, hbel⟩
                    case measure => simp [intOf]; omega
    · obtain rfl : k = fs.size := by omega
      have R := (unhide HEND) _ _ _ hown hbel
      rw [hxs, List.take_of_length_le (by omega)] at R
      have HR := hide R
      clear R hown hbel hxs HBX HSK HEND HTS HLB HT HIX HBY HSTEP KA KB K1 K2 K3 K4 K5 K6 K7
      go_wp2
      go_ret
      exact ⟨_, rfl, unhide HR⟩
end Go.Proofs.YtdnkfnccbmbpaaaGreatDoor
