/- written: all that stands ahead of the sum. -/
import Derived.Test.YtdnkfnccbmbpaaaGreatDoorGo8
import Derived.ArgAppend
import Derived.Test.YtdnkfnccbmbpaaaGreatDoorGb8
import Derived.Lib.SlBytesConst
namespace Go.Proofs.YtdnkfnccbmbpaaaGreatDoor
open Go.RowKit
open Wi

theorem take_getD {α : Type} (l : List α) (k : Nat) (d : α) (hk : k < l.length) : l.take (k + 1) = l.take k ++ [l.getD k d] := by
  rw [List.take_succ_eq_append_getElem hk]; simp [List.getD, hk]
theorem flatMap_step {α : Type} (g : α → List Int) (l : List α) (k : Nat) (d : α) (hk : k < l.length) : (l.take (k + 1)).flatMap g = (l.take k).flatMap g ++ g (l.getD k d) := by
  rw [take_getD l k d hk, List.flatMap_append]; simp
theorem Fds.lower {w : World} {B B' p : Nat} {v : Value} {fs : List Nat} (h : Fds w B p v fs) (hB : B' ≤ B) : Fds w B' p v fs := by
  obtain ⟨xs, h1, h2, h3⟩ := h
  refine ⟨xs, h1, ⟨h2.1, ?_⟩, h3⟩
  rcases h2.2 with h4 | ⟨g, cap, cur, hv, hg, r⟩
  · exact .inl h4
  · exact .inr ⟨g, cap, cur, hv, by omega, r⟩
theorem kinds15 {k : Int} (hf : Cn.fam k ≠ 0) : k = 1 ∨ k = 2 ∨ k = 3 ∨ k = 4 ∨ k = 5 ∨ k = 6 ∨ k = 7 ∨ k = 8 ∨ k = 9 ∨ k = 10 ∨ k = 11 ∨ k = 12 ∨ k = 13 ∨ k = 14 ∨ k = 15 := by
  unfold Cn.fam at hf
  by_cases h : k < 1 ∨ 15 < k
  · rw [if_pos h] at hf; exact absurd rfl hf
  · omega
theorem form_ne {k : Int} (hf : Cn.fam k ≠ 0) : 0 < (Pk.form k).length := by
  rcases kinds15 hf with rfl | rfl | rfl | rfl | rfl | rfl | rfl | rfl | rfl | rfl | rfl | rfl | rfl | rfl | rfl <;> decide
theorem one_new (W : World) (v : Value) (T : TypeId) (n : Nat) (hn : n = W.heap.size) : ∀ j u, [v][j]? = some u → (W.alloc (.cells #[v] T)).cell? ((⟨n, 0, none⟩ : Addr).add j) = some u := by
  subst hn; exact cell_one_new _ _ _
theorem lit_at (w : World) (g : Nat) (hg : g = w.heap.size) (zs : List Int) (C : Array Value) (hC : C = (zs.map (Value.int .u8)).toArray) (m : Nat × Nat) (o : Obj) : ∀ j u, (zs.map (Value.int .u8))[j]? = some u → ((w.alloc (.cells C 5 m)).alloc o).cell? ((⟨g, 0, none⟩ : Addr).add j) = some u := by
  subst hg; subst hC
  intro j u hj
  rw [addr_add]
  refine cell_old o ?_
  rw [World.cell?_alloc_mark]
  simpa using hj
theorem byt_of {zs : List Int} (h : zs.all (fun z => decide (0 ≤ z) && decide (z ≤ 255)) = true) : Byt zs := by
  intro z hz
  have := List.all_eq_true.1 h z hz
  simpa using this
/-- The record in its new block, its kind written, ahead of its parts. -/
structure Wst0 (w wr : World) (p : Nat) (vt : Value) (r : Rec) (bv : Value) (xs : List Int) : Prop where
  own : Own wr w.heap.size bv xs
  bel : Below w.heap.size w wr
  blk : wr.heap[p]? = some (.cells (rarr r vt) 46 (0, 0))
  at_ : w.heap.size ≤ p
  to : Sk .i32 w vt r.to
theorem Wst0.on {w wr w' : World} {p : Nat} {vt vf : Value} {fs : List Nat} {r : Rec} {bv : Value} {xs : List Int} (h : Wst0 w wr p vt r bv xs) (hb : Below wr.heap.size wr w') (hf : Fds w' wr.heap.size p vf fs) : Wst w w' p vt vf fs r bv xs :=
  ⟨h.own.below hb, bthen h.bel hb, by rw [hb.block p (lt_of_cell? (cell_of (j := 0) h.blk (by show _ < 8; omega)))]; exact h.blk, h.at_, h.to, hf.lower h.bel.size⟩
theorem Wst0.mk' {w wr w4 : World} {vt : Value} {r : Rec} {bv v4 : Value} {xs : List Int} {o : Obj} {c : Int} (hown : Own wr w.heap.size bv xs) (hb : Below w.heap.size w wr) (ht : Sk .i32 w vt r.to) (hc : 0 ≤ c ∧ c ≤ 255) (hl : xs.length ≤ 1000000000)
    (hg : ((wr.alloc (.cells (rarr r vt) 46)).alloc o).grownBy w4 bv.ownBlock) (hr : w4.ownsRow w.heap.size 5 1 v4 (xs.length + 1) (xs.map (Value.int .u8) ++ [.int .u8 c])) : Wst0 w w4 wr.heap.size vt r v4 (xs ++ [c]) := by
  have hs := hb.size
  refine ⟨⟨hown.1.snoc hc.1 hc.2, by simp; omega, by simpa using hr⟩, ?_, ?_, hs, ht⟩
  · exact ((hb.alloc hs _).alloc (by simp; omega) o).grown hg (by simp; omega) (fun k hk => (hown.2.2.lt k hk).1)
  · rw [hg.block _ (by simp; omega) (fun e => by have := (hown.2.2.lt _ e.symm).2; omega)]
    show ((wr.heap.push _).push _)[wr.heap.size]? = _
    rw [Array.getElem?_push, Array.getElem?_push]; simp
set_option maxRecDepth 8000 in
set_option maxHeartbeats 8000000 in
theorem written_any (v : Value) (rs : List Rec) (w : World) (hv : Rcs w v rs) (hl : rs.length ≤ 4096) (hok : ∀ r ∈ rs, Rok r) : Calls Tryz.prog 14 #[v] w (WrB w (Pk.body rs)) := by
  obtain ⟨i0, hi, hz0, hz1, hz2⟩ := info_parts Tryz.info5
  have kc := fun (w : World) (C : Array Value) (n c : Nat) => Lib.run_convert_bytes_const (P := Tryz.prog) w 24 5 C n c Tryz.underlying24 Tryz.underlying5
  have hul := uint_len rs.length
  have KU := hide (fun W => uint_any (rs.length : Int) W (by omega))
  have KF := hide (fun p k W hf hk => fields_any p k W hf hk)
  have HOK := hide hok
  obtain ⟨ao, cap, hve, _, _⟩ := hv.shape
  have HV : Hid (Rcs w v rs) := hv
  clear hok hv
  subst hve
  have hrb := fun l h => rbs_len l h
  have HRB := hide hrb
  clear hrb
  go_enter Tryz.func14, Tryz.ntmps14
  go_wp2_with (at_builtin; refine wpList_append_grows _ rfl (.tmp 9) (.tmp 10) 24 rfl 5 i0 (.int .u8 0) 1 1 Tryz.underlying24 hi hz0 hz1 hz2 rfl (by decide) _ 4 4 [.int .u8 101, .int .u8 110, .int .u8 100, .int .u8 111] rfl (fun h => by cases h) rfl ?_ _ 1 1 [.int .u8 1] rfl rfl ?_ (int_one _ _) (by omega) (by unfold maxLen; omega) (by omega) ?_)
  · rintro b hb j u hj
    cases hb
    exact lit_at w w.heap.size rfl [101, 110, 100, 111] _ rfl _ _ j u hj
  · exact one_new _ _ _ _ (by simp)
  intro v1 w1 hr1 hg1
  have hb1 : Below w.heap.size w w1 := (((Below.refl w.heap.size w).alloc (Nat.le_refl _) _).alloc (by simp) _).grown hg1 (by simp; omega) (fun k hk => by cases hk)
  have hown1 : Own w1 w.heap.size v1 Pk.head := Own.lower (B := w.heap.size + 1 + 1) ⟨byt_of rfl, by decide, hr1⟩ (by omega)
  clear hr1 hg1 kc
  go_wp2_with fail
  refine ((unhide KU) w1).mono ?_
  rintro e2 w2 ⟨v2, rfl, hown2, hb2⟩
  clear KU
  have hs1 := hb1.size
  have hs2 := hb2.size
  have hB2 : Below w.heap.size w w2 := bthen hb1 hb2
  have hm := hown1.below hb2
  rcases hown2.sl.src with ⟨hnil, _⟩ | ⟨ad, cap2, rfl, hsrc⟩
  · exact absurd hnil (uint_ne (by omega))
  have HS := hide hsrc
  have H1 := hide (ints_one .u8 (Ref.uint rs.length))
  have hmp : ((Ref.uint (rs.length : Int)).map (Value.int .u8)).length = (Ref.uint (rs.length : Int)).length := List.length_map _
  have HM := hide hm.2.2
  have HMORE : Hid (∀ v4 w4, w4.ownsRow w.heap.size 5 1 v4 (5 + (Ref.uint (rs.length : Int)).length) ([.int .u8 101, .int .u8 110, .int .u8 100, .int .u8 111, .int .u8 1] ++ (Ref.uint (rs.length : Int)).map (Value.int .u8)) → w2.grownBy w4 v1.ownBlock → Own w4 w.heap.size v4 (Pk.head ++ Ref.uint rs.length) ∧ Below w.heap.size w w4) := fun v4 w4 hr hg =>
    ⟨⟨hown1.1.append hown2.1, by rw [List.length_append]; simp only [Pk.head, List.length_cons, List.length_nil]; omega, by rw [List.length_append, List.map_append]; exact hr⟩, hB2.grown hg (by omega) (fun g hg' => (hm.2.2.lt g hg').1)⟩
  clear hown1 hown2 hsrc hb1 hb2 hm hB2
  generalize (Ref.uint (rs.length : Int)).map (Value.int .u8) = us at *
  generalize (Ref.uint (rs.length : Int)).length = m at *
  go_wp2_with (at_builtin; refine wpList_append_own _ rfl (.tmp 12) (.tmp 15) 24 rfl w.heap.size 5 i0 (.int .u8 0) 1 1 Tryz.underlying24 hi hz0 hz1 hz2 rfl (by decide) _ _ _ rfl (unhide HM) ad m cap2 us rfl (by rw [hmp]; simp) (unhide HS) (unhide H1) (by unfold maxLen; show 5 + m ≤ _; omega) (by show (5 + m) * 1 ≤ _; omega) (by omega) ?_)
  intro v4 w4 hr4 hg4 _
  obtain ⟨hown4, hB4⟩ := (unhide HMORE) v4 w4 hr4 hg4
  clear HMORE HM HS H1 hr4 hg4 hmp hs1 hs2
  go_wp2
  go_loopw [3, 5, 7, 19, 31] (fun bv _ _ iv _ wr => ∃ k : Nat, iv = .int .i64 k ∧ k ≤ rs.length ∧ Own wr w.heap.size bv (Pk.head ++ Ref.uint rs.length ++ (rs.take k).flatMap Pk.rb) ∧ Below w.heap.size w wr) (fun _ _ _ iv _ _ => rs.length - (intOf iv).toNat)
  case atStart => exact ⟨0, rfl, by omega, by simpa using hown4, hB4⟩
  case round =>
    obtain ⟨k, rfl, hk, hown, hbel⟩ := hrel
    clear hown4 hB4
    by_cases hlt : k < rs.length
    · obtain ⟨b, off, cap', hve, hl1, hl2, hcells⟩ := (unhide HV).place (by omega)
      simp only [Value.slice.injEq, true_and] at hve
      obtain ⟨rfl, rfl⟩ := hve
      have hra := hcells k hlt
      have hrk : Rok (rs.getD k Cn.none) := (unhide HOK) _ (by simp [List.getD, hlt])
      have HST := hide (flatMap_step Pk.rb rs k Cn.none hlt)
      have hpl : (Pk.head ++ Ref.uint rs.length ++ (rs.take k).flatMap Pk.rb).length ≤ 500000000 := by
        have h1 := (unhide HRB) (rs.take k) (fun r hr => (unhide HOK) r (List.mem_of_mem_take hr))
        have h2 : (rs.take k).length ≤ k := List.length_take_le _ _
        have h3 := uint_len rs.length
        have h4 : Pk.head.length = 5 := rfl
        rw [List.length_append, List.length_append, h4]; omega
      have HNX : Hid (Pk.head ++ Ref.uint rs.length ++ (rs.take (k + 1)).flatMap Pk.rb = (Pk.head ++ Ref.uint rs.length ++ (rs.take k).flatMap Pk.rb) ++ Pk.rb (rs.getD k Cn.none)) := by
        show _ = _
        rw [unhide HST, ← List.append_assoc]
      clear HST hcells
      generalize rs.getD k Cn.none = r at *
      generalize Pk.head ++ Ref.uint rs.length ++ (rs.take k).flatMap Pk.rb = xs at *
      obtain ⟨y0, y1, y2, y3, ⟨vt, y4, hsk⟩, y5, y6, y7⟩ := hra
      have hold : ∀ j u, w.cell? ⟨b, off + k * 8 + j, none⟩ = some u → wr.cell? ⟨b, off + k * 8 + j, none⟩ = some u := fun j u h => by rw [hbel.cell (lt_of_cell? h)]; exact h
      have x0 : wr.cell? ⟨b, off + k * 8, none⟩ = some (.int .i64 r.kind) := hold 0 _ y0
      have x1 := hold 1 _ y1
      have x2 := hold 2 _ y2
      have x3 := hold 3 _ y3
      have x4 := hold 4 _ y4
      have x5 := hold 5 _ y5
      have x6 := hold 6 _ y6
      have x7 := hold 7 _ y7
      clear hold y0 y1 y2 y3 y4 y5 y6 y7
      have hs := hbel.size
      obtain ⟨tao, tcap, hvt, _, _⟩ := hsk.shape
      have hfl : ∀ W a m, (store a (.float .f64 r.wt) m).run Tryz.prog W = stored Tryz.prog W a (.float .f64 r.wt) m := fun W a m => run_store Tryz.prog W a _ m rfl
      have HM : Hid (∀ o o2, ((wr.alloc o).alloc o2).ownsRow w.heap.size 5 1 u3 xs.length (xs.map (Value.int .u8))) := fun o o2 => (hown.2.2.alloc o).alloc o2
      have HMK : Hid (∀ o v5 w5, ((wr.alloc (.cells (rarr r vt) 46)).alloc o).grownBy w5 u3.ownBlock → w5.ownsRow w.heap.size 5 1 v5 (xs.length + 1) (xs.map (Value.int .u8) ++ [.int .u8 (r.kind % 256)]) → Wst0 w w5 wr.heap.size vt r v5 (xs ++ [r.kind % 256])) := fun o v5 w5 hg hr => Wst0.mk' hown hbel hsk (by omega) (by omega) hg hr
      have hsk' := hide hsk
      clear hown hbel hsk
      subst hvt
      go_wp2_with (at_builtin; refine wpList_append_own _ rfl (.tmp 23) (.tmp 27) 24 rfl w.heap.size 5 i0 (.int .u8 0) 1 1 Tryz.underlying24 hi hz0 hz1 hz2 rfl (by decide) _ _ _ rfl ((unhide HM) _ _) ⟨wr.heap.size + 1, 0, none⟩ 1 1 [.int .u8 (r.kind % 256)] rfl rfl (one_new _ _ _ _ (by simp)) (int_one _ _) (by unfold maxLen; omega) (by omega) (by simp; omega) ?_)
      intro v5 w5 hr5 hg5 _
      have hW0 := (unhide HMK) _ v5 w5 hg5 hr5
      clear HM HMK hr5 hg5 x0 x1 x2 x3 x4 x5 x6 x7
      have z0 : w5.cell? ⟨wr.heap.size, 0, none⟩ = some (.int .i64 r.kind) := cell_of (j := 0) hW0.blk (by show _ < 8; omega)
      have KF2 := hide ((unhide KF) _ r.kind w5 hrk.1 z0)
      clear z0
      go_wp2_with fail
      refine (unhide KF2).mono ?_
      rintro e6 w6 ⟨vf, rfl, hfds, hb6⟩
      have hst := hW0.on hb6 hfds
      have hfne := form_ne hrk.1
      have hf4 := form_len r.kind
      have HWOK := hide hrk.2
      have HRBE : Hid (Pk.rb r = r.kind % 256 :: (Pk.form r.kind).flatMap (Pk.fb r)) := rfl
      clear KF2 hW0 hb6 hfds hrk
      generalize Pk.form r.kind = fs at *
      have HPL := hide hpl
      obtain ⟨g, fcap, hvf, hfc1, hfc2, _⟩ := hst.fds.place hfne
      subst hvf
      go_wp2
      generalize wr.heap.size = p at *
      go_loopw [3, 7, 31] (fun bv _ iv wi => ∃ j : Nat, iv = .int .i64 j ∧ j ≤ fs.length ∧ Wst w wi p (.slice tao r.to.length tcap) (.slice (some ⟨g, 0, none⟩) fs.length fcap) fs r bv (xs ++ [r.kind % 256] ++ (fs.take j).flatMap (Pk.fb r))) (fun _ _ iv _ => fs.length - (intOf iv).toNat)
      case atStart => exact ⟨0, rfl, by omega, by simpa using hst⟩
      case round =>
        obtain ⟨j, rfl, hj, hwi⟩ := hrel
        clear hst
        by_cases hjl : j < fs.length
        · obtain ⟨g', cap'', hve, _, _, hcell⟩ := hwi.fds.place hfne
          simp only [Value.slice.injEq, Option.some.injEq, Addr.mk.injEq, and_true, true_and] at hve
          obtain ⟨rfl, rfl⟩ := hve
          obtain ⟨x, hfd, c0, c1⟩ := hcell j hjl
          obtain ⟨k1, b1, k2, b2, rfl⟩ := hfd.shape
          have hwo : Wok r (fs.getD j 0) := (unhide HWOK) _ (by simp [List.getD, hjl])
          have hbl := fb_len hwo
          have hbn := fb_ne hwo
          have KW := fun o => write_at (hfd.keep (Bxs.alloc wr o)) (hwi.below ((Below.refl _ _).alloc (Nat.le_refl _) o)).ra hwo
          have eg : ∀ args W, (callFunc k1 args).run Tryz.prog W = .ok (.enter k1 args) W := (KW (.cells #[] 0)).1
          have KW := hide fun o => (KW o).2
          have HNJ : Hid (xs ++ [r.kind % 256] ++ (fs.take (j + 1)).flatMap (Pk.fb r) = (xs ++ [r.kind % 256] ++ (fs.take j).flatMap (Pk.fb r)) ++ Pk.fb r (fs.getD j 0)) := by
            show _ = _
            rw [flatMap_step (Pk.fb r) fs j 0 hjl, ← List.append_assoc]
          have hjp : (xs ++ [r.kind % 256] ++ (fs.take j).flatMap (Pk.fb r)).length ≤ 600000000 := by
            have h1 := fbs_len (r := r) (fs.take j) (fun f hf => (unhide HWOK) f (List.mem_of_mem_take hf))
            have h2 : (fs.take j).length ≤ j := List.length_take_le _ _
            have h3 := unhide HPL
            rw [List.length_append, List.length_append]
            simp only [List.length_cons, List.length_nil]
            omega
          have HWI := hide hwi
          clear hcell hfd hwo hwi
          generalize Pk.fb r (fs.getD j 0) = bs at *
          generalize xs ++ [r.kind % 256] ++ (fs.take j).flatMap (Pk.fb r) = qs at *
          have hst2 : ∀ W a m fn x y, (store a (.func fn x y) m).run Tryz.prog W = stored Tryz.prog W a (.func fn x y) m := fun W a m fn x y => run_store Tryz.prog W a _ m rfl
          go_wp2_with fail
          refine ((unhide KW) _).mono ?_
          rintro e7 w7 ⟨v7, rfl, hown7, hb7⟩
          have hw7 := ((unhide HWI).below ((Below.refl _ _).alloc (Nat.le_refl _) _)).below hb7
          have hsw := hw7.bel.size
          have HM := hide hw7.own.2.2
          have HMORE : Hid (∀ v8 w8, w8.ownsRow w.heap.size 5 1 v8 (qs.length + bs.length) (qs.map (Value.int .u8) ++ bs.map (Value.int .u8)) → w7.grownBy w8 u3.ownBlock → Wst w w8 p (.slice tao r.to.length tcap) (.slice (some ⟨g, 0, none⟩) fs.length fcap) fs r v8 (qs ++ bs)) := fun v8 w8 hr hg =>
            hw7.more hg ⟨hw7.own.1.append hown7.1, by rw [List.length_append]; omega, by rw [List.length_append, List.map_append]; exact hr⟩
          rcases hown7.sl.src with ⟨hnil, _⟩ | ⟨ad7, cap7, rfl, hsrc⟩
          · exact absurd hnil hbn
          have HS := hide hsrc
          have H1 := hide (ints_one .u8 bs)
          have hmp : (bs.map (Value.int .u8)).length = bs.length := List.length_map _
          clear hw7 hown7 hb7 hsrc KW HWI c0 c1 hbn
          generalize bs.map (Value.int .u8) = us at *
          generalize bs.length = mm at *
          go_wp2_with (at_builtin; refine wpList_append_own _ rfl (.tmp 35) (.tmp 38) 24 rfl w.heap.size 5 i0 (.int .u8 0) 1 1 Tryz.underlying24 hi hz0 hz1 hz2 rfl (by decide) _ _ _ rfl (unhide HM) ad7 mm cap7 us rfl (by rw [hmp]; simp) (unhide HS) (unhide H1) (by unfold maxLen; omega) (by omega) (by omega) ?_)
          intro v8 w8 hr8 hg8 _
          have R := hide ((unhide HMORE) v8 w8 hr8 hg8)
          clear HMORE HM HS H1 hr8 hg8
          go_wp2
          go_roundw
          case rel => exact ⟨j + 1, by go_num, by omega, by rw [unhide HNJ]; exact unhide R⟩
          case measure => simp [intOf]; omega
        · obtain rfl : j = fs.length := by omega
          rw [List.take_length] at hwi
          have R := hide (show Own _ w.heap.size _ _ ∧ _ from ⟨hwi.own, hwi.bel⟩)
          clear hwi
          go_wp2
          go_roundw
          case rel => exact ⟨k + 1, by go_num, by omega, by rw [unhide HNX, unhide HRBE]; simpa using (unhide R).1, (unhide R).2⟩
          case measure => simp [intOf]; omega
    · obtain rfl : k = rs.length := by omega
      rw [List.take_length] at hown
      have HF : WrB w (Pk.body rs) (.returned u3) wr := ⟨u3, rfl, hown, hbel⟩
      clear hown hbel HV HOK KF HRB
      generalize Pk.body rs = ys at *
      go_wp2
      go_ret
      exact HF
end Go.Proofs.YtdnkfnccbmbpaaaGreatDoor
