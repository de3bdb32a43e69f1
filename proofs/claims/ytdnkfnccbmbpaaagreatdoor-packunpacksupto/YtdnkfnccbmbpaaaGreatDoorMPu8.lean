/- readRecord: the parts one by one. -/
import Derived.Test.YtdnkfnccbmbpaaaGreatDoorGs8
namespace Go.Proofs.YtdnkfnccbmbpaaaGreatDoor
open Go.RowKit
open Wi

set_option maxRecDepth 8000 in
set_option maxHeartbeats 8000000 in
theorem rr_main (v : Value) (zs : List Int) (n : Nat) (w : World) (hgl : Glob w) (hs : Sl w v zs) (hn : n < zs.length) (hf : Cn.fam (zs.getD n 0) ≠ 0) : Calls Tryz.prog 62 #[v, .int .i64 (n : Int)] w (RrB w (Pk.rr zs n)) := by
  have e : Pk.rr zs n = if (Pk.frs zs (Pk.form (zs.getD n 0)) ((n : Int) + 1) { Cn.none with kind := zs.getD n 0 }).2.2 ≠ 0 then (Cn.none, (Pk.frs zs (Pk.form (zs.getD n 0)) ((n : Int) + 1) { Cn.none with kind := zs.getD n 0 }).2) else Pk.frs zs (Pk.form (zs.getD n 0)) ((n : Int) + 1) { Cn.none with kind := zs.getD n 0 } := by unfold Pk.rr; rw [if_neg (by omega), Int.toNat_natCast, if_neg hf]
  rw [e]
  have hl := hs.len
  have HSL : Hid (∀ W, Below w.heap.size w W → Sl W v zs) := fun W h => hs.below h
  obtain ⟨b, off, cap, rfl, hc1, hc2, hc⟩ := hs.place (by omega)
  have x0 := hc n hn
  have hblt : b < w.heap.size := lt_of_cell? x0
  have hby := hs.1.at n
  rw [← List.getD_eq_getElem?_getD] at hby
  have KF : Hid (∀ W, Below w.heap.size w W → Calls Tryz.prog 68 #[.int .i64 (zs.getD n 0)] W (IntB W (Cn.fam (zs.getD n 0)))) := fun W hW => family_any _ W (hgl.on hW) ⟨by omega, by omega⟩
  have KFS : Hid (∀ p W, W.cell? ⟨p, 0, none⟩ = some (.int .i64 (zs.getD n 0)) → Calls Tryz.prog 26 #[.pointer (some ⟨p, 0, none⟩)] W (FdsB W p (Pk.form (zs.getD n 0)))) := fun p W h => fields_any p _ W hf h
  have hgd := form_gd hf
  have hfne := form_ne hf
  have hf4 := form_len (zs.getD n 0)
  have hq : ((n : Int) == (zs.length : Int)) = false := by rw [beq_eq_false_iff_ne]; omega
  have hq2 : (n : Int) < (zs.length : Int) := by omega
  have hfq : (Cn.fam (zs.getD n 0) == 0) = false := by simpa using hf
  have hriv : Riv { Cn.none with kind := zs.getD n 0 } (Pk.form (zs.getD n 0)) := ⟨⟨by show (0 : Int) ≤ 0; omega, by show (0 : Int) ≤ 1114111; omega⟩, fun _ => rfl⟩
  clear hs e hc hf hgl
  generalize zs.getD n 0 = c at *
  generalize Cn.fam c = fm at *
  generalize Pk.form c = fs at *
  have hr0 : rarr { Cn.none with kind := c } (.slice none 0 0) = #[.int .i64 c, .int .i64 0, .int .i64 0, .int .i64 0, .slice none 0 0, .string ⟨#[]⟩, .string ⟨#[]⟩, .float .f64 0] := rfl
  have hr0t : ({ Cn.none with kind := c } : Rec).to = [] := rfl
  generalize ({ Cn.none with kind := c } : Rec) = r0 at *
  have HFS : Hid (∀ j a r, j < fs.length → Pk.frs zs (fs.drop j) a r = if (Pk.fr zs a r (fs.getD j 0)).2.2 ≠ 0 then Pk.fr zs a r (fs.getD j 0) else Pk.frs zs (fs.drop (j + 1)) (Pk.fr zs a r (fs.getD j 0)).2.1 (Pk.fr zs a r (fs.getD j 0)).1) := fun j a r hj => frs_step zs fs j a r hj
  have HFE : Hid (∀ a r, Pk.frs zs (fs.drop fs.length) a r = (r, a, 0)) := fun a r => by
    show Pk.frs zs (fs.drop fs.length) a r = (r, a, 0)
    rw [List.drop_length]; rfl
  have HGD := hide hgd
  have HRIV := hide hriv
  generalize hRES : Pk.frs zs fs ((n : Int) + 1) r0 = RES
  have HRES := hide hRES
  clear hRES hgd hriv
  have HF1 : Hid (RES.2.2 ≠ 0 → (if RES.2.2 ≠ 0 then (Cn.none, RES.2) else RES) = (Cn.none, RES.2)) := fun h => if_pos h
  have HF2 : Hid (RES.2.2 = 0 → (if RES.2.2 ≠ 0 then (Cn.none, RES.2) else RES) = RES) := fun h => if_neg (by simpa using h)
  generalize (if RES.2.2 ≠ 0 then (Cn.none, RES.2) else RES) = FIN at *
  have hfl : ∀ W a m, (store a (.float .f64 0) m).run Tryz.prog W = stored Tryz.prog W a (.float .f64 0) m := fun W a m => run_store Tryz.prog W a _ m rfl
  have x1 : ∀ o, (w.alloc o).cell? ⟨b, off + n, none⟩ = some (.int .u8 c) := fun o => cell_old o x0
  go_enter Tryz.func62, Tryz.ntmps62
  go_wp2_with fail
  refine ((unhide KF) _ (((Below.refl _ _).alloc (Nat.le_refl _) _).alloc (by simp) _)).mono ?_
  rintro e w1 ⟨rfl, hb⟩
  have hz : w.heap.size + 2 ≤ w1.heap.size := by have := hb.size; simp at this; omega
  have HB : Hid (Below w.heap.size w w1) := (((Below.refl _ _).alloc (Nat.le_refl _) _).alloc (by simp) _).trans (hb.mono (by simp; omega))
  have HBK : Hid (w1.heap[w.heap.size]? = some (.cells #[.int .i64 0, .int .i64 0, .int .i64 0, .int .i64 0, .slice none 0 0, .string ⟨#[]⟩, .string ⟨#[]⟩, .float .f64 0] 46 (0, 0))) := by
    show w1.heap[w.heap.size]? = _
    rw [hb.block _ (by simp; omega)]
    show ((w.heap.push _).push _)[w.heap.size]? = _
    rw [Array.getElem?_push, Array.getElem?_push]; simp
  have hbk1 : w1.heap[w.heap.size + 1]? = some (.cells (rarr r0 (.slice none 0 0)) 46 (0, 0)) := by
    rw [hb.block _ (by simp), hr0]
    show ((w.heap.push _).push _)[w.heap.size + 1]? = _
    rw [Array.getElem?_push]; simp
  have hro : Ro w1 w.heap.size (w.heap.size + 1) r0 (.slice none 0 0) := ⟨hbk1, by rw [hr0t]; exact Ok.nil _ _ _ _, fun _ => rfl⟩
  have z0 : w1.cell? ⟨w.heap.size + 1, 0, none⟩ = some (.int .i64 c) := by
    have h := cell_of (j := 0) hbk1 (by show 0 < 8; omega)
    rw [hr0] at h
    exact h
  have KF2 := hide ((unhide KFS) _ w1 z0)
  clear KF KFS hb x0 x1 hbk1 hr0 hr0t z0
  go_wp2_with fail
  refine (unhide KF2).mono ?_
  rintro e2 w2 ⟨vf, rfl, hfds, hb2⟩
  have hs2 := hb2.size
  have hst : Rst w w2 (w.heap.size + 1) vf fs r0 := ⟨bthen (unhide HB) hb2, by omega, ⟨_, hro.below hb2⟩, hfds.lower (by omega)⟩
  have HBK2 : Hid (w2.heap[w.heap.size]? = some (.cells #[.int .i64 0, .int .i64 0, .int .i64 0, .int .i64 0, .slice none 0 0, .string ⟨#[]⟩, .string ⟨#[]⟩, .float .f64 0] 46 (0, 0))) := by
    show w2.heap[w.heap.size]? = _
    rw [hb2.block _ (by omega)]; exact unhide HBK
  obtain ⟨g, fcap, hvf, hfc1, hfc2, _⟩ := hst.fds.place hfne
  subst hvf
  clear KF2 hfds hb2 hro HB HBK
  go_wp2
  generalize hpp : w.heap.size + 1 = p at *
  go_loopw [1, 9, 10, 11, 34] (fun av _ _ _ iv wr => ∃ (j : Nat) (a : Int) (r : Rec), iv = .int .i64 j ∧ av = .int .i64 a ∧ j ≤ fs.length ∧ Pk.frs zs (fs.drop j) a r = RES ∧ Rst w wr p (.slice (some ⟨g, 0, none⟩) fs.length fcap) fs r ∧ Riv r (fs.drop j) ∧ wr.heap[w.heap.size]? = some (.cells #[.int .i64 0, .int .i64 0, .int .i64 0, .int .i64 0, .slice none 0 0, .string ⟨#[]⟩, .string ⟨#[]⟩, .float .f64 0] 46 (0, 0))) (fun _ _ _ _ iv _ => fs.length - (intOf iv).toNat)
  case atStart => exact ⟨0, (n : Int) + 1, r0, rfl, rfl, by omega, by simpa using unhide HRES, hst, by simpa using unhide HRIV, unhide HBK2⟩
  case round =>
    obtain ⟨j, a, r, rfl, rfl, hj, hres, hwi, hri, hzb⟩ := hrel
    clear hst HRES HRIV HBK2
    have hslr : Sl wr (.slice (some ⟨b, off, none⟩) zs.length cap) zs := (unhide HSL) wr hwi.bel
    by_cases hjl : j < fs.length
    · obtain ⟨g', cap'', hve, _, _, hcell⟩ := hwi.fds.place hfne
      simp only [Value.slice.injEq, Option.some.injEq, Addr.mk.injEq, and_true, true_and] at hve
      obtain ⟨rfl, rfl⟩ := hve
      obtain ⟨x, hfd, c0, c1⟩ := hcell j hjl
      obtain ⟨k1, b1, k2, b2, rfl⟩ := hfd.shape
      have hdrop : fs.drop j = fs.getD j 0 :: fs.drop (j + 1) := by rw [List.drop_eq_getElem_cons hjl]; simp [List.getD, hjl]
      rw [hdrop] at hri
      have hgj := gd_drop (unhide HGD) j
      rw [hdrop] at hgj
      have hstep := (unhide HFS) j a r hjl
      rw [hres] at hstep
      have HNR : Hid ((Pk.fr zs a r (fs.getD j 0)).2.2 = 0 → Riv (Pk.fr zs a r (fs.getD j 0)).1 (fs.drop (j + 1))) := fun h => hri.on hgj h
      obtain ⟨vt0, hro0⟩ := hwi.ro
      have KR := fun o => read_at (at_ := a) (hfd.keep (Bxs.alloc wr o)) (hro0.below ((Below.refl _ _).alloc (Nat.le_refl _) o)) (by have := hwi.bel.size; simp; omega) (hslr.below ((Below.refl _ _).alloc (Nat.le_refl _) o)) (fun o' g'' cap' he => by simp only [Value.slice.injEq, Option.some.injEq] at he; rw [← he.1]; show b ≠ p; omega) hri.rin
      have eg : ∀ args W, (callFunc k2 args).run Tryz.prog W = .ok (.enter k2 args) W := (KR (.cells #[] 0)).1
      have KR := hide fun o => (KR o).2
      have HWI : Hid (∀ o, Rst w (wr.alloc o) p (.slice (some ⟨g, 0, none⟩) fs.length fcap) fs r) := fun o => hwi.below ((Below.refl _ _).alloc (Nat.le_refl _) o)
      have HZB : Hid (∀ o, (wr.alloc o).heap[w.heap.size]? = some (.cells #[.int .i64 0, .int .i64 0, .int .i64 0, .int .i64 0, .slice none 0 0, .string ⟨#[]⟩, .string ⟨#[]⟩, .float .f64 0] 46 (0, 0))) := fun o => by
        have h : w.heap.size < wr.heap.size := by
          rcases Nat.lt_or_ge w.heap.size wr.heap.size with h | h
          · exact h
          · rw [Array.getElem?_eq_none h] at hzb; cases hzb
        rw [((Below.refl wr.heap.size wr).alloc (Nat.le_refl _) o).block _ h]; exact hzb
      have HST := hide hstep
      have hwp : w.heap.size ≤ wr.heap.size := hwi.bel.size
      clear hcell hfd hri hgj hstep hdrop hro0 hwi hzb hslr HFS HFE HGD
      generalize Pk.fr zs a r (fs.getD j 0) = q at *
      have hst2 : ∀ W a m fn x y, (store a (.func fn x y) m).run Tryz.prog W = stored Tryz.prog W a (.func fn x y) m := fun W a m fn x y => run_store Tryz.prog W a _ m rfl
      have HPP := hide hpp
      clear hpp
      by_cases he : q.2.2 = 0
      · have hq3 : (q.2.2 != 0) = false := by simp [he]
        have HE := hide he
        clear he
        go_wp2_with fail
        refine ((unhide KR) _).mono ?_
        rintro e7 w7 ⟨rfl, hg7, hro7⟩
        have hn7 := ((unhide HWI) _).read hg7 (hro7 (unhide HE))
        have hz7 : w7.heap[w.heap.size]? = some (.cells #[.int .i64 0, .int .i64 0, .int .i64 0, .int .i64 0, .slice none 0 0, .string ⟨#[]⟩, .string ⟨#[]⟩, .float .f64 0] 46 (0, 0)) := by
          rw [hg7.block _ (by simp; omega) (fun e => by have := unhide HPP; simp only [Option.some.injEq] at e; omega)]; exact (unhide HZB) _
        have HN7 := hide hn7
        have HZ7 := hide hz7
        have HNX : Hid (Pk.frs zs (fs.drop (j + 1)) q.2.1 q.1 = RES) := by
          show _ = RES
          rw [unhide HST, if_neg (by simpa using unhide HE)]
        clear KR hn7 hz7 hg7 hro7 HWI HZB HST c0 c1
        go_wp2
        go_roundw
        case rel => exact ⟨j + 1, q.2.1, q.1, by go_num, rfl, by omega, unhide HNX, unhide HN7, (unhide HNR) (unhide HE), unhide HZ7⟩
        case measure => simp [intOf]; omega
      · have hq3 : (q.2.2 != 0) = true := by simpa using he
        have hres2 : RES = q := by rw [unhide HST, if_pos (by simpa using he)]
        have HE := hide he
        subst hres2
        obtain rfl := (unhide HF1) he
        clear he HF1 HF2
        go_wp2_with fail
        refine ((unhide KR) _).mono ?_
        rintro e7 w7 ⟨rfl, hg7, hro7⟩
        have hb7 : Below w.heap.size w w7 := ((unhide HWI) _).bel.grown hg7 (by simp; omega) (fun k hk => by simp only [Option.some.injEq] at hk; have := unhide HPP; omega)
        have hz7 : w7.heap[w.heap.size]? = some (.cells #[.int .i64 0, .int .i64 0, .int .i64 0, .int .i64 0, .slice none 0 0, .string ⟨#[]⟩, .string ⟨#[]⟩, .float .f64 0] 46 (0, 0)) := by
          rw [hg7.block _ (by simp; omega) (fun e => by have := unhide HPP; simp only [Option.some.injEq] at e; omega)]; exact (unhide HZB) _
        obtain ⟨y0, y1, y2, y3, y4, y5, y6, y7⟩ := cells8 hz7
        have f0 := fun j => frozen_of (j := j) hz7
        have HN := hide (set8_blk (.int .i64 0) (.int .i64 0) (.int .i64 0) (.int .i64 0) (.slice none 0 0) (.string ⟨#[]⟩) (.string ⟨#[]⟩) (.float .f64 0) hz7)
        have HL := hide (set8_below (.int .i64 0) (.int .i64 0) (.int .i64 0) (.int .i64 0) (.slice none 0 0) (.string ⟨#[]⟩) (.string ⟨#[]⟩) (.float .f64 0) hb7 (Nat.le_refl _))
        clear KR hb7 hz7 hg7 hro7 HWI HZB HST c0 c1 HNR
        go_wp2
        have hnew := unhide HN
        have hbel := unhide HL
        clear HN HL y0 y1 y2 y3 y4 y5 y6 y7 f0
        generalize (World.setCell (World.setCell (World.setCell (World.setCell (World.setCell (World.setCell (World.setCell (World.setCell w7 ⟨w.heap.size, 0, none⟩ (.int .i64 0)) ⟨w.heap.size, 1, none⟩ (.int .i64 0)) ⟨w.heap.size, 2, none⟩ (.int .i64 0)) ⟨w.heap.size, 3, none⟩ (.int .i64 0)) ⟨w.heap.size, 4, none⟩ (.slice none 0 0)) ⟨w.heap.size, 5, none⟩ (.string ⟨#[]⟩)) ⟨w.heap.size, 6, none⟩ (.string ⟨#[]⟩)) ⟨w.heap.size, 7, none⟩ (.float .f64 0)) = w9 at *
        obtain ⟨z0, z1, z2, z3, z4, z5, z6, z7⟩ := cells8 hnew
        refine bodyPost_ret (v := .tuple #[.agg #[.int .i64 0, .int .i64 0, .int .i64 0, .int .i64 0, .slice none 0 0, .string ⟨#[]⟩, .string ⟨#[]⟩, .float .f64 0], .int .i64 RES.2.1, .int .i64 RES.2.2]) (by simp [results, Tryz.results62, go_sem, z0, z1, z2, z3, z4, z5, z6, z7]) rfl ⟨.slice none 0 0, rfl, Ok.nil _ _ _ _, hbel⟩
    · obtain rfl : j = fs.length := by omega
      rw [(unhide HFE)] at hres
      subst hres
      obtain rfl := (unhide HF2) rfl
      clear HF1 HF2
      obtain ⟨vt2, hro2⟩ := hwi.ro
      obtain ⟨c0, c1, c2, c3, c4, c5, c6, c7⟩ := cells8 hro2.1
      obtain ⟨y0, y1, y2, y3, y4, y5, y6, y7⟩ := cells8 hzb
      have f0 := fun j => frozen_of (j := j) hzb
      have hpw : p ≠ w.heap.size := by omega
      have hfl2 : ∀ W a m, (store a (.float .f64 r.wt) m).run Tryz.prog W = stored Tryz.prog W a (.float .f64 r.wt) m := fun W a m => run_store Tryz.prog W a _ m rfl
      have HN := hide (set8_blk (.int .i64 r.kind) (.int .i64 r.lo) (.int .i64 r.hi) (.int .i64 r.n) vt2 (.string r.name) (.string r.other) (.float .f64 r.wt) hzb)
      have HL := hide (set8_below (.int .i64 r.kind) (.int .i64 r.lo) (.int .i64 r.hi) (.int .i64 r.n) vt2 (.string r.name) (.string r.other) (.float .f64 r.wt) hwi.bel (Nat.le_refl _))
      have HOK : Hid (Ok .i32 21 (World.setCell (World.setCell (World.setCell (World.setCell (World.setCell (World.setCell (World.setCell (World.setCell wr ⟨w.heap.size, 0, none⟩ (.int .i64 r.kind)) ⟨w.heap.size, 1, none⟩ (.int .i64 r.lo)) ⟨w.heap.size, 2, none⟩ (.int .i64 r.hi)) ⟨w.heap.size, 3, none⟩ (.int .i64 r.n)) ⟨w.heap.size, 4, none⟩ (vt2)) ⟨w.heap.size, 5, none⟩ (.string r.name)) ⟨w.heap.size, 6, none⟩ (.string r.other)) ⟨w.heap.size, 7, none⟩ (.float .f64 r.wt)) w.heap.size vt2 r.to) := hro2.2.1.keep fun g hg => set8_far _ _ _ _ _ _ _ _ (fun e => by
        subst e
        obtain ⟨cur, hcur⟩ := own_tag hro2.2.1.2.2 hg
        rw [hzb] at hcur; simp at hcur)
      obtain ⟨tao, tcap, hvt, _, _⟩ := hro2.2.1.sk.shape
      subst hvt
      clear hwi hzb hro2 hri hslr HFS HFE HGD hpp
      go_wp2
      have hnew := unhide HN
      have hbel := unhide HL
      have hok := unhide HOK
      clear HN HL HOK y0 y1 y2 y3 y4 y5 y6 y7 f0 c0 c1 c2 c3 c4 c5 c6 c7
      generalize (World.setCell (World.setCell (World.setCell (World.setCell (World.setCell (World.setCell (World.setCell (World.setCell wr ⟨w.heap.size, 0, none⟩ (.int .i64 r.kind)) ⟨w.heap.size, 1, none⟩ (.int .i64 r.lo)) ⟨w.heap.size, 2, none⟩ (.int .i64 r.hi)) ⟨w.heap.size, 3, none⟩ (.int .i64 r.n)) ⟨w.heap.size, 4, none⟩ (.slice tao r.to.length tcap)) ⟨w.heap.size, 5, none⟩ (.string r.name)) ⟨w.heap.size, 6, none⟩ (.string r.other)) ⟨w.heap.size, 7, none⟩ (.float .f64 r.wt)) = w9 at *
      obtain ⟨z0, z1, z2, z3, z4, z5, z6, z7⟩ := cells8 hnew
      refine bodyPost_ret (v := .tuple #[.agg (rarr r (.slice tao r.to.length tcap)), .int .i64 a, .int .i64 0]) (by simp [results, Tryz.results62, go_sem, z0, z1, z2, z3, z4, z5, z6, z7, rarr]) rfl ⟨_, rfl, hok, hbel⟩
theorem rr_any (v : Value) (zs : List Int) (n : Nat) (w : World) (hgl : Glob w) (hs : Sl w v zs) (hn : n ≤ zs.length) : Calls Tryz.prog 62 #[v, .int .i64 (n : Int)] w (RrB w (Pk.rr zs n)) := by
  by_cases h1 : n = zs.length
  · subst h1; exact rr_end v zs w hs
  · by_cases h2 : Cn.fam (zs.getD n 0) = 0
    · exact rr_kind v zs n w hgl hs (by omega) h2
    · exact rr_main v zs n w hgl hs (by omega) h2
end Go.Proofs.YtdnkfnccbmbpaaaGreatDoor
