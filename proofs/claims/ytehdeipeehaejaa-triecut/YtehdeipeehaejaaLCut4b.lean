/- The law TrieCut, out of the contracts. (The ways by program: gencut4.py.) -/
import Derived.Test.YtehdeipeehaejaaLCut4
import Derived.Test.YtehdeipeehaejaaLSame4
namespace Go.Proofs.Ytehdeipeehaejaa
open Go.RowKit

set_option maxRecDepth 50000 in
set_option maxHeartbeats 4000000 in
theorem trieCut_any {T : World → Value → List Tri.Rg → Int → Prop} (C : TrieC T) (vl vc : Value) (rs : List Tri.Rg) (cs : List Int) (d : Int) (w : World) (hl : Sr w vl rs) (hc : Sk .i64 w vc cs) (hd : Fi d) :
    Calls Try.prog 7 #[vl, .int .i64 d, vc] w (Tells4 w true) := by
  obtain ⟨i0, hi0, hz0, hz1, hz2⟩ := info_parts Try.info35
  have HT := fun w => hide (told4_any C w)
  have HB := @C.below
  have F1 := hide (few_any vl rs w hl)
  have hcs := hide hc
  have hx := take_short rs
  have hd' := hide hd
  obtain ⟨hd1, hd2⟩ := hd
  obtain ⟨aoc, capc, rfl, hcc1, hcc2⟩ := hc.shape
  have hclen := hc.len
  clear hl hc
  generalize rs.take 200 = xs at *
  go_enter Try.func7, Try.ntmps7
  go_wp2_with fail
  refine (unhide F1).mono ?_
  rintro e w1 ⟨g1, c1, vx, B1, rfl, _, _, _, ox, _, _, hb1⟩
  have K1 := hide (C.build vx xs d w1 ox.sr (by omega) (unhide hd'))
  obtain ⟨aox, cpx, hvx, _, _⟩ := ox.sr.shape
  subst hvx
  clear F1
  go_wp2_with fail
  refine (unhide K1).mono ?_
  rintro e w2 ⟨hb2, hcase⟩
  have ox := ox.below hb2
  have hb02 := bthen hb1 hb2
  have hcs2 := hide ((unhide hcs).below hb02)
  clear K1 hb2 hb1 hcs
  rcases hcase with ⟨k1, a1, rfl, t1⟩ | ⟨k1, rfl⟩
  · obtain ⟨hval, hdr⟩ := Tri.check_ok.1 k1
    have HV := hide hval
    clear k1 hval
    obtain ⟨res, hres0⟩ : ∃ res, res = Tri.cutA d 0 xs (msk cs) := ⟨_, rfl⟩
    have HR0 := hide hres0
    rcases Nat.eq_zero_or_pos xs.length with hx0 | hx0
    · have hrn : res = [] := by rw [hres0, List.eq_nil_of_length_eq_zero hx0]; rfl
      have hml : res.length ≤ 600 := by rw [hrn]; simp
      have om : Or4 w2 w2.heap.size (.slice none 0 0) res := by rw [hrn]; exact Or4.nil _ _
      have hbel : Below w2.heap.size w2 w2 := Below.refl _ _
      rw [hx0]
      clear hres0 ox hrn
      go_wp2
      refine wp_loop_rounds 1 ?_
      rw [rounds_succ]
      have t1 := HB t1 hbel
      have hW := bthen hb02 hbel
      clear hbel hb02
      have hcut := Tri.cut_ok hdr xs 0 (msk cs) (unhide HV) (by omega)
      rw [← unhide HR0] at hcut
      obtain ⟨hcv, hcg⟩ := hcut
      have hckr : (Tri.check d res).2 = 0 := Tri.check_ok.2 ⟨hcv, hdr⟩
      have hnorm : Tri.norm d xs = Tri.norm d res := (Tri.norm_eq (unhide HV) hcv).1 (fun c => (hcg c).symm)
      have hbl : Tri.bls (Tri.get d res) = Tri.bls (Tri.get d xs) := Tri.bls_congr hcg
      have hix : Tri.idx (Tri.get d res) = Tri.idx (Tri.get d xs) := Tri.idx_congr hcg
      have K2 := hide (C.build _ res d _ om.sr (by omega) (unhide hd'))
      have HN := hide hnorm
      have HBL := hide hbl
      have HIX := hide hix
      clear hcv hcg hnorm hbl hix
      go_wp2_with fail
      refine (unhide K2).mono ?_
      rintro e w3 ⟨hb3, ⟨_, a2, rfl, t2⟩ | ⟨k2, _⟩⟩
      case inr => exact absurd hckr k2
      have t1 := HB t1 hb3
      have hW := bthen hW hb3
      clear K2 hb3 hckr om
      go_wp2_with fail
      refine (unhide (HT _)).mono ?_
      rintro e w4 ⟨rfl, hb4⟩
      have t1 := HB t1 hb4
      have t2 := HB t2 hb4
      have hW := bthen hW hb4
      have K3 := hide (C.same _ _ xs res d d w4 t1 t2)
      have hsm : decide (d = d ∧ Tri.norm d xs = Tri.norm d res) = true := by simp [unhide HN]
      rw [hsm] at K3
      clear HT hb4 hsm
      go_wp2_with fail
      refine (unhide K3).mono ?_
      rintro e w5 ⟨rfl, hb5⟩
      have t1 := HB t1 hb5
      have t2 := HB t2 hb5
      have hW := bthen hW hb5
      have K4 := hide (C.blocks _ xs d w5 t1)
      clear K3 hb5
      go_wp2_with fail
      refine (unhide K4).mono ?_
      rintro e w6 ⟨rfl, hb6⟩
      have t1 := HB t1 hb6
      have t2 := HB t2 hb6
      have hW := bthen hW hb6
      have K5 := hide (C.blocks _ res d w6 t2)
      rw [unhide HBL] at K5
      clear K4 hb6 HBL
      generalize (Tri.bls (Tri.get d xs)).length = nb at *
      go_wp2_with fail
      refine (unhide K5).mono ?_
      rintro e w7 ⟨rfl, hb7⟩
      have t1 := HB t1 hb7
      have t2 := HB t2 hb7
      have hW := bthen hW hb7
      have K6 := hide (C.ranges _ xs d w7 t1)
      clear K5 hb7
      go_wp2_with fail
      refine (unhide K6).mono ?_
      rintro e w8 ⟨v8, rfl, o8, hb8⟩
      have t1 := HB t1 hb8
      have t2 := HB t2 hb8
      have hW := bthen hW hb8
      have K7 := hide (C.ranges _ res d w8 t2)
      clear K6 hb8
      go_wp2_with fail
      refine (unhide K7).mono ?_
      rintro e w9 ⟨v9, rfl, o9, hb9⟩
      have t1 := HB t1 hb9
      have t2 := HB t2 hb9
      have o8 := o8.below hb9
      have hW := bthen hW hb9
      have K8 := hide (refSameR_any v8 v9 _ _ w9 o8.sr o9.sr)
      rw [unhide HN] at K8
      simp only [decide_true] at K8
      clear K7 hb9 HN
      go_wp2_with fail
      refine (unhide K8).mono ?_
      rintro e wA ⟨rfl, hbA⟩
      have t1 := HB t1 hbA
      have t2 := HB t2 hbA
      have hW := bthen hW hbA
      have K9 := hide (C.index _ xs d wA t1)
      clear K8 hbA o8 o9
      go_wp2_with fail
      refine (unhide K9).mono ?_
      rintro e wB ⟨vB, rfl, oB, hbB⟩
      have t2 := HB t2 hbB
      have hW := bthen hW hbB
      have KA := hide (C.index _ res d wB t2)
      rw [unhide HIX] at KA
      clear K9 hbB HIX t1
      go_wp2_with fail
      refine (unhide KA).mono ?_
      rintro e wC ⟨vC, rfl, oC, hbC⟩
      have oB := oB.below hbC
      have hW := bthen hW hbC
      clear KA hbC t2
      have hlen : ((Tri.idx (Tri.get d xs)).map fun n : Nat => (n : Int)).length = 17408 := by rw [List.length_map, Tri.idx_len]
      generalize (Tri.idx (Tri.get d xs)).map (fun n : Nat => (n : Int)) = ix at *
      obtain ⟨p1, f1, q1, rfl, _, _, hB1⟩ := oB.sk.place (by omega)
      obtain ⟨p2, f2, q2, rfl, _, _, hC1⟩ := oC.sk.place (by omega)
      have HBC : Hid (∀ wx, Below wC.heap.size wC wx → ∀ i, i < ix.length → wx.cell? ⟨p1, f1 + i, none⟩ = some (.int .u16 (ix.getD i 0)) ∧ wx.cell? ⟨p2, f2 + i, none⟩ = some (.int .u16 (ix.getD i 0))) := fun wx hb i hi => ⟨by rw [hb.cell (lt_of_cell? (hB1 i hi))]; exact hB1 i hi, by rw [hb.cell (lt_of_cell? (hC1 i hi))]; exact hC1 i hi⟩
      clear hB1 hC1 oB oC
      rw [hlen]
      go_wp2
      go_loopw [21] (fun i wr => ∃ k : Nat, i = .int .i64 k ∧ k ≤ 17408 ∧ (∃ m, wr = wC.drewN m)) (fun i _ => 17408 - (intOf i).toNat)
      case atStart => exact ⟨0, rfl, by omega, 0, rfl⟩
      case round =>
        obtain ⟨k, rfl, hk, hm⟩ := hrel
        by_cases hlt : k < 17408
        · obtain ⟨z1, z2⟩ := (unhide HBC) _ (drewB4 hm) k (by omega)
          have hin1 : (0 : Int) ≤ (k : Int) := by omega
          have hin2 : (k : Int) < 17408 := by omega
          generalize ix.getD k 0 = z at *
          go_wp2
          go_quiet (fail)
          go_wp2
          go_roundw
          case rel => exact ⟨k + 1, by go_num, by omega, drews4 hm nq⟩
          case measure => simp [intOf]; omega
        · obtain rfl : k = 17408 := by omega
          go_wp2
          go_ret
          exact ⟨rfl, bthen hW (drewB4 hm)⟩
    · obtain ⟨bx, offx, cpx', hvx', hx1, hx2, hcl⟩ := ox.sr.place hx0
      simp only [Value.slice.injEq] at hvx'
      obtain ⟨rfl, _, rfl⟩ := hvx'
      have HC : Hid (∀ wx, Below w2.heap.size w2 wx → ∀ i, i < xs.length →
        wx.cell? ⟨bx, offx + i * 3, none⟩ = some (.int .i64 (Tri.lo (xs.getD i (0, 0, 0)))) ∧ wx.cell? ⟨bx, offx + i * 3 + 1, none⟩ = some (.int .i64 (Tri.hi (xs.getD i (0, 0, 0)))) ∧ wx.cell? ⟨bx, offx + i * 3 + 2, none⟩ = some (.int .i64 (Tri.vl (xs.getD i (0, 0, 0))))) := by
        intro wx hb i hi
        obtain ⟨c0, c1, c2⟩ := hcl i hi
        exact ⟨by rw [hb.cell (lt_of_cell? c0)]; exact c0, by rw [hb.cell (lt_of_cell? c1)]; exact c1, by rw [hb.cell (lt_of_cell? c2)]; exact c2⟩
      clear hcl ox hres0
      go_wp2
      go_loopw [10, 11, 12] (fun vm va vi wr => ∃ (k : Nat) (ms : List Tri.Rg) (at_ : Int), vi = .int .i64 k ∧ k ≤ xs.length ∧ va = .int .i64 at_ ∧ 0 ≤ at_ ∧ at_ ≤ 1114112 ∧ Tri.Val at_ (xs.drop k) ∧ Or4 wr w2.heap.size vm ms ∧ ms.length ≤ 3 * k ∧ Below w2.heap.size w2 wr ∧ res = ms ++ Tri.cutA d at_ (xs.drop k) ((msk cs).drop k)) (fun _ _ vi _ => xs.length - (intOf vi).toNat)
      case atStart => exact ⟨0, [], 0, rfl, by omega, rfl, by omega, by omega, unhide HV, Or4.nil _ _, by simp, Below.refl _ _, unhide HR0⟩
      case round =>
        obtain ⟨k, ms, at_, rfl, hk, rfl, ha0, ha1, hva, om, hml, hbel, hres⟩ := hrel
        by_cases hlt : k < xs.length
        · obtain ⟨c0, c1, c2⟩ := (unhide HC) _ hbel k hlt
          obtain ⟨b1, b2, b3, b4, b5⟩ := val_at (unhide HV) (Int.le_refl _) k hlt
          obtain ⟨hal, hva2⟩ := val_drop k hlt at_ hva
          have HS := hide (cut_step hlt hres)
          have hszw := hbel.size
          obtain ⟨hdr1, hdr2⟩ := hdr
          clear hres hva HR0 t1 HT HB HV HC
          generalize hrk : xs.getD k (0, 0, 0) = r at *
          clear hrk
          by_cases hkc : k < cs.length
          · have hkk := msk_in hkc
            rw [hkk] at HS
            obtain ⟨bc, offc, cpc', hvc', _, _, hcc⟩ := ((unhide hcs2).below hbel).place (by omega)
            simp only [Value.slice.injEq] at hvc'
            obtain ⟨rfl, _, rfl⟩ := hvc'
            have hck0 := hcc k hkc
            have hck : ∀ o, (wr.alloc o).cell? ⟨bc, offc + k, none⟩ = some (.int .i64 (cs.getD k 0)) := fun o => by rw [((Below.refl _ wr).alloc (Nat.le_refl _) o).cell (lt_of_cell? hck0)]; exact hck0
            clear hck0
            have hmk := mask30 (cs.getD k 0)
            clear hkk hcc
            obtain ⟨aom, cpm, hvm, _, _⟩ := om.sr.shape
            subst hvm
            generalize cs.getD k 0 = ck at *
            have hq0 : 0 ≤ ck % 1073741824 := by omega
            have hq1 : ck % 1073741824 < 1073741824 := by omega
            generalize ck % 1073741824 = kk at *
            generalize Tri.lo r = lo at *
            generalize Tri.hi r = hi at *
            generalize Tri.vl r = vv at *
            by_cases h3 : kk % 3 = 0
            · by_cases hgp : at_ < lo
              · by_cases hw : lo < hi
                · have hpA : pieceA d at_ kk lo = [(at_ + kk % (lo - at_), lo - 1, d)] := if_pos ⟨h3, hgp⟩
                  rw [hpA] at HS
                  clear hpA
                  have h3' : (kk % 3 == 0) = true := by simp [h3]
                  have hmt : kk.tmod 3 = kk % 3 := Int.tmod_eq_emod_of_nonneg hq0
                  go_wp2
                  have omb := om.below ((Below.refl _ wr).alloc (Nat.le_refl _) (.cells #[.int .i64 lo, .int .i64 hi, .int .i64 vv] 35))
                  have hbb : Below w2.heap.size w2 (wr.alloc (.cells #[.int .i64 lo, .int .i64 hi, .int .i64 vv] 35)) := hbel.alloc hszw _
                  have hne : (Value.slice aom ms.length cpm).ownBlock ≠ some wr.heap.size := fun h => by have := (om.2.2.lt _ h).2; omega
                  have x0 : (wr.alloc (.cells #[.int .i64 lo, .int .i64 hi, .int .i64 vv] 35)).cell? ⟨wr.heap.size, 0, none⟩ = some (.int .i64 lo) := by simp
                  have x1 : (wr.alloc (.cells #[.int .i64 lo, .int .i64 hi, .int .i64 vv] 35)).cell? ⟨wr.heap.size, 1, none⟩ = some (.int .i64 hi) := by simp
                  have x2 : (wr.alloc (.cells #[.int .i64 lo, .int .i64 hi, .int .i64 vv] 35)).cell? ⟨wr.heap.size, 2, none⟩ = some (.int .i64 vv) := by simp
                  clear om hbel hszw c0 c1 c2
                  generalize wr.alloc (.cells #[.int .i64 lo, .int .i64 hi, .int .i64 vv] 35) = wb at *
                  generalize wr.heap.size = gb at *
                  have hszb := hbb.size
                  have hgb := lt_of_cell? x0
                  have hrow := omb.2.2
                  have hla : ¬ (lo = at_) := by omega
                  have hdv : ¬ (lo - at_ = 0) := by omega
                  have hm1 := Int.emod_nonneg kk (show lo - at_ ≠ 0 by omega)
                  have hm2 := Int.emod_lt_of_pos kk (show 0 < lo - at_ by omega)
                  have hw1 : IntKind.i64.wrap (lo - at_) = lo - at_ := by rw [IntKind.wrap_i64]; omega
                  have hw2 : IntKind.i64.wrap (lo - 1) = lo - 1 := by rw [IntKind.wrap_i64]; omega
                  have hw3 : IntKind.i64.wrap (at_ + kk % (lo - at_)) = at_ + kk % (lo - at_) := by rw [IntKind.wrap_i64]; omega
                  have hw4 : IntKind.i64.wrap (kk % (lo - at_)) = kk % (lo - at_) := by rw [IntKind.wrap_i64]; omega
                  have htm : kk.tmod (lo - at_) = kk % (lo - at_) := Int.tmod_eq_emod_of_nonneg hq0
                  go_region_held3 (fun w' => w'.cell? ⟨gb, 0, none⟩ = some (.int .i64 lo))
                    (first | go_keep | (rw [hgrow.cell_far _ (by simp; omega) (Ne.symm hne)]; assumption))
                    ((refine step_append_lies _ (by rfl) _ _ _ (by rfl) w2.heap.size 35 i0 _ 3 24 Try.underlying22 hi0 hz0 hz1 hz2 rfl (by omega) (.slice aom ms.length cpm) ms.length (rcells ms) (by rfl) ((hrow.alloc _).drew) ⟨wb.heap.size, 0, none⟩ 1 1 [.int .i64 (at_ + kk % (lo - at_)), .int .i64 (lo - 1), .int .i64 d] (by rfl) (by rfl) (World.news_of_block (cs := #[.int .i64 (at_ + kk % (lo - at_)), .int .i64 (lo - 1), .int .i64 d]) (t := 35) (fr := (0, 0)) (heap_alloc_new wb _)) (by simp [Value.oneCell']) (by omega) (by unfold maxLen; omega) (by omega) (by simp; omega) (wb.heap.size + 1) (by simp) ?_; intro gg cap w8 hrow8 hgrow hat hlt8))
                  have y0 := box_keptD hgrow x0 hne
                  have y1 := box_keptD hgrow x1 hne
                  have y2 := box_keptD hgrow x2 hne
                  have hb8 : Below w2.heap.size w2 w8 := ((hbb.alloc hszb _).drew).grown hgrow (by simp; omega) (fun k hk => (hrow.lt k hk).1)
                  have ok8 : Or4 w8 w2.heap.size (.slice (some ⟨gg, 0, none⟩) (ms.length + 1) cap) (ms ++ [(at_ + kk % (lo - at_), lo - 1, d)]) := Or4.of (FitR.app omb.1 (FitR.one ⟨by simp only [Tri.lo_mk, Fi]; omega, by simp only [Tri.hi_mk, Fi]; omega, by simp only [Tri.vl_mk, Fi]; omega⟩)) (by simp; omega) hrow8 (by simp) (by rw [rcells_app]; rfl)
                  have hne8 : (Value.slice (some ⟨gg, 0, none⟩) (ms.length + 1) cap).ownBlock ≠ some gb := by
                    intro h
                    have h' : gg = gb := by simpa [Value.ownBlock] using h
                    have hlb := lt_of_cell? x0
                    rcases hat with h1 | h1
                    · exact hne (by rw [h1, h'])
                    · omega
                  have hml8 : (ms ++ [(at_ + kk % (lo - at_), lo - 1, d)]).length = ms.length + 1 := by simp
                  rename_i hHeldX
                  clear hHeldX hrow8 hgrow hat hlt8 hw1 hw2 hw3 hw4 htm hm1 hm2 hla hdv x0 x1 x2 hrow hszb hbb omb hne
                  rw [← hml8] at ok8 hne8 ⊢
                  have hml : (ms ++ [(at_ + kk % (lo - at_), lo - 1, d)]).length ≤ 3 * k + 1 := by omega
                  clear hml8
                  generalize ms ++ [(at_ + kk % (lo - at_), lo - 1, d)] = ms at *
                  have omb := ok8
                  have hrow := ok8.2.2
                  have hbb := hb8
                  have hne := hne8
                  have x0 := y0
                  have x1 := y1
                  have x2 := y2
                  have hszb := hb8.size
                  clear ok8 hb8 hne8 y0 y1 y2
                  obtain ⟨aom, haom⟩ : ∃ a : Option Addr, a = some ⟨gg, 0, none⟩ := ⟨_, rfl⟩
                  rw [← haom] at omb hrow hne ⊢
                  clear haom
                  generalize w8 = wb at *
                  have hpB : pieceB kk lo hi vv = [(lo, lo + kk % (hi - lo), vv), (lo + kk % (hi - lo) + 1, hi, vv)] := if_pos (by omega)
                  rw [hpB] at HS
                  clear hpB
                  have hm3 := Int.emod_nonneg kk (show hi - lo ≠ 0 by omega)
                  have hm4 := Int.emod_lt_of_pos kk (show 0 < hi - lo by omega)
                  have hv1 : IntKind.i64.wrap (hi - lo) = hi - lo := by rw [IntKind.wrap_i64]; omega
                  have hv3 : IntKind.i64.wrap (lo + kk % (hi - lo)) = lo + kk % (hi - lo) := by rw [IntKind.wrap_i64]; omega
                  have hv4 : IntKind.i64.wrap (lo + kk % (hi - lo) + 1) = lo + kk % (hi - lo) + 1 := by rw [IntKind.wrap_i64]; omega
                  have hvt : kk.tmod (hi - lo) = kk % (hi - lo) := Int.tmod_eq_emod_of_nonneg hq0
                  have hvn : ¬ (hi = lo) := by omega
                  have hvd : ¬ (hi - lo = 0) := by omega
                  go_wp2
                  go_quiet (fail)
                  have hrow := row_below3 hrow (below_drewN (Below.refl _ _) nq)
                  have hbb := below_drewN hbb nq
                  have hszb := hbb.size
                  have x0 : (wb.drewN nq).cell? ⟨gb, 0, none⟩ = some (.int .i64 lo) := by simpa using x0
                  have x1 : (wb.drewN nq).cell? ⟨gb, 1, none⟩ = some (.int .i64 hi) := by simpa using x1
                  have x2 : (wb.drewN nq).cell? ⟨gb, 2, none⟩ = some (.int .i64 vv) := by simpa using x2
                  generalize wb.drewN nq = wq at *
                  go_wp2_with (at_builtin; refine wpList_append_own _ rfl (.tmp 104) (.tmp 118) 22 rfl w2.heap.size 35 i0 (.agg #[.int .i64 0, .int .i64 0, .int .i64 0]) 3 24 Try.underlying22 hi0 hz0 hz1 hz2 rfl (by decide) _ _ _ rfl (hrow.alloc _) ⟨wq.heap.size, 0, none⟩ 2 2 (rcells [(lo, lo + kk % (hi - lo), vv), (lo + kk % (hi - lo) + 1, hi, vv)]) rfl rfl (World.news_of_block (cs := #[.int .i64 lo, .int .i64 (lo + kk % (hi - lo)), .int .i64 vv, .int .i64 (lo + kk % (hi - lo) + 1), .int .i64 hi, .int .i64 vv]) (t := 35) (fr := (0, 0)) (heap_alloc_new wq _)) (rcells_one _) (by unfold maxLen; omega) (by omega) (by simp; omega) ?_)
                  intro v9 w9 hrow9 hg9 _
                  have hb9 : Below w2.heap.size w2 w9 := below_append3 hszb hrow hbb hg9
                  have ok9 : Or4 w9 w2.heap.size v9 (ms ++ [(lo, lo + kk % (hi - lo), vv), (lo + kk % (hi - lo) + 1, hi, vv)]) := Or4.of (FitR.app omb.1 (FitR.app (FitR.one ⟨by simp only [Tri.lo_mk, Fi]; omega, by simp only [Tri.hi_mk, Fi]; omega, by simp only [Tri.vl_mk, Fi]; omega⟩) (FitR.one ⟨by simp only [Tri.lo_mk, Fi]; omega, by simp only [Tri.hi_mk, Fi]; omega, by simp only [Tri.vl_mk, Fi]; omega⟩))) (by simp; omega) hrow9 (by simp) (by rw [rcells_app])
                  have y1 := box_kept hg9 x1 hne
                  clear x0 x1 x2 omb
                  clear hrow9 hg9 hrow hbb hne
                  go_wp2
                  go_roundw
                  case rel => exact ⟨k + 1, _, hi + 1, by go_num, by omega, by go_num, by omega, by omega, hva2, ok9, by simp; omega, hb9, unhide HS⟩
                  case measure => simp [intOf]; omega
                · have hpA : pieceA d at_ kk lo = [(at_ + kk % (lo - at_), lo - 1, d)] := if_pos ⟨h3, hgp⟩
                  rw [hpA] at HS
                  clear hpA
                  have h3' : (kk % 3 == 0) = true := by simp [h3]
                  have hmt : kk.tmod 3 = kk % 3 := Int.tmod_eq_emod_of_nonneg hq0
                  go_wp2
                  have omb := om.below ((Below.refl _ wr).alloc (Nat.le_refl _) (.cells #[.int .i64 lo, .int .i64 hi, .int .i64 vv] 35))
                  have hbb : Below w2.heap.size w2 (wr.alloc (.cells #[.int .i64 lo, .int .i64 hi, .int .i64 vv] 35)) := hbel.alloc hszw _
                  have hne : (Value.slice aom ms.length cpm).ownBlock ≠ some wr.heap.size := fun h => by have := (om.2.2.lt _ h).2; omega
                  have x0 : (wr.alloc (.cells #[.int .i64 lo, .int .i64 hi, .int .i64 vv] 35)).cell? ⟨wr.heap.size, 0, none⟩ = some (.int .i64 lo) := by simp
                  have x1 : (wr.alloc (.cells #[.int .i64 lo, .int .i64 hi, .int .i64 vv] 35)).cell? ⟨wr.heap.size, 1, none⟩ = some (.int .i64 hi) := by simp
                  have x2 : (wr.alloc (.cells #[.int .i64 lo, .int .i64 hi, .int .i64 vv] 35)).cell? ⟨wr.heap.size, 2, none⟩ = some (.int .i64 vv) := by simp
                  clear om hbel hszw c0 c1 c2
                  generalize wr.alloc (.cells #[.int .i64 lo, .int .i64 hi, .int .i64 vv] 35) = wb at *
                  generalize wr.heap.size = gb at *
                  have hszb := hbb.size
                  have hgb := lt_of_cell? x0
                  have hrow := omb.2.2
                  have hla : ¬ (lo = at_) := by omega
                  have hdv : ¬ (lo - at_ = 0) := by omega
                  have hm1 := Int.emod_nonneg kk (show lo - at_ ≠ 0 by omega)
                  have hm2 := Int.emod_lt_of_pos kk (show 0 < lo - at_ by omega)
                  have hw1 : IntKind.i64.wrap (lo - at_) = lo - at_ := by rw [IntKind.wrap_i64]; omega
                  have hw2 : IntKind.i64.wrap (lo - 1) = lo - 1 := by rw [IntKind.wrap_i64]; omega
                  have hw3 : IntKind.i64.wrap (at_ + kk % (lo - at_)) = at_ + kk % (lo - at_) := by rw [IntKind.wrap_i64]; omega
                  have hw4 : IntKind.i64.wrap (kk % (lo - at_)) = kk % (lo - at_) := by rw [IntKind.wrap_i64]; omega
                  have htm : kk.tmod (lo - at_) = kk % (lo - at_) := Int.tmod_eq_emod_of_nonneg hq0
                  go_region_held3 (fun w' => w'.cell? ⟨gb, 0, none⟩ = some (.int .i64 lo))
                    (first | go_keep | (rw [hgrow.cell_far _ (by simp; omega) (Ne.symm hne)]; assumption))
                    ((refine step_append_lies _ (by rfl) _ _ _ (by rfl) w2.heap.size 35 i0 _ 3 24 Try.underlying22 hi0 hz0 hz1 hz2 rfl (by omega) (.slice aom ms.length cpm) ms.length (rcells ms) (by rfl) ((hrow.alloc _).drew) ⟨wb.heap.size, 0, none⟩ 1 1 [.int .i64 (at_ + kk % (lo - at_)), .int .i64 (lo - 1), .int .i64 d] (by rfl) (by rfl) (World.news_of_block (cs := #[.int .i64 (at_ + kk % (lo - at_)), .int .i64 (lo - 1), .int .i64 d]) (t := 35) (fr := (0, 0)) (heap_alloc_new wb _)) (by simp [Value.oneCell']) (by omega) (by unfold maxLen; omega) (by omega) (by simp; omega) (wb.heap.size + 1) (by simp) ?_; intro gg cap w8 hrow8 hgrow hat hlt8))
                  have y0 := box_keptD hgrow x0 hne
                  have y1 := box_keptD hgrow x1 hne
                  have y2 := box_keptD hgrow x2 hne
                  have hb8 : Below w2.heap.size w2 w8 := ((hbb.alloc hszb _).drew).grown hgrow (by simp; omega) (fun k hk => (hrow.lt k hk).1)
                  have ok8 : Or4 w8 w2.heap.size (.slice (some ⟨gg, 0, none⟩) (ms.length + 1) cap) (ms ++ [(at_ + kk % (lo - at_), lo - 1, d)]) := Or4.of (FitR.app omb.1 (FitR.one ⟨by simp only [Tri.lo_mk, Fi]; omega, by simp only [Tri.hi_mk, Fi]; omega, by simp only [Tri.vl_mk, Fi]; omega⟩)) (by simp; omega) hrow8 (by simp) (by rw [rcells_app]; rfl)
                  have hne8 : (Value.slice (some ⟨gg, 0, none⟩) (ms.length + 1) cap).ownBlock ≠ some gb := by
                    intro h
                    have h' : gg = gb := by simpa [Value.ownBlock] using h
                    have hlb := lt_of_cell? x0
                    rcases hat with h1 | h1
                    · exact hne (by rw [h1, h'])
                    · omega
                  have hml8 : (ms ++ [(at_ + kk % (lo - at_), lo - 1, d)]).length = ms.length + 1 := by simp
                  rename_i hHeldX
                  clear hHeldX hrow8 hgrow hat hlt8 hw1 hw2 hw3 hw4 htm hm1 hm2 hla hdv x0 x1 x2 hrow hszb hbb omb hne
                  rw [← hml8] at ok8 hne8 ⊢
                  have hml : (ms ++ [(at_ + kk % (lo - at_), lo - 1, d)]).length ≤ 3 * k + 1 := by omega
                  clear hml8
                  generalize ms ++ [(at_ + kk % (lo - at_), lo - 1, d)] = ms at *
                  have omb := ok8
                  have hrow := ok8.2.2
                  have hbb := hb8
                  have hne := hne8
                  have x0 := y0
                  have x1 := y1
                  have x2 := y2
                  have hszb := hb8.size
                  clear ok8 hb8 hne8 y0 y1 y2
                  obtain ⟨aom, haom⟩ : ∃ a : Option Addr, a = some ⟨gg, 0, none⟩ := ⟨_, rfl⟩
                  rw [← haom] at omb hrow hne ⊢
                  clear haom
                  generalize w8 = wb at *
                  have hpB : pieceB kk lo hi vv = [(lo, hi, vv)] := if_neg (by omega)
                  rw [hpB] at HS
                  clear hpB
                  go_wp2_with (at_builtin; refine wpList_append_own _ rfl (.tmp 120) (.tmp 122) 22 rfl w2.heap.size 35 i0 (.agg #[.int .i64 0, .int .i64 0, .int .i64 0]) 3 24 Try.underlying22 hi0 hz0 hz1 hz2 rfl (by decide) _ _ _ rfl (hrow.alloc _) ⟨wb.heap.size, 0, none⟩ 1 1 (rcells [(lo, hi, vv)]) rfl rfl (World.news_of_block (cs := #[.int .i64 lo, .int .i64 hi, .int .i64 vv]) (t := 35) (fr := (0, 0)) (heap_alloc_new wb _)) (rcells_one _) (by unfold maxLen; omega) (by omega) (by simp; omega) ?_)
                  intro v9 w9 hrow9 hg9 _
                  have hb9 : Below w2.heap.size w2 w9 := below_append3 hszb hrow hbb hg9
                  have ok9 : Or4 w9 w2.heap.size v9 (ms ++ [(lo, hi, vv)]) := Or4.of (FitR.app omb.1 (FitR.one ⟨by simp only [Tri.lo_mk, Fi]; omega, by simp only [Tri.hi_mk, Fi]; omega, by simp only [Tri.vl_mk, Fi]; omega⟩)) (by simp; omega) hrow9 (by simp) (by rw [rcells_app])
                  have y1 := box_kept hg9 x1 hne
                  clear x0 x1 x2 omb
                  clear hrow9 hg9 hrow hbb hne
                  go_wp2
                  go_roundw
                  case rel => exact ⟨k + 1, _, hi + 1, by go_num, by omega, by go_num, by omega, by omega, hva2, ok9, by simp; omega, hb9, unhide HS⟩
                  case measure => simp [intOf]; omega
              · have hpA : pieceA d at_ kk lo = [] := if_neg (fun h => hgp h.2)
                have h3' : (kk % 3 == 0) = true := by simp [h3]
                have hmt : kk.tmod 3 = kk % 3 := Int.tmod_eq_emod_of_nonneg hq0
                by_cases hw : lo < hi
                · rw [hpA, List.append_nil] at HS
                  clear hpA
                  have hpB : pieceB kk lo hi vv = [(lo, lo + kk % (hi - lo), vv), (lo + kk % (hi - lo) + 1, hi, vv)] := if_pos (by omega)
                  rw [hpB] at HS
                  clear hpB
                  have hm3 := Int.emod_nonneg kk (show hi - lo ≠ 0 by omega)
                  have hm4 := Int.emod_lt_of_pos kk (show 0 < hi - lo by omega)
                  have hv1 : IntKind.i64.wrap (hi - lo) = hi - lo := by rw [IntKind.wrap_i64]; omega
                  have hv3 : IntKind.i64.wrap (lo + kk % (hi - lo)) = lo + kk % (hi - lo) := by rw [IntKind.wrap_i64]; omega
                  have hv4 : IntKind.i64.wrap (lo + kk % (hi - lo) + 1) = lo + kk % (hi - lo) + 1 := by rw [IntKind.wrap_i64]; omega
                  have hvt : kk.tmod (hi - lo) = kk % (hi - lo) := Int.tmod_eq_emod_of_nonneg hq0
                  have hvn : ¬ (hi = lo) := by omega
                  have hvd : ¬ (hi - lo = 0) := by omega
                  go_wp2
                  have omb := om.below ((Below.refl _ wr).alloc (Nat.le_refl _) (.cells #[.int .i64 lo, .int .i64 hi, .int .i64 vv] 35))
                  have hbb : Below w2.heap.size w2 (wr.alloc (.cells #[.int .i64 lo, .int .i64 hi, .int .i64 vv] 35)) := hbel.alloc hszw _
                  have hne : (Value.slice aom ms.length cpm).ownBlock ≠ some wr.heap.size := fun h => by have := (om.2.2.lt _ h).2; omega
                  have x0 : (wr.alloc (.cells #[.int .i64 lo, .int .i64 hi, .int .i64 vv] 35)).cell? ⟨wr.heap.size, 0, none⟩ = some (.int .i64 lo) := by simp
                  have x1 : (wr.alloc (.cells #[.int .i64 lo, .int .i64 hi, .int .i64 vv] 35)).cell? ⟨wr.heap.size, 1, none⟩ = some (.int .i64 hi) := by simp
                  have x2 : (wr.alloc (.cells #[.int .i64 lo, .int .i64 hi, .int .i64 vv] 35)).cell? ⟨wr.heap.size, 2, none⟩ = some (.int .i64 vv) := by simp
                  clear om hbel hszw c0 c1 c2
                  generalize wr.alloc (.cells #[.int .i64 lo, .int .i64 hi, .int .i64 vv] 35) = wb at *
                  generalize wr.heap.size = gb at *
                  have hszb := hbb.size
                  have hgb := lt_of_cell? x0
                  have hrow := omb.2.2
                  go_quiet (fail)
                  have hrow := row_below3 hrow (below_drewN (Below.refl _ _) nq)
                  have hbb := below_drewN hbb nq
                  have hszb := hbb.size
                  have x0 : (wb.drewN nq).cell? ⟨gb, 0, none⟩ = some (.int .i64 lo) := by simpa using x0
                  have x1 : (wb.drewN nq).cell? ⟨gb, 1, none⟩ = some (.int .i64 hi) := by simpa using x1
                  have x2 : (wb.drewN nq).cell? ⟨gb, 2, none⟩ = some (.int .i64 vv) := by simpa using x2
                  generalize wb.drewN nq = wq at *
                  go_wp2_with (at_builtin; refine wpList_append_own _ rfl (.tmp 104) (.tmp 118) 22 rfl w2.heap.size 35 i0 (.agg #[.int .i64 0, .int .i64 0, .int .i64 0]) 3 24 Try.underlying22 hi0 hz0 hz1 hz2 rfl (by decide) _ _ _ rfl (hrow.alloc _) ⟨wq.heap.size, 0, none⟩ 2 2 (rcells [(lo, lo + kk % (hi - lo), vv), (lo + kk % (hi - lo) + 1, hi, vv)]) rfl rfl (World.news_of_block (cs := #[.int .i64 lo, .int .i64 (lo + kk % (hi - lo)), .int .i64 vv, .int .i64 (lo + kk % (hi - lo) + 1), .int .i64 hi, .int .i64 vv]) (t := 35) (fr := (0, 0)) (heap_alloc_new wq _)) (rcells_one _) (by unfold maxLen; omega) (by omega) (by simp; omega) ?_)
                  intro v9 w9 hrow9 hg9 _
                  have hb9 : Below w2.heap.size w2 w9 := below_append3 hszb hrow hbb hg9
                  have ok9 : Or4 w9 w2.heap.size v9 (ms ++ [(lo, lo + kk % (hi - lo), vv), (lo + kk % (hi - lo) + 1, hi, vv)]) := Or4.of (FitR.app omb.1 (FitR.app (FitR.one ⟨by simp only [Tri.lo_mk, Fi]; omega, by simp only [Tri.hi_mk, Fi]; omega, by simp only [Tri.vl_mk, Fi]; omega⟩) (FitR.one ⟨by simp only [Tri.lo_mk, Fi]; omega, by simp only [Tri.hi_mk, Fi]; omega, by simp only [Tri.vl_mk, Fi]; omega⟩))) (by simp; omega) hrow9 (by simp) (by rw [rcells_app])
                  have y1 := box_kept hg9 x1 hne
                  clear x0 x1 x2 omb
                  clear hrow9 hg9 hrow hbb hne
                  go_wp2
                  go_roundw
                  case rel => exact ⟨k + 1, _, hi + 1, by go_num, by omega, by go_num, by omega, by omega, hva2, ok9, by simp; omega, hb9, unhide HS⟩
                  case measure => simp [intOf]; omega
                · rw [hpA, List.append_nil] at HS
                  clear hpA
                  have omb := om.below ((Below.refl _ wr).alloc (Nat.le_refl _) (.cells #[.int .i64 lo, .int .i64 hi, .int .i64 vv] 35))
                  have hbb : Below w2.heap.size w2 (wr.alloc (.cells #[.int .i64 lo, .int .i64 hi, .int .i64 vv] 35)) := hbel.alloc hszw _
                  have hne : (Value.slice aom ms.length cpm).ownBlock ≠ some wr.heap.size := fun h => by have := (om.2.2.lt _ h).2; omega
                  have x0 : (wr.alloc (.cells #[.int .i64 lo, .int .i64 hi, .int .i64 vv] 35)).cell? ⟨wr.heap.size, 0, none⟩ = some (.int .i64 lo) := by simp
                  have x1 : (wr.alloc (.cells #[.int .i64 lo, .int .i64 hi, .int .i64 vv] 35)).cell? ⟨wr.heap.size, 1, none⟩ = some (.int .i64 hi) := by simp
                  have x2 : (wr.alloc (.cells #[.int .i64 lo, .int .i64 hi, .int .i64 vv] 35)).cell? ⟨wr.heap.size, 2, none⟩ = some (.int .i64 vv) := by simp
                  have hszb := hbb.size
                  have hrow := omb.2.2
                  have hnew := heap_alloc_new (wr.alloc (.cells #[.int .i64 lo, .int .i64 hi, .int .i64 vv] 35)) (.cells #[.int .i64 lo, .int .i64 hi, .int .i64 vv] 35)
                  rw [show (wr.alloc (.cells #[.int .i64 lo, .int .i64 hi, .int .i64 vv] 35)).heap.size = wr.heap.size + 1 by simp] at hnew
                  clear om hbel
                  have hpB : pieceB kk lo hi vv = [(lo, hi, vv)] := if_neg (by omega)
                  rw [hpB] at HS
                  clear hpB
                  go_wp2_with (at_builtin; refine wpList_append_own _ rfl (.tmp 120) (.tmp 122) 22 rfl w2.heap.size 35 i0 (.agg #[.int .i64 0, .int .i64 0, .int .i64 0]) 3 24 Try.underlying22 hi0 hz0 hz1 hz2 rfl (by decide) _ _ _ rfl (hrow.alloc _) ⟨wr.heap.size + 1, 0, none⟩ 1 1 (rcells [(lo, hi, vv)]) rfl rfl (World.news_of_block (cs := #[.int .i64 lo, .int .i64 hi, .int .i64 vv]) (t := 35) (fr := (0, 0)) hnew) (rcells_one _) (by unfold maxLen; omega) (by omega) (by simp; omega) ?_)
                  intro v9 w9 hrow9 hg9 _
                  have hb9 : Below w2.heap.size w2 w9 := below_append3 hszb hrow hbb hg9
                  have ok9 : Or4 w9 w2.heap.size v9 (ms ++ [(lo, hi, vv)]) := Or4.of (FitR.app omb.1 (FitR.one ⟨by simp only [Tri.lo_mk, Fi]; omega, by simp only [Tri.hi_mk, Fi]; omega, by simp only [Tri.vl_mk, Fi]; omega⟩)) (by simp; omega) hrow9 (by simp) (by rw [rcells_app])
                  have y1 := box_kept hg9 x1 hne
                  clear x0 x1 x2 omb
                  clear hrow9 hg9 hrow hbb hne
                  go_wp2
                  go_roundw
                  case rel => exact ⟨k + 1, _, hi + 1, by go_num, by omega, by go_num, by omega, by omega, hva2, ok9, by simp; omega, hb9, unhide HS⟩
                  case measure => simp [intOf]; omega
            · have hpA : pieceA d at_ kk lo = [] := if_neg (fun h => h3 h.1)
              have h3' : (kk % 3 == 0) = false := by simp [h3]
              have hmt : kk.tmod 3 = kk % 3 := Int.tmod_eq_emod_of_nonneg hq0
              by_cases hw : lo < hi
              · rw [hpA, List.append_nil] at HS
                clear hpA
                have hpB : pieceB kk lo hi vv = [(lo, lo + kk % (hi - lo), vv), (lo + kk % (hi - lo) + 1, hi, vv)] := if_pos (by omega)
                rw [hpB] at HS
                clear hpB
                have hm3 := Int.emod_nonneg kk (show hi - lo ≠ 0 by omega)
                have hm4 := Int.emod_lt_of_pos kk (show 0 < hi - lo by omega)
                have hv1 : IntKind.i64.wrap (hi - lo) = hi - lo := by rw [IntKind.wrap_i64]; omega
                have hv3 : IntKind.i64.wrap (lo + kk % (hi - lo)) = lo + kk % (hi - lo) := by rw [IntKind.wrap_i64]; omega
                have hv4 : IntKind.i64.wrap (lo + kk % (hi - lo) + 1) = lo + kk % (hi - lo) + 1 := by rw [IntKind.wrap_i64]; omega
                have hvt : kk.tmod (hi - lo) = kk % (hi - lo) := Int.tmod_eq_emod_of_nonneg hq0
                have hvn : ¬ (hi = lo) := by omega
                have hvd : ¬ (hi - lo = 0) := by omega
                go_wp2
                have omb := om.below ((Below.refl _ wr).alloc (Nat.le_refl _) (.cells #[.int .i64 lo, .int .i64 hi, .int .i64 vv] 35))
                have hbb : Below w2.heap.size w2 (wr.alloc (.cells #[.int .i64 lo, .int .i64 hi, .int .i64 vv] 35)) := hbel.alloc hszw _
                have hne : (Value.slice aom ms.length cpm).ownBlock ≠ some wr.heap.size := fun h => by have := (om.2.2.lt _ h).2; omega
                have x0 : (wr.alloc (.cells #[.int .i64 lo, .int .i64 hi, .int .i64 vv] 35)).cell? ⟨wr.heap.size, 0, none⟩ = some (.int .i64 lo) := by simp
                have x1 : (wr.alloc (.cells #[.int .i64 lo, .int .i64 hi, .int .i64 vv] 35)).cell? ⟨wr.heap.size, 1, none⟩ = some (.int .i64 hi) := by simp
                have x2 : (wr.alloc (.cells #[.int .i64 lo, .int .i64 hi, .int .i64 vv] 35)).cell? ⟨wr.heap.size, 2, none⟩ = some (.int .i64 vv) := by simp
                clear om hbel hszw c0 c1 c2
                generalize wr.alloc (.cells #[.int .i64 lo, .int .i64 hi, .int .i64 vv] 35) = wb at *
                generalize wr.heap.size = gb at *
                have hszb := hbb.size
                have hgb := lt_of_cell? x0
                have hrow := omb.2.2
                go_quiet (fail)
                have hrow := row_below3 hrow (below_drewN (Below.refl _ _) nq)
                have hbb := below_drewN hbb nq
                have hszb := hbb.size
                have x0 : (wb.drewN nq).cell? ⟨gb, 0, none⟩ = some (.int .i64 lo) := by simpa using x0
                have x1 : (wb.drewN nq).cell? ⟨gb, 1, none⟩ = some (.int .i64 hi) := by simpa using x1
                have x2 : (wb.drewN nq).cell? ⟨gb, 2, none⟩ = some (.int .i64 vv) := by simpa using x2
                generalize wb.drewN nq = wq at *
                go_wp2_with (at_builtin; refine wpList_append_own _ rfl (.tmp 104) (.tmp 118) 22 rfl w2.heap.size 35 i0 (.agg #[.int .i64 0, .int .i64 0, .int .i64 0]) 3 24 Try.underlying22 hi0 hz0 hz1 hz2 rfl (by decide) _ _ _ rfl (hrow.alloc _) ⟨wq.heap.size, 0, none⟩ 2 2 (rcells [(lo, lo + kk % (hi - lo), vv), (lo + kk % (hi - lo) + 1, hi, vv)]) rfl rfl (World.news_of_block (cs := #[.int .i64 lo, .int .i64 (lo + kk % (hi - lo)), .int .i64 vv, .int .i64 (lo + kk % (hi - lo) + 1), .int .i64 hi, .int .i64 vv]) (t := 35) (fr := (0, 0)) (heap_alloc_new wq _)) (rcells_one _) (by unfold maxLen; omega) (by omega) (by simp; omega) ?_)
                intro v9 w9 hrow9 hg9 _
                have hb9 : Below w2.heap.size w2 w9 := below_append3 hszb hrow hbb hg9
                have ok9 : Or4 w9 w2.heap.size v9 (ms ++ [(lo, lo + kk % (hi - lo), vv), (lo + kk % (hi - lo) + 1, hi, vv)]) := Or4.of (FitR.app omb.1 (FitR.app (FitR.one ⟨by simp only [Tri.lo_mk, Fi]; omega, by simp only [Tri.hi_mk, Fi]; omega, by simp only [Tri.vl_mk, Fi]; omega⟩) (FitR.one ⟨by simp only [Tri.lo_mk, Fi]; omega, by simp only [Tri.hi_mk, Fi]; omega, by simp only [Tri.vl_mk, Fi]; omega⟩))) (by simp; omega) hrow9 (by simp) (by rw [rcells_app])
                have y1 := box_kept hg9 x1 hne
                clear x0 x1 x2 omb
                clear hrow9 hg9 hrow hbb hne
                go_wp2
                go_roundw
                case rel => exact ⟨k + 1, _, hi + 1, by go_num, by omega, by go_num, by omega, by omega, hva2, ok9, by simp; omega, hb9, unhide HS⟩
                case measure => simp [intOf]; omega
              · rw [hpA, List.append_nil] at HS
                clear hpA
                have omb := om.below ((Below.refl _ wr).alloc (Nat.le_refl _) (.cells #[.int .i64 lo, .int .i64 hi, .int .i64 vv] 35))
                have hbb : Below w2.heap.size w2 (wr.alloc (.cells #[.int .i64 lo, .int .i64 hi, .int .i64 vv] 35)) := hbel.alloc hszw _
                have hne : (Value.slice aom ms.length cpm).ownBlock ≠ some wr.heap.size := fun h => by have := (om.2.2.lt _ h).2; omega
                have x0 : (wr.alloc (.cells #[.int .i64 lo, .int .i64 hi, .int .i64 vv] 35)).cell? ⟨wr.heap.size, 0, none⟩ = some (.int .i64 lo) := by simp
                have x1 : (wr.alloc (.cells #[.int .i64 lo, .int .i64 hi, .int .i64 vv] 35)).cell? ⟨wr.heap.size, 1, none⟩ = some (.int .i64 hi) := by simp
                have x2 : (wr.alloc (.cells #[.int .i64 lo, .int .i64 hi, .int .i64 vv] 35)).cell? ⟨wr.heap.size, 2, none⟩ = some (.int .i64 vv) := by simp
                have hszb := hbb.size
                have hrow := omb.2.2
                have hnew := heap_alloc_new (wr.alloc (.cells #[.int .i64 lo, .int .i64 hi, .int .i64 vv] 35)) (.cells #[.int .i64 lo, .int .i64 hi, .int .i64 vv] 35)
                rw [show (wr.alloc (.cells #[.int .i64 lo, .int .i64 hi, .int .i64 vv] 35)).heap.size = wr.heap.size + 1 by simp] at hnew
                clear om hbel
                have hpB : pieceB kk lo hi vv = [(lo, hi, vv)] := if_neg (by omega)
                rw [hpB] at HS
                clear hpB
                go_wp2_with (at_builtin; refine wpList_append_own _ rfl (.tmp 120) (.tmp 122) 22 rfl w2.heap.size 35 i0 (.agg #[.int .i64 0, .int .i64 0, .int .i64 0]) 3 24 Try.underlying22 hi0 hz0 hz1 hz2 rfl (by decide) _ _ _ rfl (hrow.alloc _) ⟨wr.heap.size + 1, 0, none⟩ 1 1 (rcells [(lo, hi, vv)]) rfl rfl (World.news_of_block (cs := #[.int .i64 lo, .int .i64 hi, .int .i64 vv]) (t := 35) (fr := (0, 0)) hnew) (rcells_one _) (by unfold maxLen; omega) (by omega) (by simp; omega) ?_)
                intro v9 w9 hrow9 hg9 _
                have hb9 : Below w2.heap.size w2 w9 := below_append3 hszb hrow hbb hg9
                have ok9 : Or4 w9 w2.heap.size v9 (ms ++ [(lo, hi, vv)]) := Or4.of (FitR.app omb.1 (FitR.one ⟨by simp only [Tri.lo_mk, Fi]; omega, by simp only [Tri.hi_mk, Fi]; omega, by simp only [Tri.vl_mk, Fi]; omega⟩)) (by simp; omega) hrow9 (by simp) (by rw [rcells_app])
                have y1 := box_kept hg9 x1 hne
                clear x0 x1 x2 omb
                clear hrow9 hg9 hrow hbb hne
                go_wp2
                go_roundw
                case rel => exact ⟨k + 1, _, hi + 1, by go_num, by omega, by go_num, by omega, by omega, hva2, ok9, by simp; omega, hb9, unhide HS⟩
                case measure => simp [intOf]; omega
          · rw [msk_out hkc] at HS
            have hkc' : ¬ ((k : Int) < (cs.length : Int)) := by omega
            obtain ⟨aom, cpm, hvm, _, _⟩ := om.sr.shape
            subst hvm
            obtain ⟨kk, hkk⟩ : ∃ kk : Int, kk = 1 := ⟨_, rfl⟩
            rw [← hkk] at HS
            have hq0 : 0 ≤ kk := by omega
            have hpA : pieceA d at_ kk (Tri.lo r) = [] := if_neg (fun h => by have := h.1; omega)
            generalize Tri.lo r = lo at *
            generalize Tri.hi r = hi at *
            generalize Tri.vl r = vv at *
            subst hkk
            by_cases hw : lo < hi
            · rw [hpA, List.append_nil] at HS
              clear hpA
              have hpB : pieceB (1 : Int) lo hi vv = [(lo, lo + (1 : Int) % (hi - lo), vv), (lo + (1 : Int) % (hi - lo) + 1, hi, vv)] := if_pos (by omega)
              rw [hpB] at HS
              clear hpB
              have hm3 := Int.emod_nonneg (1 : Int) (show hi - lo ≠ 0 by omega)
              have hm4 := Int.emod_lt_of_pos (1 : Int) (show 0 < hi - lo by omega)
              have hv1 : IntKind.i64.wrap (hi - lo) = hi - lo := by rw [IntKind.wrap_i64]; omega
              have hv3 : IntKind.i64.wrap (lo + (1 : Int) % (hi - lo)) = lo + (1 : Int) % (hi - lo) := by rw [IntKind.wrap_i64]; omega
              have hv4 : IntKind.i64.wrap (lo + (1 : Int) % (hi - lo) + 1) = lo + (1 : Int) % (hi - lo) + 1 := by rw [IntKind.wrap_i64]; omega
              have hvt : (1 : Int).tmod (hi - lo) = (1 : Int) % (hi - lo) := Int.tmod_eq_emod_of_nonneg hq0
              have hvn : ¬ (hi = lo) := by omega
              have hvd : ¬ (hi - lo = 0) := by omega
              go_wp2
              have omb := om.below ((Below.refl _ wr).alloc (Nat.le_refl _) (.cells #[.int .i64 lo, .int .i64 hi, .int .i64 vv] 35))
              have hbb : Below w2.heap.size w2 (wr.alloc (.cells #[.int .i64 lo, .int .i64 hi, .int .i64 vv] 35)) := hbel.alloc hszw _
              have hne : (Value.slice aom ms.length cpm).ownBlock ≠ some wr.heap.size := fun h => by have := (om.2.2.lt _ h).2; omega
              have x0 : (wr.alloc (.cells #[.int .i64 lo, .int .i64 hi, .int .i64 vv] 35)).cell? ⟨wr.heap.size, 0, none⟩ = some (.int .i64 lo) := by simp
              have x1 : (wr.alloc (.cells #[.int .i64 lo, .int .i64 hi, .int .i64 vv] 35)).cell? ⟨wr.heap.size, 1, none⟩ = some (.int .i64 hi) := by simp
              have x2 : (wr.alloc (.cells #[.int .i64 lo, .int .i64 hi, .int .i64 vv] 35)).cell? ⟨wr.heap.size, 2, none⟩ = some (.int .i64 vv) := by simp
              clear om hbel hszw c0 c1 c2
              generalize wr.alloc (.cells #[.int .i64 lo, .int .i64 hi, .int .i64 vv] 35) = wb at *
              generalize wr.heap.size = gb at *
              have hszb := hbb.size
              have hgb := lt_of_cell? x0
              have hrow := omb.2.2
              go_quiet (fail)
              have hrow := row_below3 hrow (below_drewN (Below.refl _ _) nq)
              have hbb := below_drewN hbb nq
              have hszb := hbb.size
              have x0 : (wb.drewN nq).cell? ⟨gb, 0, none⟩ = some (.int .i64 lo) := by simpa using x0
              have x1 : (wb.drewN nq).cell? ⟨gb, 1, none⟩ = some (.int .i64 hi) := by simpa using x1
              have x2 : (wb.drewN nq).cell? ⟨gb, 2, none⟩ = some (.int .i64 vv) := by simpa using x2
              generalize wb.drewN nq = wq at *
              go_wp2_with (at_builtin; refine wpList_append_own _ rfl (.tmp 104) (.tmp 118) 22 rfl w2.heap.size 35 i0 (.agg #[.int .i64 0, .int .i64 0, .int .i64 0]) 3 24 Try.underlying22 hi0 hz0 hz1 hz2 rfl (by decide) _ _ _ rfl (hrow.alloc _) ⟨wq.heap.size, 0, none⟩ 2 2 (rcells [(lo, lo + (1 : Int) % (hi - lo), vv), (lo + (1 : Int) % (hi - lo) + 1, hi, vv)]) rfl rfl (World.news_of_block (cs := #[.int .i64 lo, .int .i64 (lo + (1 : Int) % (hi - lo)), .int .i64 vv, .int .i64 (lo + (1 : Int) % (hi - lo) + 1), .int .i64 hi, .int .i64 vv]) (t := 35) (fr := (0, 0)) (heap_alloc_new wq _)) (rcells_one _) (by unfold maxLen; omega) (by omega) (by simp; omega) ?_)
              intro v9 w9 hrow9 hg9 _
              have hb9 : Below w2.heap.size w2 w9 := below_append3 hszb hrow hbb hg9
              have ok9 : Or4 w9 w2.heap.size v9 (ms ++ [(lo, lo + (1 : Int) % (hi - lo), vv), (lo + (1 : Int) % (hi - lo) + 1, hi, vv)]) := Or4.of (FitR.app omb.1 (FitR.app (FitR.one ⟨by simp only [Tri.lo_mk, Fi]; omega, by simp only [Tri.hi_mk, Fi]; omega, by simp only [Tri.vl_mk, Fi]; omega⟩) (FitR.one ⟨by simp only [Tri.lo_mk, Fi]; omega, by simp only [Tri.hi_mk, Fi]; omega, by simp only [Tri.vl_mk, Fi]; omega⟩))) (by simp; omega) hrow9 (by simp) (by rw [rcells_app])
              have y1 := box_kept hg9 x1 hne
              clear x0 x1 x2 omb
              clear hrow9 hg9 hrow hbb hne
              go_wp2
              go_roundw
              case rel => exact ⟨k + 1, _, hi + 1, by go_num, by omega, by go_num, by omega, by omega, hva2, ok9, by simp; omega, hb9, unhide HS⟩
              case measure => simp [intOf]; omega
            · rw [hpA, List.append_nil] at HS
              clear hpA
              have omb := om.below ((Below.refl _ wr).alloc (Nat.le_refl _) (.cells #[.int .i64 lo, .int .i64 hi, .int .i64 vv] 35))
              have hbb : Below w2.heap.size w2 (wr.alloc (.cells #[.int .i64 lo, .int .i64 hi, .int .i64 vv] 35)) := hbel.alloc hszw _
              have hne : (Value.slice aom ms.length cpm).ownBlock ≠ some wr.heap.size := fun h => by have := (om.2.2.lt _ h).2; omega
              have x0 : (wr.alloc (.cells #[.int .i64 lo, .int .i64 hi, .int .i64 vv] 35)).cell? ⟨wr.heap.size, 0, none⟩ = some (.int .i64 lo) := by simp
              have x1 : (wr.alloc (.cells #[.int .i64 lo, .int .i64 hi, .int .i64 vv] 35)).cell? ⟨wr.heap.size, 1, none⟩ = some (.int .i64 hi) := by simp
              have x2 : (wr.alloc (.cells #[.int .i64 lo, .int .i64 hi, .int .i64 vv] 35)).cell? ⟨wr.heap.size, 2, none⟩ = some (.int .i64 vv) := by simp
              have hszb := hbb.size
              have hrow := omb.2.2
              have hnew := heap_alloc_new (wr.alloc (.cells #[.int .i64 lo, .int .i64 hi, .int .i64 vv] 35)) (.cells #[.int .i64 lo, .int .i64 hi, .int .i64 vv] 35)
              rw [show (wr.alloc (.cells #[.int .i64 lo, .int .i64 hi, .int .i64 vv] 35)).heap.size = wr.heap.size + 1 by simp] at hnew
              clear om hbel
              have hpB : pieceB (1 : Int) lo hi vv = [(lo, hi, vv)] := if_neg (by omega)
              rw [hpB] at HS
              clear hpB
              go_wp2_with (at_builtin; refine wpList_append_own _ rfl (.tmp 120) (.tmp 122) 22 rfl w2.heap.size 35 i0 (.agg #[.int .i64 0, .int .i64 0, .int .i64 0]) 3 24 Try.underlying22 hi0 hz0 hz1 hz2 rfl (by decide) _ _ _ rfl (hrow.alloc _) ⟨wr.heap.size + 1, 0, none⟩ 1 1 (rcells [(lo, hi, vv)]) rfl rfl (World.news_of_block (cs := #[.int .i64 lo, .int .i64 hi, .int .i64 vv]) (t := 35) (fr := (0, 0)) hnew) (rcells_one _) (by unfold maxLen; omega) (by omega) (by simp; omega) ?_)
              intro v9 w9 hrow9 hg9 _
              have hb9 : Below w2.heap.size w2 w9 := below_append3 hszb hrow hbb hg9
              have ok9 : Or4 w9 w2.heap.size v9 (ms ++ [(lo, hi, vv)]) := Or4.of (FitR.app omb.1 (FitR.one ⟨by simp only [Tri.lo_mk, Fi]; omega, by simp only [Tri.hi_mk, Fi]; omega, by simp only [Tri.vl_mk, Fi]; omega⟩)) (by simp; omega) hrow9 (by simp) (by rw [rcells_app])
              have y1 := box_kept hg9 x1 hne
              clear x0 x1 x2 omb
              clear hrow9 hg9 hrow hbb hne
              go_wp2
              go_roundw
              case rel => exact ⟨k + 1, _, hi + 1, by go_num, by omega, by go_num, by omega, by omega, hva2, ok9, by simp; omega, hb9, unhide HS⟩
              case measure => simp [intOf]; omega
        · have hrm : res = ms := by rw [hres, List.drop_eq_nil_of_le (by omega)]; simp [Tri.cutA]
          subst hrm
          have hml : res.length ≤ 600 := by omega
          clear hres hva HC
          have t1 := HB t1 hbel
          have hW := bthen hb02 hbel
          clear hbel hb02
          have hcut := Tri.cut_ok hdr xs 0 (msk cs) (unhide HV) (by omega)
          rw [← unhide HR0] at hcut
          obtain ⟨hcv, hcg⟩ := hcut
          have hckr : (Tri.check d res).2 = 0 := Tri.check_ok.2 ⟨hcv, hdr⟩
          have hnorm : Tri.norm d xs = Tri.norm d res := (Tri.norm_eq (unhide HV) hcv).1 (fun c => (hcg c).symm)
          have hbl : Tri.bls (Tri.get d res) = Tri.bls (Tri.get d xs) := Tri.bls_congr hcg
          have hix : Tri.idx (Tri.get d res) = Tri.idx (Tri.get d xs) := Tri.idx_congr hcg
          have K2 := hide (C.build _ res d _ om.sr (by omega) (unhide hd'))
          have HN := hide hnorm
          have HBL := hide hbl
          have HIX := hide hix
          clear hcv hcg hnorm hbl hix
          go_wp2_with fail
          refine (unhide K2).mono ?_
          rintro e w3 ⟨hb3, ⟨_, a2, rfl, t2⟩ | ⟨k2, _⟩⟩
          case inr => exact absurd hckr k2
          have t1 := HB t1 hb3
          have hW := bthen hW hb3
          clear K2 hb3 hckr om
          go_wp2_with fail
          refine (unhide (HT _)).mono ?_
          rintro e w4 ⟨rfl, hb4⟩
          have t1 := HB t1 hb4
          have t2 := HB t2 hb4
          have hW := bthen hW hb4
          have K3 := hide (C.same _ _ xs res d d w4 t1 t2)
          have hsm : decide (d = d ∧ Tri.norm d xs = Tri.norm d res) = true := by simp [unhide HN]
          rw [hsm] at K3
          clear HT hb4 hsm
          go_wp2_with fail
          refine (unhide K3).mono ?_
          rintro e w5 ⟨rfl, hb5⟩
          have t1 := HB t1 hb5
          have t2 := HB t2 hb5
          have hW := bthen hW hb5
          have K4 := hide (C.blocks _ xs d w5 t1)
          clear K3 hb5
          go_wp2_with fail
          refine (unhide K4).mono ?_
          rintro e w6 ⟨rfl, hb6⟩
          have t1 := HB t1 hb6
          have t2 := HB t2 hb6
          have hW := bthen hW hb6
          have K5 := hide (C.blocks _ res d w6 t2)
          rw [unhide HBL] at K5
          clear K4 hb6 HBL
          generalize (Tri.bls (Tri.get d xs)).length = nb at *
          go_wp2_with fail
          refine (unhide K5).mono ?_
          rintro e w7 ⟨rfl, hb7⟩
          have t1 := HB t1 hb7
          have t2 := HB t2 hb7
          have hW := bthen hW hb7
          have K6 := hide (C.ranges _ xs d w7 t1)
          clear K5 hb7
          go_wp2_with fail
          refine (unhide K6).mono ?_
          rintro e w8 ⟨v8, rfl, o8, hb8⟩
          have t1 := HB t1 hb8
          have t2 := HB t2 hb8
          have hW := bthen hW hb8
          have K7 := hide (C.ranges _ res d w8 t2)
          clear K6 hb8
          go_wp2_with fail
          refine (unhide K7).mono ?_
          rintro e w9 ⟨v9, rfl, o9, hb9⟩
          have t1 := HB t1 hb9
          have t2 := HB t2 hb9
          have o8 := o8.below hb9
          have hW := bthen hW hb9
          have K8 := hide (refSameR_any v8 v9 _ _ w9 o8.sr o9.sr)
          rw [unhide HN] at K8
          simp only [decide_true] at K8
          clear K7 hb9 HN
          go_wp2_with fail
          refine (unhide K8).mono ?_
          rintro e wA ⟨rfl, hbA⟩
          have t1 := HB t1 hbA
          have t2 := HB t2 hbA
          have hW := bthen hW hbA
          have K9 := hide (C.index _ xs d wA t1)
          clear K8 hbA o8 o9
          go_wp2_with fail
          refine (unhide K9).mono ?_
          rintro e wB ⟨vB, rfl, oB, hbB⟩
          have t2 := HB t2 hbB
          have hW := bthen hW hbB
          have KA := hide (C.index _ res d wB t2)
          rw [unhide HIX] at KA
          clear K9 hbB HIX t1
          go_wp2_with fail
          refine (unhide KA).mono ?_
          rintro e wC ⟨vC, rfl, oC, hbC⟩
          have oB := oB.below hbC
          have hW := bthen hW hbC
          clear KA hbC t2
          have hlen : ((Tri.idx (Tri.get d xs)).map fun n : Nat => (n : Int)).length = 17408 := by rw [List.length_map, Tri.idx_len]
          generalize (Tri.idx (Tri.get d xs)).map (fun n : Nat => (n : Int)) = ix at *
          obtain ⟨p1, f1, q1, rfl, _, _, hB1⟩ := oB.sk.place (by omega)
          obtain ⟨p2, f2, q2, rfl, _, _, hC1⟩ := oC.sk.place (by omega)
          have HBC : Hid (∀ wx, Below wC.heap.size wC wx → ∀ i, i < ix.length → wx.cell? ⟨p1, f1 + i, none⟩ = some (.int .u16 (ix.getD i 0)) ∧ wx.cell? ⟨p2, f2 + i, none⟩ = some (.int .u16 (ix.getD i 0))) := fun wx hb i hi => ⟨by rw [hb.cell (lt_of_cell? (hB1 i hi))]; exact hB1 i hi, by rw [hb.cell (lt_of_cell? (hC1 i hi))]; exact hC1 i hi⟩
          clear hB1 hC1 oB oC
          rw [hlen]
          go_wp2
          go_loopw [21] (fun i wr => ∃ k : Nat, i = .int .i64 k ∧ k ≤ 17408 ∧ (∃ m, wr = wC.drewN m)) (fun i _ => 17408 - (intOf i).toNat)
          case atStart => exact ⟨0, rfl, by omega, 0, rfl⟩
          case round =>
            obtain ⟨k, rfl, hk, hm⟩ := hrel
            by_cases hlt : k < 17408
            · obtain ⟨z1, z2⟩ := (unhide HBC) _ (drewB4 hm) k (by omega)
              have hin1 : (0 : Int) ≤ (k : Int) := by omega
              have hin2 : (k : Int) < 17408 := by omega
              generalize ix.getD k 0 = z at *
              go_wp2
              go_quiet (fail)
              go_wp2
              go_roundw
              case rel => exact ⟨k + 1, by go_num, by omega, drews4 hm nq⟩
              case measure => simp [intOf]; omega
            · obtain rfl : k = 17408 := by omega
              go_wp2
              go_ret
              exact ⟨rfl, bthen hW (drewB4 hm)⟩
  · have z2 : ((Tri.check d xs).2 == 0) = false := beq_eq_false_iff_ne.2 k1
    have z3 : ((Tri.check d xs).2 != 0) = true := by simp [k1]
    clear ox
    generalize (Tri.check d xs).1 = c1 at *
    generalize (Tri.check d xs).2 = c2 at *
    go_wp2_with fail
    refine (unhide (HT _)).mono ?_
    rintro e w5 ⟨rfl, hb5⟩
    have hb05 := bthen hb02 hb5
    clear HT hb5 hb02 k1
    go_wp2
    go_ret
    exact ⟨rfl, hb05⟩
end Go.Proofs.Ytehdeipeehaejaa
