/- The law TrieBuilds, out of the contracts. -/
import Derived.Test.YtehdeipeehaejaaLSame4
namespace Go.Proofs.Ytehdeipeehaejaa
open Go.RowKit

theorem fit_i64 {z : Int} (h : IntKind.i64.min ≤ z ∧ z ≤ IntKind.i64.max) : Fi z := by
  simpa [Fi, IntKind.min, IntKind.max, IntKind.signed, IntKind.bits] using h

theorem Or4.ofBlock {w w' : World} {B : Nat} {v : Value} {rs : List Tri.Rg} (h : Or4 w B v rs) (hb : ∀ k, v.ownBlock = some k → w'.heap[k]? = w.heap[k]?) : Or4 w' B v rs := by
  refine ⟨h.1, h.2.1, h.2.2.1, ?_⟩
  rcases h.2.2.2 with hn | ⟨g, cap, cur, hv, hbg, hgg, rest⟩
  · exact .inl hn
  · refine .inr ⟨g, cap, cur, hv, hbg, ?_, rest⟩
    rw [hb g (by rw [hv]; rfl)]
    exact hgg

/-- What was handed in: the first n of the marked ranges. -/
theorem Or4.front {w : World} {B g cap : Nat} {xs ms : List Tri.Rg} {n : Nat} (h : Or4 w B (.slice (some ⟨g, 0, none⟩) n cap) (xs ++ ms)) (hn : n = (xs ++ ms).length) : Sr w (.slice (some ⟨g, 0, none⟩) xs.length cap) xs := by
  have h1 := h.sr.head (k := xs.length) hn (by rw [hn]; simp)
  simpa using h1

set_option maxRecDepth 50000 in
set_option maxHeartbeats 1000000 in
theorem trieBuilds_any {T : World → Nat → Value → List Tri.Rg → Int → Prop} (C : TrieK T) (vl vc : Value) (rs : List Tri.Rg) (cs : List Int) (d : Int) (w : World) (hl : Sr w vl rs) (hc : Sk .i64 w vc cs) (hd : Fi d) :
    Calls Try.prog 3 #[vl, .int .i64 d, vc] w (Tells4 w true) := by
  have HT := fun w => hide (told4_any C.weak w)
  have F1 := hide (few_any vl rs w hl)
  have hcs := hide hc
  have hx := take_short rs
  have hd' := hide hd
  obtain ⟨hd1, hd2⟩ := hd
  obtain ⟨aoc, capc, rfl, hcc1, hcc2⟩ := hc.shape
  have hclen := hc.len
  clear hl hc
  generalize rs.take 200 = xs at *
  go_enter Try.func3, Try.ntmps3
  go_wp2_with fail
  refine (unhide F1).mono ?_
  rintro e w1 ⟨g, cp, vx, B1, rfl, oin, hcp1, hcp2, ox, hB1, hgx, hb1⟩
  have hgin := (oin.2.2.lt g rfl)
  have sin := Or4.front oin (by simp [marks4])
  have K1 := hide (C.build _ xs d w1 sin (by omega) (unhide hd'))
  obtain ⟨aox, cpx, hvx, _, _⟩ := ox.sr.shape
  subst hvx
  clear F1 sin
  go_wp2_with fail
  refine (unhide K1).mono ?_
  rintro e w2 ⟨hb2, hcase⟩
  have oin := oin.below hb2
  have ox := ox.below hb2
  have hb02 := bthen hb1 hb2
  have K2 := hide (refCheck_any _ xs d w2 ox.sr (unhide hd'))
  have hs12 := hb2.size
  clear K1 hb2
  rcases hcase with ⟨k1, a1, rfl, t1⟩ | ⟨k1, rfl⟩
  · have hck : Tri.check d xs = (0, 0) := Prod.ext (Tri.check_zero 0 none xs k1) k1
    rw [hck] at K2
    have k1 := hide k1
    clear hck
    go_wp2_with fail
    refine (unhide K2).mono ?_
    rintro e w3 ⟨rfl, hb3⟩
    have oin := oin.below hb3
    have ox := ox.below hb3
    have t1 := C.keep t1 hb3.size (fun k _ hk => hb3.block k hk)
    have hb03 := bthen hb02 hb3
    clear K2 hb3 hb02
    go_wp2_with fail
    refine (unhide (HT _)).mono ?_
    rintro e w4 ⟨rfl, hb4⟩
    have oin := oin.below hb4
    have ox := ox.below hb4
    have t1 := C.keep t1 hb4.size (fun k _ hk => hb4.block k hk)
    have hb04 := bthen hb03 hb4
    have KS := hide (refSameR_any _ _ xs xs w4 (Or4.front oin (by simp [marks4])) ox.sr)
    simp only [decide_true] at KS
    clear HT hb4 hb03
    go_wp2_with fail
    refine (unhide KS).mono ?_
    rintro e w5 ⟨rfl, hb5⟩
    have oin := oin.below hb5
    have ox := ox.below hb5
    have t1 := C.keep t1 hb5.size (fun k _ hk => hb5.block k hk)
    have hb05 := bthen hb04 hb5
    clear KS hb5 hb04
    have hm1 : w5.cell? ⟨g, xs.length * 3, none⟩ = some (.int .i64 (-7)) := by
      obtain ⟨b', off', cap', hv', _, _, hc'⟩ := oin.sr.place (by simp [marks4])
      simp only [Value.slice.injEq, Option.some.injEq, Addr.mk.injEq, and_true] at hv'
      obtain ⟨⟨rfl, rfl⟩, _⟩ := hv'
      have := (hc' xs.length (by simp [marks4])).1
      rw [Nat.zero_add] at this
      rw [this]; simp [List.getD, marks4, Tri.lo]
    have hm2 : w5.cell? ⟨g, (xs.length + 1) * 3, none⟩ = some (.int .i64 (-8)) := by
      obtain ⟨b', off', cap', hv', _, _, hc'⟩ := oin.sr.place (by simp [marks4])
      simp only [Value.slice.injEq, Option.some.injEq, Addr.mk.injEq, and_true] at hv'
      obtain ⟨⟨rfl, rfl⟩, _⟩ := hv'
      have := (hc' (xs.length + 1) (by simp [marks4])).1
      rw [Nat.zero_add] at this
      rw [this]; simp [List.getD, marks4, Tri.lo]
    have hval := (Tri.check_ok.1 (unhide k1)).1
    have HVL := hide hval
    have rin := oin.2.2
    have hinl : (xs ++ marks4).length = xs.length + 2 := by simp [marks4]
    rw [hinl] at rin
    have hus : (rcells (xs ++ marks4)).length = (xs.length + 2) * 3 := by rw [rcells_len, hinl]
    generalize rcells (xs ++ marks4) = us0 at *
    clear oin hval hinl
    go_wp2
    clear hm1 hm2
    go_loopw [14] (fun i wr => ∃ (k : Nat) (us : List Value), i = .int .i64 k ∧ k ≤ xs.length ∧ us.length = (xs.length + 2) * 3 ∧ wr.ownsRow w.heap.size 35 3 (.slice (some ⟨g, 0, none⟩) (xs.length + 2) cp) (xs.length + 2) us ∧ Or4 wr B1 (.slice aox xs.length cpx) xs ∧ T wr w1.heap.size (.pointer (some a1)) xs d ∧ Below w.heap.size w wr) (fun i _ => xs.length - (intOf i).toNat)
    case atStart => exact ⟨0, us0, rfl, by omega, hus, rin, ox, t1, hb05⟩
    case round =>
      obtain ⟨k, us, rfl, hk, hul, hrow, oxr, tr, hbel⟩ := hrel
      clear rin ox t1 hb05 hus
      by_cases hlt : k < xs.length
      · have q0 : wr.cell? ⟨g, k * 3, none⟩ = some (us.getD (k * 3) undef) := by
          rw [hrow.cellAt (k * 3) (by omega)]; simp [List.getD, show k * 3 < us.length by omega]
        have q1 : wr.cell? ⟨g, k * 3 + 1, none⟩ = some (us.getD (k * 3 + 1) undef) := by
          rw [hrow.cellAt (k * 3 + 1) (by omega)]; simp [List.getD, show k * 3 + 1 < us.length by omega]
        have q2 : wr.cell? ⟨g, k * 3 + 2, none⟩ = some (us.getD (k * 3 + 2) undef) := by
          rw [hrow.cellAt (k * 3 + 2) (by omega)]; simp [List.getD, show k * 3 + 2 < us.length by omega]
        have f0 := hrow.frozenAt (k * 3)
        have f1 := hrow.frozenAt (k * 3 + 1)
        have f2 := hrow.frozenAt (k * 3 + 2)
        generalize us.getD (k * 3) undef = z0 at *
        generalize us.getD (k * 3 + 1) undef = z1 at *
        generalize us.getD (k * 3 + 2) undef = z2 at *
        have R1 : (((wr.setCell ⟨g, k * 3, none⟩ (.int .i64 0)).setCell ⟨g, k * 3 + 1, none⟩ (.int .i64 1114111)).setCell ⟨g, k * 3 + 2, none⟩ (.int .i64 9)).ownsRow w.heap.size 35 3 (.slice (some ⟨g, 0, none⟩) (xs.length + 2) cp) (xs.length + 2) (((us.set (k * 3) (.int .i64 0)).set (k * 3 + 1) (.int .i64 1114111)).set (k * 3 + 2) (.int .i64 9)) :=
          (((hrow.stored (k * 3) (.int .i64 0)).1.stored (k * 3 + 1) (.int .i64 1114111)).1.stored (k * 3 + 2) (.int .i64 9)).1
        have hoth : ∀ j, j ≠ g → (((wr.setCell ⟨g, k * 3, none⟩ (.int .i64 0)).setCell ⟨g, k * 3 + 1, none⟩ (.int .i64 1114111)).setCell ⟨g, k * 3 + 2, none⟩ (.int .i64 9)).heap[j]? = wr.heap[j]? := fun j hj => by
          rw [Below.heap_setCell _ _ _ j hj, Below.heap_setCell _ _ _ j hj, Below.heap_setCell _ _ _ j hj]
        have R2 := oxr.ofBlock (fun j hj => hoth j (fun e => hgx (by rw [hj, e])))
        have R3 := C.keep tr (w' := (((wr.setCell ⟨g, k * 3, none⟩ (.int .i64 0)).setCell ⟨g, k * 3 + 1, none⟩ (.int .i64 1114111)).setCell ⟨g, k * 3 + 2, none⟩ (.int .i64 9))) (by simp) (fun j hj _ => hoth j (by omega))
        have R4 : Below w.heap.size w (((wr.setCell ⟨g, k * 3, none⟩ (.int .i64 0)).setCell ⟨g, k * 3 + 1, none⟩ (.int .i64 1114111)).setCell ⟨g, k * 3 + 2, none⟩ (.int .i64 9)) := ((hbel.setCell (by exact hgin.1) _).setCell (by exact hgin.1) _).setCell (by exact hgin.1) _
        have R5 : (((us.set (k * 3) (.int .i64 0)).set (k * 3 + 1) (.int .i64 1114111)).set (k * 3 + 2) (.int .i64 9)).length = (xs.length + 2) * 3 := by simp [hul]
        have RR := hide (And.intro R1 (And.intro R2 (And.intro R3 (And.intro R4 R5))))
        clear R1 R2 R3 R4 R5 hoth hrow oxr tr hbel
        go_wp2
        generalize (((wr.setCell ⟨g, k * 3, none⟩ (.int .i64 0)).setCell ⟨g, k * 3 + 1, none⟩ (.int .i64 1114111)).setCell ⟨g, k * 3 + 2, none⟩ (.int .i64 9)) = wS at *
        obtain ⟨R1, R2, R3, R4, R5⟩ := unhide RR
        clear RR q0 q1 q2 f0 f1 f2
        obtain ⟨bx, offx, capx, hvx, hx1, hx2, hxc⟩ := R2.sr.place (by omega)
        simp only [Value.slice.injEq, true_and] at hvx
        obtain ⟨rfl, rfl⟩ := hvx
        obtain ⟨p0, p1, _⟩ := hxc k hlt
        obtain ⟨v1, v2, v3, _, _⟩ := val_at (unhide HVL) (Int.le_refl _) k hlt
        generalize Tri.lo (xs.getD k (0, 0, 0)) = lo at *
        generalize Tri.hi (xs.getD k (0, 0, 0)) = hi at *
        have HG := fun (c : Int) (h : Fi c) n => hide (C.weak.get _ xs d c (wS.drewN n) ⟨_, C.keep R3 (by simp) (fun j _ _ => rfl)⟩ h)
        have HR := fun (c : Int) (h : Fi c) n => hide (refGet_any _ xs d c (wS.drewN n) (R2.sr.below (below_drewN (Below.refl _ _) n)) (unhide hd') h)
        have F1 : Hid (Fi lo) := by unfold Hid Fi; omega
        have F2 : Hid (Fi hi) := by unfold Hid Fi; omega
        have F3 : Hid (Fi (lo - 1)) := by unfold Hid Fi; omega
        have F4 : Hid (Fi (hi + 1)) := by unfold Hid Fi; omega
        have RR := hide (And.intro R1 (And.intro R2 (And.intro R3 (And.intro R4 R5))))
        clear hxc R1 R2 R3 R4 R5
        have e6 : wrap64 (lo - 1) = lo - 1 := IntWalk.wrap64_in _ ⟨by omega, by omega⟩
        have e7 : IntKind.i64.wrap (lo - 1) = lo - 1 := by rw [IntKind.wrap_i64]; omega
        have e8 : wrap64 (hi + 1) = hi + 1 := IntWalk.wrap64_in _ ⟨by omega, by omega⟩
        have e9 : IntKind.i64.wrap (hi + 1) = hi + 1 := by rw [IntKind.wrap_i64]; omega
        go_quiet (first
          | (go_at_call 13; refine Calls.quiet_of (unhide (HG _ (unhide ?_) _)); with_reducible (first | exact F1 | exact F2 | exact F3 | exact F4))
          | (go_at_call 14; refine Calls.quiet_of_same (unhide (HR _ (unhide ?_) _)); with_reducible (first | exact F1 | exact F2 | exact F3 | exact F4)))
        clear HG HR F1 F2 F3 F4 e6 e7 e8 e9
        obtain ⟨R1, R2, R3, R4, R5⟩ := unhide RR
        have R1 := row_below3 R1 (below_drewN (Below.refl _ _) nq)
        have R2 := R2.below (below_drewN (Below.refl _ _) nq)
        have R3 := C.keep R3 (w' := wS.drewN nq) (by simp) (fun j _ _ => rfl)
        have R4 := below_drewN R4 nq
        have RR := hide (And.intro R5 (And.intro R1 (And.intro R2 (And.intro R3 R4))))
        clear R1 R2 R3 R4 R5
        go_wp2
        go_roundw
        case rel => exact ⟨k + 1, _, by go_num, by omega, unhide RR⟩
        case measure => simp [intOf]; omega
      · clear hrow hul
        rcases Nat.eq_zero_or_pos cs.length with hc0 | hc0
        · have KD := hide (C.weak.default _ xs d wr ⟨_, tr⟩)
          rw [hc0]
          clear oxr tr HVL
          go_wp2
          refine wp_loop_rounds 1 ?_
          rw [rounds_succ]
          go_wp2_with fail
          refine (unhide KD).mono ?_
          rintro e q1 ⟨rfl, r1⟩
          have hb := hbel.trans (r1.mono hbel.size)
          clear KD
          go_wp2
          go_ret
          exact ⟨rfl, hb⟩
        · obtain ⟨bc, offc, capc', hvc, hc1, hc2, hcl⟩ := (unhide hcs).place hc0
          simp only [Value.slice.injEq, true_and] at hvc
          obtain ⟨rfl, rfl⟩ := hvc
          have HCL : Hid (∀ wx, Below w.heap.size w wx → ∀ i, i < cs.length → wx.cell? ⟨bc, offc + i, none⟩ = some (.int .i64 (cs.getD i 0))) := by
            intro wx hb i hi
            rw [hb.cell (lt_of_cell? (hcl i hi))]; exact hcl i hi
          have hcf := hide (unhide hcs).1
          clear hcl hcs HVL
          obtain ⟨wo, hwo⟩ : ∃ wo, wo = wr := ⟨_, rfl⟩
          subst hwo
          go_wp2
          go_loopw [15] (fun i wr => ∃ (k : Nat), i = .int .i64 k ∧ k ≤ cs.length ∧ k ≤ 100 ∧ Or4 wr B1 (.slice aox xs.length cpx) xs ∧ T wr w1.heap.size (.pointer (some a1)) xs d ∧ Below w.heap.size w wr) (fun i _ => 100 - (intOf i).toNat)
          case atStart => exact ⟨0, rfl, by omega, by omega, oxr, tr, hbel⟩
          case round =>
            obtain ⟨q, rfl, hq1, hq2, oq, tq, hbq⟩ := hrel
            clear oxr tr hbel
            by_cases hlq : q < cs.length ∧ q < 100
            · obtain ⟨hl1, hl2⟩ := hlq
              have p0 := (unhide HCL) _ hbq q hl1
              have hf := fit_i64 ((unhide hcf).at q (by simp [IntKind.min, IntKind.max, IntKind.signed, IntKind.bits]))
              generalize cs.getD q 0 = c at *
              have HG := fun n => hide (C.weak.get _ xs d c (wr.drewN n) ⟨_, C.keep tq (by simp) (fun j _ _ => rfl)⟩ hf)
              have HR := fun n => hide (refGet_any _ xs d c (wr.drewN n) (oq.sr.below (below_drewN (Below.refl _ _) n)) (unhide hd') hf)
              generalize Tri.get d xs c = y at *
              have RR : Hid (∀ n, Or4 (wr.drewN n) B1 (.slice aox xs.length cpx) xs ∧ T (wr.drewN n) w1.heap.size (.pointer (some a1)) xs d ∧ Below w.heap.size w (wr.drewN n)) := fun n => ⟨oq.below (below_drewN (Below.refl _ _) n), C.keep tq (by simp) (fun j _ _ => rfl), below_drewN hbq n⟩
              have hq3 : (q : Int) < (cs.length : Int) := by omega
              have hq4 : (q : Int) < 100 := by omega
              clear oq tq hbq hf
              go_wp2
              go_quiet (first
                | (go_at_call 13; exact Calls.quiet_of (unhide (HG _)))
                | (go_at_call 14; exact Calls.quiet_of_same (unhide (HR _))))
              have RR := hide ((unhide RR) nq)
              clear HG HR
              go_wp2
              go_roundw
              case rel => exact ⟨q + 1, by go_num, by omega, by omega, unhide RR⟩
              case measure => simp [intOf]; omega
            · have KD := hide (C.weak.default _ xs d wr ⟨_, tq⟩)
              clear oq tq
              by_cases hq5 : q < cs.length
              · have hq6 : q = 100 := by omega
                subst hq6
                have hq7 : (100 : Int) < (cs.length : Int) := by omega
                go_wp2_with fail
                refine (unhide KD).mono ?_
                rintro e q1 ⟨rfl, r1⟩
                have hb := hbq.trans (r1.mono hbq.size)
                clear KD
                go_wp2
                go_ret
                exact ⟨rfl, hb⟩
              · obtain rfl : q = cs.length := by omega
                go_wp2_with fail
                refine (unhide KD).mono ?_
                rintro e q1 ⟨rfl, r1⟩
                have hb := hbq.trans (r1.mono hbq.size)
                clear KD
                go_wp2
                go_ret
                exact ⟨rfl, hb⟩
  · have K2' : Hid (Calls Try.prog 10 #[.slice aox xs.length cpx, .int .i64 d] w2 (TwoPost w2 (Tri.check d xs))) := K2
    have y2 : ((Tri.check d xs).2 != 0) = true := by simp [k1]
    clear K2 k1
    generalize Tri.check d xs = ck at *
    obtain ⟨ck1, ck2⟩ := ck
    simp only at y2
    go_wp2_with fail
    refine (unhide K2').mono ?_
    rintro e w3 ⟨rfl, hb3⟩
    have oin := oin.below hb3
    have ox := ox.below hb3
    have hb03 := bthen hb02 hb3
    clear K2' hb3 hb02
    go_wp2_with fail
    refine (unhide (HT _)).mono ?_
    rintro e w4 ⟨rfl, hb4⟩
    have oin := oin.below hb4
    have ox := ox.below hb4
    have hb04 := bthen hb03 hb4
    have KS := hide (refSameR_any _ _ xs xs w4 (Or4.front oin (by simp [marks4])) ox.sr)
    simp only [decide_true] at KS
    clear HT hb4 hb03 ox
    go_wp2_with fail
    refine (unhide KS).mono ?_
    rintro e w5 ⟨rfl, hb5⟩
    have oin := oin.below hb5
    have hb05 := bthen hb04 hb5
    clear KS hb5 hb04
    have hm1 : w5.cell? ⟨g, xs.length * 3, none⟩ = some (.int .i64 (-7)) := by
      obtain ⟨b', off', cap', hv', _, _, hc'⟩ := oin.sr.place (by simp [marks4])
      simp only [Value.slice.injEq, Option.some.injEq, Addr.mk.injEq, and_true] at hv'
      obtain ⟨⟨rfl, rfl⟩, _⟩ := hv'
      have := (hc' xs.length (by simp [marks4])).1
      rw [Nat.zero_add] at this
      rw [this]; simp [List.getD, marks4, Tri.lo]
    have hm2 : w5.cell? ⟨g, (xs.length + 1) * 3, none⟩ = some (.int .i64 (-8)) := by
      obtain ⟨b', off', cap', hv', _, _, hc'⟩ := oin.sr.place (by simp [marks4])
      simp only [Value.slice.injEq, Option.some.injEq, Addr.mk.injEq, and_true] at hv'
      obtain ⟨⟨rfl, rfl⟩, _⟩ := hv'
      have := (hc' (xs.length + 1) (by simp [marks4])).1
      rw [Nat.zero_add] at this
      rw [this]; simp [List.getD, marks4, Tri.lo]
    clear oin
    go_wp2
    go_ret
    exact ⟨rfl, hb05⟩
end Go.Proofs.Ytehdeipeehaejaa
