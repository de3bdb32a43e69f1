/- The law TrieBlocks, out of the contracts. (By program: genlblk4.py.) -/
import Derived.Test.YtehdeipeehaejaaLAgain4
import Derived.Test.YtehdeipeehaejaaRefL4
import Derived.Deep.CutBlock
namespace Go.Proofs.Ytehdeipeehaejaa
open Go.RowKit
set_option linter.unusedSimpArgs false

/-- What is kept but in some blocks. -/
structure KeepsP (w w' : World) (P : Nat → Prop) : Prop where
  block : ∀ k, k < w.heap.size → ¬ P k → w'.heap[k]? = w.heap[k]?
  size : w.heap.size ≤ w'.heap.size
theorem KeepsP.refl (w : World) (P : Nat → Prop) : KeepsP w w P := ⟨fun _ _ _ => rfl, Nat.le_refl _⟩
theorem KeepsP.below {w w1 w2 : World} {P : Nat → Prop} (h : KeepsP w w1 P) (hb : Below w1.heap.size w1 w2) : KeepsP w w2 P := ⟨fun k hk hp => by rw [hb.block k (Nat.lt_of_lt_of_le hk h.size)]; exact h.block k hk hp, Nat.le_trans h.size hb.size⟩
theorem KeepsP.set {w w1 : World} {P : Nat → Prop} (h : KeepsP w w1 P) {a : Addr} (ha : P a.block) (v : Value) : KeepsP w (w1.setCell a v) P := ⟨fun k hk hp => by rw [heap_setCell_other w1 a k v (fun e => hp (e ▸ ha))]; exact h.block k hk hp, by simpa using h.size⟩
theorem row_keepP {w w' : World} {B sz n : Nat} {e : TypeId} {v : Value} {xs : List Value} {P : Nat → Prop} (h : w.ownsRow B e sz v n xs) (hk : KeepsP w w' P) (hne : ∀ k, v.ownBlock = some k → ¬ P k) : w'.ownsRow B e sz v n xs := by
  obtain ⟨h1, h2 | ⟨g, cap, cur, hv, hg, hh, r⟩⟩ := h
  · exact ⟨h1, .inl h2⟩
  · refine ⟨h1, .inr ⟨g, cap, cur, hv, hg, ?_, r⟩⟩
    rw [hk.block g (Array.getElem?_eq_some_iff.1 hh).1 (hne g (by rw [hv]; rfl))]; exact hh
theorem Ok.keepP {K : IntKind} {e : TypeId} {w w' : World} {B : Nat} {v : Value} {zs : List Int} {P : Nat → Prop} (h : Ok K e w B v zs) (hk : KeepsP w w' P) (hne : ∀ k, v.ownBlock = some k → ¬ P k) : Ok K e w' B v zs := ⟨h.1, h.2.1, row_keepP h.2.2 hk hne⟩
theorem Or4.keepP {w w' : World} {B : Nat} {v : Value} {rs : List Tri.Rg} {P : Nat → Prop} (h : Or4 w B v rs) (hk : KeepsP w w' P) (hne : ∀ k, v.ownBlock = some k → ¬ P k) : Or4 w' B v rs := ⟨h.1, h.2.1, row_keepP h.2.2 hk hne⟩
theorem Ob.keepP {e : TypeId} {w w' : World} {B : Nat} {v : Value} {bs : List (List Int)} {P : Nat → Prop} (h : Ob e w B v bs) (hk : KeepsP w w' P) (hne : ∀ k, v.ownBlock = some k → ¬ P k) : Ob e w' B v bs := ⟨h.1, row_keepP h.2 hk hne⟩

/-- A load of an array behind a guard that lets it. -/
theorem wpList_load_midW {P : Program} {ops : Array Oper} {rest : List Oper} {op : Oper} {a : Act} {w : World} {Q : Exit → Act → World → Prop} (hw : Region.wanted op (yielded ops a.tmps) = true) (ty : TypeId) (x : Operand) (ho : op.op = .load ty x)
    (b o : Nat) (hx : a.eval x = .pointer (some ⟨b, o, none⟩)) (cs : List Value) (d : TypeDesc) (hc : w.rangeAt b o cs)
    (hu : P.underlying ty = some d) (hd : d.isRow = true) (hi : (P.info? ty).map (·.size) = some cs.length)
    (h : wpList P ops Q rest (a.put op.dst (.agg cs.toArray)) w) : wpList P ops Q (op :: rest) a w :=
  wpList_step fun _ hK => by
    rw [if_pos hw]
    exact wp_load_mid ty x ho b o hx cs d hc hu hd hi (hK _ _ h)

set_option maxRecDepth 2000 in
set_option maxHeartbeats 8000000 in
theorem trieBlocks_any {T : World → Value → List Tri.Rg → Int → Prop} (C : TrieC T) (vl : Value) (rs : List Tri.Rg) (d kk : Int) (w : World) (hl : Sr w vl rs) (hd : Fi d) (hkk : Fi kk) :
    Calls Try.prog 4 #[vl, .int .i64 d, .int .i64 kk] w (Tells4 w true) := by
  have HT := fun w => hide (told4_any C w)
  have HB := @C.below
  have F1 := hide (few_any vl rs w hl)
  have hx := take_short rs
  have hd' := hide hd
  have hkk' := hide hkk
  obtain ⟨hd1, hd2⟩ := hd
  obtain ⟨hkk1, hkk2⟩ := hkk
  clear hl
  generalize rs.take 200 = xs at *
  go_enter Try.func4, Try.ntmps4
  go_wp2_with fail
  refine (unhide F1).mono ?_
  rintro e w1 ⟨g1, c1, vx, B1, rfl, _, _, _, ox, _, _, hb1⟩
  have K1 := hide (C.build vx xs d w1 ox.sr (by omega) (unhide hd'))
  clear F1
  go_wp2_with fail
  refine (unhide K1).mono ?_
  rintro e w2 ⟨hb2, hcase⟩
  have hb02 := bthen hb1 hb2
  have ox := ox.below hb2
  have K2 := hide (refCheck_any vx xs d w2 ox.sr (unhide hd'))
  clear K1 hb2 hb1
  rcases hcase with ⟨k1, a1, rfl, t1⟩ | ⟨k1, rfl⟩
  · obtain ⟨hval, hdr⟩ := Tri.check_ok.1 k1
    have hq2 : Tri.check d xs = (0, 0) := by
      have h1 := Tri.check_zero 0 none xs k1
      exact Prod.ext h1 k1
    rw [hq2] at K2
    have HV := hide hval
    have HD := hide hdr
    clear k1 hval hdr hq2
    go_wp2_with fail
    refine (unhide K2).mono ?_
    rintro e w3 ⟨rfl, hb3⟩
    have t1 := HB t1 hb3
    have ox := ox.below hb3
    have hW := bthen hb02 hb3
    clear K2 hb3 hb02
    go_wp2_with fail
    refine (unhide (HT _)).mono ?_
    rintro e w4 ⟨rfl, hb4⟩
    have t1 := HB t1 hb4
    have ox := ox.below hb4
    have hW := bthen hW hb4
    have K3 := hide (refBlocks_any vx xs d w4 ox.sr (unhide HV) (by omega) (unhide HD))
    clear hb4 HT
    go_wp2_with fail
    refine (unhide K3).mono ?_
    rintro e wI ⟨iv, bv, rfl, oi, ob, hb5⟩
    have t1 := HB t1 hb5
    have ox := ox.below hb5
    have hW := bthen hW hb5
    have K4 := hide (C.index _ xs d wI t1)
    clear K3 hb5
    go_wp2_with fail
    refine (unhide K4).mono ?_
    rintro e wX ⟨vX, rfl, oX, hbX⟩
    have K5 := hide (C.index _ xs d wX (HB t1 hbX))
    clear K4
    go_wp2_with fail
    refine (unhide K5).mono ?_
    rintro e wY ⟨vY, rfl, oY, hbY⟩
    have hbIY := bthen hbX hbY
    have K6 := hide (C.ranges _ xs d wY (HB t1 hbIY))
    clear K5
    go_wp2_with fail
    refine (unhide K6).mono ?_
    rintro e wR ⟨vR, rfl, oR, hbR⟩
    have hbIR := bthen hbIY hbR
    have K7 := hide (C.ranges _ xs d wR (HB t1 hbIR))
    clear K6
    go_wp2_with fail
    refine (unhide K7).mono ?_
    rintro e wS ⟨vQ, rfl, oQ, hbS⟩
    clear K7
    have hbIS := bthen hbIR hbS
    have hWS := bthen hW hbIS
    have hWI := hW.size
    -- where each list lies
    have pI := fun k h => (oi.row.lt k h).2
    have pB := fun k h => (ob.2.lt k h).2
    have pL := fun k h => (ox.2.2.lt k h).2
    have pX := fun k h => oX.row.lt k h
    have pY := fun k h => oY.row.lt k h
    have pR := fun k h => oR.2.2.lt k h
    have pQ := fun k h => (oQ.2.2.lt k h).1
    have sIX := hbX.size
    have sXY := hbY.size
    have sYR := hbR.size
    have sRS := hbS.size
    have oX := ((oX.below hbY).below hbR).below hbS
    have oY := (oY.below hbR).below hbS
    have oR := oR.below hbS
    have oi := oi.below hbIS
    have ob : Ob 48 wS _ bv _ := ⟨ob.1, row_below3 ob.2 hbIS⟩
    have ox := ox.below hbIS
    have HQn : Hid (∀ k, (vX.ownBlock = some k ∨ vR.ownBlock = some k) → (wI.heap.size ≤ k ∧ iv.ownBlock ≠ some k ∧ bv.ownBlock ≠ some k ∧ vx.ownBlock ≠ some k ∧ vY.ownBlock ≠ some k ∧ vQ.ownBlock ≠ some k)) := by
      intro k hk
      have hI : wI.heap.size ≤ k := by
        rcases hk with hk | hk
        · exact (pX k hk).1
        · have := (pR k hk).1; omega
      refine ⟨hI, fun e => by have := pI k e; omega, fun e => by have := pB k e; omega, fun e => by have := pL k e; omega, fun e => ?_, fun e => ?_⟩
      · rcases hk with hk | hk
        · have h1 := (pX k hk).2; have h2 := (pY k e).1; omega
        · have h1 := (pR k hk).1; have h2 := (pY k e).2; omega
      · rcases hk with hk | hk
        · have h1 := (pX k hk).2; have h2 := pQ k e; omega
        · have h1 := (pR k hk).2; have h2 := pQ k e; omega
    have HXR : Hid (∀ k, vX.ownBlock = some k → vR.ownBlock ≠ some k) := fun k h1 h2 => by
      have := (pX k h1).2
      have := (pR k h2).1
      omega
    clear pI pB pL pX pY pR pQ
    have hnn : (Tri.norm d xs).length ≤ 1000 := by have := Tri.norm_len d xs; omega
    have hbn := Tri.bls_len (Tri.get d xs)
    have K8 := hide (C.blocks _ xs d wS (HB t1 hbIS))
    have hil : ((Tri.idx (Tri.get d xs)).map fun n : Nat => (n : Int)).length = 17408 := by rw [List.length_map, Tri.idx_len]
    obtain ⟨gx, cx, hvX, hcx1, hcx2⟩ := own_shape oX.row (by omega)
    obtain ⟨gi, ci, hvi, hci1, hci2⟩ := own_shape oi.row (by omega)
    obtain ⟨gy, cy, hvY, hcy1, hcy2⟩ := own_shape oY.row (by omega)
    obtain ⟨ab, cb, hvb, hcb1, hcb2⟩ := ob.sb.shape
    obtain ⟨ar, cr, hvr, hcr1, hcr2⟩ := oR.sr.shape
    obtain ⟨aq, cq, hvq, hcq1, hcq2⟩ := oQ.sr.shape
    subst hvX hvi hvY hvb hvr hvq
    have hFI := oX.1
    have HBK := hide (fun (i : Int) wx (h : T wx (.pointer (some a1)) xs d) (hi : Fi i) => C.block _ xs d i wx h hi)
    have HRN := hide (fun wx (h : T wx (.pointer (some a1)) xs d) => C.ranges _ xs d wx h)
    have HIX : Hid (∀ wx, T wx (.pointer (some a1)) xs d → Calls Try.prog 17 #[.pointer (some a1)] wx (fun e w' => ∃ v, e = .returned v ∧ Ok .u16 47 w' wx.heap.size v ((Tri.idx (Tri.get d xs)).map fun n : Nat => (n : Int)) ∧ Below wx.heap.size wx w')) := fun wx h => (C.index _ xs d wx h).mono fun _ _ h => h
    have HRR := hide (fun wx (h : Sr wx vx xs) => refRanges_any vx xs d wx h (unhide HV) (by omega) (unhide hd'))
    have HSS : Hid (∀ wx u v, Sr wx u (Tri.norm d xs) → Sr wx v (Tri.norm d xs) → Calls Try.prog 12 #[u, v] wx (Tells4 wx true)) := fun wx u v h1 h2 => by
      have h := refSameR_any u v (Tri.norm d xs) (Tri.norm d xs) wx h1 h2
      rw [decide_eq_true rfl] at h
      exact h
    clear hbX hbY hbR hbS hbIY hbIR hW
    generalize Tri.norm d xs = nrm at *
    generalize Tri.bls (Tri.get d xs) = bs at *
    generalize (Tri.idx (Tri.get d xs)).map (fun n : Nat => (n : Int)) = ix at *
    have hL1 : ix.length ≤ 17408 := by omega
    have hL2 : 17408 ≤ ix.length := by omega
    clear hil
    go_wp2_with fail
    refine (unhide K8).mono ?_
    rintro e wT ⟨rfl, hbT⟩
    clear K8
    have hW := bthen hWS hbT
    have hbI := bthen hbIS hbT
    have oX := oX.below hbT
    have oY := oY.below hbT
    have oR := oR.below hbT
    have oQ := oQ.below hbT
    have oi := oi.below hbT
    have ob : Ob 48 wT _ _ _ := ⟨ob.1, row_below3 ob.2 hbT⟩
    have ox := ox.below hbT
    have K9 := hide ((unhide HRR) wT ox.sr)
    clear hbT hWS hbIS
    go_wp2_with fail
    refine (unhide K9).mono ?_
    rintro e wU ⟨vU, rfl, oU, hbU⟩
    clear K9
    have hW := bthen hW hbU
    have hbI := bthen hbI hbU
    have oX := oX.below hbU
    have oY := oY.below hbU
    have oR := oR.below hbU
    have oQ := oQ.below hbU
    have oi := oi.below hbU
    have ob : Ob 48 wU _ _ _ := ⟨ob.1, row_below3 ob.2 hbU⟩
    have ox := ox.below hbU
    have KA := (unhide HSS) wU _ _ oR.sr oU.sr
    have KA := hide KA
    clear hbU oU
    go_wp2_with fail
    refine (unhide KA).mono ?_
    rintro e wA ⟨rfl, hbA⟩
    clear KA
    have hW := bthen hW hbA
    have hbI := bthen hbI hbA
    have oX := oX.below hbA
    have oY := oY.below hbA
    have oR := oR.below hbA
    have oQ := oQ.below hbA
    have oi := oi.below hbA
    have ob : Ob 48 wA _ _ _ := ⟨ob.1, row_below3 ob.2 hbA⟩
    have ox := ox.below hbA
    clear hbA
    -- what the writes keep
    have HKY : Hid (∀ wr, KeepsP wA wr (fun k => (Value.slice (some ⟨gx, 0, none⟩) ix.length cx).ownBlock = some k ∨ (Value.slice ar nrm.length cr).ownBlock = some k) → Sk .u16 wr (.slice (some ⟨gy, 0, none⟩) ix.length cy) ix ∧ Sk .u16 wr (.slice (some ⟨gi, 0, none⟩) ix.length ci) ix ∧ Sb wr (.slice ab bs.length cb) bs ∧ Sr wr (.slice aq nrm.length cq) nrm ∧ Sr wr vx xs) := fun wr hk =>
      ⟨(oY.keepP hk (fun k e hp => ((unhide HQn) k hp).2.2.2.2.1 e)).sk, (oi.keepP hk (fun k e hp => ((unhide HQn) k hp).2.1 e)).sk, (ob.keepP hk (fun k e hp => ((unhide HQn) k hp).2.2.1 e)).sb, (oQ.keepP hk (fun k e hp => ((unhide HQn) k hp).2.2.2.2.2 e)).sr, (ox.keepP hk (fun k e hp => ((unhide HQn) k hp).2.2.2.1 e)).sr⟩
    have HXge : Hid (wI.heap.size ≤ gx) := ((unhide HQn) gx (.inl rfl)).1
    have HRge : Hid (∀ k, (Value.slice ar nrm.length cr).ownBlock = some k → wI.heap.size ≤ k) := fun k h => ((unhide HQn) k (.inr h)).1
    clear HQn oY oi ob oQ ox
    have rX := oX.row
    have rR := oR.2.2
    clear oX oR
    go_upto_block 0 with fail
    go_cut [18] from 91 to 108 (fun _ wx => KeepsP wA wx (fun k => (Value.slice (some ⟨gx, 0, none⟩) ix.length cx).ownBlock = some k ∨ (Value.slice ar nrm.length cr).ownBlock = some k) ∧ Below wI.heap.size wI wx ∧ Below w.heap.size w wx ∧ wx.ownsRow wY.heap.size 35 3 (.slice ar nrm.length cr) nrm.length (rcells nrm))
    case first => as_aux_lemma =>
      go_wp2
      go_loopw [18] (fun i wr => ∃ (k : Nat) (us : List Value), i = .int .i64 k ∧ k ≤ ix.length ∧ wr.ownsRow wI.heap.size 47 1 (.slice (some ⟨gx, 0, none⟩) ix.length cx) ix.length us ∧ us.length = ix.length ∧ (∀ j, k ≤ j → j < ix.length → us.getD j undef = .int .u16 (ix.getD j 0)) ∧ KeepsP wA wr (fun k => (Value.slice (some ⟨gx, 0, none⟩) ix.length cx).ownBlock = some k ∨ (Value.slice ar nrm.length cr).ownBlock = some k) ∧ Below wI.heap.size wI wr ∧ Below w.heap.size w wr ∧ wr.ownsRow wY.heap.size 35 3 (.slice ar nrm.length cr) nrm.length (rcells nrm)) (fun i _ => ix.length - (intOf i).toNat)
      case atStart => exact ⟨0, ix.map (Value.int .u16), rfl, by omega, rX, by simp, (fun j _ hj => map_getD .u16 ix j hj), KeepsP.refl _ _, hbI, hW, rR⟩
      case round =>
        clear rX rR hbI hW
        obtain ⟨k, us, rfl, hk, rX, hul, hus, hkp, hbI, hW, rR⟩ := hrel
        by_cases hlt : k < ix.length
        · obtain ⟨_, si, _, _, _⟩ := (unhide HKY) wr hkp
          obtain ⟨bi, oi, cpi, hvi, _, _, hci⟩ := si.place (by omega)
          simp only [Value.slice.injEq, Option.some.injEq, Addr.mk.injEq, and_true, true_and] at hvi
          obtain ⟨⟨rfl, rfl⟩, rfl⟩ := hvi
          have z2 := hci k hlt
          rw [Nat.zero_add] at z2
          have z1 : wr.cell? ⟨gx, k, none⟩ = some (.int .u16 (ix.getD k 0)) := by
            rw [rX.cellAt k (by omega), ← hus k (Nat.le_refl _) hlt]
            simp [List.getD, show k < us.length by omega]
          have hf := rX.frozenAt k
          have hin1 : (0 : Int) ≤ (k : Int) := by omega
          have hin2 : (k : Int) < (ix.length : Int) := by omega
          have HN : Hid (∀ n, ∃ us2 : List Value, ((wr.drewN n).setCell ⟨gx, k, none⟩ (.int .u16 65535)).ownsRow wI.heap.size 47 1 (.slice (some ⟨gx, 0, none⟩) ix.length cx) ix.length us2 ∧ us2.length = ix.length ∧ (∀ j, k + 1 ≤ j → j < ix.length → us2.getD j undef = .int .u16 (ix.getD j 0)) ∧ KeepsP wA ((wr.drewN n).setCell ⟨gx, k, none⟩ (.int .u16 65535)) (fun k => (Value.slice (some ⟨gx, 0, none⟩) ix.length cx).ownBlock = some k ∨ (Value.slice ar nrm.length cr).ownBlock = some k) ∧ Below wI.heap.size wI ((wr.drewN n).setCell ⟨gx, k, none⟩ (.int .u16 65535)) ∧ Below w.heap.size w ((wr.drewN n).setCell ⟨gx, k, none⟩ (.int .u16 65535)) ∧ ((wr.drewN n).setCell ⟨gx, k, none⟩ (.int .u16 65535)).ownsRow wY.heap.size 35 3 (.slice ar nrm.length cr) nrm.length (rcells nrm)) := fun n => by
            have r1 := row_below3 rX (below_drewN (Below.refl _ _) n)
            have r2 := (r1.stored k (.int .u16 65535)).1
            refine ⟨us.set k (.int .u16 65535), r2, by simp [hul], fun j h1 h2 => ?_, (hkp.below (below_drewN (Below.refl _ _) n)).set (a := ⟨gx, k, none⟩) (.inl rfl) _, (below_drewN hbI n).setCell (p := ⟨gx, k, none⟩) (unhide HXge) _, (below_drewN hW n).setCell (p := ⟨gx, k, none⟩) (by have := unhide HXge; have h5 := hWI; exact Nat.le_trans h5 this) _, ?_⟩
            · rw [← hus j (by omega) h2]
              simp [List.getD, List.getElem?_set, show ¬ k = j by omega]
            · refine row_keeps (row_below3 rR (below_drewN (Below.refl _ _) n)) (Keeps.of_set (wr.drewN n) ⟨gx, k, none⟩ (.int .u16 65535)) (fun q hq e => ?_)
              cases e
              exact (unhide HXR) gx rfl hq
          have HF := hFI.at k (by simp [IntKind.min, IntKind.max, IntKind.signed, IntKind.bits])
          clear hus hul rR si hci rX hkp hbI hW
          generalize ix.getD k 0 = z at *
          go_wp2
          go_quiet (fail)
          have z1 : (wr.drewN nq).cell? ⟨gx, k, none⟩ = some (.int .u16 z) := by simpa using z1
          have hf : (wr.drewN nq).frozen? ⟨gx, k, none⟩ = false := by simpa using hf
          obtain ⟨us2, R1, R2, R3, R4, R5, R6, R7⟩ := (unhide HN) nq
          clear HN z2
          generalize wr.drewN nq = wq at *
          go_wp2
          go_roundw
          case rel => exact ⟨k + 1, us2, by go_num, by omega, R1, R2, R3, R4, R5, R6, R7⟩
          case measure => simp [intOf]; omega
        · obtain rfl : k = ix.length := by omega
          clear rX hus hul hFI
          go_wp2
          go_meet
          case rel => exact ⟨hkp, hbI, hW, rR⟩
    case rest =>
      clear rX rR hbI hW hFI
      obtain ⟨hkp, hbI, hW, rR⟩ := hcut
      go_upto_block 2 with fail
      go_cut [19] from 109 to 118 (fun _ wx => KeepsP wA wx (fun k => (Value.slice (some ⟨gx, 0, none⟩) ix.length cx).ownBlock = some k ∨ (Value.slice ar nrm.length cr).ownBlock = some k) ∧ Below wI.heap.size wI wx ∧ Below w.heap.size w wx)
      case first => as_aux_lemma =>
        go_wp2
        go_loopw [19] (fun i wr => ∃ (k : Nat) (us : List Value), i = .int .i64 k ∧ k ≤ nrm.length ∧ wr.ownsRow wY.heap.size 35 3 (.slice ar nrm.length cr) nrm.length us ∧ us.length = nrm.length * 3 ∧ KeepsP wA wr (fun k => (Value.slice (some ⟨gx, 0, none⟩) ix.length cx).ownBlock = some k ∨ (Value.slice ar nrm.length cr).ownBlock = some k) ∧ Below wI.heap.size wI wr ∧ Below w.heap.size w wr) (fun i _ => nrm.length - (intOf i).toNat)
        case atStart => exact ⟨0, rcells nrm, rfl, by omega, rR, rcells_len nrm, hkp, hbI, hW⟩
        case round =>
          clear rR hkp hbI hW
          obtain ⟨k, us, rfl, hk, rR, hul, hkp, hbI, hW⟩ := hrel
          by_cases hlt : k < nrm.length
          · obtain ⟨gr, cr', hvr, _, _⟩ := own_shape3 rR (by omega)
            simp only [Value.slice.injEq, true_and] at hvr
            obtain ⟨hvr, rfl⟩ := hvr
            have q0 : wr.cell? ⟨gr, k * 3, none⟩ = some (us.getD (k * 3) undef) := by
              rw [hvr] at rR
              rw [rR.cellAt (k * 3) (by omega)]; simp [List.getD, show k * 3 < us.length by omega]
            have q1 : wr.cell? ⟨gr, k * 3 + 1, none⟩ = some (us.getD (k * 3 + 1) undef) := by
              rw [hvr] at rR
              rw [rR.cellAt (k * 3 + 1) (by omega)]; simp [List.getD, show k * 3 + 1 < us.length by omega]
            have q2 : wr.cell? ⟨gr, k * 3 + 2, none⟩ = some (us.getD (k * 3 + 2) undef) := by
              rw [hvr] at rR
              rw [rR.cellAt (k * 3 + 2) (by omega)]; simp [List.getD, show k * 3 + 2 < us.length by omega]
            have hrow := rR
            rw [hvr] at hrow
            have f0 := hrow.frozenAt (k * 3)
            have f1 := hrow.frozenAt (k * 3 + 1)
            have f2 := hrow.frozenAt (k * 3 + 2)
            have hgr := (unhide HRge) gr (by rw [hvr]; rfl)
            have hPg : ∀ o : Nat, (Value.slice (some ⟨gx, 0, none⟩) ix.length cx).ownBlock = some (⟨gr, o, none⟩ : Addr).block ∨ (Value.slice ar nrm.length cr).ownBlock = some (⟨gr, o, none⟩ : Addr).block := fun o => .inr (by rw [hvr]; rfl)
            have R1 := (((hrow.stored (k * 3) (.int .i64 0)).1.stored (k * 3 + 1) (.int .i64 0)).1.stored (k * 3 + 2) (.int .i64 0)).1
            have R2 := ((hkp.set (hPg (k * 3)) (.int .i64 0)).set (hPg (k * 3 + 1)) (.int .i64 0)).set (hPg (k * 3 + 2)) (.int .i64 0)
            have R3 := ((hbI.setCell (p := ⟨gr, k * 3, none⟩) hgr (.int .i64 0)).setCell (p := ⟨gr, k * 3 + 1, none⟩) hgr (.int .i64 0)).setCell (p := ⟨gr, k * 3 + 2, none⟩) hgr (.int .i64 0)
            have hgr2 : w.heap.size ≤ gr := by omega
            have R4 := ((hW.setCell (p := ⟨gr, k * 3, none⟩) hgr2 (.int .i64 0)).setCell (p := ⟨gr, k * 3 + 1, none⟩) hgr2 (.int .i64 0)).setCell (p := ⟨gr, k * 3 + 2, none⟩) hgr2 (.int .i64 0)
            rw [← hvr] at R1
            have RR := hide (And.intro R1 (And.intro R2 (And.intro R3 R4)))
            have hin1 : (0 : Int) ≤ (k : Int) := by omega
            have hin2 : (k : Int) < (nrm.length : Int) := by omega
            clear R1 R2 R3 R4 hrow rR hkp hbI hW hPg
            generalize us.getD (k * 3) undef = z0 at *
            generalize us.getD (k * 3 + 1) undef = z1 at *
            generalize us.getD (k * 3 + 2) undef = z2 at *
            subst hvr
            go_wp2
            go_roundw
            case rel => exact ⟨k + 1, _, by go_num, by omega, (unhide RR).1, by simp [hul], (unhide RR).2.1, (unhide RR).2.2.1, (unhide RR).2.2.2⟩
            case measure => simp [intOf]; omega
          · obtain rfl : k = nrm.length := by omega
            clear rR hul
            go_wp2
            go_meet
            case rel => exact ⟨hkp, hbI, hW⟩
      case rest =>
        clear hkp hbI hW rR
        obtain ⟨hkp, hbI, hW⟩ := hcut
        go_upto_block 4 with fail
        go_cut [20, 21, 22] from 119 to 144 (fun _ _ _ wx => KeepsP wA wx (fun k => (Value.slice (some ⟨gx, 0, none⟩) ix.length cx).ownBlock = some k ∨ (Value.slice ar nrm.length cr).ownBlock = some k) ∧ Below wI.heap.size wI wx ∧ Below w.heap.size w wx)
        case first => as_aux_lemma =>
          go_wp2
          go_loopw [20, 21, 22] (fun i _ _ wr => ∃ k : Nat, i = .int .i64 k ∧ k ≤ 300 ∧ KeepsP wA wr (fun k => (Value.slice (some ⟨gx, 0, none⟩) ix.length cx).ownBlock = some k ∨ (Value.slice ar nrm.length cr).ownBlock = some k) ∧ Below wI.heap.size wI wr ∧ Below w.heap.size w wr) (fun i _ _ _ => 300 - (intOf i).toNat)
          case atStart => exact ⟨0, rfl, by omega, hkp, hbI, hW⟩
          case round =>
            clear hkp hbI hW
            obtain ⟨k, rfl, hk, hkp, hbI, hW⟩ := hrel
            by_cases hkb : k < bs.length
            · by_cases hk3 : k < 300
              · have K1 := (unhide HBK) (k : Int) wr (HB t1 hbI) (by constructor <;> omega)
                have hR : blkAt bs (k : Int) = (bs.getD k [], true) := by unfold blkAt; rw [if_pos (by omega)]; rfl
                rw [hR] at K1
                have K1 := hide K1
                obtain ⟨_, _, sb, _, _⟩ := (unhide HKY) wr hkp
                have h64 := (sb.1 _ (Tri.getD_in hkb)).1
                have HSB : Hid (∀ wx, Below wr.heap.size wr wx → ∃ bx ox, ab = some ⟨bx, ox, none⟩ ∧ wx.rangeAt bx (ox + k * 64) ((bs.getD k []).map (Value.int .u16))) := fun wx hb => by
                  obtain ⟨bx, ox, cx', hvx, _, _, hrg⟩ := (sb.below hb).place (by omega)
                  simp only [Value.slice.injEq] at hvx
                  exact ⟨bx, ox, hvx.1, hrg k hkb⟩
                have hin1 : (0 : Int) ≤ (k : Int) := by omega
                have hin2 : (k : Int) < (bs.length : Int) := by omega
                clear hR sb
                generalize bs.getD k [] = bl at *
                have hsz : (Try.prog.info? 48).map (·.size) = some (bl.map (Value.int .u16)).toArray.size := by rw [show (bl.map (Value.int .u16)).toArray.size = 64 by simp [h64]]; exact infoArr
                have hone := arrA_one bl
                go_wp2_with fail
                refine (unhide K1).mono ?_
                rintro e w5 ⟨rfl, hb5⟩
                have hth0 := (Blk.new w5 Zs #[.int .u16 0, .int .u16 0, .int .u16 0, .int .u16 0, .int .u16 0, .int .u16 0, .int .u16 0, .int .u16 0, .int .u16 0, .int .u16 0, .int .u16 0, .int .u16 0, .int .u16 0, .int .u16 0, .int .u16 0, .int .u16 0, .int .u16 0, .int .u16 0, .int .u16 0, .int .u16 0, .int .u16 0, .int .u16 0, .int .u16 0, .int .u16 0, .int .u16 0, .int .u16 0, .int .u16 0, .int .u16 0, .int .u16 0, .int .u16 0, .int .u16 0, .int .u16 0, .int .u16 0, .int .u16 0, .int .u16 0, .int .u16 0, .int .u16 0, .int .u16 0, .int .u16 0, .int .u16 0, .int .u16 0, .int .u16 0, .int .u16 0, .int .u16 0, .int .u16 0, .int .u16 0, .int .u16 0, .int .u16 0, .int .u16 0, .int .u16 0, .int .u16 0, .int .u16 0, .int .u16 0, .int .u16 0, .int .u16 0, .int .u16 0, .int .u16 0, .int .u16 0, .int .u16 0, .int .u16 0, .int .u16 0, .int .u16 0, .int .u16 0, .int .u16 0] rfl).there
                rw [Zs_len] at hth0
                have hth : (w5.alloc (.cells #[.int .u16 0, .int .u16 0, .int .u16 0, .int .u16 0, .int .u16 0, .int .u16 0, .int .u16 0, .int .u16 0, .int .u16 0, .int .u16 0, .int .u16 0, .int .u16 0, .int .u16 0, .int .u16 0, .int .u16 0, .int .u16 0, .int .u16 0, .int .u16 0, .int .u16 0, .int .u16 0, .int .u16 0, .int .u16 0, .int .u16 0, .int .u16 0, .int .u16 0, .int .u16 0, .int .u16 0, .int .u16 0, .int .u16 0, .int .u16 0, .int .u16 0, .int .u16 0, .int .u16 0, .int .u16 0, .int .u16 0, .int .u16 0, .int .u16 0, .int .u16 0, .int .u16 0, .int .u16 0, .int .u16 0, .int .u16 0, .int .u16 0, .int .u16 0, .int .u16 0, .int .u16 0, .int .u16 0, .int .u16 0, .int .u16 0, .int .u16 0, .int .u16 0, .int .u16 0, .int .u16 0, .int .u16 0, .int .u16 0, .int .u16 0, .int .u16 0, .int .u16 0, .int .u16 0, .int .u16 0, .int .u16 0, .int .u16 0, .int .u16 0, .int .u16 0] 48)).there w5.heap.size 0 (bl.map (Value.int .u16)).toArray.size := by simpa [h64] using hth0
                have hrb := World.rangeAt_setCells_same (w5.alloc (.cells #[.int .u16 0, .int .u16 0, .int .u16 0, .int .u16 0, .int .u16 0, .int .u16 0, .int .u16 0, .int .u16 0, .int .u16 0, .int .u16 0, .int .u16 0, .int .u16 0, .int .u16 0, .int .u16 0, .int .u16 0, .int .u16 0, .int .u16 0, .int .u16 0, .int .u16 0, .int .u16 0, .int .u16 0, .int .u16 0, .int .u16 0, .int .u16 0, .int .u16 0, .int .u16 0, .int .u16 0, .int .u16 0, .int .u16 0, .int .u16 0, .int .u16 0, .int .u16 0, .int .u16 0, .int .u16 0, .int .u16 0, .int .u16 0, .int .u16 0, .int .u16 0, .int .u16 0, .int .u16 0, .int .u16 0, .int .u16 0, .int .u16 0, .int .u16 0, .int .u16 0, .int .u16 0, .int .u16 0, .int .u16 0, .int .u16 0, .int .u16 0, .int .u16 0, .int .u16 0, .int .u16 0, .int .u16 0, .int .u16 0, .int .u16 0, .int .u16 0, .int .u16 0, .int .u16 0, .int .u16 0, .int .u16 0, .int .u16 0, .int .u16 0, .int .u16 0] 48)) w5.heap.size 0 (bl.map (Value.int .u16)) (by simpa using hth)
                have hba : Below w5.heap.size w5 ((w5.alloc (.cells #[.int .u16 0, .int .u16 0, .int .u16 0, .int .u16 0, .int .u16 0, .int .u16 0, .int .u16 0, .int .u16 0, .int .u16 0, .int .u16 0, .int .u16 0, .int .u16 0, .int .u16 0, .int .u16 0, .int .u16 0, .int .u16 0, .int .u16 0, .int .u16 0, .int .u16 0, .int .u16 0, .int .u16 0, .int .u16 0, .int .u16 0, .int .u16 0, .int .u16 0, .int .u16 0, .int .u16 0, .int .u16 0, .int .u16 0, .int .u16 0, .int .u16 0, .int .u16 0, .int .u16 0, .int .u16 0, .int .u16 0, .int .u16 0, .int .u16 0, .int .u16 0, .int .u16 0, .int .u16 0, .int .u16 0, .int .u16 0, .int .u16 0, .int .u16 0, .int .u16 0, .int .u16 0, .int .u16 0, .int .u16 0, .int .u16 0, .int .u16 0, .int .u16 0, .int .u16 0, .int .u16 0, .int .u16 0, .int .u16 0, .int .u16 0, .int .u16 0, .int .u16 0, .int .u16 0, .int .u16 0, .int .u16 0, .int .u16 0, .int .u16 0, .int .u16 0] 48)).setCells w5.heap.size 0 (bl.map (Value.int .u16))) := below_setCells4 (Nat.le_refl _) _ _ _ ((Below.refl _ _).alloc (Nat.le_refl _) _)
                have hkp := (hkp.below hb5).below hba
                have hbI := bthen (bthen hbI hb5) hba
                have hW := bthen (bthen hW hb5) hba
                obtain ⟨bx, ox, hab, hrg⟩ := (unhide HSB) _ (bthen hb5 hba)
                clear K1 hb5 hba HSB hth0
                have HRB := hide hrb
                have HRG := hide hrg
                have HKP := hide hkp
                clear hrb hrg hkp
                go_wp2_with (refine wpList_store_mid rfl 48 (.tmp 21) (.tmp 133) rfl w5.heap.size 0 (bl.map (Value.int .u16)).toArray rfl rfl hth hsz hone ?_)
                generalize (w5.alloc (.cells #[.int .u16 0, .int .u16 0, .int .u16 0, .int .u16 0, .int .u16 0, .int .u16 0, .int .u16 0, .int .u16 0, .int .u16 0, .int .u16 0, .int .u16 0, .int .u16 0, .int .u16 0, .int .u16 0, .int .u16 0, .int .u16 0, .int .u16 0, .int .u16 0, .int .u16 0, .int .u16 0, .int .u16 0, .int .u16 0, .int .u16 0, .int .u16 0, .int .u16 0, .int .u16 0, .int .u16 0, .int .u16 0, .int .u16 0, .int .u16 0, .int .u16 0, .int .u16 0, .int .u16 0, .int .u16 0, .int .u16 0, .int .u16 0, .int .u16 0, .int .u16 0, .int .u16 0, .int .u16 0, .int .u16 0, .int .u16 0, .int .u16 0, .int .u16 0, .int .u16 0, .int .u16 0, .int .u16 0, .int .u16 0, .int .u16 0, .int .u16 0, .int .u16 0, .int .u16 0, .int .u16 0, .int .u16 0, .int .u16 0, .int .u16 0, .int .u16 0, .int .u16 0, .int .u16 0, .int .u16 0, .int .u16 0, .int .u16 0, .int .u16 0, .int .u16 0] 48)).setCells w5.heap.size 0 (bl.map (Value.int .u16)) = w6 at *
                clear hth
                subst hab
                have hl3 := run_loadAt_mid (P := Try.prog) w6.drew w5.heap.size 0 48 (bl.map (Value.int .u16)) _ (unhide HRB) Try.underlying48 rfl (infoArrL h64)
                have hl7 := run_loadAt_mid (P := Try.prog) w6.drew bx (ox + k * 64) 48 (bl.map (Value.int .u16)) _ (unhide HRG) Try.underlying48 rfl (infoArrL h64)
                have hq' : ∀ w, (Op.equalIn 10000 48 (.agg (bl.map (Value.int .u16)).toArray) (.agg (bl.map (Value.int .u16)).toArray)).run Try.prog w = .ok true w := fun w => by
                  have h := run_arr_eql w bl bl h64 h64
                  rw [decide_eq_true rfl] at h
                  exact h
                have RR : Hid (KeepsP wA w6.drew (fun k => (Value.slice (some ⟨gx, 0, none⟩) ix.length cx).ownBlock = some k ∨ (Value.slice ar nrm.length cr).ownBlock = some k) ∧ Below wI.heap.size wI w6.drew ∧ Below w.heap.size w w6.drew) := ⟨(unhide HKP).below (below_drewN (Below.refl _ _) 1), below_drewN hbI 1, below_drewN hW 1⟩
                clear HRB HRG HKP hbI hW hsz hone
                refine wp_region_any (by kernel_rfl) ?_
                change wpAny _ _ _ _ _ _ _ (World.drew _)
                refine wpAny_take (i := 0) (oi := { dst := some 135, op := Op.move (Operand.tmp 22), type := 4, pos := "law.go:79", after := #[], guard := none }) (v := .bool true) rfl (by kernel_rfl) (by kernel_rfl) (by kernel_rfl) (fun _ _ _ h => h) (Or.inl ⟨by rfl, ?_⟩) ?_
                · intro w; go_simp
                simp only [Act.put, List.setIfInBounds_toArray, List.set_cons_zero, List.set_cons_succ]
                refine wpAny_take (i := 1) (oi := { dst := some 136, op := Op.unOp UnOp.not 4 (Operand.tmp 135), type := 4, pos := "law.go:79", after := #[{ on := 0, ground := Ground.data }], guard := none }) (v := .bool false) rfl (by kernel_rfl) (by kernel_rfl) (by kernel_rfl) (fun _ _ _ h => h) (Or.inl ⟨by rfl, ?_⟩) ?_
                · intro w; go_simp
                simp only [Act.put, List.setIfInBounds_toArray, List.set_cons_zero, List.set_cons_succ]
                refine wpAny_take (i := 2) (oi := { dst := some 137, op := Op.move (Operand.tmp 136), type := 4, pos := "law.go:79", after := #[{ on := 1, ground := Ground.data }], guard := none }) (v := .bool false) rfl (by kernel_rfl) (by kernel_rfl) (by kernel_rfl) (fun _ _ _ h => h) (Or.inl ⟨by rfl, ?_⟩) ?_
                · intro w; go_simp
                simp only [Act.put, List.setIfInBounds_toArray, List.set_cons_zero, List.set_cons_succ]
                refine wpAny_take (i := 4) (oi := { dst := some 139, op := Op.move (Operand.tmp 13), type := 41, pos := "law.go:79", after := #[{ on := 2, ground := Ground.guard }], guard := some (2, false) }) (v := .slice (some ⟨bx, ox, none⟩) bs.length cb) rfl (by kernel_rfl) (by kernel_rfl) (by kernel_rfl) (fun _ _ _ h => h) (Or.inl ⟨by rfl, ?_⟩) ?_
                · intro w; go_simp
                simp only [Act.put, List.setIfInBounds_toArray, List.set_cons_zero, List.set_cons_succ]
                refine wpAny_take (i := 5) (oi := { dst := some 140, op := Op.move (Operand.tmp 20), type := 3, pos := "law.go:79", after := #[{ on := 2, ground := Ground.guard }], guard := some (2, false) }) (v := .int .i64 (k : Int)) rfl (by kernel_rfl) (by kernel_rfl) (by kernel_rfl) (fun _ _ _ h => h) (Or.inl ⟨by rfl, ?_⟩) ?_
                · intro w; go_simp
                simp only [Act.put, List.setIfInBounds_toArray, List.set_cons_zero, List.set_cons_succ]
                refine wpAny_take (i := 6) (oi := { dst := some 141, op := Op.indexAddr 41 (Operand.tmp 139) (Operand.tmp 140), type := 0, pos := "law.go:79", after := #[{ on := 4, ground := Ground.data }, { on := 5, ground := Ground.data }, { on := 2, ground := Ground.guard }], guard := some (2, false) }) (v := .pointer (some ⟨bx, ox + k * 64, none⟩)) rfl (by kernel_rfl) (by kernel_rfl) (by kernel_rfl) (fun _ _ _ h => h) (Or.inl ⟨by rfl, ?_⟩) ?_
                · intro w; go_simp
                simp only [Act.put, List.setIfInBounds_toArray, List.set_cons_zero, List.set_cons_succ]
                refine wpAny_ready (rs := [3, 7]) (by kernel_rfl) (by simp) ?_
                refine AllReady.cons (o := { dst := some 138, op := Op.load 48 (Operand.tmp 21), type := 48, pos := "law.go:79", after := #[{ on := 2, ground := Ground.guard }], guard := some (2, false) }) rfl (fun K hK => ?_) (AllReady.cons (o := { dst := some 142, op := Op.load 48 (Operand.tmp 141), type := 48, pos := "law.go:79", after := #[{ on := 6, ground := Ground.data }, { on := 2, ground := Ground.guard }], guard := some (2, false) }) rfl (fun K hK => ?_) AllReady.nil)
                · refine step_loadW (by rfl) 48 (.tmp 21) (by rfl) _ _ (by rfl) hl3 ?_
                  refine hK _ _ ?_
                  clear hK K
                  simp only [Act.put, List.setIfInBounds_toArray, List.set_cons_zero, List.set_cons_succ]
                  refine wpAny_ready (rs := [7]) (by kernel_rfl) (by simp) ?_
                  refine AllReady.cons (o := { dst := some 142, op := Op.load 48 (Operand.tmp 141), type := 48, pos := "law.go:79", after := #[{ on := 6, ground := Ground.data }, { on := 2, ground := Ground.guard }], guard := some (2, false) }) rfl (fun K hK => ?_) AllReady.nil
                  refine step_loadW (by rfl) 48 (.tmp 141) (by rfl) _ _ (by rfl) hl7 ?_
                  refine hK _ _ ?_
                  clear hK K
                  simp only [Act.put, List.setIfInBounds_toArray, List.set_cons_zero, List.set_cons_succ]
                  refine wpAny_take (i := 8) (oi := { dst := some 143, op := Op.binOp BinOp.neq 48 (Operand.tmp 138) (Operand.tmp 142) 48, type := 4, pos := "law.go:79", after := #[{ on := 3, ground := Ground.data }, { on := 7, ground := Ground.data }, { on := 2, ground := Ground.guard }], guard := some (2, false) }) (v := .bool false) rfl (by kernel_rfl) (by kernel_rfl) (by kernel_rfl) (fun _ _ _ h => h) (Or.inl ⟨by rfl, ?_⟩) ?_
                  · intro w; go_simp
                  simp only [Act.put, List.setIfInBounds_toArray, List.set_cons_zero, List.set_cons_succ]
                  refine wpAny_take (i := 9) (oi := { dst := some 144, op := Op.pick (Operand.tmp 137) (Operand.const (Value.bool true)) (Operand.tmp 143), type := 4, pos := "law.go:79", after := #[{ on := 2, ground := Ground.data }, { on := 8, ground := Ground.data }], guard := none }) (v := .bool false) rfl (by kernel_rfl) (by kernel_rfl) (by kernel_rfl) (fun _ _ _ h => h) (Or.inl ⟨by rfl, ?_⟩) ?_
                  · intro w; go_simp
                  simp only [Act.put, List.setIfInBounds_toArray, List.set_cons_zero, List.set_cons_succ]
                  refine wpAny_done (by kernel_rfl) ?_ _
                  go_wp2
                  go_roundw
                  case rel => exact ⟨k + 1, by go_num, by omega, (unhide RR).1, (unhide RR).2.1, (unhide RR).2.2⟩
                  case measure => simp [intOf]; omega
                · refine step_loadW (by rfl) 48 (.tmp 141) (by rfl) _ _ (by rfl) hl7 ?_
                  refine hK _ _ ?_
                  clear hK K
                  simp only [Act.put, List.setIfInBounds_toArray, List.set_cons_zero, List.set_cons_succ]
                  refine wpAny_ready (rs := [3]) (by kernel_rfl) (by simp) ?_
                  refine AllReady.cons (o := { dst := some 138, op := Op.load 48 (Operand.tmp 21), type := 48, pos := "law.go:79", after := #[{ on := 2, ground := Ground.guard }], guard := some (2, false) }) rfl (fun K hK => ?_) AllReady.nil
                  refine step_loadW (by rfl) 48 (.tmp 21) (by rfl) _ _ (by rfl) hl3 ?_
                  refine hK _ _ ?_
                  clear hK K
                  simp only [Act.put, List.setIfInBounds_toArray, List.set_cons_zero, List.set_cons_succ]
                  refine wpAny_take (i := 8) (oi := { dst := some 143, op := Op.binOp BinOp.neq 48 (Operand.tmp 138) (Operand.tmp 142) 48, type := 4, pos := "law.go:79", after := #[{ on := 3, ground := Ground.data }, { on := 7, ground := Ground.data }, { on := 2, ground := Ground.guard }], guard := some (2, false) }) (v := .bool false) rfl (by kernel_rfl) (by kernel_rfl) (by kernel_rfl) (fun _ _ _ h => h) (Or.inl ⟨by rfl, ?_⟩) ?_
                  · intro w; go_simp
                  simp only [Act.put, List.setIfInBounds_toArray, List.set_cons_zero, List.set_cons_succ]
                  refine wpAny_take (i := 9) (oi := { dst := some 144, op := Op.pick (Operand.tmp 137) (Operand.const (Value.bool true)) (Operand.tmp 143), type := 4, pos := "law.go:79", after := #[{ on := 2, ground := Ground.data }, { on := 8, ground := Ground.data }], guard := none }) (v := .bool false) rfl (by kernel_rfl) (by kernel_rfl) (by kernel_rfl) (fun _ _ _ h => h) (Or.inl ⟨by rfl, ?_⟩) ?_
                  · intro w; go_simp
                  simp only [Act.put, List.setIfInBounds_toArray, List.set_cons_zero, List.set_cons_succ]
                  refine wpAny_done (by kernel_rfl) ?_ _
                  go_wp2
                  go_roundw
                  case rel => exact ⟨k + 1, by go_num, by omega, (unhide RR).1, (unhide RR).2.1, (unhide RR).2.2⟩
                  case measure => simp [intOf]; omega
              · have hin2 : (k : Int) < (bs.length : Int) := by omega
                have hin3 : ¬ (k : Int) < 300 := by omega
                go_wp2
                go_meet
                case rel => exact ⟨hkp, hbI, hW⟩
            · have hin2 : ¬ (k : Int) < (bs.length : Int) := by omega
              go_wp2
              go_meet
              case rel => exact ⟨hkp, hbI, hW⟩
        case rest =>
          clear hkp hbI hW
          obtain ⟨hkp, hbI, hW⟩ := hcut
          have K1 := hide ((unhide HBK) kk wc (HB t1 hbI) (unhide hkk'))
          obtain ⟨_, _, sb, _, _⟩ := (unhide HKY) wc hkp
          have hbf : (blkAt bs kk).1.length = 64 := by
            unfold blkAt
            split
            · exact (sb.1 _ (Tri.getD_in (by omega))).1
            · simp
          have HOut : Hid (¬ (0 ≤ kk ∧ kk < bs.length) → (blkAt bs kk).1 = Zs ∧ (blkAt bs kk).2 = false) := fun h => by unfold blkAt; rw [if_neg h]; exact ⟨rfl, rfl⟩
          clear sb
          generalize blkAt bs kk = bq at *
          obtain ⟨bl, okb⟩ := bq
          simp only at hbf HOut
          have hsz : (Try.prog.info? 48).map (·.size) = some (bl.map (Value.int .u16)).toArray.size := by rw [show (bl.map (Value.int .u16)).toArray.size = 64 by simp [hbf]]; exact infoArr
          have hone := arrA_one bl
          go_wp2_with fail
          refine (unhide K1).mono ?_
          rintro e w5 ⟨rfl, hb5⟩
          have hth0 := (Blk.new w5 Zs #[.int .u16 0, .int .u16 0, .int .u16 0, .int .u16 0, .int .u16 0, .int .u16 0, .int .u16 0, .int .u16 0, .int .u16 0, .int .u16 0, .int .u16 0, .int .u16 0, .int .u16 0, .int .u16 0, .int .u16 0, .int .u16 0, .int .u16 0, .int .u16 0, .int .u16 0, .int .u16 0, .int .u16 0, .int .u16 0, .int .u16 0, .int .u16 0, .int .u16 0, .int .u16 0, .int .u16 0, .int .u16 0, .int .u16 0, .int .u16 0, .int .u16 0, .int .u16 0, .int .u16 0, .int .u16 0, .int .u16 0, .int .u16 0, .int .u16 0, .int .u16 0, .int .u16 0, .int .u16 0, .int .u16 0, .int .u16 0, .int .u16 0, .int .u16 0, .int .u16 0, .int .u16 0, .int .u16 0, .int .u16 0, .int .u16 0, .int .u16 0, .int .u16 0, .int .u16 0, .int .u16 0, .int .u16 0, .int .u16 0, .int .u16 0, .int .u16 0, .int .u16 0, .int .u16 0, .int .u16 0, .int .u16 0, .int .u16 0, .int .u16 0, .int .u16 0] rfl).there
          rw [Zs_len] at hth0
          have hth : (w5.alloc (.cells #[.int .u16 0, .int .u16 0, .int .u16 0, .int .u16 0, .int .u16 0, .int .u16 0, .int .u16 0, .int .u16 0, .int .u16 0, .int .u16 0, .int .u16 0, .int .u16 0, .int .u16 0, .int .u16 0, .int .u16 0, .int .u16 0, .int .u16 0, .int .u16 0, .int .u16 0, .int .u16 0, .int .u16 0, .int .u16 0, .int .u16 0, .int .u16 0, .int .u16 0, .int .u16 0, .int .u16 0, .int .u16 0, .int .u16 0, .int .u16 0, .int .u16 0, .int .u16 0, .int .u16 0, .int .u16 0, .int .u16 0, .int .u16 0, .int .u16 0, .int .u16 0, .int .u16 0, .int .u16 0, .int .u16 0, .int .u16 0, .int .u16 0, .int .u16 0, .int .u16 0, .int .u16 0, .int .u16 0, .int .u16 0, .int .u16 0, .int .u16 0, .int .u16 0, .int .u16 0, .int .u16 0, .int .u16 0, .int .u16 0, .int .u16 0, .int .u16 0, .int .u16 0, .int .u16 0, .int .u16 0, .int .u16 0, .int .u16 0, .int .u16 0, .int .u16 0] 48)).there w5.heap.size 0 (bl.map (Value.int .u16)).toArray.size := by simpa [hbf] using hth0
          have hrb := World.rangeAt_setCells_same (w5.alloc (.cells #[.int .u16 0, .int .u16 0, .int .u16 0, .int .u16 0, .int .u16 0, .int .u16 0, .int .u16 0, .int .u16 0, .int .u16 0, .int .u16 0, .int .u16 0, .int .u16 0, .int .u16 0, .int .u16 0, .int .u16 0, .int .u16 0, .int .u16 0, .int .u16 0, .int .u16 0, .int .u16 0, .int .u16 0, .int .u16 0, .int .u16 0, .int .u16 0, .int .u16 0, .int .u16 0, .int .u16 0, .int .u16 0, .int .u16 0, .int .u16 0, .int .u16 0, .int .u16 0, .int .u16 0, .int .u16 0, .int .u16 0, .int .u16 0, .int .u16 0, .int .u16 0, .int .u16 0, .int .u16 0, .int .u16 0, .int .u16 0, .int .u16 0, .int .u16 0, .int .u16 0, .int .u16 0, .int .u16 0, .int .u16 0, .int .u16 0, .int .u16 0, .int .u16 0, .int .u16 0, .int .u16 0, .int .u16 0, .int .u16 0, .int .u16 0, .int .u16 0, .int .u16 0, .int .u16 0, .int .u16 0, .int .u16 0, .int .u16 0, .int .u16 0, .int .u16 0] 48)) w5.heap.size 0 (bl.map (Value.int .u16)) (by simpa using hth)
          have hba : Below w5.heap.size w5 ((w5.alloc (.cells #[.int .u16 0, .int .u16 0, .int .u16 0, .int .u16 0, .int .u16 0, .int .u16 0, .int .u16 0, .int .u16 0, .int .u16 0, .int .u16 0, .int .u16 0, .int .u16 0, .int .u16 0, .int .u16 0, .int .u16 0, .int .u16 0, .int .u16 0, .int .u16 0, .int .u16 0, .int .u16 0, .int .u16 0, .int .u16 0, .int .u16 0, .int .u16 0, .int .u16 0, .int .u16 0, .int .u16 0, .int .u16 0, .int .u16 0, .int .u16 0, .int .u16 0, .int .u16 0, .int .u16 0, .int .u16 0, .int .u16 0, .int .u16 0, .int .u16 0, .int .u16 0, .int .u16 0, .int .u16 0, .int .u16 0, .int .u16 0, .int .u16 0, .int .u16 0, .int .u16 0, .int .u16 0, .int .u16 0, .int .u16 0, .int .u16 0, .int .u16 0, .int .u16 0, .int .u16 0, .int .u16 0, .int .u16 0, .int .u16 0, .int .u16 0, .int .u16 0, .int .u16 0, .int .u16 0, .int .u16 0, .int .u16 0, .int .u16 0, .int .u16 0, .int .u16 0] 48)).setCells w5.heap.size 0 (bl.map (Value.int .u16))) := below_setCells4 (Nat.le_refl _) _ _ _ ((Below.refl _ _).alloc (Nat.le_refl _) _)
          have HKP := hide ((hkp.below hb5).below hba)
          have hbI := bthen (bthen hbI hb5) hba
          have hW := bthen (bthen hW hb5) hba
          have HRB := hide hrb
          clear K1 hb5 hba hth0 hrb hkp
          go_upto_region 30 with (refine wpList_store_mid rfl 48 (.tmp 23) (.tmp 149) rfl w5.heap.size 0 (bl.map (Value.int .u16)).toArray rfl rfl hth hsz hone ?_)
          generalize (w5.alloc (.cells #[.int .u16 0, .int .u16 0, .int .u16 0, .int .u16 0, .int .u16 0, .int .u16 0, .int .u16 0, .int .u16 0, .int .u16 0, .int .u16 0, .int .u16 0, .int .u16 0, .int .u16 0, .int .u16 0, .int .u16 0, .int .u16 0, .int .u16 0, .int .u16 0, .int .u16 0, .int .u16 0, .int .u16 0, .int .u16 0, .int .u16 0, .int .u16 0, .int .u16 0, .int .u16 0, .int .u16 0, .int .u16 0, .int .u16 0, .int .u16 0, .int .u16 0, .int .u16 0, .int .u16 0, .int .u16 0, .int .u16 0, .int .u16 0, .int .u16 0, .int .u16 0, .int .u16 0, .int .u16 0, .int .u16 0, .int .u16 0, .int .u16 0, .int .u16 0, .int .u16 0, .int .u16 0, .int .u16 0, .int .u16 0, .int .u16 0, .int .u16 0, .int .u16 0, .int .u16 0, .int .u16 0, .int .u16 0, .int .u16 0, .int .u16 0, .int .u16 0, .int .u16 0, .int .u16 0, .int .u16 0, .int .u16 0, .int .u16 0, .int .u16 0, .int .u16 0] 48)).setCells w5.heap.size 0 (bl.map (Value.int .u16)) = w6 at *
          clear hth hsz hone
          go_cut [166] from 151 to 166 (fun bv wx => wx = w6 ∧ bv = .bool false)
          case first => as_aux_lemma =>
            clear HBK HRN HIX HRR HSS HKY HKP
            have hrb := unhide HRB
            clear HRB
            by_cases hin : 0 ≤ kk ∧ kk < bs.length
            · obtain ⟨h1, h2⟩ := hin
              have h3 : ¬ kk < 0 := by omega
              have h4 : ¬ ((bs.length : Int) ≤ kk) := by omega
              clear HOut hrb
              go_wp2
              go_meet
              case rel => exact ⟨by first | rfl | trivial, rfl⟩
            · obtain ⟨e1, e2⟩ := (unhide HOut) hin
              subst e1 e2
              have hq' : ∀ w, (Op.equalIn 10000 48 (.agg (Zs.map (Value.int .u16)).toArray) (.agg #[.int .u16 0, .int .u16 0, .int .u16 0, .int .u16 0, .int .u16 0, .int .u16 0, .int .u16 0, .int .u16 0, .int .u16 0, .int .u16 0, .int .u16 0, .int .u16 0, .int .u16 0, .int .u16 0, .int .u16 0, .int .u16 0, .int .u16 0, .int .u16 0, .int .u16 0, .int .u16 0, .int .u16 0, .int .u16 0, .int .u16 0, .int .u16 0, .int .u16 0, .int .u16 0, .int .u16 0, .int .u16 0, .int .u16 0, .int .u16 0, .int .u16 0, .int .u16 0, .int .u16 0, .int .u16 0, .int .u16 0, .int .u16 0, .int .u16 0, .int .u16 0, .int .u16 0, .int .u16 0, .int .u16 0, .int .u16 0, .int .u16 0, .int .u16 0, .int .u16 0, .int .u16 0, .int .u16 0, .int .u16 0, .int .u16 0, .int .u16 0, .int .u16 0, .int .u16 0, .int .u16 0, .int .u16 0, .int .u16 0, .int .u16 0, .int .u16 0, .int .u16 0, .int .u16 0, .int .u16 0, .int .u16 0, .int .u16 0, .int .u16 0, .int .u16 0])).run Try.prog w = .ok true w := fun w => by
                have h := run_arr_eql w Zs Zs Zs_len Zs_len
                rw [decide_eq_true rfl] at h
                exact h
              have hbf2 := infoArrL Zs_len
              clear HOut
              generalize Zs.map (Value.int .u16) = zv at *
              by_cases h1 : kk < 0
              · go_wp2_with (refine wpList_load_midW (by rfl) 48 (.tmp 23) rfl w5.heap.size 0 rfl zv _ hrb Try.underlying48 rfl hbf2 ?_)
                go_meet
                case rel => exact ⟨by first | rfl | trivial, rfl⟩
              · have h4 : (bs.length : Int) ≤ kk := by omega
                go_wp2_with (refine wpList_load_midW (by rfl) 48 (.tmp 23) rfl w5.heap.size 0 rfl zv _ hrb Try.underlying48 rfl hbf2 ?_)
                go_meet
                case rel => exact ⟨by first | rfl | trivial, rfl⟩
          case rest =>
            obtain ⟨hwc, rfl⟩ := hcut
            subst hwc
            clear HRB HOut HBK
            obtain ⟨sy, si, _, sq, sl⟩ := (unhide HKY) _ (unhide HKP)
            clear HKY HKP
            go_wp2
            obtain ⟨by1, oy1, cy1, hvy, _, _, hcy⟩ := sy.place (by omega)
            simp only [Value.slice.injEq, Option.some.injEq, Addr.mk.injEq, and_true, true_and] at hvy
            obtain ⟨⟨rfl, rfl⟩, rfl⟩ := hvy
            obtain ⟨bi1, oi1, ci1, hvi1, _, _, hci⟩ := si.place (by omega)
            simp only [Value.slice.injEq, Option.some.injEq, Addr.mk.injEq, and_true, true_and] at hvi1
            obtain ⟨⟨rfl, rfl⟩, rfl⟩ := hvi1
            have s1 := hcy 17407 (by omega)
            have s2 := hci 17407 (by omega)
            have s3 := hci 0 (by omega)
            rw [Nat.zero_add] at s1 s2
            rw [Nat.zero_add] at s3
            have SB : Hid (∀ wx, Below wc.heap.size wc wx → wx.cell? ⟨gy, 17407, none⟩ = some (.int .u16 (ix.getD 17407 0)) ∧ wx.cell? ⟨gi, 17407, none⟩ = some (.int .u16 (ix.getD 17407 0)) ∧ wx.cell? ⟨gi, 0, none⟩ = some (.int .u16 (ix.getD 0 0))) := fun wx hb =>
              ⟨by rw [hb.cell (lt_of_cell? s1)]; exact s1, by rw [hb.cell (lt_of_cell? s2)]; exact s2, by rw [hb.cell (lt_of_cell? s3)]; exact s3⟩
            have SQ : Hid (∀ wx, Below wc.heap.size wc wx → Sr wx (.slice aq nrm.length cq) nrm ∧ Sr wx vx xs ∧ T wx (.pointer (some a1)) xs d ∧ Below w.heap.size w wx) := fun wx hb => ⟨sq.below hb, sl.below hb, HB t1 (bthen hbI hb), bthen hW hb⟩
            have H18 : Hid (∀ (w7 : World) (v7 : Value) (B : Nat), Ok .u16 47 w7 B v7 ix → ∃ g7 c7, v7 = .slice (some ⟨g7, 0, none⟩) ix.length c7 ∧ ix.length ≤ c7 ∧ c7 ≤ 9223372036854775807 ∧ w7.cell? ⟨g7, 0, none⟩ = some (.int .u16 (ix.getD 0 0))) := fun w7 v7 B h => by
              obtain ⟨g7, c7, h7, h71, h72⟩ := own_shape h.row (by omega)
              subst h7
              refine ⟨g7, c7, rfl, h71, h72, ?_⟩
              rw [h.row.cellAt 0 (by omega), List.getElem?_map, List.getElem?_eq_getElem (show 0 < ix.length by omega)]
              simp [List.getD, show 0 < ix.length by omega]
            have hi17 : (17407 : Int) < (ix.length : Int) := by omega
            have hi00 : (0 : Int) < (ix.length : Int) := by omega
            have hne0 : ¬ ix = [] := fun e => by rw [e] at hi00; simp at hi00
            have h0 := (unhide SB) wc.drew (below_drewN (Below.refl _ _) 1)
            have hq0 := (unhide SQ) wc.drew (below_drewN (Below.refl _ _) 1)
            have hbd : Below wc.heap.size wc wc.drew := below_drewN (Below.refl _ _) 1
            clear hcy hci s1 s2 s3 sy si sq sl hbI hW hL1 hL2
            generalize ix.getD 17407 0 = ya at *
            generalize ix.getD 0 0 = za at *
            refine wp_region_held_drew (S := (fun w' => w'.cell? ⟨gy, 17407, none⟩ = some (.int .u16 ya) ∧ w'.cell? ⟨gi, 17407, none⟩ = some (.int .u16 ya) ∧ w'.cell? ⟨gi, 0, none⟩ = some (.int .u16 za))) (by kernel_rfl) h0 (fun hHeld => ?_)
            clear h0
            refine wpAnyH_take (i := 0) (oi := { dst := some 167, op := Go.Op.move (Go.Operand.tmp 15), type := 40, pos := "law.go:87", after := #[], guard := none }) (v := .slice (some ⟨gy, 0, none⟩) ix.length cy) rfl (by kernel_rfl) (by kernel_rfl) (by kernel_rfl) (fun _ _ _ h => h) (Or.inl ⟨by rfl, ?_⟩) hHeld ?_
            · intro w hSw; (try dsimp only at hSw); go_simp
            simp only [Act.put, List.setIfInBounds_toArray, List.set_cons_zero, List.set_cons_succ]
            refine wpAnyH_take (i := 1) (oi := { dst := some 168, op := Go.Op.call { callee := Go.Callee.builtin Go.Builtin.len, args := #[Go.Operand.tmp 167], argTypes := #[40] }, type := 3, pos := "law.go:87", after := #[{ on := 0, ground := Go.Ground.data }], guard := none }) (v := .int .i64 (ix.length : Int)) rfl (by kernel_rfl) (by kernel_rfl) (by kernel_rfl) (fun _ _ _ h => h) (Or.inl ⟨by rfl, ?_⟩) hHeld ?_
            · intro w hSw; (try dsimp only at hSw); go_simp
            simp only [Act.put, List.setIfInBounds_toArray, List.set_cons_zero, List.set_cons_succ]
            refine wpAnyH_take (i := 2) (oi := { dst := some 169, op := Go.Op.move (Go.Operand.tmp 12), type := 40, pos := "law.go:87", after := #[], guard := none }) (v := .slice (some ⟨gi, 0, none⟩) ix.length ci) rfl (by kernel_rfl) (by kernel_rfl) (by kernel_rfl) (fun _ _ _ h => h) (Or.inl ⟨by rfl, ?_⟩) hHeld ?_
            · intro w hSw; (try dsimp only at hSw); go_simp
            simp only [Act.put, List.setIfInBounds_toArray, List.set_cons_zero, List.set_cons_succ]
            refine wpAnyH_take (i := 3) (oi := { dst := some 170, op := Go.Op.call { callee := Go.Callee.builtin Go.Builtin.len, args := #[Go.Operand.tmp 169], argTypes := #[40] }, type := 3, pos := "law.go:87", after := #[{ on := 2, ground := Go.Ground.data }], guard := none }) (v := .int .i64 (ix.length : Int)) rfl (by kernel_rfl) (by kernel_rfl) (by kernel_rfl) (fun _ _ _ h => h) (Or.inl ⟨by rfl, ?_⟩) hHeld ?_
            · intro w hSw; (try dsimp only at hSw); go_simp
            simp only [Act.put, List.setIfInBounds_toArray, List.set_cons_zero, List.set_cons_succ]
            refine wpAnyH_take (i := 4) (oi := { dst := some 171, op := Go.Op.binOp Go.BinOp.eql 3 (Go.Operand.tmp 168) (Go.Operand.tmp 170) 3, type := 4, pos := "law.go:87", after := #[{ on := 1, ground := Go.Ground.data }, { on := 3, ground := Go.Ground.data }], guard := none }) (v := .bool true) rfl (by kernel_rfl) (by kernel_rfl) (by kernel_rfl) (fun _ _ _ h => h) (Or.inl ⟨by rfl, ?_⟩) hHeld ?_
            · intro w hSw; (try dsimp only at hSw); go_simp
            simp only [Act.put, List.setIfInBounds_toArray, List.set_cons_zero, List.set_cons_succ]
            refine wpAnyH_take (i := 5) (oi := { dst := some 172, op := Go.Op.move (Go.Operand.tmp 171), type := 4, pos := "law.go:87", after := #[{ on := 4, ground := Go.Ground.data }], guard := none }) (v := .bool true) rfl (by kernel_rfl) (by kernel_rfl) (by kernel_rfl) (fun _ _ _ h => h) (Or.inl ⟨by rfl, ?_⟩) hHeld ?_
            · intro w hSw; (try dsimp only at hSw); go_simp
            simp only [Act.put, List.setIfInBounds_toArray, List.set_cons_zero, List.set_cons_succ]
            refine wpAnyH_take (i := 6) (oi := { dst := some 173, op := Go.Op.move (Go.Operand.tmp 15), type := 40, pos := "law.go:87", after := #[{ on := 5, ground := Go.Ground.guard }], guard := some (5, true) }) (v := .slice (some ⟨gy, 0, none⟩) ix.length cy) rfl (by kernel_rfl) (by kernel_rfl) (by kernel_rfl) (fun _ _ _ h => h) (Or.inl ⟨by rfl, ?_⟩) hHeld ?_
            · intro w hSw; (try dsimp only at hSw); go_simp
            simp only [Act.put, List.setIfInBounds_toArray, List.set_cons_zero, List.set_cons_succ]
            refine wpAnyH_take (i := 7) (oi := { dst := some 174, op := Go.Op.indexAddr 40 (Go.Operand.tmp 173) (Go.Operand.const (Go.Value.int Go.IntKind.i64 17407)), type := 0, pos := "law.go:87", after := #[{ on := 6, ground := Go.Ground.data }, { on := 5, ground := Go.Ground.guard }], guard := some (5, true) }) (v := .pointer (some ⟨gy, 17407, none⟩)) rfl (by kernel_rfl) (by kernel_rfl) (by kernel_rfl) (fun _ _ _ h => h) (Or.inl ⟨by rfl, ?_⟩) hHeld ?_
            · intro w hSw; (try dsimp only at hSw); go_simp
            simp only [Act.put, List.setIfInBounds_toArray, List.set_cons_zero, List.set_cons_succ]
            refine wpAnyH_take (i := 8) (oi := { dst := some 175, op := Go.Op.load 47 (Go.Operand.tmp 174), type := 47, pos := "law.go:87", after := #[{ on := 7, ground := Go.Ground.data }, { on := 5, ground := Go.Ground.guard }], guard := some (5, true) }) (v := .int .u16 ya) rfl (by kernel_rfl) (by kernel_rfl) (by kernel_rfl) (fun _ _ _ h => h) (Or.inl ⟨by rfl, ?_⟩) hHeld ?_
            · intro w hSw; obtain ⟨t1, t2, t3⟩ := hSw; go_simp
            simp only [Act.put, List.setIfInBounds_toArray, List.set_cons_zero, List.set_cons_succ]
            refine wpAnyH_take (i := 9) (oi := { dst := some 176, op := Go.Op.move (Go.Operand.tmp 12), type := 40, pos := "law.go:87", after := #[{ on := 5, ground := Go.Ground.guard }], guard := some (5, true) }) (v := .slice (some ⟨gi, 0, none⟩) ix.length ci) rfl (by kernel_rfl) (by kernel_rfl) (by kernel_rfl) (fun _ _ _ h => h) (Or.inl ⟨by rfl, ?_⟩) hHeld ?_
            · intro w hSw; (try dsimp only at hSw); go_simp
            simp only [Act.put, List.setIfInBounds_toArray, List.set_cons_zero, List.set_cons_succ]
            refine wpAnyH_take (i := 10) (oi := { dst := some 177, op := Go.Op.indexAddr 40 (Go.Operand.tmp 176) (Go.Operand.const (Go.Value.int Go.IntKind.i64 17407)), type := 0, pos := "law.go:87", after := #[{ on := 9, ground := Go.Ground.data }, { on := 5, ground := Go.Ground.guard }], guard := some (5, true) }) (v := .pointer (some ⟨gi, 17407, none⟩)) rfl (by kernel_rfl) (by kernel_rfl) (by kernel_rfl) (fun _ _ _ h => h) (Or.inl ⟨by rfl, ?_⟩) hHeld ?_
            · intro w hSw; (try dsimp only at hSw); go_simp
            simp only [Act.put, List.setIfInBounds_toArray, List.set_cons_zero, List.set_cons_succ]
            refine wpAnyH_take (i := 11) (oi := { dst := some 178, op := Go.Op.load 47 (Go.Operand.tmp 177), type := 47, pos := "law.go:87", after := #[{ on := 10, ground := Go.Ground.data }, { on := 5, ground := Go.Ground.guard }], guard := some (5, true) }) (v := .int .u16 ya) rfl (by kernel_rfl) (by kernel_rfl) (by kernel_rfl) (fun _ _ _ h => h) (Or.inl ⟨by rfl, ?_⟩) hHeld ?_
            · intro w hSw; obtain ⟨t1, t2, t3⟩ := hSw; go_simp
            simp only [Act.put, List.setIfInBounds_toArray, List.set_cons_zero, List.set_cons_succ]
            refine wpAnyH_take (i := 12) (oi := { dst := some 179, op := Go.Op.binOp Go.BinOp.eql 47 (Go.Operand.tmp 175) (Go.Operand.tmp 178) 47, type := 4, pos := "law.go:87", after := #[{ on := 8, ground := Go.Ground.data }, { on := 11, ground := Go.Ground.data }, { on := 5, ground := Go.Ground.guard }], guard := some (5, true) }) (v := .bool true) rfl (by kernel_rfl) (by kernel_rfl) (by kernel_rfl) (fun _ _ _ h => h) (Or.inl ⟨by rfl, ?_⟩) hHeld ?_
            · intro w hSw; (try dsimp only at hSw); go_simp
            simp only [Act.put, List.setIfInBounds_toArray, List.set_cons_zero, List.set_cons_succ]
            refine wpAnyH_take (i := 13) (oi := { dst := some 180, op := Go.Op.pick (Go.Operand.tmp 172) (Go.Operand.tmp 179) (Go.Operand.const (Go.Value.bool false)), type := 4, pos := "law.go:87", after := #[{ on := 5, ground := Go.Ground.data }, { on := 12, ground := Go.Ground.data }], guard := none }) (v := .bool true) rfl (by kernel_rfl) (by kernel_rfl) (by kernel_rfl) (fun _ _ _ h => h) (Or.inl ⟨by rfl, ?_⟩) hHeld ?_
            · intro w hSw; (try dsimp only at hSw); go_simp
            simp only [Act.put, List.setIfInBounds_toArray, List.set_cons_zero, List.set_cons_succ]
            refine wpAnyH_take (i := 14) (oi := { dst := some 181, op := Go.Op.move (Go.Operand.tmp 180), type := 4, pos := "law.go:87", after := #[{ on := 13, ground := Go.Ground.data }, { on := 5, ground := Go.Ground.chain }], guard := none }) (v := .bool true) rfl (by kernel_rfl) (by kernel_rfl) (by kernel_rfl) (fun _ _ _ h => h) (Or.inl ⟨by rfl, ?_⟩) hHeld ?_
            · intro w hSw; (try dsimp only at hSw); go_simp
            simp only [Act.put, List.setIfInBounds_toArray, List.set_cons_zero, List.set_cons_succ]
            refine wpAnyH_take (i := 15) (oi := { dst := some 182, op := Go.Op.move (Go.Operand.tmp 7), type := 26, pos := "law.go:87", after := #[{ on := 14, ground := Go.Ground.guard }], guard := some (14, true) }) (v := .pointer (some a1)) rfl (by kernel_rfl) (by kernel_rfl) (by kernel_rfl) (fun _ _ _ h => h) (Or.inl ⟨by rfl, ?_⟩) hHeld ?_
            · intro w hSw; (try dsimp only at hSw); go_simp
            simp only [Act.put, List.setIfInBounds_toArray, List.set_cons_zero, List.set_cons_succ]
            refine wpAnyH_take (i := 19) (oi := { dst := some 186, op := Go.Op.move (Go.Operand.tmp 12), type := 40, pos := "law.go:87", after := #[{ on := 14, ground := Go.Ground.guard }], guard := some (14, true) }) (v := .slice (some ⟨gi, 0, none⟩) ix.length ci) rfl (by kernel_rfl) (by kernel_rfl) (by kernel_rfl) (fun _ _ _ h => h) (Or.inl ⟨by rfl, ?_⟩) hHeld ?_
            · intro w hSw; (try dsimp only at hSw); go_simp
            simp only [Act.put, List.setIfInBounds_toArray, List.set_cons_zero, List.set_cons_succ]
            refine wpAnyH_take (i := 20) (oi := { dst := some 187, op := Go.Op.indexAddr 40 (Go.Operand.tmp 186) (Go.Operand.const (Go.Value.int Go.IntKind.i64 0)), type := 0, pos := "law.go:87", after := #[{ on := 19, ground := Go.Ground.data }, { on := 14, ground := Go.Ground.guard }], guard := some (14, true) }) (v := .pointer (some ⟨gi, 0, none⟩)) rfl (by kernel_rfl) (by kernel_rfl) (by kernel_rfl) (fun _ _ _ h => h) (Or.inl ⟨by rfl, ?_⟩) hHeld ?_
            · intro w hSw; (try dsimp only at hSw); go_simp
            simp only [Act.put, List.setIfInBounds_toArray, List.set_cons_zero, List.set_cons_succ]
            refine wpAnyH_take (i := 21) (oi := { dst := some 188, op := Go.Op.load 47 (Go.Operand.tmp 187), type := 47, pos := "law.go:87", after := #[{ on := 20, ground := Go.Ground.data }, { on := 14, ground := Go.Ground.guard }], guard := some (14, true) }) (v := .int .u16 za) rfl (by kernel_rfl) (by kernel_rfl) (by kernel_rfl) (fun _ _ _ h => h) (Or.inl ⟨by rfl, ?_⟩) hHeld ?_
            · intro w hSw; obtain ⟨t1, t2, t3⟩ := hSw; go_simp
            simp only [Act.put, List.setIfInBounds_toArray, List.set_cons_zero, List.set_cons_succ]
            refine wpAnyH_ready (rs := [16]) (by kernel_rfl) (by simp) ?_
            refine AllReadyH.cons (o := { dst := some 183, op := Go.Op.call { callee := Go.Callee.value (Go.Operand.func 17), args := #[Go.Operand.tmp 182], argTypes := #[26] }, type := 40, pos := "law.go:87", after := #[{ on := 15, ground := Go.Ground.data }, { on := 14, ground := Go.Ground.chain }, { on := 14, ground := Go.Ground.guard }], guard := some (14, true) }) rfl (fun K hK => ?_) AllReadyH.nil
            rw [if_pos (by rfl)]
            have KI := hide ((unhide HIX) wc.drew hq0.2.2.1)
            go_simp
            refine (unhide KI).mono ?_
            rintro e w7 ⟨v7, rfl, o7, hb7⟩
            clear KI
            obtain ⟨g7, c7, hv7, hc71, hc72, hcell7⟩ := (unhide H18) w7 v7 _ o7
            subst hv7
            have hb07 := bthen hbd hb7
            have hS7 := (unhide SB) w7 hb07
            have hq7 := (unhide SQ) w7 hb07
            clear o7 hb7 hq0 hbd H18
            refine hK.out _ _ hS7 (fun hHeld => ?_)
            clear hK K
            try simp only [Act.put, List.setIfInBounds_toArray, List.set_cons_zero, List.set_cons_succ]
            refine wpAnyH_take (i := 17) (oi := { dst := some 184, op := Go.Op.indexAddr 40 (Go.Operand.tmp 183) (Go.Operand.const (Go.Value.int Go.IntKind.i64 0)), type := 0, pos := "law.go:87", after := #[{ on := 16, ground := Go.Ground.data }, { on := 14, ground := Go.Ground.guard }], guard := some (14, true) }) (v := .pointer (some ⟨g7, 0, none⟩)) rfl (by kernel_rfl) (by kernel_rfl) (by kernel_rfl) (fun _ _ _ h => h) (Or.inl ⟨by rfl, ?_⟩) hHeld ?_
            · intro w hSw; (try dsimp only at hSw); go_simp
            simp only [Act.put, List.setIfInBounds_toArray, List.set_cons_zero, List.set_cons_succ]
            refine wpAnyH_ready (rs := [18]) (by kernel_rfl) (by simp) ?_
            refine AllReadyH.cons (o := { dst := some 185, op := Go.Op.load 47 (Go.Operand.tmp 184), type := 47, pos := "law.go:87", after := #[{ on := 17, ground := Go.Ground.data }, { on := 14, ground := Go.Ground.guard }], guard := some (14, true) }) rfl (fun K hK => ?_) AllReadyH.nil
            have hl18 : (Instr.loadAt 47 (.pointer (some ⟨g7, 0, none⟩))).run Try.prog w7 = .ok (.int .u16 za) w7 := by go_simp
            refine step_loadW (by rfl) 47 (.tmp 184) (by rfl) _ _ (by rfl) hl18 ?_
            refine hK.out _ _ hS7 (fun hHeld => ?_)
            clear hK K
            try simp only [Act.put, List.setIfInBounds_toArray, List.set_cons_zero, List.set_cons_succ]
            refine wpAnyH_take (i := 22) (oi := { dst := some 189, op := Go.Op.binOp Go.BinOp.eql 47 (Go.Operand.tmp 185) (Go.Operand.tmp 188) 47, type := 4, pos := "law.go:87", after := #[{ on := 18, ground := Go.Ground.data }, { on := 21, ground := Go.Ground.data }, { on := 14, ground := Go.Ground.guard }], guard := some (14, true) }) (v := .bool true) rfl (by kernel_rfl) (by kernel_rfl) (by kernel_rfl) (fun _ _ _ h => h) (Or.inl ⟨by rfl, ?_⟩) hHeld ?_
            · intro w hSw; (try dsimp only at hSw); go_simp
            simp only [Act.put, List.setIfInBounds_toArray, List.set_cons_zero, List.set_cons_succ]
            refine wpAnyH_take (i := 23) (oi := { dst := some 190, op := Go.Op.pick (Go.Operand.tmp 181) (Go.Operand.tmp 189) (Go.Operand.const (Go.Value.bool false)), type := 4, pos := "law.go:87", after := #[{ on := 14, ground := Go.Ground.data }, { on := 22, ground := Go.Ground.data }], guard := none }) (v := .bool true) rfl (by kernel_rfl) (by kernel_rfl) (by kernel_rfl) (fun _ _ _ h => h) (Or.inl ⟨by rfl, ?_⟩) hHeld ?_
            · intro w hSw; (try dsimp only at hSw); go_simp
            simp only [Act.put, List.setIfInBounds_toArray, List.set_cons_zero, List.set_cons_succ]
            refine wpAnyH_take (i := 24) (oi := { dst := some 191, op := Go.Op.move (Go.Operand.tmp 190), type := 4, pos := "law.go:87", after := #[{ on := 23, ground := Go.Ground.data }, { on := 16, ground := Go.Ground.chain }], guard := none }) (v := .bool true) rfl (by kernel_rfl) (by kernel_rfl) (by kernel_rfl) (fun _ _ _ h => h) (Or.inl ⟨by rfl, ?_⟩) hHeld ?_
            · intro w hSw; (try dsimp only at hSw); go_simp
            simp only [Act.put, List.setIfInBounds_toArray, List.set_cons_zero, List.set_cons_succ]
            refine wpAnyH_take (i := 25) (oi := { dst := some 192, op := Go.Op.move (Go.Operand.tmp 17), type := 22, pos := "law.go:87", after := #[{ on := 24, ground := Go.Ground.guard }], guard := some (24, true) }) (v := .slice aq nrm.length cq) rfl (by kernel_rfl) (by kernel_rfl) (by kernel_rfl) (fun _ _ _ h => h) (Or.inl ⟨by rfl, ?_⟩) hHeld ?_
            · intro w hSw; (try dsimp only at hSw); go_simp
            simp only [Act.put, List.setIfInBounds_toArray, List.set_cons_zero, List.set_cons_succ]
            refine wpAnyH_take (i := 26) (oi := { dst := some 193, op := Go.Op.move (Go.Operand.tmp 0), type := 22, pos := "law.go:87", after := #[{ on := 24, ground := Go.Ground.guard }], guard := some (24, true) }) (v := vx) rfl (by kernel_rfl) (by kernel_rfl) (by kernel_rfl) (fun _ _ _ h => h) (Or.inl ⟨by rfl, ?_⟩) hHeld ?_
            · intro w hSw; (try dsimp only at hSw); go_simp
            simp only [Act.put, List.setIfInBounds_toArray, List.set_cons_zero, List.set_cons_succ]
            refine wpAnyH_take (i := 27) (oi := { dst := some 194, op := Go.Op.move (Go.Operand.tmp 1), type := 3, pos := "law.go:87", after := #[{ on := 24, ground := Go.Ground.guard }], guard := some (24, true) }) (v := .int .i64 d) rfl (by kernel_rfl) (by kernel_rfl) (by kernel_rfl) (fun _ _ _ h => h) (Or.inl ⟨by rfl, ?_⟩) hHeld ?_
            · intro w hSw; (try dsimp only at hSw); go_simp
            simp only [Act.put, List.setIfInBounds_toArray, List.set_cons_zero, List.set_cons_succ]
            refine wpAnyH_ready (rs := [28]) (by kernel_rfl) (by simp) ?_
            refine AllReadyH.cons (o := { dst := some 195, op := Go.Op.call { callee := Go.Callee.value (Go.Operand.func 20), args := #[Go.Operand.tmp 193, Go.Operand.tmp 194], argTypes := #[22, 3] }, type := 22, pos := "law.go:87", after := #[{ on := 26, ground := Go.Ground.data }, { on := 27, ground := Go.Ground.data }, { on := 24, ground := Go.Ground.chain }, { on := 24, ground := Go.Ground.guard }], guard := some (24, true) }) rfl (fun K hK => ?_) AllReadyH.nil
            rw [if_pos (by rfl)]
            have KI := hide ((unhide HRR) w7 hq7.2.1)
            go_simp
            refine (unhide KI).mono ?_
            rintro e w8 ⟨v8, rfl, o8, hb8⟩
            clear KI
            have hb08 := bthen hb07 hb8
            have hS8 := (unhide SB) w8 hb08
            have hq8 := (unhide SQ) w8 hb08
            clear hb8 hq7 hS7 hb07
            refine hK.out _ _ hS8 (fun hHeld => ?_)
            clear hK K
            try simp only [Act.put, List.setIfInBounds_toArray, List.set_cons_zero, List.set_cons_succ]
            refine wpAnyH_ready (rs := [29]) (by kernel_rfl) (by simp) ?_
            refine AllReadyH.cons (o := { dst := some 196, op := Go.Op.call { callee := Go.Callee.value (Go.Operand.func 12), args := #[Go.Operand.tmp 192, Go.Operand.tmp 195], argTypes := #[22, 22] }, type := 4, pos := "law.go:87", after := #[{ on := 25, ground := Go.Ground.data }, { on := 28, ground := Go.Ground.data }, { on := 28, ground := Go.Ground.chain }, { on := 24, ground := Go.Ground.guard }], guard := some (24, true) }) rfl (fun K hK => ?_) AllReadyH.nil
            rw [if_pos (by rfl)]
            have KI := hide ((unhide HSS) w8 _ _ hq8.1 o8.sr)
            go_simp
            refine (unhide KI).mono ?_
            rintro e w9 ⟨rfl, hb9⟩
            clear KI
            have hb09 := bthen hb08 hb9
            have hS9 := (unhide SB) w9 hb09
            have hq9 := (unhide SQ) w9 hb09
            clear hb9 hq8 hS8 hb08 o8
            refine hK.out _ _ hS9 (fun hHeld => ?_)
            clear hK K
            try simp only [Act.put, List.setIfInBounds_toArray, List.set_cons_zero, List.set_cons_succ]
            refine wpAnyH_take (i := 30) (oi := { dst := some 197, op := Go.Op.pick (Go.Operand.tmp 191) (Go.Operand.tmp 196) (Go.Operand.const (Go.Value.bool false)), type := 4, pos := "law.go:87", after := #[{ on := 24, ground := Go.Ground.data }, { on := 29, ground := Go.Ground.data }], guard := none }) (v := .bool true) rfl (by kernel_rfl) (by kernel_rfl) (by kernel_rfl) (fun _ _ _ h => h) (Or.inl ⟨by rfl, ?_⟩) hHeld ?_
            · intro w hSw; (try dsimp only at hSw); go_simp
            simp only [Act.put, List.setIfInBounds_toArray, List.set_cons_zero, List.set_cons_succ]
            refine wpAnyH_take (i := 31) (oi := { dst := some 198, op := Go.Op.move (Go.Operand.tmp 197), type := 4, pos := "law.go:87", after := #[{ on := 30, ground := Go.Ground.data }, { on := 29, ground := Go.Ground.chain }], guard := none }) (v := .bool true) rfl (by kernel_rfl) (by kernel_rfl) (by kernel_rfl) (fun _ _ _ h => h) (Or.inl ⟨by rfl, ?_⟩) hHeld ?_
            · intro w hSw; (try dsimp only at hSw); go_simp
            simp only [Act.put, List.setIfInBounds_toArray, List.set_cons_zero, List.set_cons_succ]
            refine wpAnyH_take (i := 32) (oi := { dst := some 199, op := Go.Op.move (Go.Operand.tmp 7), type := 26, pos := "law.go:87", after := #[{ on := 31, ground := Go.Ground.guard }], guard := some (31, true) }) (v := .pointer (some a1)) rfl (by kernel_rfl) (by kernel_rfl) (by kernel_rfl) (fun _ _ _ h => h) (Or.inl ⟨by rfl, ?_⟩) hHeld ?_
            · intro w hSw; (try dsimp only at hSw); go_simp
            simp only [Act.put, List.setIfInBounds_toArray, List.set_cons_zero, List.set_cons_succ]
            refine wpAnyH_take (i := 34) (oi := { dst := some 201, op := Go.Op.move (Go.Operand.tmp 17), type := 22, pos := "law.go:87", after := #[{ on := 31, ground := Go.Ground.guard }], guard := some (31, true) }) (v := .slice aq nrm.length cq) rfl (by kernel_rfl) (by kernel_rfl) (by kernel_rfl) (fun _ _ _ h => h) (Or.inl ⟨by rfl, ?_⟩) hHeld ?_
            · intro w hSw; (try dsimp only at hSw); go_simp
            simp only [Act.put, List.setIfInBounds_toArray, List.set_cons_zero, List.set_cons_succ]
            refine wpAnyH_ready (rs := [33]) (by kernel_rfl) (by simp) ?_
            refine AllReadyH.cons (o := { dst := some 200, op := Go.Op.call { callee := Go.Callee.value (Go.Operand.func 18), args := #[Go.Operand.tmp 199], argTypes := #[26] }, type := 22, pos := "law.go:87", after := #[{ on := 32, ground := Go.Ground.data }, { on := 31, ground := Go.Ground.chain }, { on := 31, ground := Go.Ground.guard }], guard := some (31, true) }) rfl (fun K hK => ?_) AllReadyH.nil
            rw [if_pos (by rfl)]
            have KI := hide ((unhide HRN) w9 hq9.2.2.1)
            go_simp
            refine (unhide KI).mono ?_
            rintro e w10 ⟨v10, rfl, o10, hb10⟩
            clear KI
            have hb010 := bthen hb09 hb10
            have hS10 := (unhide SB) w10 hb010
            have hq10 := (unhide SQ) w10 hb010
            clear hb10 hq9 hS9 hb09
            refine hK.out _ _ hS10 (fun hHeld => ?_)
            clear hK K
            try simp only [Act.put, List.setIfInBounds_toArray, List.set_cons_zero, List.set_cons_succ]
            refine wpAnyH_ready (rs := [35]) (by kernel_rfl) (by simp) ?_
            refine AllReadyH.cons (o := { dst := some 202, op := Go.Op.call { callee := Go.Callee.value (Go.Operand.func 12), args := #[Go.Operand.tmp 200, Go.Operand.tmp 201], argTypes := #[22, 22] }, type := 4, pos := "law.go:87", after := #[{ on := 33, ground := Go.Ground.data }, { on := 34, ground := Go.Ground.data }, { on := 33, ground := Go.Ground.chain }, { on := 31, ground := Go.Ground.guard }], guard := some (31, true) }) rfl (fun K hK => ?_) AllReadyH.nil
            rw [if_pos (by rfl)]
            have KI := hide ((unhide HSS) w10 _ _ o10.sr hq10.1)
            go_simp
            refine (unhide KI).mono ?_
            rintro e w11 ⟨rfl, hb11⟩
            clear KI
            have hb011 := bthen hb010 hb11
            have hS11 := (unhide SB) w11 hb011
            have hq11 := (unhide SQ) w11 hb011
            clear hb11 hq10 hS10 hb010 o10
            refine hK.out _ _ hS11 (fun hHeld => ?_)
            clear hK K
            try simp only [Act.put, List.setIfInBounds_toArray, List.set_cons_zero, List.set_cons_succ]
            refine wpAnyH_take (i := 36) (oi := { dst := some 203, op := Go.Op.pick (Go.Operand.tmp 198) (Go.Operand.tmp 202) (Go.Operand.const (Go.Value.bool false)), type := 4, pos := "law.go:87", after := #[{ on := 31, ground := Go.Ground.data }, { on := 35, ground := Go.Ground.data }], guard := none }) (v := .bool true) rfl (by kernel_rfl) (by kernel_rfl) (by kernel_rfl) (fun _ _ _ h => h) (Or.inl ⟨by rfl, ?_⟩) hHeld ?_
            · intro w hSw; (try dsimp only at hSw); go_simp
            simp only [Act.put, List.setIfInBounds_toArray, List.set_cons_zero, List.set_cons_succ]
            refine wpAnyH_take (i := 37) (oi := { dst := some 6, op := Go.Op.assign (Go.Operand.tmp 203), type := 4, pos := "law.go:87", after := #[{ on := 36, ground := Go.Ground.data }, { on := 35, ground := Go.Ground.chain }, { on := 0, ground := Go.Ground.phase }, { on := 1, ground := Go.Ground.phase }, { on := 2, ground := Go.Ground.phase }, { on := 3, ground := Go.Ground.phase }, { on := 4, ground := Go.Ground.phase }, { on := 5, ground := Go.Ground.phase }, { on := 6, ground := Go.Ground.phase }, { on := 7, ground := Go.Ground.phase }, { on := 8, ground := Go.Ground.phase }, { on := 9, ground := Go.Ground.phase }, { on := 10, ground := Go.Ground.phase }, { on := 11, ground := Go.Ground.phase }, { on := 12, ground := Go.Ground.phase }, { on := 13, ground := Go.Ground.phase }, { on := 14, ground := Go.Ground.phase }, { on := 15, ground := Go.Ground.phase }, { on := 16, ground := Go.Ground.phase }, { on := 17, ground := Go.Ground.phase }, { on := 18, ground := Go.Ground.phase }, { on := 19, ground := Go.Ground.phase }, { on := 20, ground := Go.Ground.phase }, { on := 21, ground := Go.Ground.phase }, { on := 22, ground := Go.Ground.phase }, { on := 23, ground := Go.Ground.phase }, { on := 24, ground := Go.Ground.phase }, { on := 25, ground := Go.Ground.phase }, { on := 26, ground := Go.Ground.phase }, { on := 27, ground := Go.Ground.phase }, { on := 28, ground := Go.Ground.phase }, { on := 29, ground := Go.Ground.phase }, { on := 30, ground := Go.Ground.phase }, { on := 31, ground := Go.Ground.phase }, { on := 32, ground := Go.Ground.phase }, { on := 33, ground := Go.Ground.phase }, { on := 34, ground := Go.Ground.phase }, { on := 35, ground := Go.Ground.phase }, { on := 36, ground := Go.Ground.phase }], guard := none }) (v := .bool true) rfl (by kernel_rfl) (by kernel_rfl) (by kernel_rfl) (fun _ _ _ h => h) (Or.inl ⟨by rfl, ?_⟩) hHeld ?_
            · intro w hSw; (try dsimp only at hSw); go_simp
            simp only [Act.put, List.setIfInBounds_toArray, List.set_cons_zero, List.set_cons_succ]
            refine wpAnyH_done (by kernel_rfl) ?_ _
            clear hHeld hS11 SB HIX HRN HRR HSS
            go_wp2
            go_ret
            exact ⟨rfl, hq11.2.2.2⟩
  · have hk1 := k1
    generalize hqq : Tri.check d xs = q at *
    obtain ⟨q1, q2⟩ := q
    clear hqq
    simp only at k1
    go_wp2_with fail
    refine (unhide K2).mono ?_
    rintro e w3 ⟨rfl, hb3⟩
    have hW := bthen hb02 hb3
    have k1' : (q2 != 0) = true := by simp; exact k1
    clear K2 hb3 hb02 ox
    go_wp2_with fail
    refine (unhide (HT _)).mono ?_
    rintro e w4 ⟨rfl, hb4⟩
    have hW := bthen hW hb4
    clear HT hb4
    go_wp2
    go_ret
    exact ⟨by simp, hW⟩
end Go.Proofs.Ytehdeipeehaejaa
