/- The contract of the document's own Blocks. -/
import Derived.Test.YtehdeipeehaejaaRefK4
import Derived.Deep.CutBlock
namespace Go.Proofs.Ytehdeipeehaejaa
open Go.RowKit
set_option linter.unusedSimpArgs false

/-- The index and the blocks, in memory of the call's own. -/
def BlksPost (w : World) (f : Int → Int) (e : Ending) (w' : World) : Prop := ∃ iv bv, e = .returned (.tuple #[iv, bv]) ∧ Ok .u16 47 w' w.heap.size iv ((Tri.idx f).map fun n : Nat => (n : Int)) ∧ Ob 48 w' w.heap.size bv (Tri.bls f) ∧ Below w.heap.size w w'
theorem infoA2 : (Try.prog.info? 48).map (fun i => (i.size, i.zero.map (·.cells.size))) = some (64, some 64) := by kernel_rfl
theorem infoA3 : ∃ i z, Try.prog.info? 48 = some i ∧ i.zero = some z ∧ i.size = 64 ∧ i.bytes = 128 ∧ z.cells.size = 64 := by
  have h : (Try.prog.info? 48).map (fun i => (i.size, i.bytes, i.zero.map (·.cells.size))) = some (64, 128, some 64) := by kernel_rfl
  obtain ⟨i, hi, h1⟩ := Option.map_eq_some_iff.1 h
  simp only [Prod.mk.injEq] at h1
  obtain ⟨h1, h2, h3⟩ := h1
  obtain ⟨z, hz, hzs⟩ := Option.map_eq_some_iff.1 h3
  exact ⟨i, z, hi, hz, h1, h2, hzs⟩
def nats (l : List Nat) : List Int := l.map fun n : Nat => (n : Int)

set_option maxRecDepth 2000 in
set_option maxHeartbeats 8000000 in
theorem refBlocks_any (v : Value) (rs : List Tri.Rg) (d : Int) (w : World) (hv : Sr w v rs) (hval : Tri.Val 0 rs) (hl : rs.length ≤ 1000) (hd : 0 ≤ d ∧ d ≤ 65535) :
    Calls Try.prog 16 #[v, .int .i64 d] w (BlksPost w (Tri.get d rs)) := by
  have HV := hide hval
  have hsr := hide hv
  have HD := hide hd
  have HRange : Hid (∀ c, 0 ≤ Tri.get d rs c ∧ Tri.get d rs c ≤ 65535) := fun c => Tri.get_range hd hval
  obtain ⟨d1, d2⟩ := hd
  obtain ⟨ao, cap, rfl, hc1, hc2⟩ := hv.shape
  obtain ⟨j0, hj, hj0, hj1, hj2⟩ := info_parts Try.info47
  obtain ⟨i0, z0, hi0, hz0, hz1, hz2, hz3⟩ := infoA3
  have HFin : Hid (∀ wr iv bv g9, w.heap.size ≤ g9 → StB w wr g9 (nats ((Tri.idx (Tri.get d rs)).take 17408)) (bsAt (Tri.get d rs) 17408) iv bv → BlksPost w (Tri.get d rs) (.returned (.tuple #[iv, bv])) wr) := fun wr iv bv g9 hg h => by
    have e1 : (Tri.idx (Tri.get d rs)).take 17408 = Tri.idx (Tri.get d rs) := List.take_of_length_le (by rw [Tri.idx_len]; exact Nat.le_refl _)
    rw [e1, bsAt_end] at h
    exact ⟨iv, bv, rfl, h.ix.lower (by omega), h.bl.lower (by omega), h.be⟩
  have HCell : Hid (∀ wx, Below w.heap.size w wx → ∀ i, i < rs.length → ∃ bx offx, ao = some ⟨bx, offx, none⟩ ∧ wx.cell? ⟨bx, offx + i * 3, none⟩ = some (.int .i64 (Tri.lo (rs.getD i (0, 0, 0)))) ∧ wx.cell? ⟨bx, offx + i * 3 + 1, none⟩ = some (.int .i64 (Tri.hi (rs.getD i (0, 0, 0)))) ∧ wx.cell? ⟨bx, offx + i * 3 + 2, none⟩ = some (.int .i64 (Tri.vl (rs.getD i (0, 0, 0))))) := by
    intro wx hb i hi
    obtain ⟨bx, offx, cpx, hvx, _, _, hcl⟩ := hv.place (by omega)
    simp only [Value.slice.injEq] at hvx
    obtain ⟨rfl, _, rfl⟩ := hvx
    obtain ⟨c0, c1, c2⟩ := hcl i hi
    exact ⟨bx, offx, rfl, by rw [hb.cell (lt_of_cell? c0)]; exact c0, by rw [hb.cell (lt_of_cell? c1)]; exact c1, by rw [hb.cell (lt_of_cell? c2)]; exact c2⟩
  have HVal : Hid (∀ i, i < rs.length → 0 ≤ Tri.lo (rs.getD i (0, 0, 0)) ∧ Tri.lo (rs.getD i (0, 0, 0)) ≤ Tri.hi (rs.getD i (0, 0, 0)) ∧ Tri.hi (rs.getD i (0, 0, 0)) ≤ 1114111 ∧ 0 ≤ Tri.vl (rs.getD i (0, 0, 0)) ∧ Tri.vl (rs.getD i (0, 0, 0)) ≤ 65535) := fun i hi => val_at hval (Int.le_refl _) i hi
  have HGap : Hid (∀ (a p : Nat), (∀ j, j < a → Tri.hi (rs.getD j (0, 0, 0)) < 64 * (p : Int)) → (rs.length ≤ a ∨ (a < rs.length ∧ 64 * (p : Int) + 63 < Tri.lo (rs.getD a (0, 0, 0)))) → Tri.blk (Tri.get d rs) p = List.replicate 64 d) := fun a p => Tri.blk_gap hval
  have HFull : Hid (∀ (a p : Nat), a < rs.length → (∀ j, j < a → Tri.hi (rs.getD j (0, 0, 0)) < 64 * (p : Int)) → Tri.lo (rs.getD a (0, 0, 0)) ≤ 64 * (p : Int) → 64 * (p : Int) + 63 ≤ Tri.hi (rs.getD a (0, 0, 0)) → Tri.blk (Tri.get d rs) p = List.replicate 64 (Tri.vl (rs.getD a (0, 0, 0)))) := fun a p => Tri.blk_full
  have HBlock : Hid (∀ (a h p : Nat) (wx : World), Below w.heap.size w wx → p < 17408 → (∀ j, j < a → Tri.hi (rs.getD j (0, 0, 0)) < 64 * (p : Int)) → a ≤ h → h ≤ rs.length → (h = rs.length ∨ (h < rs.length ∧ 64 * (p : Int) + 63 < Tri.lo (rs.getD h (0, 0, 0)))) →
      Calls Try.prog 25 #[sliced ao a h cap 3, .int .i64 d, .int .i64 (p : Int)] wx (ArrPost wx (Tri.blk (Tri.get d rs) p))) := by
    intro a h p wx hb hp h1 hah hh h2
    rw [← Tri.blk_cut hval h1 hah h2]
    exact refBlock_any _ _ d p wx (((unhide hsr).cut rfl hah hh (by omega) (by omega)).below hb) (Tri.val_take (Tri.val_drop hval a) _) (by simp; omega) (unhide HD) hp
  clear hv hval
  generalize Tri.get d rs = f at *
  go_enter Try.func16, Try.ntmps16
  set_option maxRecDepth 100000 in
  go_wp2
  have hst0 : StB w (w.alloc (.cells #[.int .u16 0, .int .u16 0, .int .u16 0, .int .u16 0, .int .u16 0, .int .u16 0, .int .u16 0, .int .u16 0, .int .u16 0, .int .u16 0, .int .u16 0, .int .u16 0, .int .u16 0, .int .u16 0, .int .u16 0, .int .u16 0, .int .u16 0, .int .u16 0, .int .u16 0, .int .u16 0, .int .u16 0, .int .u16 0, .int .u16 0, .int .u16 0, .int .u16 0, .int .u16 0, .int .u16 0, .int .u16 0, .int .u16 0, .int .u16 0, .int .u16 0, .int .u16 0, .int .u16 0, .int .u16 0, .int .u16 0, .int .u16 0, .int .u16 0, .int .u16 0, .int .u16 0, .int .u16 0, .int .u16 0, .int .u16 0, .int .u16 0, .int .u16 0, .int .u16 0, .int .u16 0, .int .u16 0, .int .u16 0, .int .u16 0, .int .u16 0, .int .u16 0, .int .u16 0, .int .u16 0, .int .u16 0, .int .u16 0, .int .u16 0, .int .u16 0, .int .u16 0, .int .u16 0, .int .u16 0, .int .u16 0, .int .u16 0, .int .u16 0, .int .u16 0] 48)) w.heap.size (nats ((Tri.idx f).take 0)) (bsAt f 0) (.slice none 0 0) (.slice none 0 0) := by
    refine ⟨Ok.nil _ _ _ _, ⟨fun b hb => (by cases hb), World.ownsRow_nil _ _ _ _⟩, fun k h => (by cases h), ?_, (Below.refl _ _).alloc (Nat.le_refl _) _, by simp⟩
    have := (Blk.new w Zs #[.int .u16 0, .int .u16 0, .int .u16 0, .int .u16 0, .int .u16 0, .int .u16 0, .int .u16 0, .int .u16 0, .int .u16 0, .int .u16 0, .int .u16 0, .int .u16 0, .int .u16 0, .int .u16 0, .int .u16 0, .int .u16 0, .int .u16 0, .int .u16 0, .int .u16 0, .int .u16 0, .int .u16 0, .int .u16 0, .int .u16 0, .int .u16 0, .int .u16 0, .int .u16 0, .int .u16 0, .int .u16 0, .int .u16 0, .int .u16 0, .int .u16 0, .int .u16 0, .int .u16 0, .int .u16 0, .int .u16 0, .int .u16 0, .int .u16 0, .int .u16 0, .int .u16 0, .int .u16 0, .int .u16 0, .int .u16 0, .int .u16 0, .int .u16 0, .int .u16 0, .int .u16 0, .int .u16 0, .int .u16 0, .int .u16 0, .int .u16 0, .int .u16 0, .int .u16 0, .int .u16 0, .int .u16 0, .int .u16 0, .int .u16 0, .int .u16 0, .int .u16 0, .int .u16 0, .int .u16 0, .int .u16 0, .int .u16 0, .int .u16 0, .int .u16 0] rfl).there
    rw [Zs_len] at this
    exact this
  obtain ⟨g9, hg9⟩ : ∃ g9, g9 = w.heap.size := ⟨_, rfl⟩
  rw [← hg9] at hst0 ⊢
  have hge9 : w.heap.size ≤ g9 := by omega
  clear hg9
  generalize w.alloc (.cells #[.int .u16 0, .int .u16 0, .int .u16 0, .int .u16 0, .int .u16 0, .int .u16 0, .int .u16 0, .int .u16 0, .int .u16 0, .int .u16 0, .int .u16 0, .int .u16 0, .int .u16 0, .int .u16 0, .int .u16 0, .int .u16 0, .int .u16 0, .int .u16 0, .int .u16 0, .int .u16 0, .int .u16 0, .int .u16 0, .int .u16 0, .int .u16 0, .int .u16 0, .int .u16 0, .int .u16 0, .int .u16 0, .int .u16 0, .int .u16 0, .int .u16 0, .int .u16 0, .int .u16 0, .int .u16 0, .int .u16 0, .int .u16 0, .int .u16 0, .int .u16 0, .int .u16 0, .int .u16 0, .int .u16 0, .int .u16 0, .int .u16 0, .int .u16 0, .int .u16 0, .int .u16 0, .int .u16 0, .int .u16 0, .int .u16 0, .int .u16 0, .int .u16 0, .int .u16 0, .int .u16 0, .int .u16 0, .int .u16 0, .int .u16 0, .int .u16 0, .int .u16 0, .int .u16 0, .int .u16 0, .int .u16 0, .int .u16 0, .int .u16 0, .int .u16 0] 48) = wz at *
  go_loopw [6, 7, 8, 10, 11] (fun iv bv av pv i wr => ∃ (p a : Nat) (pl : Int), i = .int .i64 p ∧ p ≤ 17408 ∧ av = .int .i64 a ∧ a ≤ rs.length ∧ (∀ j, j < a → Tri.hi (rs.getD j (0, 0, 0)) < 64 * (p : Int)) ∧ pv = .int .i64 pl ∧ (pl = -1 ∨ (0 ≤ pl ∧ pl ≤ 65535 ∧ ∃ q, p = q + 1 ∧ Tri.blk f q = List.replicate 64 pl)) ∧ StB w wr g9 (nats ((Tri.idx f).take p)) (bsAt f p) iv bv) (fun _ _ _ _ i _ => 17408 - (intOf i).toNat)
  case atStart => exact ⟨0, 0, -1, rfl, by omega, rfl, by omega, fun j hj => by omega, rfl, .inl rfl, hst0⟩
  case round =>
    clear hst0
    obtain ⟨p, a, pl, rfl, hp, rfl, ha, hhi, rfl, hpl, hst⟩ := hrel
    by_cases hlt : p < 17408
    · have hin1 : (0 : Int) ≤ (p : Int) := by omega
      have hin2 : (p : Int) < 17408 := by omega
      have HHi := hide hhi
      have HSt := hide hst
      have HPl := hide hpl
      have hb0 := hst.be
      have hplr : -1 ≤ pl ∧ pl ≤ 65535 := by rcases hpl with h | h <;> omega
      obtain ⟨hpl1, hpl2⟩ := hplr
      clear hhi hst hpl
      go_upto_block 2 with fail
      obtain ⟨wo, hwo⟩ : ∃ wo, wo = wr := ⟨_, rfl⟩
      subst hwo
      go_cut [8] from 19 to 34 (fun av wc => wc = wo ∧ ∃ a : Nat, av = .int .i64 a ∧ a ≤ rs.length ∧ (∀ j, j < a → Tri.hi (rs.getD j (0, 0, 0)) < 64 * (p : Int)))
      case first =>
        go_wp2
        go_loopw [8] (fun av wr => wr = wo ∧ ∃ a : Nat, av = .int .i64 a ∧ a ≤ rs.length ∧ ∀ j, j < a → Tri.hi (rs.getD j (0, 0, 0)) < 64 * (p : Int)) (fun av _ => rs.length - (intOf av).toNat)
        case atStart => exact ⟨rfl, a, rfl, ha, unhide HHi⟩
        case round =>
          clear HHi ha
          obtain ⟨hwr, a, rfl, ha, hhi⟩ := hrel
          subst hwr
          have HHi := hide hhi
          clear hhi
          by_cases hal : a < rs.length
          · obtain ⟨bx, offx, hao, c0, c1, c2⟩ := (unhide HCell) _ hb0 a hal
            obtain ⟨b1, b2, b3, b4, b5⟩ := (unhide HVal) a hal
            subst hao
            have HNext : Hid (Tri.hi (rs.getD a (0, 0, 0)) < 64 * (p : Int) → ∀ j, j < a + 1 → Tri.hi (rs.getD j (0, 0, 0)) < 64 * (p : Int)) := fun h j hj => by
              by_cases e : j = a
              · subst e; exact h
              · exact (unhide HHi) j (by omega)
            generalize Tri.lo (rs.getD a (0, 0, 0)) = lo at *
            generalize Tri.hi (rs.getD a (0, 0, 0)) = hi at *
            generalize Tri.vl (rs.getD a (0, 0, 0)) = vv at *
            by_cases hlo : hi < 64 * (p : Int)
            · have HN2 := hide ((unhide HNext) hlo)
              clear HNext
              go_wp2
              go_roundw
              case rel => exact ⟨by first | rfl | trivial, a + 1, by go_num, by omega, unhide HN2⟩
              case measure => simp [intOf]; omega
            · clear HNext
              go_wp2
              go_meet
              case rel => exact ⟨by first | rfl | trivial, a, rfl, ha, unhide HHi⟩
          · obtain rfl : a = rs.length := by omega
            go_wp2
            go_meet
            case rel => exact ⟨by first | rfl | trivial, rs.length, rfl, Nat.le_refl _, unhide HHi⟩
      case rest =>
        clear HHi ha
        skip
        obtain ⟨hwc, a, rfl, ha, hhi⟩ := hcut
        subst hwc
        have HHi := hide hhi
        clear hhi
        go_upto_block 4 with fail
        go_cut [12] from 35 to 76 (fun vv wx => wx = wc ∧ ∃ v : Int, vv = .int .i64 v ∧ (v = -1 ∨ (0 ≤ v ∧ v ≤ 65535 ∧ Tri.blk f p = List.replicate 64 v)))
        case first =>
          by_cases hal : a < rs.length
          · obtain ⟨bx, offx, hao, c0, c1, c2⟩ := (unhide HCell) _ hb0 a hal
            obtain ⟨b1, b2, b3, b4, b5⟩ := (unhide HVal) a hal
            subst hao
            have HFullA := hide ((unhide HFull) a p hal (unhide HHi))
            have HGapA := hide (fun h => (unhide HGap) a p (unhide HHi) (.inr ⟨hal, h⟩))
            have hne : ((a : Int) == (rs.length : Int)) = false := by simp; omega
            generalize Tri.lo (rs.getD a (0, 0, 0)) = lo at *
            generalize Tri.hi (rs.getD a (0, 0, 0)) = hi at *
            generalize Tri.vl (rs.getD a (0, 0, 0)) = vv at *
            by_cases k1 : 64 * (p : Int) + 63 < lo
            · have HB := hide ((unhide HGapA) k1)
              clear HFullA HGapA
              go_wp2
              go_meet
              case rel => exact ⟨by first | rfl | trivial, d, rfl, .inr ⟨d1, d2, unhide HB⟩⟩
            · by_cases k2 : lo ≤ 64 * (p : Int)
              · by_cases k3 : 64 * (p : Int) + 63 ≤ hi
                · have HB := hide ((unhide HFullA) k2 k3)
                  clear HFullA HGapA
                  go_wp2
                  go_meet
                  case rel => exact ⟨by first | rfl | trivial, vv, rfl, .inr ⟨b4, b5, unhide HB⟩⟩
                · clear HFullA HGapA
                  go_wp2
                  go_meet
                  case rel => exact ⟨by first | rfl | trivial, -1, rfl, .inl rfl⟩
              · clear HFullA HGapA
                go_wp2
                go_meet
                case rel => exact ⟨by first | rfl | trivial, -1, rfl, .inl rfl⟩
          · have HB := hide ((unhide HGap) a p (unhide HHi) (.inl (by omega)))
            obtain rfl : a = rs.length := by omega
            go_wp2
            go_meet
            case rel => exact ⟨by first | rfl | trivial, d, rfl, .inr ⟨d1, d2, unhide HB⟩⟩
        case rest =>
          obtain ⟨hwx, v, rfl, hvv⟩ := hcut
          subst hwx
          have HVV := hide hvv
          have hv1 : -1 ≤ v ∧ v ≤ 65535 := by rcases hvv with h | h <;> omega
          obtain ⟨hv1, hv2⟩ := hv1
          by_cases hvp : 0 ≤ v ∧ v = pl
          · obtain ⟨hv0, hvp⟩ := hvp
            have hbp : Tri.blk f p = List.replicate 64 v := by
              rcases unhide HVV with h | h
              · omega
              · exact h.2.2
            obtain ⟨q, hpq, hbq⟩ : ∃ q, p = q + 1 ∧ Tri.blk f q = List.replicate 64 v := by
              rcases unhide HPl with h | ⟨_, _, q, h1, h2⟩
              · omega
              · exact ⟨q, h1, by rw [h2, hvp]⟩
            have hst := unhide HSt
            subst hpq
            obtain ⟨ag1, ag2⟩ := again_idx (f := f) (p := q) hlt (hbp.trans hbq.symm)
            have hil := Tri.idx_len f
            have hnl : (nats ((Tri.idx f).take (q + 1))).length = q + 1 := by simp [nats]; omega
            have hrow := hst.ix.row
            rw [hnl] at hrow
            obtain ⟨gi, cpi, hiv, hcp1, hcp2⟩ := own_shape hrow (by omega)
            subst hiv
            have hsm := idx_small f q (by omega)
            have hcel : wc.cell? ⟨gi, q, none⟩ = some (.int .u16 (((Tri.idx f).getD q 0 : Nat) : Int)) := by
              rw [hrow.cellAt q (by omega)]
              simp [nats, List.getD, show q < (Tri.idx f).length by omega]
            have HNum : Hid (∀ w1 g c1 us m o, (wc.alloc o).grownBy w1 (Value.slice (some ⟨gi, 0, none⟩) (q + 1) cpi).ownBlock → w1.ownsRow (g9 + 1) 47 1 (.slice (some ⟨g, 0, none⟩) m c1) m us → m = q + 1 + 1 → us = (nats ((Tri.idx f).take (q + 1))).map (Value.int .u16) ++ [.int .u16 (((Tri.idx f).getD q 0 : Nat) : Int)] → ((Value.slice (some ⟨gi, 0, none⟩) (q + 1) cpi).ownBlock = some g ∨ g = wc.heap.size + 1) → StB w w1 g9 (nats ((Tri.idx f).take (q + 1 + 1))) (bsAt f (q + 1 + 1)) (.slice (some ⟨g, 0, none⟩) m c1) u7) := by
              intro w1 g c1 us m o a1 a2 a3 a4 a5
              have h1 := hst.number hge9 (n := (((Tri.idx f).getD q 0 : Nat) : Int)) (by omega) (by omega) a1 a2 (by omega) (by rw [a4, List.map_append]; rfl) a5
              rw [ag2, take_idx hlt, ag1, a3]
              have e : nats ((Tri.idx f).take (q + 1) ++ [(Tri.idx f).getD q 0]) = nats ((Tri.idx f).take (q + 1)) ++ [(((Tri.idx f).getD q 0 : Nat) : Int)] := by simp [nats]
              rw [e]
              rw [hnl] at h1
              exact h1
            have hbase := hst.g9l
            have hj1' : ((q + 1 : Nat) : Int) - 1 = (q : Int) := by omega
            have hj2' : (0 : Int) ≤ (q : Int) := by omega
            have hj3' : (q : Int) < ((q + 1 : Nat) : Int) := by omega
            have hvp' : (v == pl) = true := beq_iff_eq.2 hvp
            have HBP : Hid (Tri.blk f (q + 1) = List.replicate 64 pl) := hbp.trans (by rw [hvp])
            clear hbp hbq hst HSt HPl HVV ag1 ag2 HGap HFull HBlock HFin
            generalize (Tri.idx f).getD q 0 = N at *
            go_wp2_with (at_builtin; refine wpList_append_lies _ rfl (.tmp 84) (.tmp 90) 40 rfl (g9 + 1) 47 j0 (.int .u16 0) 1 2 Try.underlying40 hj hj0 hj1 hj2 rfl (by decide) _ _ _ rfl (hrow.alloc _) ⟨wc.heap.size, 0, none⟩ 1 1 [.int .u16 (N : Int)] rfl rfl (cell_one_new _ _ _) (int_one .u16 _) (by omega) (by unfold maxLen; omega) (by omega) (by simp; omega) (wc.heap.size + 1) (by simp) ?_)
            intro g c1 w1 hr1 hg1 hat1 hlt1
            have st1 := (unhide HNum) w1 g c1 _ _ _ hg1 hr1 rfl rfl hat1
            clear HNum hr1 hg1 hat1 hlt1 hrow hcel
            go_wp2
            go_roundw
            case rel => exact ⟨q + 1 + 1, a, pl, by go_num, by omega, rfl, ha, (fun j hj => by have := (unhide HHi) j hj; omega), rfl, .inr ⟨by omega, hpl2, q + 1, rfl, unhide HBP⟩, st1⟩
            case measure => simp [intOf]; omega
          · have hvf : (0 ≤ v → (v == pl) = false) := fun h => beq_eq_false_iff_ne.2 (fun e => hvp ⟨h, e⟩)
            clear hvp
            go_upto_region 16 with fail
            go_cut [83] from 77 to 83 (fun bv wx => wx = wc ∧ bv = .bool false)
            case first =>
              clear HSt HPl HVV HGap HFull HBlock HFin HCell HVal
              by_cases hv0 : 0 ≤ v
              · have hvq := hvf hv0
                clear hvf
                go_wp2
                go_meet
                case rel => exact ⟨by first | rfl | trivial, rfl⟩
              · clear hvf
                go_wp2
                go_meet
                case rel => exact ⟨by first | rfl | trivial, rfl⟩
            case rest =>
              obtain ⟨hwx, rfl⟩ := hcut
              subst hwx
              clear hvf
              go_upto_block 5 with fail
              go_cut [13] from 93 to 109 (fun hv wx => wx = wc ∧ ∃ h : Nat, hv = .int .i64 h ∧ a ≤ h ∧ h ≤ rs.length ∧ (h = rs.length ∨ (h < rs.length ∧ 64 * (p : Int) + 63 < Tri.lo (rs.getD h (0, 0, 0)))))
              case first =>
                clear HSt HPl HVV HGap HFull HBlock HFin
                go_wp2
                go_loopw [13] (fun hv wr => wr = wc ∧ ∃ h : Nat, hv = .int .i64 h ∧ a ≤ h ∧ h ≤ rs.length) (fun hv _ => rs.length - (intOf hv).toNat)
                case atStart => exact ⟨rfl, a, rfl, Nat.le_refl _, ha⟩
                case round =>
                  obtain ⟨hwr, h, rfl, hah, hh⟩ := hrel
                  subst hwr
                  by_cases hal : h < rs.length
                  · obtain ⟨bx, offx, hao, c0, c1, c2⟩ := (unhide HCell) _ hb0 h hal
                    obtain ⟨b1, b2, b3, b4, b5⟩ := (unhide HVal) h hal
                    subst hao
                    have HLo : Hid (64 * (p : Int) + 63 < Tri.lo (rs.getD h (0, 0, 0)) → h = rs.length ∨ (h < rs.length ∧ 64 * (p : Int) + 63 < Tri.lo (rs.getD h (0, 0, 0)))) := fun x => .inr ⟨hal, x⟩
                    by_cases hlo : Tri.lo (rs.getD h (0, 0, 0)) ≤ 64 * (p : Int) + 63
                    · clear HLo
                      generalize Tri.lo (rs.getD h (0, 0, 0)) = lo at *
                      generalize Tri.hi (rs.getD h (0, 0, 0)) = hi at *
                      generalize Tri.vl (rs.getD h (0, 0, 0)) = vv at *
                      go_wp2
                      go_roundw
                      case rel => exact ⟨by first | rfl | trivial, h + 1, by go_num, by omega, by omega⟩
                      case measure => simp [intOf]; omega
                    · have HL2 := hide ((unhide HLo) (by omega))
                      clear HLo
                      generalize Tri.lo (rs.getD h (0, 0, 0)) = lo at c0 b1 b2 hlo
                      generalize Tri.hi (rs.getD h (0, 0, 0)) = hi at c1 b2 b3
                      generalize Tri.vl (rs.getD h (0, 0, 0)) = vv at c2 b4 b5
                      go_wp2
                      go_meet
                      case rel => exact ⟨by first | rfl | trivial, h, rfl, hah, hh, unhide HL2⟩
                  · obtain rfl : h = rs.length := by omega
                    go_wp2
                    go_meet
                    case rel => exact ⟨by first | rfl | trivial, rs.length, rfl, hah, Nat.le_refl _, .inl rfl⟩
              case rest =>
                obtain ⟨hwx, hx, rfl, hah, hh, hend⟩ := hcut
                subst hwx
                have K1 := (unhide HBlock) a hx p _ hb0 hlt (unhide HHi) hah hh hend
                have hgood : Good (Tri.blk f p) := blk_good (unhide HRange) p
                have h64 := hgood.1
                have HLast : Hid (∀ w1, Below wc.heap.size wc w1 → w1.there g9 0 ((Tri.blk f p).map (Value.int .u16)).toArray.size ∧ StB w (w1.setCells g9 0 ((Tri.blk f p).map (Value.int .u16))) g9 (nats ((Tri.idx f).take p)) (bsAt f p) u6 u7 ∧ (w1.setCells g9 0 ((Tri.blk f p).map (Value.int .u16))).rangeAt g9 0 ((Tri.blk f p).map (Value.int .u16))) := fun w1 hb1 => by
                  have s1 := (unhide HSt).below hb1
                  have s2 := s1.last hge9 (Tri.blk f p) h64
                  exact ⟨by have := s1.th; simpa [h64] using this, s2.1, s2.2⟩
                have hsz48 : (Try.prog.info? 48).map (·.size) = some ((Tri.blk f p).map (Value.int .u16)).toArray.size := by rw [show ((Tri.blk f p).map (Value.int .u16)).toArray.size = 64 by simp [h64]]; exact infoArr
                have hone := arrA_one (Tri.blk f p)
                go_upto_region 21 with fail
                go_cut [13] from 110 to 116 (fun _ wx => StB w wx g9 (nats ((Tri.idx f).take p)) (bsAt f p) u6 u7 ∧ wx.rangeAt g9 0 ((Tri.blk f p).map (Value.int .u16)))
                case first =>
                  clear hend HBlock HCell HVal HGap HFull HFin HPl HVV HSt
                  by_cases hca : cap = a
                  · have e1 : sliced ao a hx cap 3 = .slice ao (hx - a) 0 := by unfold sliced; rw [if_pos hca, hca, Nat.sub_self]
                    rw [e1] at K1
                    have K1 := hide K1
                    generalize Tri.blk f p = zs at *
                    subst hca
                    go_wp2_with fail
                    refine (unhide K1).mono ?_
                    rintro e w1 ⟨rfl, hb1⟩
                    obtain ⟨hth, hS, hR⟩ := (unhide HLast) w1 hb1
                    clear K1
                    go_wp2_with (refine wpList_store_mid rfl 48 (.tmp 9) (.tmp 116) rfl g9 0 (zs.map (Value.int .u16)).toArray rfl rfl hth hsz48 hone ?_)
                    go_meet
                    case rel => exact ⟨hS, hR⟩
                  · have e1 : sliced ao a hx cap 3 = .slice (ao.map (·.add (a * 3))) (hx - a) (cap - a) := by unfold sliced; rw [if_neg hca]
                    rw [e1] at K1
                    have K1 := hide K1
                    generalize Tri.blk f p = zs at *
                    go_wp2_with fail
                    refine (unhide K1).mono ?_
                    rintro e w1 ⟨rfl, hb1⟩
                    obtain ⟨hth, hS, hR⟩ := (unhide HLast) w1 hb1
                    clear K1
                    go_wp2_with (refine wpList_store_mid rfl 48 (.tmp 9) (.tmp 116) rfl g9 0 (zs.map (Value.int .u16)).toArray rfl rfl hth hsz48 hone ?_)
                    go_meet
                    case rel => exact ⟨hS, hR⟩
                case rest =>
                  obtain ⟨hS, hR⟩ := hcut
                  clear K1 HLast hend HBlock HCell HVal HGap HFull HPl HSt
                  have hbl := bsAt_len f p
                  have HIn := hide (fun hm => step_in (f := f) hlt hm)
                  have HNew := hide (fun hm => step_new (f := f) hlt hm)
                  have hab := hS.bl.sb
                  have HS := hide hS
                  have HRv : Hid (v = -1 ∨ (0 ≤ v ∧ v ≤ 65535 ∧ ∃ q, p + 1 = q + 1 ∧ Tri.blk f q = List.replicate 64 v)) := by
                    rcases unhide HVV with x | ⟨x1, x2, x3⟩
                    · exact .inl x
                    · exact .inr ⟨x1, x2, p, rfl, x3⟩
                  clear hS HVV
                  generalize hzz : Tri.blk f p = zs at hgood h64 hsz48 hone hR HIn HNew
                  clear hzz
                  generalize hbb : bsAt f p = bs at hbl hab HS HIn HNew
                  clear hbb
                  obtain ⟨ab, cb, hub, hcb1, hcb2⟩ := hab.shape
                  subst hub
                  have HAB := hide hab
                  clear hab
                  obtain ⟨wd, hwd⟩ : ∃ wd, wd = wc := ⟨_, rfl⟩
                  subst hwd
                  go_upto_block 7 with fail
                  go_cut [14] from 118 to 131 (fun kv wx => (∃ m, wx = wd.drewN m) ∧ ∃ k : Nat, kv = .int .i64 k ∧ k ≤ bs.length ∧ bs.idxOf zs = k)
                  case first =>
                    clear HIn HNew HS HRv HFin
                    go_wp2
                    go_loopw [14] (fun kv wr => (∃ m, wr = wd.drewN m) ∧ ∃ k : Nat, kv = .int .i64 k ∧ k ≤ bs.length ∧ ∀ j, j < k → bs.getD j [] ≠ zs) (fun kv _ => bs.length - (intOf kv).toNat)
                    case atStart => exact ⟨⟨0, rfl⟩, 0, rfl, by omega, fun j hj => by omega⟩
                    case round =>
                      obtain ⟨⟨m, rfl⟩, k, rfl, hk, hne⟩ := hrel
                      have HNe := hide hne
                      clear hne
                      have hn0 : (0 : Int) ≤ (k : Int) := by omega
                      by_cases hkl : k < bs.length
                      · have hn1 : (k : Int) < (bs.length : Int) := by omega
                        obtain ⟨bx, ox, cx, hvx, _, _, hrg⟩ := (unhide HAB).place (by omega)
                        simp only [Value.slice.injEq] at hvx
                        obtain ⟨rfl, _, rfl⟩ := hvx
                        have hgk := ((unhide HAB).1 _ (Tri.getD_in hkl)).1
                        have hr1 : (wd.drewN m).drew.rangeAt bx (ox + k * 64) ((bs.getD k []).map (Value.int .u16)) := hrg k hkl
                        have hr2 : (wd.drewN m).drew.rangeAt g9 0 (zs.map (Value.int .u16)) := hR
                        have HStop := hide (fun he => Tri.idxOf_of (unhide HNe) hk (.inr he))
                        have HGo : Hid (bs.getD k [] ≠ zs → ∀ j, j < k + 1 → bs.getD j [] ≠ zs) := fun h0 j hj => by
                          by_cases e : j = k
                          · subst e; exact h0
                          · exact (unhide HNe) j (by omega)
                        have hq := fun w => run_arr_eql w (bs.getD k []) zs hgk h64
                        clear hrg HNe
                        generalize bs.getD k [] = x at *
                        have hl8 := run_loadAt_mid (P := Try.prog) (wd.drewN m).drew bx (ox + k * 64) 48 (x.map (Value.int .u16)) _ hr1 Try.underlying48 rfl (infoArrL hgk)
                        have hl9 := run_loadAt_mid (P := Try.prog) (wd.drewN m).drew g9 0 48 (zs.map (Value.int .u16)) _ hr2 Try.underlying48 rfl (infoArrL h64)
                        have hq' : ∀ w, (Op.equalIn 10000 48 (.agg (x.map (Value.int .u16)).toArray) (.agg (zs.map (Value.int .u16)).toArray)).run Try.prog w = .ok (decide (x = zs)) w := hq
                        clear hq hr1 hr2
                        by_cases he : x = zs
                        · have HX := hide ((unhide HStop) he)
                          rw [decide_eq_true he] at hq'
                          subst he
                          clear HStop HGo
                          go_wp2
                          refine wp_region_any (by kernel_rfl) ?_
                          change wpAny _ _ _ _ _ _ _ (World.drew _)
                          refine wpAny_take (i := 0) (oi := { dst := some 118, op := Op.move (Operand.tmp 14), type := 3, pos := "ref.go:106", after := #[], guard := none }) (v := .int .i64 (k : Int)) rfl (by kernel_rfl) (by kernel_rfl) (by kernel_rfl) (fun _ _ _ h => h) (Or.inl ⟨by rfl, ?_⟩) ?_
                          · intro w; go_simp
                          simp only [Act.put, List.setIfInBounds_toArray, List.set_cons_zero, List.set_cons_succ]
                          refine wpAny_take (i := 1) (oi := { dst := some 119, op := Op.move (Operand.tmp 7), type := 41, pos := "ref.go:106", after := #[], guard := none }) (v := .slice (some ⟨bx, ox, none⟩) bs.length cb) rfl (by kernel_rfl) (by kernel_rfl) (by kernel_rfl) (fun _ _ _ h => h) (Or.inl ⟨by rfl, ?_⟩) ?_
                          · intro w; go_simp
                          simp only [Act.put, List.setIfInBounds_toArray, List.set_cons_zero, List.set_cons_succ]
                          refine wpAny_take (i := 2) (oi := { dst := some 120, op := Op.call { callee := Callee.builtin Builtin.len, args := #[Operand.tmp 119], argTypes := #[41] }, type := 3, pos := "ref.go:106", after := #[{ on := 1, ground := Ground.data }], guard := none }) (v := .int .i64 (bs.length : Int)) rfl (by kernel_rfl) (by kernel_rfl) (by kernel_rfl) (fun _ _ _ h => h) (Or.inl ⟨by rfl, ?_⟩) ?_
                          · intro w; go_simp
                          simp only [Act.put, List.setIfInBounds_toArray, List.set_cons_zero, List.set_cons_succ]
                          refine wpAny_take (i := 3) (oi := { dst := some 121, op := Op.binOp BinOp.lss 3 (Operand.tmp 118) (Operand.tmp 120) 3, type := 4, pos := "ref.go:106", after := #[{ on := 0, ground := Ground.data }, { on := 2, ground := Ground.data }], guard := none }) (v := .bool true) rfl (by kernel_rfl) (by kernel_rfl) (by kernel_rfl) (fun _ _ _ h => h) (Or.inl ⟨by rfl, ?_⟩) ?_
                          · intro w; go_simp
                          simp only [Act.put, List.setIfInBounds_toArray, List.set_cons_zero, List.set_cons_succ]
                          refine wpAny_take (i := 4) (oi := { dst := some 122, op := Op.move (Operand.tmp 121), type := 4, pos := "ref.go:106", after := #[{ on := 3, ground := Ground.data }], guard := none }) (v := .bool true) rfl (by kernel_rfl) (by kernel_rfl) (by kernel_rfl) (fun _ _ _ h => h) (Or.inl ⟨by rfl, ?_⟩) ?_
                          · intro w; go_simp
                          simp only [Act.put, List.setIfInBounds_toArray, List.set_cons_zero, List.set_cons_succ]
                          refine wpAny_take (i := 5) (oi := { dst := some 123, op := Op.move (Operand.tmp 7), type := 41, pos := "ref.go:106", after := #[{ on := 4, ground := Ground.guard }], guard := some (4, true) }) (v := .slice (some ⟨bx, ox, none⟩) bs.length cb) rfl (by kernel_rfl) (by kernel_rfl) (by kernel_rfl) (fun _ _ _ h => h) (Or.inl ⟨by rfl, ?_⟩) ?_
                          · intro w; go_simp
                          simp only [Act.put, List.setIfInBounds_toArray, List.set_cons_zero, List.set_cons_succ]
                          refine wpAny_take (i := 6) (oi := { dst := some 124, op := Op.move (Operand.tmp 14), type := 3, pos := "ref.go:106", after := #[{ on := 4, ground := Ground.guard }], guard := some (4, true) }) (v := .int .i64 (k : Int)) rfl (by kernel_rfl) (by kernel_rfl) (by kernel_rfl) (fun _ _ _ h => h) (Or.inl ⟨by rfl, ?_⟩) ?_
                          · intro w; go_simp
                          simp only [Act.put, List.setIfInBounds_toArray, List.set_cons_zero, List.set_cons_succ]
                          refine wpAny_take (i := 7) (oi := { dst := some 125, op := Op.indexAddr 41 (Operand.tmp 123) (Operand.tmp 124), type := 0, pos := "ref.go:106", after := #[{ on := 5, ground := Ground.data }, { on := 6, ground := Ground.data }, { on := 4, ground := Ground.guard }], guard := some (4, true) }) (v := .pointer (some ⟨bx, ox + k * 64, none⟩)) rfl (by kernel_rfl) (by kernel_rfl) (by kernel_rfl) (fun _ _ _ h => h) (Or.inl ⟨by rfl, ?_⟩) ?_
                          · intro w; go_simp
                          simp only [Act.put, List.setIfInBounds_toArray, List.set_cons_zero, List.set_cons_succ]
                          refine wpAny_ready (rs := [8, 9]) (by kernel_rfl) (by simp) ?_
                          refine AllReady.cons (o := { dst := some 126, op := Op.load 48 (Operand.tmp 125), type := 48, pos := "ref.go:106", after := #[{ on := 7, ground := Ground.data }, { on := 4, ground := Ground.guard }], guard := some (4, true) }) rfl (fun K hK => ?_) (AllReady.cons (o := { dst := some 127, op := Op.load 48 (Operand.tmp 9), type := 48, pos := "ref.go:106", after := #[{ on := 4, ground := Ground.guard }], guard := some (4, true) }) rfl (fun K hK => ?_) AllReady.nil)
                          · refine step_loadW (by rfl) 48 (.tmp 125) (by rfl) _ _ (by rfl) hl8 ?_
                            refine hK _ _ ?_
                            clear hK K
                            simp only [Act.put, List.setIfInBounds_toArray, List.set_cons_zero, List.set_cons_succ]
                            refine wpAny_ready (rs := [9]) (by kernel_rfl) (by simp) ?_
                            refine AllReady.cons (o := { dst := some 127, op := Op.load 48 (Operand.tmp 9), type := 48, pos := "ref.go:106", after := #[{ on := 4, ground := Ground.guard }], guard := some (4, true) }) rfl (fun K hK => ?_) AllReady.nil
                            refine step_loadW (by rfl) 48 (.tmp 9) (by rfl) _ _ (by rfl) hl9 ?_
                            refine hK _ _ ?_
                            clear hK K
                            simp only [Act.put, List.setIfInBounds_toArray, List.set_cons_zero, List.set_cons_succ]
                            refine wpAny_take (i := 10) (oi := { dst := some 128, op := Op.binOp BinOp.neq 48 (Operand.tmp 126) (Operand.tmp 127) 48, type := 4, pos := "ref.go:106", after := #[{ on := 8, ground := Ground.data }, { on := 9, ground := Ground.data }, { on := 4, ground := Ground.guard }], guard := some (4, true) }) (v := .bool false) rfl (by kernel_rfl) (by kernel_rfl) (by kernel_rfl) (fun _ _ _ h => h) (Or.inl ⟨by rfl, ?_⟩) ?_
                            · intro w; go_simp
                            simp only [Act.put, List.setIfInBounds_toArray, List.set_cons_zero, List.set_cons_succ]
                            refine wpAny_take (i := 11) (oi := { dst := some 129, op := Op.pick (Operand.tmp 122) (Operand.tmp 128) (Operand.const (Value.bool false)), type := 4, pos := "ref.go:106", after := #[{ on := 4, ground := Ground.data }, { on := 10, ground := Ground.data }], guard := none }) (v := .bool false) rfl (by kernel_rfl) (by kernel_rfl) (by kernel_rfl) (fun _ _ _ h => h) (Or.inl ⟨by rfl, ?_⟩) ?_
                            · intro w; go_simp
                            simp only [Act.put, List.setIfInBounds_toArray, List.set_cons_zero, List.set_cons_succ]
                            refine wpAny_done (by kernel_rfl) ?_ _
                            go_wp2
                            go_meet
                            case rel => exact ⟨⟨m + 1, rfl⟩, k, rfl, hk, unhide HX⟩
                          · refine step_loadW (by rfl) 48 (.tmp 9) (by rfl) _ _ (by rfl) hl9 ?_
                            refine hK _ _ ?_
                            clear hK K
                            simp only [Act.put, List.setIfInBounds_toArray, List.set_cons_zero, List.set_cons_succ]
                            refine wpAny_ready (rs := [8]) (by kernel_rfl) (by simp) ?_
                            refine AllReady.cons (o := { dst := some 126, op := Op.load 48 (Operand.tmp 125), type := 48, pos := "ref.go:106", after := #[{ on := 7, ground := Ground.data }, { on := 4, ground := Ground.guard }], guard := some (4, true) }) rfl (fun K hK => ?_) AllReady.nil
                            refine step_loadW (by rfl) 48 (.tmp 125) (by rfl) _ _ (by rfl) hl8 ?_
                            refine hK _ _ ?_
                            clear hK K
                            simp only [Act.put, List.setIfInBounds_toArray, List.set_cons_zero, List.set_cons_succ]
                            refine wpAny_take (i := 10) (oi := { dst := some 128, op := Op.binOp BinOp.neq 48 (Operand.tmp 126) (Operand.tmp 127) 48, type := 4, pos := "ref.go:106", after := #[{ on := 8, ground := Ground.data }, { on := 9, ground := Ground.data }, { on := 4, ground := Ground.guard }], guard := some (4, true) }) (v := .bool false) rfl (by kernel_rfl) (by kernel_rfl) (by kernel_rfl) (fun _ _ _ h => h) (Or.inl ⟨by rfl, ?_⟩) ?_
                            · intro w; go_simp
                            simp only [Act.put, List.setIfInBounds_toArray, List.set_cons_zero, List.set_cons_succ]
                            refine wpAny_take (i := 11) (oi := { dst := some 129, op := Op.pick (Operand.tmp 122) (Operand.tmp 128) (Operand.const (Value.bool false)), type := 4, pos := "ref.go:106", after := #[{ on := 4, ground := Ground.data }, { on := 10, ground := Ground.data }], guard := none }) (v := .bool false) rfl (by kernel_rfl) (by kernel_rfl) (by kernel_rfl) (fun _ _ _ h => h) (Or.inl ⟨by rfl, ?_⟩) ?_
                            · intro w; go_simp
                            simp only [Act.put, List.setIfInBounds_toArray, List.set_cons_zero, List.set_cons_succ]
                            refine wpAny_done (by kernel_rfl) ?_ _
                            go_wp2
                            go_meet
                            case rel => exact ⟨⟨m + 1, rfl⟩, k, rfl, hk, unhide HX⟩
                        · have HX := hide ((unhide HGo) he)
                          rw [decide_eq_false he] at hq'
                          clear HStop HGo
                          go_wp2
                          refine wp_region_any (by kernel_rfl) ?_
                          change wpAny _ _ _ _ _ _ _ (World.drew _)
                          refine wpAny_take (i := 0) (oi := { dst := some 118, op := Op.move (Operand.tmp 14), type := 3, pos := "ref.go:106", after := #[], guard := none }) (v := .int .i64 (k : Int)) rfl (by kernel_rfl) (by kernel_rfl) (by kernel_rfl) (fun _ _ _ h => h) (Or.inl ⟨by rfl, ?_⟩) ?_
                          · intro w; go_simp
                          simp only [Act.put, List.setIfInBounds_toArray, List.set_cons_zero, List.set_cons_succ]
                          refine wpAny_take (i := 1) (oi := { dst := some 119, op := Op.move (Operand.tmp 7), type := 41, pos := "ref.go:106", after := #[], guard := none }) (v := .slice (some ⟨bx, ox, none⟩) bs.length cb) rfl (by kernel_rfl) (by kernel_rfl) (by kernel_rfl) (fun _ _ _ h => h) (Or.inl ⟨by rfl, ?_⟩) ?_
                          · intro w; go_simp
                          simp only [Act.put, List.setIfInBounds_toArray, List.set_cons_zero, List.set_cons_succ]
                          refine wpAny_take (i := 2) (oi := { dst := some 120, op := Op.call { callee := Callee.builtin Builtin.len, args := #[Operand.tmp 119], argTypes := #[41] }, type := 3, pos := "ref.go:106", after := #[{ on := 1, ground := Ground.data }], guard := none }) (v := .int .i64 (bs.length : Int)) rfl (by kernel_rfl) (by kernel_rfl) (by kernel_rfl) (fun _ _ _ h => h) (Or.inl ⟨by rfl, ?_⟩) ?_
                          · intro w; go_simp
                          simp only [Act.put, List.setIfInBounds_toArray, List.set_cons_zero, List.set_cons_succ]
                          refine wpAny_take (i := 3) (oi := { dst := some 121, op := Op.binOp BinOp.lss 3 (Operand.tmp 118) (Operand.tmp 120) 3, type := 4, pos := "ref.go:106", after := #[{ on := 0, ground := Ground.data }, { on := 2, ground := Ground.data }], guard := none }) (v := .bool true) rfl (by kernel_rfl) (by kernel_rfl) (by kernel_rfl) (fun _ _ _ h => h) (Or.inl ⟨by rfl, ?_⟩) ?_
                          · intro w; go_simp
                          simp only [Act.put, List.setIfInBounds_toArray, List.set_cons_zero, List.set_cons_succ]
                          refine wpAny_take (i := 4) (oi := { dst := some 122, op := Op.move (Operand.tmp 121), type := 4, pos := "ref.go:106", after := #[{ on := 3, ground := Ground.data }], guard := none }) (v := .bool true) rfl (by kernel_rfl) (by kernel_rfl) (by kernel_rfl) (fun _ _ _ h => h) (Or.inl ⟨by rfl, ?_⟩) ?_
                          · intro w; go_simp
                          simp only [Act.put, List.setIfInBounds_toArray, List.set_cons_zero, List.set_cons_succ]
                          refine wpAny_take (i := 5) (oi := { dst := some 123, op := Op.move (Operand.tmp 7), type := 41, pos := "ref.go:106", after := #[{ on := 4, ground := Ground.guard }], guard := some (4, true) }) (v := .slice (some ⟨bx, ox, none⟩) bs.length cb) rfl (by kernel_rfl) (by kernel_rfl) (by kernel_rfl) (fun _ _ _ h => h) (Or.inl ⟨by rfl, ?_⟩) ?_
                          · intro w; go_simp
                          simp only [Act.put, List.setIfInBounds_toArray, List.set_cons_zero, List.set_cons_succ]
                          refine wpAny_take (i := 6) (oi := { dst := some 124, op := Op.move (Operand.tmp 14), type := 3, pos := "ref.go:106", after := #[{ on := 4, ground := Ground.guard }], guard := some (4, true) }) (v := .int .i64 (k : Int)) rfl (by kernel_rfl) (by kernel_rfl) (by kernel_rfl) (fun _ _ _ h => h) (Or.inl ⟨by rfl, ?_⟩) ?_
                          · intro w; go_simp
                          simp only [Act.put, List.setIfInBounds_toArray, List.set_cons_zero, List.set_cons_succ]
                          refine wpAny_take (i := 7) (oi := { dst := some 125, op := Op.indexAddr 41 (Operand.tmp 123) (Operand.tmp 124), type := 0, pos := "ref.go:106", after := #[{ on := 5, ground := Ground.data }, { on := 6, ground := Ground.data }, { on := 4, ground := Ground.guard }], guard := some (4, true) }) (v := .pointer (some ⟨bx, ox + k * 64, none⟩)) rfl (by kernel_rfl) (by kernel_rfl) (by kernel_rfl) (fun _ _ _ h => h) (Or.inl ⟨by rfl, ?_⟩) ?_
                          · intro w; go_simp
                          simp only [Act.put, List.setIfInBounds_toArray, List.set_cons_zero, List.set_cons_succ]
                          refine wpAny_ready (rs := [8, 9]) (by kernel_rfl) (by simp) ?_
                          refine AllReady.cons (o := { dst := some 126, op := Op.load 48 (Operand.tmp 125), type := 48, pos := "ref.go:106", after := #[{ on := 7, ground := Ground.data }, { on := 4, ground := Ground.guard }], guard := some (4, true) }) rfl (fun K hK => ?_) (AllReady.cons (o := { dst := some 127, op := Op.load 48 (Operand.tmp 9), type := 48, pos := "ref.go:106", after := #[{ on := 4, ground := Ground.guard }], guard := some (4, true) }) rfl (fun K hK => ?_) AllReady.nil)
                          · refine step_loadW (by rfl) 48 (.tmp 125) (by rfl) _ _ (by rfl) hl8 ?_
                            refine hK _ _ ?_
                            clear hK K
                            simp only [Act.put, List.setIfInBounds_toArray, List.set_cons_zero, List.set_cons_succ]
                            refine wpAny_ready (rs := [9]) (by kernel_rfl) (by simp) ?_
                            refine AllReady.cons (o := { dst := some 127, op := Op.load 48 (Operand.tmp 9), type := 48, pos := "ref.go:106", after := #[{ on := 4, ground := Ground.guard }], guard := some (4, true) }) rfl (fun K hK => ?_) AllReady.nil
                            refine step_loadW (by rfl) 48 (.tmp 9) (by rfl) _ _ (by rfl) hl9 ?_
                            refine hK _ _ ?_
                            clear hK K
                            simp only [Act.put, List.setIfInBounds_toArray, List.set_cons_zero, List.set_cons_succ]
                            refine wpAny_take (i := 10) (oi := { dst := some 128, op := Op.binOp BinOp.neq 48 (Operand.tmp 126) (Operand.tmp 127) 48, type := 4, pos := "ref.go:106", after := #[{ on := 8, ground := Ground.data }, { on := 9, ground := Ground.data }, { on := 4, ground := Ground.guard }], guard := some (4, true) }) (v := .bool true) rfl (by kernel_rfl) (by kernel_rfl) (by kernel_rfl) (fun _ _ _ h => h) (Or.inl ⟨by rfl, ?_⟩) ?_
                            · intro w; go_simp
                            simp only [Act.put, List.setIfInBounds_toArray, List.set_cons_zero, List.set_cons_succ]
                            refine wpAny_take (i := 11) (oi := { dst := some 129, op := Op.pick (Operand.tmp 122) (Operand.tmp 128) (Operand.const (Value.bool false)), type := 4, pos := "ref.go:106", after := #[{ on := 4, ground := Ground.data }, { on := 10, ground := Ground.data }], guard := none }) (v := .bool true) rfl (by kernel_rfl) (by kernel_rfl) (by kernel_rfl) (fun _ _ _ h => h) (Or.inl ⟨by rfl, ?_⟩) ?_
                            · intro w; go_simp
                            simp only [Act.put, List.setIfInBounds_toArray, List.set_cons_zero, List.set_cons_succ]
                            refine wpAny_done (by kernel_rfl) ?_ _
                            go_wp2
                            go_roundw
                            case rel => exact ⟨⟨m + 1, rfl⟩, k + 1, by go_num, by omega, unhide HX⟩
                            case measure => simp [intOf]; omega
                          · refine step_loadW (by rfl) 48 (.tmp 9) (by rfl) _ _ (by rfl) hl9 ?_
                            refine hK _ _ ?_
                            clear hK K
                            simp only [Act.put, List.setIfInBounds_toArray, List.set_cons_zero, List.set_cons_succ]
                            refine wpAny_ready (rs := [8]) (by kernel_rfl) (by simp) ?_
                            refine AllReady.cons (o := { dst := some 126, op := Op.load 48 (Operand.tmp 125), type := 48, pos := "ref.go:106", after := #[{ on := 7, ground := Ground.data }, { on := 4, ground := Ground.guard }], guard := some (4, true) }) rfl (fun K hK => ?_) AllReady.nil
                            refine step_loadW (by rfl) 48 (.tmp 125) (by rfl) _ _ (by rfl) hl8 ?_
                            refine hK _ _ ?_
                            clear hK K
                            simp only [Act.put, List.setIfInBounds_toArray, List.set_cons_zero, List.set_cons_succ]
                            refine wpAny_take (i := 10) (oi := { dst := some 128, op := Op.binOp BinOp.neq 48 (Operand.tmp 126) (Operand.tmp 127) 48, type := 4, pos := "ref.go:106", after := #[{ on := 8, ground := Ground.data }, { on := 9, ground := Ground.data }, { on := 4, ground := Ground.guard }], guard := some (4, true) }) (v := .bool true) rfl (by kernel_rfl) (by kernel_rfl) (by kernel_rfl) (fun _ _ _ h => h) (Or.inl ⟨by rfl, ?_⟩) ?_
                            · intro w; go_simp
                            simp only [Act.put, List.setIfInBounds_toArray, List.set_cons_zero, List.set_cons_succ]
                            refine wpAny_take (i := 11) (oi := { dst := some 129, op := Op.pick (Operand.tmp 122) (Operand.tmp 128) (Operand.const (Value.bool false)), type := 4, pos := "ref.go:106", after := #[{ on := 4, ground := Ground.data }, { on := 10, ground := Ground.data }], guard := none }) (v := .bool true) rfl (by kernel_rfl) (by kernel_rfl) (by kernel_rfl) (fun _ _ _ h => h) (Or.inl ⟨by rfl, ?_⟩) ?_
                            · intro w; go_simp
                            simp only [Act.put, List.setIfInBounds_toArray, List.set_cons_zero, List.set_cons_succ]
                            refine wpAny_done (by kernel_rfl) ?_ _
                            go_wp2
                            go_roundw
                            case rel => exact ⟨⟨m + 1, rfl⟩, k + 1, by go_num, by omega, unhide HX⟩
                            case measure => simp [intOf]; omega
                      · have hn1 : ¬ (k : Int) < (bs.length : Int) := by omega
                        have hkb : k = bs.length := by omega
                        have HX := hide (Tri.idxOf_of (unhide HNe) hk (.inl hkb))
                        clear HNe hkb
                        go_wp2
                        refine wp_region_any (by kernel_rfl) ?_
                        change wpAny _ _ _ _ _ _ _ (World.drew _)
                        refine wpAny_take (i := 0) (oi := { dst := some 118, op := Op.move (Operand.tmp 14), type := 3, pos := "ref.go:106", after := #[], guard := none }) (v := .int .i64 (k : Int)) rfl (by kernel_rfl) (by kernel_rfl) (by kernel_rfl) (fun _ _ _ h => h) (Or.inl ⟨by rfl, ?_⟩) ?_
                        · intro w; go_simp
                        simp only [Act.put, List.setIfInBounds_toArray, List.set_cons_zero, List.set_cons_succ]
                        refine wpAny_take (i := 1) (oi := { dst := some 119, op := Op.move (Operand.tmp 7), type := 41, pos := "ref.go:106", after := #[], guard := none }) (v := .slice (ab) bs.length cb) rfl (by kernel_rfl) (by kernel_rfl) (by kernel_rfl) (fun _ _ _ h => h) (Or.inl ⟨by rfl, ?_⟩) ?_
                        · intro w; go_simp
                        simp only [Act.put, List.setIfInBounds_toArray, List.set_cons_zero, List.set_cons_succ]
                        refine wpAny_take (i := 2) (oi := { dst := some 120, op := Op.call { callee := Callee.builtin Builtin.len, args := #[Operand.tmp 119], argTypes := #[41] }, type := 3, pos := "ref.go:106", after := #[{ on := 1, ground := Ground.data }], guard := none }) (v := .int .i64 (bs.length : Int)) rfl (by kernel_rfl) (by kernel_rfl) (by kernel_rfl) (fun _ _ _ h => h) (Or.inl ⟨by rfl, ?_⟩) ?_
                        · intro w; go_simp
                        simp only [Act.put, List.setIfInBounds_toArray, List.set_cons_zero, List.set_cons_succ]
                        refine wpAny_take (i := 3) (oi := { dst := some 121, op := Op.binOp BinOp.lss 3 (Operand.tmp 118) (Operand.tmp 120) 3, type := 4, pos := "ref.go:106", after := #[{ on := 0, ground := Ground.data }, { on := 2, ground := Ground.data }], guard := none }) (v := .bool false) rfl (by kernel_rfl) (by kernel_rfl) (by kernel_rfl) (fun _ _ _ h => h) (Or.inl ⟨by rfl, ?_⟩) ?_
                        · intro w; go_simp
                        simp only [Act.put, List.setIfInBounds_toArray, List.set_cons_zero, List.set_cons_succ]
                        refine wpAny_take (i := 4) (oi := { dst := some 122, op := Op.move (Operand.tmp 121), type := 4, pos := "ref.go:106", after := #[{ on := 3, ground := Ground.data }], guard := none }) (v := .bool false) rfl (by kernel_rfl) (by kernel_rfl) (by kernel_rfl) (fun _ _ _ h => h) (Or.inl ⟨by rfl, ?_⟩) ?_
                        · intro w; go_simp
                        simp only [Act.put, List.setIfInBounds_toArray, List.set_cons_zero, List.set_cons_succ]
                        refine wpAny_take (i := 5) (oi := { dst := some 123, op := Op.move (Operand.tmp 7), type := 41, pos := "ref.go:106", after := #[{ on := 4, ground := Ground.guard }], guard := some (4, true) }) (v := undef) rfl (by kernel_rfl) (by kernel_rfl) (by kernel_rfl) (fun _ _ _ h => h) (Or.inr ⟨by rfl, rfl⟩) ?_
                        simp only [Act.put, List.setIfInBounds_toArray, List.set_cons_zero, List.set_cons_succ]
                        refine wpAny_take (i := 6) (oi := { dst := some 124, op := Op.move (Operand.tmp 14), type := 3, pos := "ref.go:106", after := #[{ on := 4, ground := Ground.guard }], guard := some (4, true) }) (v := undef) rfl (by kernel_rfl) (by kernel_rfl) (by kernel_rfl) (fun _ _ _ h => h) (Or.inr ⟨by rfl, rfl⟩) ?_
                        simp only [Act.put, List.setIfInBounds_toArray, List.set_cons_zero, List.set_cons_succ]
                        refine wpAny_take (i := 7) (oi := { dst := some 125, op := Op.indexAddr 41 (Operand.tmp 123) (Operand.tmp 124), type := 0, pos := "ref.go:106", after := #[{ on := 5, ground := Ground.data }, { on := 6, ground := Ground.data }, { on := 4, ground := Ground.guard }], guard := some (4, true) }) (v := undef) rfl (by kernel_rfl) (by kernel_rfl) (by kernel_rfl) (fun _ _ _ h => h) (Or.inr ⟨by rfl, rfl⟩) ?_
                        simp only [Act.put, List.setIfInBounds_toArray, List.set_cons_zero, List.set_cons_succ]
                        refine wpAny_take (i := 8) (oi := { dst := some 126, op := Op.load 48 (Operand.tmp 125), type := 48, pos := "ref.go:106", after := #[{ on := 7, ground := Ground.data }, { on := 4, ground := Ground.guard }], guard := some (4, true) }) (v := undef) rfl (by kernel_rfl) (by kernel_rfl) (by kernel_rfl) (fun _ _ _ h => h) (Or.inr ⟨by rfl, rfl⟩) ?_
                        simp only [Act.put, List.setIfInBounds_toArray, List.set_cons_zero, List.set_cons_succ]
                        refine wpAny_take (i := 9) (oi := { dst := some 127, op := Op.load 48 (Operand.tmp 9), type := 48, pos := "ref.go:106", after := #[{ on := 4, ground := Ground.guard }], guard := some (4, true) }) (v := undef) rfl (by kernel_rfl) (by kernel_rfl) (by kernel_rfl) (fun _ _ _ h => h) (Or.inr ⟨by rfl, rfl⟩) ?_
                        simp only [Act.put, List.setIfInBounds_toArray, List.set_cons_zero, List.set_cons_succ]
                        refine wpAny_take (i := 10) (oi := { dst := some 128, op := Op.binOp BinOp.neq 48 (Operand.tmp 126) (Operand.tmp 127) 48, type := 4, pos := "ref.go:106", after := #[{ on := 8, ground := Ground.data }, { on := 9, ground := Ground.data }, { on := 4, ground := Ground.guard }], guard := some (4, true) }) (v := undef) rfl (by kernel_rfl) (by kernel_rfl) (by kernel_rfl) (fun _ _ _ h => h) (Or.inr ⟨by rfl, rfl⟩) ?_
                        simp only [Act.put, List.setIfInBounds_toArray, List.set_cons_zero, List.set_cons_succ]
                        refine wpAny_take (i := 11) (oi := { dst := some 129, op := Op.pick (Operand.tmp 122) (Operand.tmp 128) (Operand.const (Value.bool false)), type := 4, pos := "ref.go:106", after := #[{ on := 4, ground := Ground.data }, { on := 10, ground := Ground.data }], guard := none }) (v := .bool false) rfl (by kernel_rfl) (by kernel_rfl) (by kernel_rfl) (fun _ _ _ h => h) (Or.inl ⟨by rfl, ?_⟩) ?_
                        · intro w; go_simp
                        simp only [Act.put, List.setIfInBounds_toArray, List.set_cons_zero, List.set_cons_succ]
                        refine wpAny_done (by kernel_rfl) ?_ _
                        go_wp2
                        go_meet
                        case rel => exact ⟨⟨m + 1, rfl⟩, k, rfl, hk, unhide HX⟩
                  case rest =>
                    obtain ⟨⟨m, hwm⟩, k, rfl, hk, hix⟩ := hcut
                    have hst := (unhide HS).below (below_drewN (Below.refl _ _) m)
                    have hRm : (wd.drewN m).rangeAt g9 0 (zs.map (Value.int .u16)) := hR
                    rw [← hwm] at hst hRm
                    clear HS hR hwm HAB HFin
                    have hil := Tri.idx_len f
                    have hnl : (nats ((Tri.idx f).take p)).length = p := by simp [nats]; omega
                    have hk2 : k ≤ 65535 := by omega
                    have hk3 : (0 : Int) ≤ (k : Int) := by omega
                    have hk4 : (k : Int) ≤ 65535 := by omega
                    by_cases hkl : k < bs.length
                    · have hmem : zs ∈ bs := List.idxOf_lt_length_iff.1 (by omega)
                      obtain ⟨e1, e2, _⟩ := (unhide HIn) hmem
                      have hke : ((k : Int) == (bs.length : Int)) = false := by simp; omega
                      rw [hix] at e2
                      have st : StB w wc g9 (nats ((Tri.idx f).take p)) (bsAt f (p + 1)) u6 (Value.slice ab bs.length cb) := by rw [e1]; exact hst
                      clear HIn HNew hmem hst e1
                      have hrowI := st.ix.row
                      rw [hnl] at hrowI
                      have hgl2 := st.g9l
                      have HNum : Hid (∀ w5 g c5 us mm o, (wc.alloc o).grownBy w5 u6.ownBlock → w5.ownsRow (g9 + 1) 47 1 (.slice (some ⟨g, 0, none⟩) mm c5) mm us → mm = p + 1 → us = (nats ((Tri.idx f).take p)).map (Value.int .u16) ++ [.int .u16 (k : Int)] → (u6.ownBlock = some g ∨ g = wc.heap.size + 1) → StB w w5 g9 (nats ((Tri.idx f).take (p + 1))) (bsAt f (p + 1)) (.slice (some ⟨g, 0, none⟩) mm c5) (Value.slice ab bs.length cb)) := by
                        intro w5 g c5 us mm o a1 a2 a3 a4 a5
                        have h1 := st.number hge9 (n := (k : Int)) ⟨by omega, by omega⟩ (by omega) a1 a2 (by omega) (by rw [a4, List.map_append]; rfl) a5
                        rw [take_idx hlt, e2, a3]
                        have e : nats ((Tri.idx f).take p ++ [k]) = nats ((Tri.idx f).take p) ++ [(k : Int)] := by simp [nats]
                        rw [e]
                        rw [hnl] at h1
                        exact h1
                      clear st e2
                      go_wp2_with (at_builtin; refine wpList_append_lies _ rfl (.tmp 140) (.tmp 143) 40 rfl (g9 + 1) 47 j0 (.int .u16 0) 1 2 Try.underlying40 hj hj0 hj1 hj2 rfl (by decide) _ _ _ rfl (hrowI.alloc _) ⟨wc.heap.size, 0, none⟩ 1 1 [.int .u16 (k : Int)] rfl rfl (cell_one_new _ _ _) (int_one .u16 _) (by omega) (by unfold maxLen; omega) (by omega) (by simp; omega) (wc.heap.size + 1) (by simp) ?_)
                      intro g5 c5 w5 hr5 hg5 hat5 hlt5
                      have st5 := (unhide HNum) w5 g5 c5 _ _ _ hg5 hr5 rfl rfl hat5
                      clear HNum hr5 hg5 hat5 hlt5 hrowI
                      go_wp2
                      go_roundw
                      case rel => exact ⟨p + 1, a, v, by go_num, by omega, rfl, ha, (fun j hj => by have := (unhide HHi) j hj; omega), rfl, unhide HRv, st5⟩
                      case measure => simp [intOf]; omega
                    · obtain rfl : k = bs.length := by omega
                      have hmem : zs ∉ bs := fun hm => by have := List.idxOf_lt_length_iff.2 hm; omega
                      obtain ⟨e1, e2⟩ := (unhide HNew) hmem
                      have hbl1 := fold_whole #[.int .u16 0, .int .u16 0, .int .u16 0, .int .u16 0, .int .u16 0, .int .u16 0, .int .u16 0, .int .u16 0, .int .u16 0, .int .u16 0, .int .u16 0, .int .u16 0, .int .u16 0, .int .u16 0, .int .u16 0, .int .u16 0, .int .u16 0, .int .u16 0, .int .u16 0, .int .u16 0, .int .u16 0, .int .u16 0, .int .u16 0, .int .u16 0, .int .u16 0, .int .u16 0, .int .u16 0, .int .u16 0, .int .u16 0, .int .u16 0, .int .u16 0, .int .u16 0, .int .u16 0, .int .u16 0, .int .u16 0, .int .u16 0, .int .u16 0, .int .u16 0, .int .u16 0, .int .u16 0, .int .u16 0, .int .u16 0, .int .u16 0, .int .u16 0, .int .u16 0, .int .u16 0, .int .u16 0, .int .u16 0, .int .u16 0, .int .u16 0, .int .u16 0, .int .u16 0, .int .u16 0, .int .u16 0, .int .u16 0, .int .u16 0, .int .u16 0, .int .u16 0, .int .u16 0, .int .u16 0, .int .u16 0, .int .u16 0, .int .u16 0, .int .u16 0] rfl zs h64
                      have hrowB := hst.bl.2
                      have hol : ∀ v ∈ zs.map (Value.int .u16), v.oneCell' = true := ints_one .u16 zs
                      have hnz : (zs.map (Value.int .u16)).length = 1 * 64 := by simp; omega
                      have hnews : ∀ j u, (zs.map (Value.int .u16))[j]? = some u → (wc.alloc (.cells (zs.map (Value.int .u16)).toArray 48)).cell? ((⟨wc.heap.size, 0, none⟩ : Addr).add j) = some u := by
                        intro j u hj
                        have h9 := heap_alloc_last wc (.cells (zs.map (Value.int .u16)).toArray 48)
                        rw [addr_add, Nat.zero_add, cell_of_row _ wc.heap.size j _ _ _ h9]
                        simpa using hj
                      have hgl := hst.g9l
                      have HStB := hide hst
                      have E1 := hide e1
                      have E2 := hide e2
                      clear HIn HNew hmem hst e1 e2
                      set_option maxRecDepth 100000 in
                      go_wp2_with (first | refine wpList_load_mid rfl 48 (.tmp 9) rfl g9 0 rfl (zs.map (Value.int .u16)) _ hRm Try.underlying48 rfl (infoArrL h64) ?_ | (at_builtin; refine wpList_append_lies _ rfl (.tmp 136) (.tmp 138) 41 rfl (g9 + 1) 48 i0 z0 64 128 Try.underlying41 hi0 hz0 hz1 hz2 hz3 (by decide) _ _ _ rfl (hrowB.alloc _) ⟨wc.heap.size, 0, none⟩ 1 1 (zs.map (Value.int .u16)) rfl hnz hnews hol (by omega) (by unfold maxLen; omega) (by omega) (by simp; omega) (wc.heap.size + 1) (by simp) ?_))
                      intro g1 c1 w1 hr1 hg1 hat1 hlt1
                      have st : StB w w1 g9 (nats ((Tri.idx f).take p)) (bsAt f (p + 1)) u6 (Value.slice (some ⟨g1, 0, none⟩) (bs.length + 1) c1) := by rw [unhide E1]; exact (unhide HStB).block hge9 hgood hg1 hr1 rfl rfl hat1
                      have e2 := unhide E2
                      clear HStB E1 E2 hr1 hg1 hat1 hlt1 hrowB hbl1 hnews hRm
                      have hrowI := st.ix.row
                      rw [hnl] at hrowI
                      have hgl2 := st.g9l
                      have HNum : Hid (∀ w5 g c5 us mm o, (w1.alloc o).grownBy w5 u6.ownBlock → w5.ownsRow (g9 + 1) 47 1 (.slice (some ⟨g, 0, none⟩) mm c5) mm us → mm = p + 1 → us = (nats ((Tri.idx f).take p)).map (Value.int .u16) ++ [.int .u16 (bs.length : Int)] → (u6.ownBlock = some g ∨ g = w1.heap.size + 1) → StB w w5 g9 (nats ((Tri.idx f).take (p + 1))) (bsAt f (p + 1)) (.slice (some ⟨g, 0, none⟩) mm c5) (Value.slice (some ⟨g1, 0, none⟩) (bs.length + 1) c1)) := by
                        intro w5 g c5 us mm o a1 a2 a3 a4 a5
                        have h1 := st.number hge9 (n := (bs.length : Int)) ⟨by omega, by omega⟩ (by omega) a1 a2 (by omega) (by rw [a4, List.map_append]; rfl) a5
                        rw [take_idx hlt, e2, a3]
                        have e : nats ((Tri.idx f).take p ++ [bs.length]) = nats ((Tri.idx f).take p) ++ [(bs.length : Int)] := by simp [nats]
                        rw [e]
                        rw [hnl] at h1
                        exact h1
                      clear st e2
                      go_wp2_with (at_builtin; refine wpList_append_lies _ rfl (.tmp 140) (.tmp 143) 40 rfl (g9 + 1) 47 j0 (.int .u16 0) 1 2 Try.underlying40 hj hj0 hj1 hj2 rfl (by decide) _ _ _ rfl (hrowI.alloc _) ⟨w1.heap.size, 0, none⟩ 1 1 [.int .u16 (bs.length : Int)] rfl rfl (cell_one_new _ _ _) (int_one .u16 _) (by omega) (by unfold maxLen; omega) (by omega) (by simp; omega) (w1.heap.size + 1) (by simp) ?_)
                      intro g5 c5 w5 hr5 hg5 hat5 hlt5
                      have st5 := (unhide HNum) w5 g5 c5 _ _ _ hg5 hr5 rfl rfl hat5
                      clear HNum hr5 hg5 hat5 hlt5 hrowI
                      go_wp2
                      go_roundw
                      case rel => exact ⟨p + 1, a, v, by go_num, by omega, rfl, ha, (fun j hj => by have := (unhide HHi) j hj; omega), rfl, unhide HRv, st5⟩
                      case measure => simp [intOf]; omega
    · obtain rfl : p = 17408 := by omega
      have hin3 : ¬ ((17408 : Nat) : Int) < 17408 := by omega
      have HR := (unhide HFin) _ _ _ _ hge9 hst
      clear HFin HCell HVal HGap HFull HBlock hst hhi hpl
      go_wp2
      go_ret2
      exact HR
end Go.Proofs.Ytehdeipeehaejaa
