/- The law ScalarSplits, out of the contracts. -/
import Derived.Test.YtchjnplceelgoaaTold3
import Derived.Test.YtchjnplceelgoaaRoom3
import Derived.Test.YtchjnplceelgoaaLv3
namespace Go.Proofs.Ytchjnplceelgoaa
open Go.RowKit

def SplO : Prop := ∀ (v : Value) (xs : List Int) (w : World), Sk .i32 w v xs → xs.length ≤ 1000000000 → Calls Try.prog 25 #[v] w (SplOPost w (Spl.split xs))

theorem nines_new (w : World) : ∀ (j : Nat) (u : Value), [Value.int .i32 (-9), Value.int .i32 (-9)][j]? = some u → (w.alloc (.cells #[.int .i32 (-9), .int .i32 (-9)] 21)).cell? ((⟨w.heap.size, 0, none⟩ : Addr).add j) = some u := by
  intro j u hj
  match j, hj with
  | 0, hj => simp at hj; subst hj; simp [Addr.add]
  | 1, hj => simp at hj; subst hj; simp [Addr.add]
theorem nines_one : ∀ u ∈ [Value.int .i32 (-9), Value.int .i32 (-9)], u.oneCell' = true := by
  intro u hu
  simp at hu
  rcases hu with rfl | rfl <;> rfl

set_option maxHeartbeats 8000000 in
theorem scalarSplits_any (HD : DecC) (HE : EncC) (HV : ValC) (HS : SplC) (HO : SplO) (v : Value) (xs : List Int) (w : World) (hv : Sk .i32 w v xs) (hx : xs.length ≤ 1048576) :
    Calls Try.prog 5 #[v] w (Tells w true) := by
  obtain ⟨i0, hi, hz0, hz1, hz2⟩ := info_parts Try.info21
  have HT := fun w => hide (told_any HD HE HV HS w)
  have HR := hide (roomy_any v xs w hv (by omega))
  have KO := hide HO
  have hvs := hide hv
  have hlen := Spl.splitA_len [] xs
  have htot := Spl.total_split [] xs
  have hne : 0 < (Spl.split xs).length := by
    have := Spl.splitA_ne [] xs
    rcases Nat.eq_zero_or_pos (Spl.split xs).length with h | h
    · exact absurd (List.eq_nil_of_length_eq_zero h) this
    · exact h
  have hle : (Spl.split xs).length ≤ 1048577 := by unfold Spl.split; omega
  have htt : Spl.total (Spl.split xs) ≤ 1048576 := by unfold Spl.split; simp at htot; omega
  have KO2 := fun w v h => hide (unhide KO v xs w h (by omega))
  have KR := fun w v h => hide (refSplit_any v xs w h (by omega))
  obtain ⟨ao, cap, rfl, _, _⟩ := hv.shape
  clear HD HE HV HS HO hv KO hlen htot
  generalize Spl.split xs = ls at *
  go_enter Try.func5, Try.ntmps5
  go_wp2_with fail
  refine (unhide HR).mono ?_
  rintro e w1 ⟨g, cp, rfl, hrm, hcp1, hcp2, hb1⟩
  have hrm' := hide hrm.sk
  have H1 := KO2 w1 _ (room_sk (unhide hrm'))
  clear HR hrm
  go_wp2_with fail
  refine (unhide H1).mono ?_
  rintro e w2 ⟨vl, rfl, hmu, hb2⟩
  have hvlb : Hid (∀ k, vl.ownBlock = some k → w1.heap.size ≤ k ∧ k < w2.heap.size) := by
    obtain ⟨us, _, h2, _⟩ := hmu
    exact fun k hk => h2.lt k hk
  have H2 := KR w2 _ ((unhide hvs).below (bthen hb1 hb2))
  clear H1 KR
  go_wp2_with fail
  refine (unhide H2).mono ?_
  rintro e w3 ⟨vw, rfl, hmw, hb3⟩
  clear H2
  go_wp2_with fail
  refine (unhide (HT _)).mono ?_
  rintro e w4 ⟨rfl, hb4⟩
  clear HT
  have hb13 := bthen hb2 hb3
  have hb14 := bthen hb13 hb4
  have hb24 := bthen hb3 hb4
  obtain ⟨us0, hlv⟩ := hmu.lv (hi := w3.heap.size) hb24
  have HA := hide (sameAll_any vl vw ls ls w4 (((hmu.rws (by omega)).below hb3).below hb4) ((hmw.rws (by omega)).below hb4))
  simp only [decide_true] at HA
  have hs12 := hb2.size
  have hs23 := hb3.size
  have hs01 := hb1.size
  have hkeep4 : ∀ k, w2.heap.size ≤ k → k < w3.heap.size → w4.heap[k]? = w3.heap[k]? := fun k _ hk => hb4.block k hk
  have hs34 := hb4.size
  clear hmu hb2 hb3 hb4 hb13 hb24
  go_wp2_with fail
  refine (unhide HA).mono ?_
  rintro e w5 ⟨rfl, hb5⟩
  have hlv := hlv.below hb5
  have hb15 := bthen hb14 hb5
  have hkeep5 : ∀ k, w2.heap.size ≤ k → k < w3.heap.size → w5.heap[k]? = w3.heap[k]? := fun k h1 hk => (hb5.block k (by omega)).trans (hkeep4 k h1 hk)
  have hs45 := hb5.size
  have HW := hide (whole_yes g cp _ xs w5 ((unhide hvs).below (bthen hb1 hb15)) (by omega) hcp1 hcp2 ((unhide hrm').below hb15))
  clear HA hb14 hb5 hkeep4
  go_wp2_with fail
  refine (unhide HW).mono ?_
  rintro e w6 ⟨rfl, hb6⟩
  have hlv := hlv.below hb6
  have hb16 := bthen hb15 hb6
  have hkeep6 : ∀ k, w2.heap.size ≤ k → k < w3.heap.size → w6.heap[k]? = w3.heap[k]? := fun k h1 hk => (hb6.block k (by omega)).trans (hkeep5 k h1 hk)
  have hs56 := hb6.size
  clear HW hb15 hb6 hkeep5
  obtain ⟨gl, cl, hvl, _, _⟩ := own_shape hlv.row hne
  have hglb := (unhide hvlb) gl (by rw [hvl]; rfl)
  subst hvl
  go_wp2
  go_loopw [6] (fun i wr => ∃ (k : Nat) (us : List Value), i = .int .i64 k ∧ k ≤ ls.length ∧ Lv wr w1.heap.size w2.heap.size w3.heap.size (.slice (some ⟨gl, 0, none⟩) ls.length cl) ls k us ∧ Below w1.heap.size w1 wr ∧ w3.heap.size ≤ wr.heap.size ∧ ∀ b, w2.heap.size ≤ b → b < w3.heap.size → wr.heap[b]? = w3.heap[b]?) (fun i _ => ls.length - (intOf i).toNat)
  case atStart => exact ⟨0, us0, rfl, by omega, hlv, hb16, by omega, hkeep6⟩
  case round =>
    obtain ⟨k, us, rfl, hk, hlk, hbk, hsk, hkp⟩ := hrel
    clear hlv hb16 hkeep6
    by_cases hlt : k < ls.length
    · have hlen := hlk.len
      have hrl := Nat.le_trans (Spl.row_le ls k) htt
      have hcl : ∀ wx, Lv wx w1.heap.size w2.heap.size w3.heap.size (.slice (some ⟨gl, 0, none⟩) ls.length cl) ls k us → wx.cell? ⟨gl, k, none⟩ = some (us.getD k undef) := by
        intro wx h
        rw [h.row.cellAt k (by omega)]
        simp [List.getD, show k < us.length by omega]
      have HCL := hide hcl
      obtain ⟨zs0, hz0l, hz0⟩ := hlk.ok k hlt
      rw [if_neg (by omega)] at hz0
      have hout := hlk.out k hlt
      have hge : ∀ b, (us.getD k undef).ownBlock = some b → w1.heap.size ≤ b := fun b hb => (hz0.row.lt b hb).1
      obtain ⟨aou, cpu, hu, _, _⟩ := hz0.sk.shape
      have hpl : 0 < (ls.getD k []).length → ∃ gu, aou = some ⟨gu, 0, none⟩ := by
        intro hp
        obtain ⟨gu, c', hv', _, _⟩ := own_shape hz0.row (by omega)
        rw [hu] at hv'
        simp only [Value.slice.injEq] at hv'
        exact ⟨gu, hv'.1⟩
      rw [hz0l] at hu
      have HU := hide hu
      have HPL := hide hpl
      have HOUT := hide hout
      have HGE := hide hge
      generalize hrw : (ls.getD k []).length = n at *
      have HRW := hide hrw
      clear hcl hz0 hu hz0l hpl hrw hout hge
      obtain ⟨wo, hwo⟩ : ∃ wo, wo = wr := ⟨_, rfl⟩
      subst hwo
      go_wp2
      go_loopw [7] (fun i wr => ∃ (q : Nat), i = .int .i64 q ∧ q ≤ n ∧ Lv wr w1.heap.size w2.heap.size w3.heap.size (.slice (some ⟨gl, 0, none⟩) ls.length cl) ls k us ∧ Below w1.heap.size w1 wr ∧ w3.heap.size ≤ wr.heap.size ∧ ∀ b, w2.heap.size ≤ b → b < w3.heap.size → wr.heap[b]? = w3.heap[b]?) (fun i _ => n - (intOf i).toNat)
      case atStart => exact ⟨0, rfl, by omega, hlk, hbk, hsk, hkp⟩
      case round =>
        obtain ⟨q, rfl, hq, hlq, hbq, hsq, hkq⟩ := hrel
        clear hlk hbk hsk hkp
        have hcell := (unhide HCL) _ hlq
        rw [unhide HU] at hcell
        by_cases hqn : q < n
        · obtain ⟨gu, rfl⟩ := (unhide HPL) (by omega)
          obtain ⟨zs, hzl, hzo⟩ := hlq.ok k hlt
          rw [if_neg (by omega), unhide HU] at hzo
          rw [unhide HRW] at hzl
          have hrow := hzo.row
          rw [hzl] at hrow
          have hcq : wr.cell? ⟨gu, q, none⟩ = some (.int .i32 (zs.getD q 0)) := by
            rw [hrow.cellAt q (by omega)]
            simp [List.getD, show q < zs.length by omega]
          have hfz := hrow.frozenAt q
          have R1 := hlq.set (q := q) hlt (unhide HU)
          have hgu := (unhide HGE) gu (by rw [unhide HU]; rfl)
          have hgo := (unhide HOUT) gu (by rw [unhide HU]; rfl)
          have R2 : Below w1.heap.size w1 (wr.setCell ⟨gu, q, none⟩ (.int .i32 (-9))) := hbq.setCell (by exact hgu) _
          have R3 : w3.heap.size ≤ (wr.setCell ⟨gu, q, none⟩ (.int .i32 (-9))).heap.size := by simpa using hsq
          have R4 : ∀ b, w2.heap.size ≤ b → b < w3.heap.size → (wr.setCell ⟨gu, q, none⟩ (.int .i32 (-9))).heap[b]? = w3.heap[b]? := fun b h1 h2 => (Below.heap_setCell wr ⟨gu, q, none⟩ _ b (fun e => hgo (by simp only at e; omega))).trans (hkq b h1 h2)
          have RR := hide (And.intro R1 (And.intro R2 (And.intro R3 R4)))
          clear R1 R2 R3 R4 hlq hbq hsq hkq hzo hrow hgo
          generalize zs.getD q 0 = uu at *
          go_wp2
          go_roundw
          case rel => exact ⟨q + 1, by go_num, by omega, unhide RR⟩
          case measure => simp [intOf]; omega
        · obtain rfl : q = n := by omega
          obtain ⟨zs, hzl, hzo⟩ := hlq.ok k hlt
          rw [if_neg (by omega)] at hzo
          have hzl2 := hzl
          rw [unhide HRW] at hzl2
          have hrow := hzo.row
          have hrow' := hrow
          rw [hzl2, unhide HU] at hrow'
          have hszB := hbq.size
          go_wp2_with (at_builtin; refine wpList_append_own_at _ rfl (.tmp 55) (.tmp 56) 22 rfl w1.heap.size 21 i0 (.int .i32 0) 1 4 Try.underlying22 hi hz0 hz1 hz2 rfl (by decide) _ _ _ rfl (hrow'.alloc _) ⟨wr.heap.size, 0, none⟩ 2 2 [.int .i32 (-9), .int .i32 (-9)] rfl rfl (nines_new wr) nines_one (by unfold maxLen; omega) (by omega) (by simp; omega) ?_)
          intro v9 w9 hrow9 hg9 _ hat9
          rw [← hzl2] at hrow9
          rw [← unhide HU] at hg9 hat9
          obtain ⟨hrl9, hlv9⟩ := Lv.grown hlq hlt rfl hzl hzo (by omega) hsq hrow9 hg9 hat9
          obtain ⟨g9, c9, hv9, _, _⟩ := own_shape hrow9 (by omega)
          have hcl9 : w9.cell? ⟨gl, k, none⟩ = some (us.getD k undef) := by
            rw [hrl9.cellAt k (by omega)]
            simp [List.getD, show k < us.length by omega]
          rw [unhide HU] at hcl9
          have hfz9 := hrl9.frozenAt k
          have hb9 : Below w1.heap.size w1 w9 := (hbq.alloc hszB _).grown hg9 (by simp; omega) (fun b hb => (unhide HGE) b hb)
          have hk9 : ∀ b, w2.heap.size ≤ b → b < w3.heap.size → w9.heap[b]? = w3.heap[b]? := by
            intro b h1 h2
            rw [hg9.block b (by simp; omega) (fun e => (unhide HOUT) b e.symm ⟨h1, h2⟩), heap_alloc_old _ _ (by omega)]
            exact hkq b h1 h2
          have hs9 : w3.heap.size ≤ w9.heap.size := by have := hg9.size; simp at this; omega
          have S1 : Below w1.heap.size w1 (w9.setCell ⟨gl, k, none⟩ v9) := hb9.setCell (by exact hglb.1) _
          have S2 : w3.heap.size ≤ (w9.setCell ⟨gl, k, none⟩ v9).heap.size := by simpa using hs9
          have S3 : ∀ b, w2.heap.size ≤ b → b < w3.heap.size → (w9.setCell ⟨gl, k, none⟩ v9).heap[b]? = w3.heap[b]? := fun b h1 h2 => (Below.heap_setCell w9 ⟨gl, k, none⟩ _ b (fun e => by simp only at e; omega)).trans (hk9 b h1 h2)
          have SS := hide (And.intro hlv9 (And.intro S1 (And.intro S2 S3)))
          clear hlv9 S1 S2 S3 hlq hbq hsq hkq hzo hrow hrow' hrow9 hg9 hat9 hrl9 hb9 hk9 hs9
          rw [hzl2] at hv9
          subst hv9
          go_wp2
          go_roundw
          case rel => exact ⟨k + 1, _, by go_num, by omega, unhide SS⟩
          case measure => simp [intOf]; omega
    · obtain rfl : k = ls.length := by omega
      obtain ⟨wo, hwo⟩ : ∃ wo, wo = wr := ⟨_, rfl⟩
      subst hwo
      have hrw := (hmw.keep hkp).rws (by omega)
      obtain ⟨bw, offw, capw, uw, hvw, hw1, hw2, hwc, hws⟩ := hrw.place hne
      have HW : Hid (∀ wx, Below wo.heap.size wo wx → ∀ i, i < ls.length → ∃ gi ci aow cw, us.getD i undef = .slice (some ⟨gi, 0, none⟩) ((ls.getD i []).length + 2) ci ∧ (ls.getD i []).length + 2 ≤ ci ∧ wx.cell? ⟨gl, i, none⟩ = some (.slice (some ⟨gi, 0, none⟩) ((ls.getD i []).length + 2) ci) ∧ wx.cell? ⟨gi, (ls.getD i []).length, none⟩ = some (.int .i32 (-9)) ∧ wx.cell? ⟨bw, offw + i, none⟩ = some (.slice aow (ls.getD i []).length cw)) := by
        intro wx hb i hi
        have hlx := hlk.below hb
        obtain ⟨zs, hzl, hzo⟩ := hlx.ok i hi
        rw [if_pos hi] at hzo
        have hrow := hzo.row
        have hzl2 : (zs ++ [(-9 : Int), -9]).length = (ls.getD i []).length + 2 := by simp [hzl]
        rw [hzl2] at hrow
        obtain ⟨gi, ci, hgi, hci, _⟩ := own_shape hrow (by omega)
        obtain ⟨aow, cw, huw, _, _⟩ := (hws i hi).shape
        refine ⟨gi, ci, aow, cw, hgi, hci, ?_, ?_, ?_⟩
        · rw [hlx.row.cellAt i (by omega)]
          have := hlx.len
          rw [← hgi]
          simp [List.getD, show i < us.length by omega]
        · rw [hgi] at hrow
          rw [hrow.cellAt _ (by omega), ← hzl]
          simp
        · rw [hb.cell (lt_of_cell? (hwc i hi)), hwc i hi, huw]
      subst hvw
      have HRW := hide hrw
      clear hwc hws hlk hmw hrw
      go_wp2
      go_loopw [8] (fun i wr => ∃ (k : Nat), i = .int .i64 k ∧ k ≤ ls.length ∧ Below wo.heap.size wo wr) (fun i _ => ls.length - (intOf i).toNat)
      case atStart => exact ⟨0, rfl, by omega, Below.refl _ _⟩
      case round =>
        obtain ⟨k, rfl, hk2, hbr⟩ := hrel
        by_cases hlt : k < ls.length
        · obtain ⟨gi, ci, aow, cw, _, hci, k1, k2, k3⟩ := (unhide HW) _ hbr k hlt
          have hrl := Nat.le_trans (Spl.row_le ls k) htt
          generalize (ls.getD k []).length = n at *
          have hin1 : (0 : Int) ≤ (n : Int) := by omega
          have hin2 : (n : Int) < (n : Int) + 2 := by omega
          have hin3 : ((n : Int) + 2 != (n : Int) + 2) = false := by simp
          go_wp2
          go_quiet (fail)
          go_wp2
          go_roundw
          case rel => exact ⟨k + 1, by go_num, by omega, below_drewN hbr nq⟩
          case measure => simp [intOf]; omega
        · have hb1r := hbk.trans (hbr.mono hbk.size)
          have hbwr := bthen hb1 hb1r
          have HWh := hide (whole_yes g cp _ xs wr ((unhide hvs).below hbwr) (by omega) hcp1 hcp2 ((unhide hrm').below hb1r))
          clear HW
          go_wp2_with fail
          refine (unhide HWh).mono ?_
          rintro e q1 ⟨rfl, hq1⟩
          have hb1q := hb1r.trans (hq1.mono hb1r.size)
          have H5 := KO2 q1 _ (room_sk ((unhide hrm').below hb1q))
          clear HWh
          go_wp2_with fail
          refine (unhide H5).mono ?_
          rintro e q2 ⟨v5, rfl, hmu5, hq2⟩
          have hrw2 := (((unhide HRW).below hbr).below hq1).below hq2
          have HA5 := hide (sameAll_any v5 _ ls ls q2 (hmu5.rws (by omega)) hrw2)
          simp only [decide_true] at HA5
          have hbq := bthen (bthen hbwr hq1) hq2
          clear H5 hmu5 hrw2 HRW
          go_wp2_with fail
          refine (unhide HA5).mono ?_
          rintro e q3 ⟨rfl, hq3⟩
          have hb := bthen hbq hq3
          clear HA5
          go_wp2
          go_ret
          exact ⟨rfl, hb⟩
end Go.Proofs.Ytchjnplceelgoaa
