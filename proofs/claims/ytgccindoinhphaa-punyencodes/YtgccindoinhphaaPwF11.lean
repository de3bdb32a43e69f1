/- The walk of puny's write. -/
import Derived.Test.YtgccindoinhphaaPwE11
import Derived.Test.YtgccindoinhphaaRefF3
import Derived.Deep.DeepCutAuto
import Derived.Deep.CutBlock
namespace Go.Proofs.Ytgccindoinhphaa
open Go.RowKit

def WrP (w : World) (r : List Int × Int) (e : Ending) (w' : World) : Prop := e = .returned (.tuple #[.string (strOfNums r.1), .int .i64 r.2]) ∧ Below w.heap.size w w'

namespace Pu
theorem wrN_len (bias : Int) (j : Nat) : ∀ (f : Nat) (k v : Int), 0 ≤ v → v < 2 ^ j → (wrN bias f k v).length ≤ j + 1 := by
  induction j with
  | zero =>
    intro f k v h0 h1
    have hb := thr_bounds k bias
    rw [wrN_last (by simp at h1; omega)]; simp
  | succ j ih =>
    intro f k v h0 h1
    have hb := thr_bounds k bias
    by_cases hv : v < thr k bias
    · rw [wrN_last hv]; simp
    · cases f with
      | zero => simp [wrN]
      | succ f =>
        rw [wrN_more hv, List.length_cons]
        have hq : (v - thr k bias) / (36 - thr k bias) < 2 ^ j := by
          apply Int.ediv_lt_of_lt_mul (by omega)
          have h2 : v < 2 ^ j * 2 := by rw [← Int.pow_succ]; exact h1
          have hp : (0 : Int) ≤ 2 ^ j := Int.pow_nonneg (by decide)
          calc v - thr k bias < 2 ^ j * 2 := by omega
            _ ≤ 2 ^ j * (36 - thr k bias) := Int.mul_le_mul_of_nonneg_left (by omega) hp
        have := ih f (k + 1) _ (Int.ediv_nonneg (by omega) (by omega)) hq
        omega
theorem wrNum_len {v bias : Int} (h0 : 0 ≤ v) (h1 : v ≤ 2147483647) : (wrNum v bias).length ≤ 32 := wrN_len bias 31 _ _ _ h0 (by omega)
end Pu

theorem made_zero (n : Nat) : (madeCells (Value.int .i64 0).cells n) = ((List.replicate n (0 : Int)).map (Value.int .i64)).toArray := by
  apply Array.toList_inj.1
  refine List.ext_getElem (by simp [madeCells]) fun i h1 h2 => ?_
  simp [madeCells, Value.cells, Nat.mod_one]

theorem make_tally (n : Nat) (w : World) (hn : n ≤ 2050) : ∃ W, (Instr.makeSlice 59 (.int .i64 ((n : Int) + 1)) (.int .i64 ((n : Int) + 1))).run Try.prog w = .ok (.slice (some ⟨w.heap.size, 0, none⟩) (n + 1) (n + 1)) W ∧ TAt W w.heap.size (List.replicate (n + 1) 0) ∧ W = w.alloc (.cells ((List.replicate (n + 1) (0 : Int)).map (Value.int .i64)).toArray 3) := by
  obtain ⟨i0, hi, hz0, hz1, hz2⟩ := infoI_parts
  have h := run_make (P := Try.prog) w 59 3 i0 (.int .i64 0) Try.underlying59 hi hz0 .i64 .i64 ((n : Int) + 1) ((n : Int) + 1) (by omega) (by omega) (by rw [hz2]; omega) (by omega)
  rw [show ((n : Int) + 1).toNat = n + 1 by omega, hz1, Nat.mul_one, made_zero] at h
  exact ⟨_, h, heap_alloc_new w _, rfl⟩

theorem make_bytes (n : Nat) (w : World) (B : Nat) (hB : B ≤ w.heap.size) (hn : n ≤ 2050) : ∃ W, (Instr.makeSlice 40 (.int .i64 0) (.int .i64 ((n : Int) + 1))).run Try.prog w = .ok (.slice (some ⟨w.heap.size, 0, none⟩) 0 (n + 1)) W ∧ Ok .u8 5 W B (.slice (some ⟨w.heap.size, 0, none⟩) 0 (n + 1)) [] ∧ w.grownBy W none := by
  obtain ⟨i0, hi, hz0, hz1, hz2⟩ := infoB_parts
  obtain ⟨W, h1, h2, h3⟩ := run_make_own (P := Try.prog) w B 40 5 i0 (.int .u8 0) 1 Try.underlying40 hi hz0 hz1 .i64 .i64 (n + 1) (by rw [hz2]; omega) (by unfold maxLen; omega) hB
  exact ⟨W, by rw [show ((n : Int) + 1) = ((n + 1 : Nat) : Int) by omega]; exact h1, Ok.of (Fit.nil _) (by simp) h2 rfl rfl, h3⟩

theorem wr1_next {xs : List Int} {l : List Nat} {k : Nat} {T out : List Int} (hk : k < l.length) : Pu.wr1 xs (l.drop k) T out = Pu.wr1 xs (l.drop (k + 1)) (Pu.add T (l.getD k 0)) (out ++ [xs.getD (l.getD k 0) 0]) := by
  have : l.drop k = l.getD k 0 :: l.drop (k + 1) := by rw [List.drop_eq_getElem_cons hk, List.getD, List.getElem?_eq_getElem hk]; rfl
  rw [this, Pu.wr1]
theorem drop_cons {l : List Nat} {k : Nat} (hk : k < l.length) : l.drop k = l.getD k 0 :: l.drop (k + 1) := by rw [List.drop_eq_getElem_cons hk, List.getD, List.getElem?_eq_getElem hk]; rfl
theorem nints_at {l : List Nat} {k : Nat} (hk : k < l.length) : (nints l).getD k 0 = ((l.getD k 0 : Nat) : Int) := by simp [nints, List.getD, hk]
theorem getD_mem {l : List Nat} {k : Nat} (hk : k < l.length) : l.getD k 0 ∈ l := by rw [List.getD, List.getElem?_eq_getElem hk]; exact List.getElem_mem hk

set_option maxRecDepth 20000 in
set_option maxHeartbeats 8000000 in
theorem write_any (m : Nat) (HS : SortC m) (v : Value) (xs : List Int) (w : World) (hv : Sk .i32 w v xs) (hl : xs.length ≤ 2000) (hm : (Pu.idx xs Pu.highq).length ≤ m) (hsd : ∀ z ∈ xs, 0 ≤ z ∧ z ≤ 1114111) (ord : List Nat) (hord : Pu.sortF xs (Pu.idx xs Pu.highq) = ord)
    (hol : ∀ a ∈ ord, a < xs.length) (hln : (Pu.idx xs Pu.lowq).length + ord.length ≤ 2000)
    (hok : Pu.wok xs ord (Pu.wr1 xs (Pu.idx xs Pu.lowq) (List.replicate (xs.length + 1) 0) []).1 ((Pu.idx xs Pu.lowq).length : Int) 128 0 = true) :
    Calls Try.prog 22 #[v] w (WrP w (Pu.write xs ord)) := by
  have HP := hide (parted_any m HS v xs w hv (by omega) hm)
  obtain ⟨lo, hlo⟩ : ∃ lo, Pu.idx xs Pu.lowq = lo := ⟨_, rfl⟩
  have hlolt := Pu.idx_lt xs Pu.lowq
  have hlo128 : ∀ a ∈ lo, xs.getD a 0 < 128 := fun a ha => by
    rw [← hlo] at ha
    have := (List.mem_filter.1 ha).2
    simpa [Pu.lowq] using this
  have hR : Pu.write xs ord = Pu.wr2 xs ord (Pu.wr1 xs lo (List.replicate (xs.length + 1) 0) []).1 (lo.length : Int) 128 0 72 true ((Pu.wr1 xs lo (List.replicate (xs.length + 1) 0) []).2 ++ if lo.length = 0 then [] else [45]) := by
    unfold Pu.write; rw [hlo]
  have hpr : ∀ e w', PartP w xs e w' → ∃ v1 v2, e = .returned (.tuple #[v1, v2]) ∧ Sk .i64 w' v1 (nints lo) ∧ Sk .i64 w' v2 (nints ord) ∧ Below w.heap.size w w' := by
    rintro e w' ⟨v1, v2, h1, h2, h3, h4⟩
    rw [hlo] at h2
    rw [hord] at h3
    exact ⟨v1, v2, h1, h2.sk, h3.sk, h4⟩
  rw [hlo] at hok hln hlolt
  have HSD : Hid (∀ k, 0 ≤ xs.getD k 0 ∧ xs.getD k 0 ≤ 1114111) := fun k => by
    rcases Nat.lt_or_ge k xs.length with hk | hk
    · rw [List.getD, List.getElem?_eq_getElem hk]; exact hsd _ (List.getElem_mem hk)
    · rw [List.getD, List.getElem?_eq_none hk]; exact ⟨Int.le_refl 0, by decide⟩
  generalize Pu.write xs ord = R at *
  have HR := hide hR
  have HOK := hide hok
  have HPR := hide hpr
  have HLL := hide hlolt
  have HL1 := hide hlo128
  have HOL := hide hol
  have HV := hide hv
  obtain ⟨ao, cap, hvv, hc1, hc2⟩ := hv.shape
  subst hvv
  clear hv hm hsd hord hol hlo hlolt hlo128 hR hpr hok HS
  go_enter Try.func22, Try.ntmps22
  go_wp2_with fail
  refine (unhide HP).mono ?_
  intro e w1 hp
  obtain ⟨v1, v2, rfl, hs1, hs2, hb1⟩ := unhide HPR e w1 hp
  have HS1 := hide hs1
  have HS2 := hide hs2
  obtain ⟨a1, cp1, he1, _, _⟩ := hs1.shape
  obtain ⟨a2, cp2, he2, _, _⟩ := hs2.shape
  rw [nints_len] at he1 he2
  subst he1
  subst he2
  have HB1 := hide hb1
  have HXV := hide ((unhide HV).below hb1)
  clear hp hs1 hs2 hb1 HPR HP HV
  have HBG := fun W => hide (begun_any (lo.length : Int) W)
  go_wp2_with fail
  refine (unhide (HBG _)).mono ?_
  rintro e w2 ⟨rfl, hb2⟩
  clear HBG
  obtain ⟨W3, hW3⟩ : ∃ W3, w2.alloc (.cells #[.int .i64 (lo.length : Int), .int .i64 128, .int .i64 0, .int .i64 72, .bool true] 57) = W3 := ⟨_, rfl⟩
  have hst3 : StAt W3 w2.heap.size (lo.length : Int) 128 0 72 true := by rw [← hW3]; exact heap_alloc_new w2 _
  have hs3 : W3.heap.size = w2.heap.size + 1 := by rw [← hW3]; exact alloc_size _ _
  have hb3 : Below w1.heap.size w1 W3 := by rw [← hW3]; exact hb2.alloc hb2.size _
  obtain ⟨W4, hmk1, hT4, hW4⟩ := make_tally xs.length W3 (by omega)
  have hs4 : W4.heap.size = W3.heap.size + 1 := by rw [hW4]; exact alloc_size _ _
  have hst4 : StAt W4 w2.heap.size (lo.length : Int) 128 0 72 true := by rw [hW4]; exact hst3.alloc _
  have hb4 : Below w1.heap.size w1 W4 := by rw [hW4]; exact hb3.alloc hb3.size _
  have hsz2 := hb2.size
  obtain ⟨W5, hmk2, hO5, hg5⟩ := make_bytes xs.length W4 w1.heap.size (by omega) (by omega)
  obtain ⟨b, hb⟩ : ∃ b, w2.heap.size = b := ⟨_, rfl⟩
  obtain ⟨g, hg⟩ : ∃ g, W3.heap.size = g := ⟨_, rfl⟩
  obtain ⟨g2, hg2⟩ : ∃ g2, W4.heap.size = g2 := ⟨_, rfl⟩
  have hM0 : Wm w1 b g (lo.length : Int) 128 0 72 true (List.replicate (xs.length + 1) 0) [] (.slice (some ⟨g2, 0, none⟩) 0 (xs.length + 1)) W5 := by
    rw [← hb, ← hg, ← hg2]
    refine ⟨hst4.grown hg5 (by simp), hT4.grown hg5 (by simp), hO5, hb4.grown hg5 (by omega) (fun k hk => by cases hk), by omega, by omega, by omega, ?_, ?_⟩
    · simp only [Value.ownBlock]; intro hh; simp at hh; omega
    · simp only [Value.ownBlock]; intro hh; simp at hh; omega
  rw [hg] at hmk1
  rw [hg2] at hmk2
  have HM0 := hide hM0
  clear hst3 hb3 hT4 hW4 hs4 hst4 hb4 hO5 hg5 hM0 hb2 hs3
  go_wp2
  go_loopw [8, 10, 32] (fun bv _ jj wr => ∃ (k : Nat) (T out : List Int), jj = .int .i64 k ∧ k ≤ lo.length ∧ Wm w1 b g (lo.length : Int) 128 0 72 true T out bv wr ∧ Pu.Tb k T ∧ T.length = xs.length + 1 ∧ out.length = k ∧ Pu.wr1 xs lo (List.replicate (xs.length + 1) 0) [] = Pu.wr1 xs (lo.drop k) T out) (fun _ _ jj _ => lo.length - (intOf jj).toNat)
  case atStart => exact ⟨0, _, [], rfl, by omega, unhide HM0, fun t ht => by rw [List.eq_of_mem_replicate ht]; exact ⟨Int.le_refl 0, Int.le_refl 0⟩, by simp, rfl, by rw [List.drop_zero]⟩
  case round =>
    clear HM0 hmk1 hmk2 hW3 hb hg hg2
    obtain ⟨k, T, out, rfl, hk, hM, hTb, hTl, hout, hw1⟩ := hrel
    by_cases hlt : k < lo.length
    · obtain ⟨b1, o1, cq1, he1, _, _, hcl1⟩ := (unhide HS1).place (by rw [nints_len]; omega)
      rw [nints_len] at he1
      simp only [Value.slice.injEq] at he1
      obtain ⟨rfl, h9, rfl⟩ := he1
      clear h9
      have hcell1 : wr.cell? ⟨b1, o1 + k, none⟩ = some (.int .i64 ((lo.getD k 0 : Nat) : Int)) := by
        have h3 := hcl1 k (by rw [nints_len]; exact hlt)
        rw [nints_at hlt] at h3
        rw [hM.bel.cell (lt_of_cell? h3)]; exact h3
      have hcx : lo.getD k 0 < xs.length := unhide HLL _ (getD_mem hlt)
      have hc128 := unhide HL1 _ (getD_mem hlt)
      have HN1 := hide (hw1.trans (wr1_next hlt))
      generalize lo.getD k 0 = c at *
      obtain ⟨bx, ox, cqx, hex, _, _, hclx⟩ := (unhide HXV).place (by omega)
      simp only [Value.slice.injEq] at hex
      obtain ⟨rfl, h9, rfl⟩ := hex
      clear h9
      have hcellx : ∀ W, Below w1.heap.size w1 W → W.cell? ⟨bx, ox + c, none⟩ = some (.int .i32 (xs.getD c 0)) := fun W hb => by
        have h3 := hclx c hcx
        rw [hb.cell (lt_of_cell? h3)]; exact h3
      have HCX := hide hcellx
      have hzr := unhide HSD c
      have HAD := hide (add_any g T c wr hM.t (hTb.le (by omega)) (by omega) (by omega))
      rw [hTl] at HAD
      have HTB2 : Hid (Pu.Tb (k + 1 : Nat) (Pu.add T c)) := by have := Pu.add_Tb hTb (by omega) (by omega) c; show Pu.Tb _ _; rwa [show ((k + 1 : Nat) : Int) = (k : Int) + 1 by omega]
      have HTL2 : Hid ((Pu.add T c).length = xs.length + 1) := (Pu.add_len T c).trans hTl
      have HM := hide hM
      clear hM hTb hTl hw1 hcl1 hclx hcellx
      generalize Pu.add T c = T2 at *
      generalize xs.getD c 0 = z at *
      go_wp2_with fail
      refine (unhide HAD).mono ?_
      intro e wa hadd
      have hMa := (unhide HM).added hadd
      have hea := hadd.1
      subst hea
      have hcx2 := unhide HCX wa hMa.bel
      have hsa := hMa.size
      have HMa := hide hMa
      clear hadd hMa HAD HM
      have hzb : z % 256 = z := by omega
      go_wp2_with (at_builtin; refine wpList_append_oneB rfl (.tmp 39) (.tmp 45) rfl w1.heap.size _ out z _ rfl rfl (unhide HMa).ob rfl (fun y hy => by simp at hy; subst hy; exact u8_fit (by omega)) (by omega) (by omega) ?_)
      intro v' w' h1 h2 h3
      have HN := hide ((unhide HMa).wrote (.inr ⟨_, rfl⟩) h1 h2 h3)
      have HOL2 : Hid ((out ++ [z]).length = k + 1) := by show _ = _; simp [hout]
      clear h1 h2 h3 HMa
      go_wp2
      go_roundw
      case rel => exact ⟨k + 1, T2, out ++ [z], by go_num, by omega, unhide HN, unhide HTB2, unhide HTL2, unhide HOL2, unhide HN1⟩
      case measure => simp [intOf]; omega
    · have hke : k = lo.length := by omega
      have hw1' : Pu.wr1 xs lo (List.replicate (xs.length + 1) 0) [] = (T, out) := by rw [hw1, hke, List.drop_length]; rfl
      rw [hw1'] at HR HOK
      have hTbl : Pu.Tb (lo.length : Int) T := by rw [← hke]; exact hTb
      have HTB := hide hTbl
      have HTL := hide hTl
      clear hw1 hw1' hTb hTbl
      by_cases hz : lo.length = 0
      · have HM2 := hide hM
        have HOUT : Hid (out.length ≤ 3000 + 40 * 0) := by show _ ≤ _; omega
        clear hM
        go_wp2
        have HQ : Hid (R = Pu.wr2 xs (ord.drop 0) T ((lo.length : Int) + ((0 : Nat) : Int)) 128 0 72 true out) := by
          show R = _
          rw [List.drop_zero, unhide HR, if_pos hz]
          simp
        clear HR
        go_loopw [2, 3, 8, 12, 13, 56] (fun _ _ bv _ _ jj wr => ∃ (k : Nat) (T out : List Int) (n i bias : Int) (f : Bool), jj = .int .i64 k ∧ k ≤ ord.length ∧ Wm w1 b g ((lo.length : Int) + k) n i bias f T out bv wr ∧ Pu.Tb ((lo.length : Int) + k) T ∧ T.length = xs.length + 1 ∧ (0 ≤ n ∧ n ≤ 1114111) ∧ (0 ≤ i ∧ i ≤ (lo.length : Int) + k) ∧ (0 ≤ bias ∧ bias ≤ 468) ∧ out.length ≤ 3000 + 40 * k ∧ Pu.wok xs (ord.drop k) T ((lo.length : Int) + k) n i = true ∧ R = Pu.wr2 xs (ord.drop k) T ((lo.length : Int) + k) n i bias f out) (fun _ _ _ _ _ jj _ => ord.length - (intOf jj).toNat)
        case atStart => exact ⟨0, T, out, 128, 0, 72, true, rfl, by omega, by rw [show (lo.length : Int) + ((0 : Nat) : Int) = (lo.length : Int) by omega]; exact unhide HM2, by rw [show (lo.length : Int) + ((0 : Nat) : Int) = (lo.length : Int) by omega]; exact unhide HTB, unhide HTL, by omega, by omega, by omega, unhide HOUT, by rw [List.drop_zero, show (lo.length : Int) + ((0 : Nat) : Int) = (lo.length : Int) by omega]; exact unhide HOK, unhide HQ⟩
        case round =>
          clear HQ HM2 HTB HTL HOUT HOK
          obtain ⟨k, T, out, n, i, bias, f, rfl, hk, hM, hTb, hTl, hn, hi, hbias, hout, hwok, hR⟩ := hrel
          by_cases hlt : k < ord.length
          · obtain ⟨b2, o2, cq2, he2, _, _, hcl2⟩ := (unhide HS2).place (by rw [nints_len]; omega)
            rw [nints_len] at he2
            simp only [Value.slice.injEq] at he2
            obtain ⟨rfl, h9, rfl⟩ := he2
            clear h9
            have hcell2 : wr.cell? ⟨b2, o2 + k, none⟩ = some (.int .i64 ((ord.getD k 0 : Nat) : Int)) := by
              have h3 := hcl2 k (by rw [nints_len]; exact hlt)
              rw [nints_at hlt] at h3
              rw [hM.bel.cell (lt_of_cell? h3)]; exact h3
            have hcx : ord.getD k 0 < xs.length := unhide HOL _ (getD_mem hlt)
            have hdrop := drop_cons hlt
            generalize ord.getD k 0 = c at *
            obtain ⟨bx, ox, cqx, hex, _, _, hclx⟩ := (unhide HXV).place (by omega)
            simp only [Value.slice.injEq] at hex
            obtain ⟨rfl, h9, rfl⟩ := hex
            clear h9
            have hcellx : ∀ nq, (wr.drewN nq).cell? ⟨bx, ox + c, none⟩ = some (.int .i32 (xs.getD c 0)) := fun nq => by
              have h3 := hclx c hcx
              show wr.cell? _ = _
              rw [hM.bel.cell (lt_of_cell? h3)]; exact h3
            have hcellx0 := hcellx 0
            have hzr := unhide HSD c
            obtain ⟨s1, s2, s3⟩ := hM.size
            have hT3 : Pu.Tb 3000 T := hTb.le (by omega)
            have hab := Pu.ahead_bounds hT3 c
            rw [hdrop] at hwok hR
            obtain ⟨hd0, hn', hwn⟩ := Pu.wok_cons hwok
            have HAH := fun nq => hide (ahead_any g T c (wr.drewN nq) (hM.t.drewN nq) hT3 (by omega) (by omega))
            have HNU := fun nq => hide (number_q b ((lo.length : Int) + k) n i bias (xs.getD c 0) (Pu.ahead T c) f (wr.drewN nq) (hM.st.drewN nq) (by omega) hn (by omega) (by omega) (by omega))
            rw [hTl] at HAH
            have hdl : (xs.getD c 0 - n) * ((lo.length : Int) + k + 1) + Pu.ahead T c - i = Pu.dlt xs c T ((lo.length : Int) + k) n i := rfl
            rw [hdl] at HNU
            have HM := hide hM
            have HTB := hide hTb
            have HRR := hide hR
            have HWN := hide hwn
            clear hM hTb hT3 hwok hR hwn hdrop hcl2 hclx hdl
            generalize hde : Pu.dlt xs c T ((lo.length : Int) + k) n i = d at *
            have HDE := hide hde
            clear hde
            by_cases hov : 2147483647 < d
            · have HE := hide ((unhide HRR).trans (Pu.wr2_over (by rw [unhide HDE]; exact hov)))
              have HBE := hide (unhide HM).bel
              clear HRR HWN HDE HTB HM
              generalize Pu.ahead T c = ah at *
              generalize xs.getD c 0 = z at *
              go_wp2
              go_quiet (first | (go_at_call 36; exact Calls.quiet_of_same (unhide (HAH _))) | (go_at_call 35; exact Calls.quiet_of (unhide (HNU _))))
              have HF : Hid (WrP w R (.returned (.tuple #[.string ⟨#[]⟩, .int .i64 113])) (wr.drewN nq)) := by
                refine ⟨by rw [unhide HE]; rfl, ?_⟩
                exact (unhide HB1).trans (((unhide HBE).trans ((drewB ⟨nq, rfl⟩ : Below wr.heap.size wr _).mono s1)).mono (unhide HB1).size)
              clear HBE HE HAH HNU
              go_wp2
              go_ret2
              exact unhide HF
            · have hlenN := Pu.wrNum_len (v := d) (bias := bias) hd0 (by omega)
              have HE := hide ((unhide HRR).trans (Pu.wr2_step (by rw [unhide HDE]; exact hov)))
              have HWK : Hid (Pu.wok xs (ord.drop (k + 1)) (Pu.add T c) ((lo.length : Int) + k + 1) (n + (i + d) / ((lo.length : Int) + k + 1)) ((i + d) % ((lo.length : Int) + k + 1) + 1) = true) := by
                rcases unhide HWN with h | h
                · exact absurd h hov
                · exact h
              rw [unhide HDE] at HE
              have hr0 : 0 ≤ (i + d) % ((lo.length : Int) + k + 1) := Int.emod_nonneg _ (by omega)
              have hr1 : (i + d) % ((lo.length : Int) + k + 1) < (lo.length : Int) + k + 1 := Int.emod_lt_of_pos _ (by omega)
              have hab2 := Pu.adapt_bounds d ((lo.length : Int) + k + 1) f (by omega)
              have HAN : Hid (∀ nq, Calls Try.prog 37 #[u8, .int .i64 d, .int .i64 bias] (wr.drewN nq) (GrP w1.heap.size u8 (wr.drewN nq) (out ++ Pu.wrNum d bias))) := fun nq =>
                appendNumber_any w1.heap.size u8 out d bias (wr.drewN nq) ((unhide HM).drewN nq).ob (by show w1.heap.size ≤ wr.heap.size; exact s1) (by omega) (by omega) hbias
              have HSTP : Hid (∀ W bv, Wm w1 b g ((lo.length : Int) + k) n i bias f T (out ++ Pu.wrNum d bias) bv W → Calls Try.prog 38 #[.pointer (some ⟨b, 0, none⟩), .int .i64 d] W (StepPost W b ((lo.length : Int) + k + 1) (n + (i + d) / ((lo.length : Int) + k + 1)) ((i + d) % ((lo.length : Int) + k + 1) + 1) (Pu.adapt d ((lo.length : Int) + k + 1) f) ((i + d) % ((lo.length : Int) + k + 1)))) := fun W bv h =>
                step_any b ((lo.length : Int) + k) n i bias d f W h.st (by omega) (by omega) (by omega) (by omega)
              have HADD : Hid (∀ W, TAt W g T → Calls Try.prog 34 #[.slice (some ⟨g, 0, none⟩) (xs.length + 1) (xs.length + 1), .int .i64 c] W (AddP W g (Pu.add T c))) := fun W h => by
                have := add_any g T c W h ((unhide HTB).le (by omega)) (by omega) (by omega)
                rwa [hTl] at this
              have HTB2 : Hid (Pu.Tb ((lo.length : Int) + k + 1) (Pu.add T c)) := Pu.add_Tb (unhide HTB) (by omega) (by omega) c
              have HTL2 : Hid ((Pu.add T c).length = xs.length + 1) := (Pu.add_len T c).trans hTl
              clear HRR HWN HDE HTB hTl
              generalize hout2 : out ++ Pu.wrNum d bias = out2 at *
              have HOL2 : Hid (out2.length ≤ 3000 + 40 * (k + 1)) := by show _ ≤ _; rw [← hout2]; simp; omega
              clear hout2
              generalize Pu.add T c = T2 at *
              generalize Pu.adapt d ((lo.length : Int) + k + 1) f = ad at *
              generalize n + (i + d) / ((lo.length : Int) + k + 1) = n2 at *
              generalize (i + d) % ((lo.length : Int) + k + 1) = pl2 at *
              generalize Pu.ahead T c = ah at *
              generalize xs.getD c 0 = z at *
              have HMQ := hide fun nq => (unhide HM).drewN nq
              have hgg := (unhide HM).st.cells
              obtain ⟨_, _, _, c3, _⟩ := hgg
              clear HM
              go_wp2
              go_quiet (first | (go_at_call 36; exact Calls.quiet_of_same (unhide (HAH _))) | (go_at_call 35; exact Calls.quiet_of (unhide (HNU _))))
              have c3q : (wr.drewN nq).cell? ⟨b, 3, none⟩ = some (.int .i64 bias) := c3
              have HM1 := hide (unhide HMQ nq)
              have HA1 := hide (unhide HAN nq)
              have hsq : (wr.drewN nq).heap.size = wr.heap.size := rfl
              clear HMQ HAN HAH HNU c3 hcellx hcellx0 hcell2
              obtain ⟨wd, hwd⟩ : ∃ wd, wr.drewN nq = wd := ⟨_, rfl⟩
              rw [hwd] at c3q HM1 HA1 hsq ⊢
              clear hwd
              go_wp2_with (go_at_call 37; refine (unhide HA1).mono ?_; rintro e w3 ⟨bv3, rfl, ha1, ha2, ha3⟩)
              have hM3 := (unhide HM1).wrote (.inl rfl) ha1 ha2 ha3
              have HST3 := hide (unhide HSTP w3 bv3 hM3)
              have HM3 := hide hM3
              clear HA1 HM1 ha1 ha2 ha3 hM3 HSTP c3q hsq
              go_wp2_with (go_at_call 38; refine (unhide HST3).mono ?_; intro e w4 hst4; have he4 := hst4.1; subst he4)
              have hM4 := (unhide HM3).stepped hst4
              have HAD4 := hide (unhide HADD w4 hM4.t)
              have HM4 := hide hM4
              clear hst4 hM4 HM3 HST3 HADD
              go_wp2_with (go_at_call 34; refine (unhide HAD4).mono ?_; intro e w5 had5; have he5 := had5.1; subst he5)
              have hM5 := (unhide HM4).added had5
              have HM5 := hide hM5
              clear had5 hM5 HM4 HAD4
              have HCE : Hid ((lo.length : Int) + ((k + 1 : Nat) : Int) = (lo.length : Int) + k + 1) := by show _ = _; omega
              go_wp2
              go_roundw
              case rel => exact ⟨k + 1, T2, out2, n2, pl2 + 1, ad, false, by go_num, by omega, by rw [unhide HCE]; exact unhide HM5, by rw [unhide HCE]; exact unhide HTB2, unhide HTL2, hn', by omega, hab2, unhide HOL2, by rw [unhide HCE]; exact unhide HWK, by rw [unhide HCE]; exact unhide HE⟩
              case measure => simp [intOf]; omega
          · have hke : k = ord.length := by omega
            have HE : Hid (R = (out, 0)) := by
              show R = _
              rw [hR, hke, List.drop_length]; rfl
            have hcv := hM.ob.sk.conv
            obtain ⟨aob, cpb, hbv, _, _⟩ := hM.ob.sk.shape
            have HF : Hid (WrP w R (.returned (.tuple #[.string (strOfNums out), .int .i64 0])) wr) := ⟨by rw [unhide HE], (unhide HB1).trans (hM.bel.mono (unhide HB1).size)⟩
            clear hM hTb hTl hwok hR hke HE
            subst hbv
            generalize strOfNums out = so at *
            go_wp2
            go_ret2
            exact unhide HF
      · have hsa := hM.size
        have HM := hide hM
        clear hM
        go_wp2_with (at_builtin; refine wpList_append_oneB rfl (.tmp 51) (.tmp 52) rfl w1.heap.size _ out 45 _ rfl rfl (unhide HM).ob rfl (fun y hy => by simp at hy; subst hy; exact u8_fit (by omega)) (by omega) (by omega) ?_)
        intro v' w' h1 h2 h3
        have HM2 := hide ((unhide HM).wrote (.inr ⟨_, rfl⟩) h1 h2 h3)
        have HOUT : Hid ((out ++ [45]).length ≤ 3000 + 40 * 0) := by show _ ≤ _; simp; omega
        clear h1 h2 h3 HM
        go_wp2
        have HQ : Hid (R = Pu.wr2 xs (ord.drop 0) T ((lo.length : Int) + ((0 : Nat) : Int)) 128 0 72 true (out ++ [45])) := by
          show R = _
          rw [List.drop_zero, unhide HR, if_neg hz]
          simp
        clear HR
        go_loopw [2, 3, 8, 12, 13, 56] (fun _ _ bv _ _ jj wr => ∃ (k : Nat) (T out : List Int) (n i bias : Int) (f : Bool), jj = .int .i64 k ∧ k ≤ ord.length ∧ Wm w1 b g ((lo.length : Int) + k) n i bias f T out bv wr ∧ Pu.Tb ((lo.length : Int) + k) T ∧ T.length = xs.length + 1 ∧ (0 ≤ n ∧ n ≤ 1114111) ∧ (0 ≤ i ∧ i ≤ (lo.length : Int) + k) ∧ (0 ≤ bias ∧ bias ≤ 468) ∧ out.length ≤ 3000 + 40 * k ∧ Pu.wok xs (ord.drop k) T ((lo.length : Int) + k) n i = true ∧ R = Pu.wr2 xs (ord.drop k) T ((lo.length : Int) + k) n i bias f out) (fun _ _ _ _ _ jj _ => ord.length - (intOf jj).toNat)
        case atStart => exact ⟨0, T, (out ++ [45]), 128, 0, 72, true, rfl, by omega, by rw [show (lo.length : Int) + ((0 : Nat) : Int) = (lo.length : Int) by omega]; exact unhide HM2, by rw [show (lo.length : Int) + ((0 : Nat) : Int) = (lo.length : Int) by omega]; exact unhide HTB, unhide HTL, by omega, by omega, by omega, unhide HOUT, by rw [List.drop_zero, show (lo.length : Int) + ((0 : Nat) : Int) = (lo.length : Int) by omega]; exact unhide HOK, unhide HQ⟩
        case round =>
          clear HQ HM2 HTB HTL HOUT HOK
          obtain ⟨k, T, out, n, i, bias, f, rfl, hk, hM, hTb, hTl, hn, hi, hbias, hout, hwok, hR⟩ := hrel
          by_cases hlt : k < ord.length
          · obtain ⟨b2, o2, cq2, he2, _, _, hcl2⟩ := (unhide HS2).place (by rw [nints_len]; omega)
            rw [nints_len] at he2
            simp only [Value.slice.injEq] at he2
            obtain ⟨rfl, h9, rfl⟩ := he2
            clear h9
            have hcell2 : wr.cell? ⟨b2, o2 + k, none⟩ = some (.int .i64 ((ord.getD k 0 : Nat) : Int)) := by
              have h3 := hcl2 k (by rw [nints_len]; exact hlt)
              rw [nints_at hlt] at h3
              rw [hM.bel.cell (lt_of_cell? h3)]; exact h3
            have hcx : ord.getD k 0 < xs.length := unhide HOL _ (getD_mem hlt)
            have hdrop := drop_cons hlt
            generalize ord.getD k 0 = c at *
            obtain ⟨bx, ox, cqx, hex, _, _, hclx⟩ := (unhide HXV).place (by omega)
            simp only [Value.slice.injEq] at hex
            obtain ⟨rfl, h9, rfl⟩ := hex
            clear h9
            have hcellx : ∀ nq, (wr.drewN nq).cell? ⟨bx, ox + c, none⟩ = some (.int .i32 (xs.getD c 0)) := fun nq => by
              have h3 := hclx c hcx
              show wr.cell? _ = _
              rw [hM.bel.cell (lt_of_cell? h3)]; exact h3
            have hcellx0 := hcellx 0
            have hzr := unhide HSD c
            obtain ⟨s1, s2, s3⟩ := hM.size
            have hT3 : Pu.Tb 3000 T := hTb.le (by omega)
            have hab := Pu.ahead_bounds hT3 c
            rw [hdrop] at hwok hR
            obtain ⟨hd0, hn', hwn⟩ := Pu.wok_cons hwok
            have HAH := fun nq => hide (ahead_any g T c (wr.drewN nq) (hM.t.drewN nq) hT3 (by omega) (by omega))
            have HNU := fun nq => hide (number_q b ((lo.length : Int) + k) n i bias (xs.getD c 0) (Pu.ahead T c) f (wr.drewN nq) (hM.st.drewN nq) (by omega) hn (by omega) (by omega) (by omega))
            rw [hTl] at HAH
            have hdl : (xs.getD c 0 - n) * ((lo.length : Int) + k + 1) + Pu.ahead T c - i = Pu.dlt xs c T ((lo.length : Int) + k) n i := rfl
            rw [hdl] at HNU
            have HM := hide hM
            have HTB := hide hTb
            have HRR := hide hR
            have HWN := hide hwn
            clear hM hTb hT3 hwok hR hwn hdrop hcl2 hclx hdl
            generalize hde : Pu.dlt xs c T ((lo.length : Int) + k) n i = d at *
            have HDE := hide hde
            clear hde
            by_cases hov : 2147483647 < d
            · have HE := hide ((unhide HRR).trans (Pu.wr2_over (by rw [unhide HDE]; exact hov)))
              have HBE := hide (unhide HM).bel
              clear HRR HWN HDE HTB HM
              generalize Pu.ahead T c = ah at *
              generalize xs.getD c 0 = z at *
              go_wp2
              go_quiet (first | (go_at_call 36; exact Calls.quiet_of_same (unhide (HAH _))) | (go_at_call 35; exact Calls.quiet_of (unhide (HNU _))))
              have HF : Hid (WrP w R (.returned (.tuple #[.string ⟨#[]⟩, .int .i64 113])) (wr.drewN nq)) := by
                refine ⟨by rw [unhide HE]; rfl, ?_⟩
                exact (unhide HB1).trans (((unhide HBE).trans ((drewB ⟨nq, rfl⟩ : Below wr.heap.size wr _).mono s1)).mono (unhide HB1).size)
              clear HBE HE HAH HNU
              go_wp2
              go_ret2
              exact unhide HF
            · have hlenN := Pu.wrNum_len (v := d) (bias := bias) hd0 (by omega)
              have HE := hide ((unhide HRR).trans (Pu.wr2_step (by rw [unhide HDE]; exact hov)))
              have HWK : Hid (Pu.wok xs (ord.drop (k + 1)) (Pu.add T c) ((lo.length : Int) + k + 1) (n + (i + d) / ((lo.length : Int) + k + 1)) ((i + d) % ((lo.length : Int) + k + 1) + 1) = true) := by
                rcases unhide HWN with h | h
                · exact absurd h hov
                · exact h
              rw [unhide HDE] at HE
              have hr0 : 0 ≤ (i + d) % ((lo.length : Int) + k + 1) := Int.emod_nonneg _ (by omega)
              have hr1 : (i + d) % ((lo.length : Int) + k + 1) < (lo.length : Int) + k + 1 := Int.emod_lt_of_pos _ (by omega)
              have hab2 := Pu.adapt_bounds d ((lo.length : Int) + k + 1) f (by omega)
              have HAN : Hid (∀ nq, Calls Try.prog 37 #[u8, .int .i64 d, .int .i64 bias] (wr.drewN nq) (GrP w1.heap.size u8 (wr.drewN nq) (out ++ Pu.wrNum d bias))) := fun nq =>
                appendNumber_any w1.heap.size u8 out d bias (wr.drewN nq) ((unhide HM).drewN nq).ob (by show w1.heap.size ≤ wr.heap.size; exact s1) (by omega) (by omega) hbias
              have HSTP : Hid (∀ W bv, Wm w1 b g ((lo.length : Int) + k) n i bias f T (out ++ Pu.wrNum d bias) bv W → Calls Try.prog 38 #[.pointer (some ⟨b, 0, none⟩), .int .i64 d] W (StepPost W b ((lo.length : Int) + k + 1) (n + (i + d) / ((lo.length : Int) + k + 1)) ((i + d) % ((lo.length : Int) + k + 1) + 1) (Pu.adapt d ((lo.length : Int) + k + 1) f) ((i + d) % ((lo.length : Int) + k + 1)))) := fun W bv h =>
                step_any b ((lo.length : Int) + k) n i bias d f W h.st (by omega) (by omega) (by omega) (by omega)
              have HADD : Hid (∀ W, TAt W g T → Calls Try.prog 34 #[.slice (some ⟨g, 0, none⟩) (xs.length + 1) (xs.length + 1), .int .i64 c] W (AddP W g (Pu.add T c))) := fun W h => by
                have := add_any g T c W h ((unhide HTB).le (by omega)) (by omega) (by omega)
                rwa [hTl] at this
              have HTB2 : Hid (Pu.Tb ((lo.length : Int) + k + 1) (Pu.add T c)) := Pu.add_Tb (unhide HTB) (by omega) (by omega) c
              have HTL2 : Hid ((Pu.add T c).length = xs.length + 1) := (Pu.add_len T c).trans hTl
              clear HRR HWN HDE HTB hTl
              generalize hout2 : out ++ Pu.wrNum d bias = out2 at *
              have HOL2 : Hid (out2.length ≤ 3000 + 40 * (k + 1)) := by show _ ≤ _; rw [← hout2]; simp; omega
              clear hout2
              generalize Pu.add T c = T2 at *
              generalize Pu.adapt d ((lo.length : Int) + k + 1) f = ad at *
              generalize n + (i + d) / ((lo.length : Int) + k + 1) = n2 at *
              generalize (i + d) % ((lo.length : Int) + k + 1) = pl2 at *
              generalize Pu.ahead T c = ah at *
              generalize xs.getD c 0 = z at *
              have HMQ := hide fun nq => (unhide HM).drewN nq
              have hgg := (unhide HM).st.cells
              obtain ⟨_, _, _, c3, _⟩ := hgg
              clear HM
              go_wp2
              go_quiet (first | (go_at_call 36; exact Calls.quiet_of_same (unhide (HAH _))) | (go_at_call 35; exact Calls.quiet_of (unhide (HNU _))))
              have c3q : (wr.drewN nq).cell? ⟨b, 3, none⟩ = some (.int .i64 bias) := c3
              have HM1 := hide (unhide HMQ nq)
              have HA1 := hide (unhide HAN nq)
              have hsq : (wr.drewN nq).heap.size = wr.heap.size := rfl
              clear HMQ HAN HAH HNU c3 hcellx hcellx0 hcell2
              obtain ⟨wd, hwd⟩ : ∃ wd, wr.drewN nq = wd := ⟨_, rfl⟩
              rw [hwd] at c3q HM1 HA1 hsq ⊢
              clear hwd
              go_wp2_with (go_at_call 37; refine (unhide HA1).mono ?_; rintro e w3 ⟨bv3, rfl, ha1, ha2, ha3⟩)
              have hM3 := (unhide HM1).wrote (.inl rfl) ha1 ha2 ha3
              have HST3 := hide (unhide HSTP w3 bv3 hM3)
              have HM3 := hide hM3
              clear HA1 HM1 ha1 ha2 ha3 hM3 HSTP c3q hsq
              go_wp2_with (go_at_call 38; refine (unhide HST3).mono ?_; intro e w4 hst4; have he4 := hst4.1; subst he4)
              have hM4 := (unhide HM3).stepped hst4
              have HAD4 := hide (unhide HADD w4 hM4.t)
              have HM4 := hide hM4
              clear hst4 hM4 HM3 HST3 HADD
              go_wp2_with (go_at_call 34; refine (unhide HAD4).mono ?_; intro e w5 had5; have he5 := had5.1; subst he5)
              have hM5 := (unhide HM4).added had5
              have HM5 := hide hM5
              clear had5 hM5 HM4 HAD4
              have HCE : Hid ((lo.length : Int) + ((k + 1 : Nat) : Int) = (lo.length : Int) + k + 1) := by show _ = _; omega
              go_wp2
              go_roundw
              case rel => exact ⟨k + 1, T2, out2, n2, pl2 + 1, ad, false, by go_num, by omega, by rw [unhide HCE]; exact unhide HM5, by rw [unhide HCE]; exact unhide HTB2, unhide HTL2, hn', by omega, hab2, unhide HOL2, by rw [unhide HCE]; exact unhide HWK, by rw [unhide HCE]; exact unhide HE⟩
              case measure => simp [intOf]; omega
          · have hke : k = ord.length := by omega
            have HE : Hid (R = (out, 0)) := by
              show R = _
              rw [hR, hke, List.drop_length]; rfl
            have hcv := hM.ob.sk.conv
            obtain ⟨aob, cpb, hbv, _, _⟩ := hM.ob.sk.shape
            have HF : Hid (WrP w R (.returned (.tuple #[.string (strOfNums out), .int .i64 0])) wr) := ⟨by rw [unhide HE], (unhide HB1).trans (hM.bel.mono (unhide HB1).size)⟩
            clear hM hTb hTl hwok hR hke HE
            subst hbv
            generalize strOfNums out = so at *
            go_wp2
            go_ret2
            exact unhide HF
end Go.Proofs.Ytgccindoinhphaa
