/- The document's Encode. -/
import Derived.Deep.CutBlock
import Derived.Deep.DeepCutAuto
import Derived.Test.YtgccindoinhphaaPgD11
import Derived.Test.YtgccindoinhphaaPhN11
namespace Go.Proofs.Ytgccindoinhphaa
open Go.RowKit
set_option maxRecDepth 20000 in
set_option maxHeartbeats 16000000 in
theorem refEncode11_any (v : Value) (xs : List Int) (w : World) (hv : Sk .i32 w v xs) (hl : xs.length ≤ 2000) : Calls Try.prog 11 #[v] w (WrP w (Pu.encode xs)) := by
  have HSN := hide (refSound_any v xs w hv)
  obtain ⟨ao, cap, hvv, hc1, hc2⟩ := hv.shape
  subst hvv
  have HV := hide hv
  clear hv
  cases hb : allb okb xs with
  | false =>
    have HF : Hid (WrP w (Pu.encode xs) (.returned (.tuple #[.string ⟨#[]⟩, .int .i64 31])) w) := by
      refine ⟨?_, Below.refl _ _⟩
      unfold Pu.encode; rw [if_pos hb]; rfl
    rw [hb] at HSN
    clear hb HV
    generalize Pu.encode xs = R at *
    go_enter Try.func11, Try.ntmps11
    go_wp2_with (go_at_call 19; refine (unhide HSN).mono ?_; rintro e wq ⟨rfl, rfl⟩; clear HSN)
    go_ret2
    exact unhide HF
  | true =>
    rw [hb] at HSN
    go_enter Try.func11, Try.ntmps11
    have HRG : Hid (∀ k, k < xs.length → 0 ≤ xs.getD k 0 ∧ xs.getD k 0 ≤ 1114111) := fun k hk => Pu.at_range hb hk
    have HSEL : Hid (∀ k, Pu.sel xs (fun k => Pu.lowq (xs.getD k 0)) (k + 1) = Pu.sel xs (fun k => Pu.lowq (xs.getD k 0)) k ++ if Pu.lowq (xs.getD k 0) then [xs.getD k 0] else []) := fun k => Pu.sel_succ _ _ k
    have HSZ : Hid (∀ k, k ≤ xs.length → (Pu.sel xs (fun k => Pu.lowq (xs.getD k 0)) k).length ≤ 2000 ∧ (strOfNums (Pu.sel xs (fun k => Pu.lowq (xs.getD k 0)) k)).size ≤ 2000) := fun k hk => by
      rw [strOfNums_size, Pu.sel_len]; have := Pu.cnt_le (fun k => Pu.lowq (xs.getD k 0)) k; omega
    have HST := fun L h1 h2 => hide (Pu.Hd.start hl hb (L := L) h1 h2)
    obtain ⟨L, hL⟩ : ∃ L, Pu.sel xs (fun k => Pu.lowq (xs.getD k 0)) xs.length = L := ⟨_, rfl⟩
    have HL := hide hL
    have hLl : L.length ≤ 2000 := by rw [← hL]; exact (unhide HSZ _ (Nat.le_refl _)).1
    have HIX : Hid ((Pu.idx xs Pu.lowq).length = L.length ∧ (Pu.wr1 xs (Pu.idx xs Pu.lowq) (List.replicate (xs.length + 1) 0) []).2 = L) := ⟨by rw [← hL, Pu.sel_len]; rfl, by rw [Pu.wr1_out, List.nil_append, ← hL]; rfl⟩
    clear hL hb
    go_upto_block 0 with (go_at_call 19; refine (unhide HSN).mono ?_; rintro e wq ⟨rfl, rfl⟩; clear HSN)
    go_cut [4, 5, 6] (fun hh cc _ wc => hh = .string (strOfNums L) ∧ cc = .int .i64 (L.length : Int) ∧ Below wq.heap.size wq wc)
    case first =>
      go_wp2
      go_loopw [4, 5, 6] (fun hh cc ii wr => ∃ k : Nat, ii = .int .i64 k ∧ k ≤ xs.length ∧ hh = .string (strOfNums (Pu.sel xs (fun k => Pu.lowq (xs.getD k 0)) k)) ∧ cc = .int .i64 ((Pu.sel xs (fun k => Pu.lowq (xs.getD k 0)) k).length : Int) ∧ Below wq.heap.size wq wr) (fun _ _ ii _ => 2001 - (intOf ii).toNat)
      case atStart => exact ⟨0, rfl, by omega, rfl, rfl, Below.refl _ _⟩
      case round =>
        obtain ⟨k, rfl, hk, rfl, rfl, hbel⟩ := hrel
        have hsz := unhide HSZ k hk
        have hbs := hbel.size
        by_cases hlt : k < xs.length
        · obtain ⟨bx, ox, cqx, hex, _, _, hclx⟩ := (unhide HV).place (by omega)
          simp only [Value.slice.injEq] at hex
          obtain ⟨rfl, h9, rfl⟩ := hex
          clear h9
          have hcell : wr.cell? ⟨bx, ox + k, none⟩ = some (.int .i32 (xs.getD k 0)) := by
            have h3 := hclx k hlt
            rw [hbel.cell (lt_of_cell? h3)]; exact h3
          have hrg := unhide HRG k hlt
          have hnx := unhide HSEL k
          by_cases hlow : xs.getD k 0 < 128
          · have hq : Pu.lowq (xs.getD k 0) = true := decide_eq_true hlow
            rw [hq, if_pos rfl] at hnx
            have HBA := fun c => hide (hbel.alloc hbs (.cells #[.int .u8 c] 5))
            have HNX := hide hnx
            clear hnx hq hclx hbel
            generalize xs.getD k 0 = c at hcell hrg hlow HNX
            generalize Pu.sel xs (fun k => Pu.lowq (xs.getD k 0)) k = zs at *
            have HAP := hide (str_app zs [c])
            have hcv : (convert 40 9 (.slice (some ⟨wr.heap.size, 0, none⟩) 1 1)).run Try.prog (wr.alloc (.cells #[.int .u8 c] 5)) = .ok (.string (strOfNums [c])) (wr.alloc (.cells #[.int .u8 c] 5)) :=
              Sk.conv (Sk.lit .u8 5 wr wr.heap.size rfl [c] 1 rfl _ rfl (0, 0) (fun z hz => by simp at hz; subst hz; exact u8_fit (by omega)) (by simp))
            have hz2 : (strOfNums [c]).size = 1 := strOfNums_size [c]
            generalize strOfNums zs = sz at *
            generalize strOfNums [c] = sc at *
            go_wp2
            go_roundw
            case rel => exact ⟨k + 1, by go_num, by omega, by rw [unhide HNX, ← unhide HAP], by rw [unhide HNX, List.length_append]; rfl, unhide (HBA _)⟩
            case measure => simp [intOf]; omega
          · have hq : Pu.lowq (xs.getD k 0) = false := decide_eq_false hlow
            rw [hq, if_neg (by simp), List.append_nil] at hnx
            have HNX := hide hnx
            have HBE := hide hbel
            clear hnx hq hclx hbel
            generalize xs.getD k 0 = c at hcell hrg hlow
            generalize hzs : Pu.sel xs (fun k => Pu.lowq (xs.getD k 0)) k = zs at *
            clear hzs
            have HNS := hide (congrArg strOfNums (unhide HNX))
            have HNL := hide (congrArg List.length (unhide HNX))
            clear HNX
            generalize strOfNums zs = sz at *
            generalize zs.length = zl at *
            go_wp2
            go_roundw
            case rel => exact ⟨k + 1, by go_num, by omega, by rw [unhide HNS], by rw [unhide HNL], unhide HBE⟩
            case measure => simp [intOf]; omega
        · have hkl : k = xs.length := by omega
          subst hkl
          have HE := hide hbel
          rw [unhide HL]
          clear hbel
          go_wp2
          go_meet
          case rel => exact ⟨rfl, rfl, unhide HE⟩
    case rest =>
      obtain ⟨rfl, rfl, hbel⟩ := hcut
      have hHd := unhide (HST L (unhide HIX).1 (unhide HIX).2)
      clear HST HIX HSEL HSZ HL
      generalize Pu.encode xs = R at *
      have HHD := hide hHd
      have hp0 := hHd.pb
      have HBE := hide hbel
      have hbs := hbel.size
      have HAP := hide (str_app L [45])
      have hsL := strOfNums_size L
      have HNL : Hid (L.length = 0 → L = []) := fun h => List.eq_nil_of_length_eq_zero h
      clear hHd hbel
      obtain ⟨out, hout⟩ : ∃ o, (L ++ if L.length = 0 then [] else [45]) = o := ⟨_, rfl⟩
      have HOUT := hide hout
      rw [hout] at HHD
      clear hout
      obtain ⟨wo, hwo⟩ : ∃ wo, wo = wc := ⟨_, rfl⟩
      subst hwo
      have HP0 := hide hp0
      have hll : (0 : Int) ≤ (L.length : Int) ∧ (L.length : Int) ≤ 2000 := by omega
      have HSP : Hid ((L.length = 0 ∧ strOfNums out = strOfNums L) ∨ (¬ L.length = 0 ∧ strOfNums out = strOfNums L ++ ⟨#[45]⟩)) := by
        by_cases hL0 : L.length = 0
        · refine .inl ⟨hL0, ?_⟩
          rw [← unhide HOUT, if_pos hL0, List.append_nil]
        · refine .inr ⟨hL0, ?_⟩
          rw [← unhide HOUT, if_neg hL0, ← str_app]; rfl
      have hsl : (strOfNums L).size ≤ 2000 := by omega
      clear HOUT HAP HNL hp0 hsL
      generalize strOfNums L = sL at *
      generalize hso : strOfNums out = so at *
      have HSO0 := hide hso
      clear hso
      generalize L.length = ll at *
      go_upto_if 43 with fail
      go_cut [4] (fun ss wd => ss = .string so ∧ wd = wo)
      case first =>
        clear HHD HBE
        rcases unhide HSP with ⟨hL0, hso⟩ | ⟨hL0, hso⟩
        · have hn0 : ¬ (0 < (ll : Int)) := by omega
          have HS4 := hide hso
          clear hso hL0 HSP
          go_wp2
          go_meet
          case rel => exact ⟨by rw [unhide HS4], rfl⟩
        · have hn0 : 0 < (ll : Int) := by omega
          have HS4 := hide hso
          clear hso hL0 HSP
          go_wp2
          go_meet
          case rel => exact ⟨by rw [unhide HS4], rfl⟩
      case rest =>
        obtain ⟨rfl, rfl⟩ := hcut
        have HS5 : Hid (Value.string so = .string (strOfNums out)) := by show _ = _; rw [unhide HSO0]
        clear HSP HSO0 hsl
        generalize Value.string so = v4 at *
        generalize sL = sL2 at *
        go_wp2
        go_loopw [2, 3, 4, 5, 7, 8, 9, 10, 11, 12, 13] (fun _ _ ss hh nn dd bb ff _ _ _ wr => ∃ (n p bias delta : Int) (first : Bool) (o : List Int), ss = .string (strOfNums o) ∧ hh = .int .i64 p ∧ nn = .int .i64 n ∧ dd = .int .i64 delta ∧ bb = .int .i64 bias ∧ ff = .bool first ∧ Pu.Hd xs R n p bias first o delta ∧ Below wq.heap.size wq wr) (fun _ _ _ _ nn _ _ _ _ _ _ _ => 1114113 - (intOf nn).toNat)
        case atStart => exact ⟨128, (ll : Int), 72, 0, true, out, unhide HS5, rfl, rfl, rfl, rfl, rfl, unhide HHD, unhide HBE⟩
        case round =>
          clear HHD HBE HP0 hbs HS5
          obtain ⟨n, p, bias, delta, first, o, rfl, rfl, rfl, rfl, rfl, rfl, hH, hb⟩ := hrel
          obtain ⟨hp1, hp2, hp3⟩ := hH.pb
          have hd1 := hH.d1
          obtain ⟨hex0, hn0, hn1, hd0, hb0, hb1, ho⟩ := id hH
          clear hex0
          have HH := hide hH
          have HB := hide hb
          have hbs := hb.size
          by_cases hlt : p < (xs.length : Int)
          · have HMO := hide (hH.more hlt)
            clear hH hb
            obtain ⟨so, hso⟩ : ∃ so, strOfNums o = so := ⟨_, rfl⟩
            have HSO := hide hso
            rw [hso]
            clear hso ho
            obtain ⟨wo, hwo⟩ : ∃ wo, wo = wr := ⟨_, rfl⟩
            subst hwo
            go_upto_block 4 with fail
            go_cut [11, 12] (fun mm _ wd => wd = wo ∧ ∃ m, mm = .int .i64 m ∧ n ≤ m ∧ m ≤ 1114111 ∧ ∀ k, k < xs.length → n ≤ xs.getD k 0 → m ≤ xs.getD k 0)
            case first =>
              clear HSO
              go_wp2
              go_loopw [11, 12] (fun mm ii wd => wd = wo ∧ ∃ (k : Nat) (m : Int), ii = .int .i64 k ∧ k ≤ xs.length ∧ mm = .int .i64 m ∧ n ≤ m ∧ m ≤ 1114112 ∧ (∀ j, j < k → n ≤ xs.getD j 0 → m ≤ xs.getD j 0)) (fun _ ii _ => 2001 - (intOf ii).toNat)
              case atStart => exact ⟨rfl, 0, 1114112, rfl, by omega, rfl, by omega, by omega, fun j hj => by omega⟩
              case round =>
                obtain ⟨hwr, k, m, rfl, hk, rfl, hm0, hm1, hno⟩ := hrel
                subst hwr
                have HNO := hide hno
                clear hno
                by_cases hkl : k < xs.length
                · obtain ⟨bx, ox, cqx, hex, _, _, hclx⟩ := (unhide HV).place (by omega)
                  simp only [Value.slice.injEq] at hex
                  obtain ⟨rfl, h9, rfl⟩ := hex
                  clear h9
                  have hcell : wr.cell? ⟨bx, ox + k, none⟩ = some (.int .i32 (xs.getD k 0)) := by
                    have h3 := hclx k hkl
                    rw [(unhide HB).cell (lt_of_cell? h3)]; exact h3
                  have hrg := unhide HRG k hkl
                  by_cases hnc : n ≤ xs.getD k 0
                  · have HN2 : Hid (∀ j, j < k + 1 → n ≤ xs.getD j 0 → min m (xs.getD k 0) ≤ xs.getD j 0) := fun j hj hn => by
                      by_cases hjk : j = k
                      · subst hjk; omega
                      · have := unhide HNO j (by omega) hn; omega
                    clear hclx HNO
                    generalize xs.getD k 0 = c at *
                    go_wp2
                    go_roundw
                    case rel => exact ⟨by first | rfl | trivial, k + 1, min m c, by go_num, by omega, by first | rfl | go_num, by omega, by omega, unhide HN2⟩
                    case measure => simp [intOf]; omega
                  · have HN2 : Hid (∀ j, j < k + 1 → n ≤ xs.getD j 0 → m ≤ xs.getD j 0) := fun j hj hn => by
                      by_cases hjk : j = k
                      · subst hjk; omega
                      · exact unhide HNO j (by omega) hn
                    clear hclx HNO
                    generalize xs.getD k 0 = c at *
                    go_wp2
                    go_roundw
                    case rel => exact ⟨by first | rfl | trivial, k + 1, m, by go_num, by omega, rfl, by omega, by omega, unhide HN2⟩
                    case measure => simp [intOf]; omega
                · have hkk : k = xs.length := by omega
                  subst hkk
                  have hm2 : m ≤ 1114111 := by
                    obtain ⟨j, hj, hn⟩ := unhide HMO
                    have := unhide HNO j hj hn
                    have := unhide HRG j hj
                    omega
                  go_wp2
                  go_meet
                  case rel => exact ⟨by first | rfl | trivial, m, rfl, hm0, hm2, unhide HNO⟩
            case rest =>
              obtain ⟨hwr, m, rfl, hm0, hm1, hno⟩ := hcut
              subst hwr
              have HW0 := hide ((unhide HH).go hm0 hm1 hno)
              have hpr := Pu.mul_up (a := m - n) (b := p + 1) (A := 1114112) (B := 2001) (by omega) (by omega) (by omega) (by omega)
              clear HH HMO hno
              generalize hpp : delta + (m - n) * (p + 1) = d2 at HW0
              have HPP := hide hpp
              clear hpp
              have HSOX := HSO
              go_wp2
              go_loopw [2, 3, 4, 5, 8, 9, 10, 13] (fun _ _ ss hh dd bb ff ii wd => ∃ (j : Nat) (p bias delta : Int) (first : Bool) (o : List Int), ss = .string (strOfNums o) ∧ hh = .int .i64 p ∧ dd = .int .i64 delta ∧ bb = .int .i64 bias ∧ ff = .bool first ∧ ii = .int .i64 j ∧ j ≤ xs.length ∧ Pu.Wd xs R m j p bias first o delta ∧ Below wq.heap.size wq wd) (fun _ _ _ _ _ _ _ ii _ => 2001 - (intOf ii).toNat)
              case atStart => exact ⟨0, p, bias, d2, first, o, by rw [unhide HSO], rfl, by rw [← unhide HPP], rfl, rfl, rfl, by omega, unhide HW0, unhide HB⟩
              case round =>
                clear HW0 HPP HSO HSOX hpr HB hbs hlt hd1 hd0 hb0 hb1 hp1 hp2
                obtain ⟨j, p, bias, delta, first, o, rfl, rfl, rfl, rfl, rfl, rfl, hj, hW, hb⟩ := hrel
                obtain ⟨hp1, hp2, _⟩ := hW.pb
                have hd1 := hW.d1 hj
                obtain ⟨hex0, hq0, hq1, hd0, hb0, hb1, ho⟩ := id hW
                clear hex0 hq0 hq1
                have hso : (strOfNums o).size ≤ 70000 := by rw [strOfNums_size]; omega
                have HB := hide hb
                have hbs := hb.size
                by_cases hjl : j < xs.length
                · obtain ⟨bx, ox, cqx, hex, _, _, hclx⟩ := (unhide HV).place (by omega)
                  simp only [Value.slice.injEq] at hex
                  obtain ⟨rfl, h9, rfl⟩ := hex
                  clear h9
                  have hcell : wr.cell? ⟨bx, ox + j, none⟩ = some (.int .i32 (xs.getD j 0)) := by
                    have h3 := hclx j hjl
                    rw [hb.cell (lt_of_cell? h3)]; exact h3
                  have hrg := unhide HRG j hjl
                  clear hclx hb
                  by_cases hc1 : xs.getD j 0 < m
                  · have HW2 := hide (hW.below hjl hc1)
                    clear hW ho
                    generalize xs.getD j 0 = c at *
                    generalize hgo : strOfNums o = so at *
                    have HGO := hide hgo
                    clear hgo
                    go_wp2
                    go_roundw
                    case rel => exact ⟨j + 1, p, bias, delta + 1, first, o, by rw [unhide HGO], rfl, by go_num, rfl, rfl, by go_num, by omega, unhide HW2, unhide HB⟩
                    case measure => simp [intOf]; omega
                  · by_cases hc2 : m < xs.getD j 0
                    · have HW2 := hide (hW.above hjl hc2)
                      have hne : (xs.getD j 0 == m) = false := by rw [beq_eq_false_iff_ne]; omega
                      clear hW ho
                      generalize xs.getD j 0 = c at *
                      generalize hgo : strOfNums o = so at *
                      have HGO := hide hgo
                      clear hgo
                      go_wp2
                      go_roundw
                      case rel => exact ⟨j + 1, p, bias, delta, first, o, by rw [unhide HGO], rfl, rfl, rfl, rfl, by go_num, by omega, unhide HW2, unhide HB⟩
                      case measure => simp [intOf]; omega
                    · have hce : xs.getD j 0 = m := by omega
                      by_cases hd : 2147483647 < delta
                      · have HR := hide (hW.over hjl hce hd)
                        rw [hce] at hcell
                        clear hW ho hce hc1 hc2 hrg
                        generalize strOfNums o = so at *
                        go_wp2
                        go_ret2
                        refine ⟨?_, unhide HB⟩
                        rw [unhide HR]; rfl
                      · have HW2 := hide (hW.put hjl hce hd)
                        have HNU := fun W => hide (refNumber_any delta bias W (by omega) (by omega))
                        have HAD := fun W => hide (refAdapt_any delta (p + 1) first W (by omega) (by omega))
                        have hnl : (strOfNums (Pu.wrNum delta bias)).size ≤ 32 := by rw [strOfNums_size]; exact Pu.wrNum_len hd0 (by omega)
                        have HAP := hide (str_app o (Pu.wrNum delta bias))
                        rw [hce] at hcell
                        clear hW ho hce hc1 hc2 hrg
                        generalize hgn : Pu.wrNum delta bias = nb at *
                        clear hgn
                        generalize hga : Pu.adapt delta (p + 1) first = ad at *
                        clear hga
                        generalize hgo : strOfNums o = so at *
                        clear hgo
                        go_wp2_with fail
                        refine (unhide (HNU _)).mono ?_
                        rintro e w1 ⟨rfl, hb1⟩
                        have HB1 := hide ((unhide HB).trans (hb1.mono hbs))
                        generalize hgs : strOfNums nb = sn at *
                        clear hgs hb1 HNU
                        go_wp2_with fail
                        refine (unhide (HAD _)).mono ?_
                        rintro e w2 ⟨rfl, rfl⟩
                        clear HAD
                        go_wp2
                        go_roundw
                        case rel => exact ⟨j + 1, p + 1, ad, 0, false, o ++ nb, by rw [← unhide HAP], by go_num, rfl, rfl, rfl, by go_num, by omega, unhide HW2, unhide HB1⟩
                        case measure => simp [intOf]; omega
                · have hjj : j = xs.length := by omega
                  subst hjj
                  have HW2 := hide hW.fin
                  clear hW ho hb
                  generalize hgo : strOfNums o = so at *
                  have HGO := hide hgo
                  clear hgo
                  go_wp2
                  go_roundw
                  case rel => exact ⟨m + 1, p, bias, delta + 1, first, o, by rw [unhide HGO], rfl, by go_num, by go_num, rfl, rfl, unhide HW2, unhide HB⟩
                  case measure => simp [intOf]; omega
          · have HR := hide (hH.done hlt)
            clear hH hb HH
            have hso : (strOfNums o).size ≤ 70000 := by rw [strOfNums_size]; omega
            clear ho
            generalize hgo : strOfNums o = so at *
            have HGO := hide hgo
            clear hgo
            go_wp2
            go_ret2
            refine ⟨?_, unhide HB⟩
            rw [unhide HR, ← unhide HGO]
            rfl
end Go.Proofs.Ytgccindoinhphaa
