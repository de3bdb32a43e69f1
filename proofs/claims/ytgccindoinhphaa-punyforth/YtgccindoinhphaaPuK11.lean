/- The walk of the document's Decode of Punycode. (By program: genpk11.py.) -/
import Derived.Test.YtgccindoinhphaaPuH11
namespace Go.Proofs.Ytgccindoinhphaa
open Go.RowKit

theorem decode_long {zs : List Int} (h : 65536 < zs.length) : Pu.decode zs = ([], 2) := by rw [Pu.decode_eq, if_pos h]
theorem decode_high {zs : List Int} (h : ¬ 65536 < zs.length) (hb : Pu.basicB zs = false) : Pu.decode zs = ([], 111) := by rw [Pu.decode_eq, if_neg h, if_pos hb]
theorem decode_go {zs : List Int} {l : Nat} (h : ¬ 65536 < zs.length) (hb : Pu.basicB zs = true) (hl : Pu.lastH zs 0 0 = l) : Pu.decode zs = Pu.rdW (zs.drop (if l = 0 then 0 else l + 1)) (Pu.begin (zs.take l)) := by
  rw [Pu.decode_eq, if_neg h, if_neg (by rw [hb]; simp), hl]
  unfold Pu.tail
  rw [hl]
  split <;> simp

set_option maxRecDepth 20000 in
set_option maxHeartbeats 20000000 in
theorem refDecode_any (s : ByteArray) (w : World) (hs : s.size ≤ 1000000000) : Calls Try.prog 15 #[.string s] w (RdPost w.heap.size w (Pu.decode (nums s))) := by
  obtain ⟨i0, hi0, hz0, hz1, hz2⟩ := infoR_parts
  have hn := nums_length s
  by_cases hlong : 65536 < s.size
  · have HE := hide (decode_long (zs := nums s) (by omega))
    generalize Pu.decode (nums s) = r at *
    go_enter Try.func15, Try.ntmps15
    go_wp2
    go_ret2
    exact RdPost.no (unhide HE) (by omega) (Below.refl _ _)
  have HAT := hide (run_at s)
  have HDG : Hid (∀ k, k < (nums s).length → 0 ≤ (nums s).getD k 0 ∧ (nums s).getD k 0 ≤ 255) := fun k hk => by
    rw [List.getD, List.getElem?_eq_getElem hk]; exact nums_byt s _ (List.getElem_mem hk)
  obtain ⟨zs, hzs⟩ : ∃ zs, nums s = zs := ⟨_, rfl⟩
  rw [hzs] at hn HAT HDG
  rw [hzs]
  clear hzs
  have HDH : Hid (Pu.basicB zs = false → Pu.decode zs = ([], 111)) := fun h => decode_high (by omega) h
  have HDO : Hid (∀ l, Pu.basicB zs = true → Pu.lastH zs 0 0 = l → Pu.decode zs = Pu.rdW (zs.drop (if l = 0 then 0 else l + 1)) (Pu.begin (zs.take l))) := fun l h1 h2 => decode_go (by omega) h1 h2
  generalize Pu.decode zs = r at *
  go_enter Try.func15, Try.ntmps15
  go_wp2
  go_loop [4, 5] (fun la i => ∃ k l : Nat, la = .int .i64 l ∧ i = .int .i64 k ∧ k ≤ zs.length ∧ (l = 0 ∨ l < k) ∧ Pu.lastH zs 0 0 = Pu.lastH (zs.drop k) k l ∧ Pu.basicB zs = Pu.basicB (zs.drop k)) (fun _ i => zs.length - (intOf i).toNat)
  case atStart => exact ⟨0, 0, rfl, rfl, by omega, by omega, by rw [List.drop_zero], by rw [List.drop_zero]⟩
  case round =>
    obtain ⟨k, l, rfl, rfl, hk, hlk, hla, hba⟩ := hrel
    have HLA := hide hla
    have HBA := hide hba
    clear hla hba
    by_cases hlt : k < zs.length
    · have hat := unhide HAT (k : Int) k rfl (by omega)
      have hrg := unhide HDG k hlt
      by_cases hz : zs.getD k 0 < 128
      · have HB2 := hide (basicB_next hlt (unhide HBA) hz)
        have HL2 := hide ((unhide HLA).trans (lastH_step hlt))
        by_cases h45 : zs.getD k 0 = 45
        · rw [if_pos h45] at HL2
          rw [h45] at hat
          clear HLA HBA hz h45 hrg HAT HDG HDH HDO
          go_wp2
          go_round
          case rel => exact ⟨k + 1, k, rfl, by go_num, by omega, by omega, unhide HL2, unhide HB2⟩
          case measure => simp [intOf]; omega
        · rw [if_neg h45] at HL2
          have h45b : (zs.getD k 0 == 45) = false := by simpa using h45
          clear HLA HBA h45 HAT HDG HDH HDO
          generalize zs.getD k 0 = z at *
          go_wp2
          go_round
          case rel => exact ⟨k + 1, l, rfl, by go_num, by omega, by omega, unhide HL2, unhide HB2⟩
          case measure => simp [intOf]; omega
      · have HE := hide ((unhide HDH) (basicB_no hlt (unhide HBA) hz))
        clear HLA HBA HAT HDG HDH HDO
        generalize zs.getD k 0 = z at *
        go_wp2
        go_ret2
        exact RdPost.no (unhide HE) (by omega) (Below.refl _ _)
    · have hke : k = zs.length := by omega
      have hbt := basicB_end (by omega) (unhide HBA)
      have hll : Pu.lastH zs 0 0 = l := by rw [unhide HLA, hke, List.drop_length]; rfl
      have HR := hide (unhide HDO l hbt hll)
      have HLN := hide hlk
      clear HLA HBA HDH HDO hbt hll
      have hln : l = 0 ∨ l < zs.length := by omega
      clear hlk
      go_wp2
      go_loopw [6, 7] (fun vx i wr => ∃ k : Nat, i = .int .i64 k ∧ k ≤ l ∧ Ok .i32 21 wr w.heap.size vx (zs.take k) ∧ Below w.heap.size w wr ∧ (k = 0 → vx = .slice none 0 0)) (fun _ i _ => l - (intOf i).toNat)
      case atStart => exact ⟨0, rfl, by omega, Ok.nil _ _ _ _, Below.refl _ _, fun _ => rfl⟩
      case round =>
        obtain ⟨m, rfl, hm, hok, hbel, hnil⟩ := hrel
        have HOK := hide hok
        have HBEL := hide hbel
        have hsz := hbel.size
        have HNIL := hide hnil
        clear hok hbel hnil
        by_cases hml : m < l
        · have hat := unhide HAT (m : Int) m rfl (by omega)
          have hrg := unhide HDG m (by omega)
          have HTK : Hid (zs.take (m + 1) = zs.take m ++ [zs.getD m 0]) := by
            show _ = _
            rw [List.take_add_one, List.getElem?_eq_getElem (by omega), List.getD, List.getElem?_eq_getElem (by omega)]; rfl
          have HLEN : Hid ((zs.take m).length = m) := by show _ = _; rw [List.length_take]; omega
          have hs1 := hide (alloc_size wr (.cells #[.int .i32 (zs.getD m 0)] 21))
          have HOA := hide (ok_alloc (unhide HOK) (.cells #[.int .i32 (zs.getD m 0)] 21))
          have HON := hide (Sk.one wr (zs.getD m 0) (by omega))
          clear HAT HDG HR HLN
          generalize zs.getD m 0 = z at *
          go_wp2_with (at_builtin; refine wpList_append_sk rfl (.tmp 40) (.tmp 45) rfl w.heap.size _ _ _ _ rfl rfl (unhide HOA) (unhide HON) (by rw [unhide HLEN]; simp; omega) (by have := unhide hs1; omega) ?_)
          intro v2 w2 hok2 hgr2
          have hvb : ∀ g, u6.ownBlock = some g → w.heap.size ≤ g := fun g hh => ((unhide HOA).row.lt g hh).1
          have hb2 := ((unhide HBEL).alloc hsz (.cells #[.int .i32 z] 21)).grown hgr2 (by have := unhide hs1; omega) hvb
          have HO2 := hide hok2
          have HB2 := hide hb2
          clear hok2 hgr2 hb2 hvb HOA HON
          go_wp2
          go_roundw
          case rel => exact ⟨m + 1, by go_num, by omega, by rw [unhide HTK]; exact unhide HO2, unhide HB2, fun h => by omega⟩
          case measure => simp [intOf]; omega
        · have hme : m = l := by omega
          subst hme
          obtain ⟨ao, cap, hvv, hc1, hc2⟩ := (unhide HOK).sk.shape
          have hlen : (zs.take m).length = m := by rw [List.length_take]; omega
          rw [hlen] at hvv hc1
          clear hlen
          subst hvv
          have HBG := fun W => hide (refBegin_any ao m cap W)
          have hml2 : ¬ m < m := by omega
          clear hml hm
          go_wp2_with fail
          refine (unhide (HBG _)).mono ?_
          rintro e w1 ⟨rfl, hb1⟩
          clear HBG
          unfold StV
          have hs1 := hb1.size
          obtain ⟨W, hW⟩ : ∃ W, w1.alloc (.cells #[.slice ao m cap, .int .i64 128, .int .i64 0, .int .i64 72, .bool true] 46) = W := ⟨_, rfl⟩
          obtain ⟨b, hbe⟩ : ∃ b, w1.heap.size = b := ⟨_, rfl⟩
          have hM : Rn m w.heap.size b w (if m = 0 then 0 else m + 1) (Pu.begin (zs.take m)) (.slice ao m cap) W := by
            rw [← hW, ← hbe]
            refine ⟨ok_alloc ((unhide HOK).below hb1) _, fun hh => unhide HNIL (by have h0 := congrArg List.length hh; rw [show (Pu.begin (zs.take m)).xs = zs.take m from rfl, List.length_take] at h0; simp only [List.length_nil] at h0; omega), heap_alloc_new w1 _, ((unhide HBEL).trans (hb1.mono hsz)).alloc (by omega) _, by omega, fun hh => ?_, by show (zs.take m).length ≤ _; rw [List.length_take]; omega, by show (0 : Int) ≤ 128 ∧ (128 : Int) ≤ 1114111; omega, by show (0 : Int) ≤ 0 ∧ (0 : Int) ≤ ((zs.take m).length : Int); omega, by show (0 : Int) ≤ 72 ∧ (72 : Int) ≤ 468; omega⟩
            have := ((unhide HOK).row.lt _ hh).2
            omega
          have HM0 := hide hM
          have HBW := hide hbe
          clear hM HOK HBEL HNIL hb1 hs1 hsz
          obtain ⟨stB, hstB⟩ : ∃ st, Pu.begin (zs.take m) = st := ⟨_, rfl⟩
          rw [hstB] at HM0 HR
          clear hstB hc1 hc2 HLN
          by_cases hm0 : m = 0
          · rw [if_pos hm0] at HM0 HR
            subst hm0
            go_wp2
            try rw [show (decide (0 < m)) = true from decide_eq_true (by omega)]
            have hPl : 0 ≤ zs.length := by omega
            clear hln
            go_loopw [2, 3, 9, 10, 11, 12, 13, 14, 15, 16] (fun _ _ pp _ _ _ _ _ _ _ wr => ∃ (k : Nat) (st : Pu.St) (v : Value), pp = .int .i64 k ∧ k ≤ zs.length ∧ Rn 0 w.heap.size b w k st v wr ∧ r = Pu.rdW (zs.drop k) st) (fun _ _ pp _ _ _ _ _ _ _ _ => zs.length - (intOf pp).toNat)
            case atStart => exact ⟨0, stB, _, by first | rfl | go_num, hPl, unhide HM0, unhide HR⟩
            case round =>
              clear HM0 HR
              obtain ⟨p, st, v, rfl, hpl, hM, hr⟩ := hrel
              obtain ⟨wo, hwo⟩ : ∃ wo, wo = wr := ⟨_, rfl⟩
              subst hwo
              obtain ⟨row, nilv, state, bel, hBb, ne, len, hn0, hi1, hbias⟩ := id hM
              obtain ⟨c0, c1, c2, c3, c4, f0, f1, f2, f3, f4⟩ := state.cells
              by_cases hplt : p < zs.length
              · have HR1 := hide (hr.trans (Pu.rdW_num (by rw [dropz hplt]; exact List.cons_ne_nil _ _) st))
                have HM := hide hM
                have HROW := hide row
                clear hr hM row nilv state bel
                go_upto_block 6 with fail
                rw [show (decide (p < s.size)) = true from decide_eq_true (by omega)]
                go_cut [2, 3, 9, 10, 11, 12, 13, 14, 15] (fun _ _ pp vv _ _ _ _ _ wc => wc = wo ∧ ∃ (q : Nat) (vl : Int), pp = .int .i64 q ∧ p < q ∧ q ≤ zs.length ∧ vv = .int .i64 (vm vl) ∧ 0 ≤ vl ∧ r = Pu.after st (0, vl, zs.drop q))
                case first =>
                  go_wp2
                  go_loopw [2, 3, 9, 10, 11, 12, 13, 14, 15] (fun _ _ pp vv ww oo kk _ _ wr => wr = wo ∧ ∃ (q : Nat) (kq vl wt : Int), pp = .int .i64 q ∧ p ≤ q ∧ q ≤ zs.length ∧ kk = .int .i64 kq ∧ (1 ≤ kq ∧ kq ≤ q + 1) ∧ vv = .int .i64 (vm vl) ∧ 0 ≤ vl ∧ ((oo = .bool false ∧ ww = .int .i64 wt ∧ 1 ≤ wt ∧ wt ≤ 2147483647) ∨ (oo = .bool true ∧ wt = 2147483648 ∧ ∃ x, ww = .int .i64 x)) ∧ r = Pu.after st (Pu.rdN st.bias (zs.drop q) kq vl wt)) (fun _ _ pp _ _ _ _ _ _ _ => zs.length - (intOf pp).toNat)
                  case atStart => exact ⟨rfl, p, 1, 0, 1, rfl, Nat.le_refl _, hpl, rfl, by omega, rfl, by omega, .inl ⟨rfl, rfl, by omega, by omega⟩, unhide HR1⟩
                  case round =>
                    clear HR1
                    obtain ⟨hwr, q, kq, vl, wt, rfl, hpq, hql, rfl, hkq, rfl, hvl, how, hr⟩ := hrel
                    subst hwr
                    have hvm1 := vm_le vl
                    have hvm2 := vm_nn hvl
                    by_cases hqlt : q < zs.length
                    · have hat := unhide HAT (q : Int) q rfl (by omega)
                      have hrg := unhide HDG q hqlt
                      have hd35 := Pu.dig_le (zs.getD q 0)
                      have hne : ((q : Int) == (s.size : Int)) = false := by simp; omega
                      have HD := fun W => hide (worth_any (zs.getD q 0) W hrg.1 hrg.2)
                      have HTH := fun W => hide (refThreshold_any kq st.bias W (by omega) (by omega))
                      have htb := Pu.thr_bounds kq st.bias
                      have HRq := hide (hr.trans (by rw [dropz hqlt]))
                      clear hr
                      by_cases hd : Pu.dig (zs.getD q 0) < 0
                      · have HE := hide ((unhide HRq).trans ((congrArg (Pu.after st) (Pu.rdN_bad hd)).trans (Pu.after_err (by omega))))
                        have HBL := hide (unhide HM).bel
                        clear HRq HTH htb hvm1 hvm2 HM HROW
                        generalize Pu.dig (zs.getD q 0) = d at *
                        generalize zs.getD q 0 = z at *
                        rcases how with ⟨rfl, rfl, hw1, hw2⟩ | ⟨rfl, rfl, x, rfl⟩
                        all_goals
                          go_wp2_with (go_at_call 28; refine (unhide (HD _)).mono ?_; rintro e wq ⟨rfl, rfl⟩; clear HD)
                          go_ret2
                          exact RdPost.no (unhide HE) (by omega) (unhide HBL)
                      · rcases how with ⟨rfl, rfl, hw1, hw2⟩ | ⟨rfl, rfl, x, rfl⟩
                        · have hml := wt_bounds (d := Pu.dig (zs.getD q 0)) (wt := wt) (by omega) (by omega)
                          have HY := hide (vm_min (x := vl) hml.1)
                          have hv0 : 0 ≤ vl + Pu.dig (zs.getD q 0) * wt := by omega
                          by_cases ht : Pu.dig (zs.getD q 0) < Pu.thr kq st.bias
                          · have HE := hide ((unhide HRq).trans (by rw [Pu.rdN_last hd ht]))
                            clear HRq HM HROW
                            generalize hnv : vl + Pu.dig (zs.getD q 0) * wt = nv at *
                            clear hnv
                            generalize Pu.dig (zs.getD q 0) = d at *
                            generalize zs.getD q 0 = z at *
                            generalize Pu.thr kq st.bias = t at *
                            generalize vm vl = vv at *
                            go_wp2_with (first | (go_at_call 28; refine (unhide (HD _)).mono ?_; rintro e wq ⟨rfl, rfl⟩; clear HD) | (go_at_call 29; refine (unhide (HTH _)).mono ?_; rintro e wq ⟨rfl, rfl⟩; clear HTH))
                            go_meet
                            case rel => exact ⟨by first | rfl | trivial, q + 1, nv, by go_num, by omega, by omega, by first | rw [unhide HY] | (rw [← unhide HY]), hv0, unhide HE⟩
                          · have hwn := wt_next (t := Pu.thr kq st.bias) (wt := wt) htb (by omega)
                            have HE := hide ((unhide HRq).trans (by rw [Pu.rdN_more hd ht]))
                            clear HRq HM HROW
                            generalize hnv : vl + Pu.dig (zs.getD q 0) * wt = nv at *
                            clear hnv
                            generalize Pu.dig (zs.getD q 0) = d at *
                            generalize zs.getD q 0 = z at *
                            generalize Pu.thr kq st.bias = t at *
                            generalize vm vl = vv at *
                            by_cases hov : 2147483647 < wt * (36 - t)
                            · have hif : (if 2147483648 < wt * (36 - t) then 2147483648 else wt * (36 - t)) = 2147483648 := by split <;> omega
                              rw [hif] at HE
                              clear hif
                              go_wp2_with (first | (go_at_call 28; refine (unhide (HD _)).mono ?_; rintro e wq ⟨rfl, rfl⟩; clear HD) | (go_at_call 29; refine (unhide (HTH _)).mono ?_; rintro e wq ⟨rfl, rfl⟩; clear HTH))
                              go_roundw
                              case rel => exact ⟨by first | rfl | trivial, q + 1, kq + 1, nv, 2147483648, by go_num, by omega, by omega, by first | rfl | go_num, by omega, by first | rw [unhide HY] | (rw [← unhide HY]), hv0, .inr ⟨by first | rfl | simp [hov], rfl, _, rfl⟩, unhide HE⟩
                              case measure => simp [intOf]; omega
                            · rw [if_neg (by omega)] at HE
                              go_wp2_with (first | (go_at_call 28; refine (unhide (HD _)).mono ?_; rintro e wq ⟨rfl, rfl⟩; clear HD) | (go_at_call 29; refine (unhide (HTH _)).mono ?_; rintro e wq ⟨rfl, rfl⟩; clear HTH))
                              go_roundw
                              case rel => exact ⟨by first | rfl | trivial, q + 1, kq + 1, nv, wt * (36 - t), by go_num, by omega, by omega, by first | rfl | go_num, by omega, by first | rw [unhide HY] | (rw [← unhide HY]), hv0, .inl ⟨by first | rfl | simp [hov], by first | rfl | go_num, by omega, by omega⟩, unhide HE⟩
                              case measure => simp [intOf]; omega
                        · by_cases hd0 : 1 ≤ Pu.dig (zs.getD q 0)
                          · have HY := hide (vm_over hvl hd0)
                            have hv0 : 0 ≤ vl + Pu.dig (zs.getD q 0) * 2147483648 := by omega
                            by_cases ht : Pu.dig (zs.getD q 0) < Pu.thr kq st.bias
                            · have HE := hide ((unhide HRq).trans (by rw [Pu.rdN_last hd ht]))
                              clear HRq HM HROW
                              generalize hnv : vl + Pu.dig (zs.getD q 0) * 2147483648 = nv at *
                              clear hnv
                              generalize Pu.dig (zs.getD q 0) = d at *
                              generalize zs.getD q 0 = z at *
                              generalize Pu.thr kq st.bias = t at *
                              generalize vm vl = vv at *
                              go_wp2_with (first | (go_at_call 28; refine (unhide (HD _)).mono ?_; rintro e wq ⟨rfl, rfl⟩; clear HD) | (go_at_call 29; refine (unhide (HTH _)).mono ?_; rintro e wq ⟨rfl, rfl⟩; clear HTH))
                              go_meet
                              case rel => exact ⟨by first | rfl | trivial, q + 1, nv, by go_num, by omega, by omega, by rw [unhide HY], hv0, unhide HE⟩
                            · have HE := hide ((unhide HRq).trans (by rw [Pu.rdN_more hd ht, if_pos (by omega)]))
                              clear HRq HM HROW
                              generalize hnv : vl + Pu.dig (zs.getD q 0) * 2147483648 = nv at *
                              clear hnv
                              generalize Pu.dig (zs.getD q 0) = d at *
                              generalize zs.getD q 0 = z at *
                              generalize Pu.thr kq st.bias = t at *
                              generalize vm vl = vv at *
                              go_wp2_with (first | (go_at_call 28; refine (unhide (HD _)).mono ?_; rintro e wq ⟨rfl, rfl⟩; clear HD) | (go_at_call 29; refine (unhide (HTH _)).mono ?_; rintro e wq ⟨rfl, rfl⟩; clear HTH))
                              go_roundw
                              case rel => exact ⟨by first | rfl | trivial, q + 1, kq + 1, nv, 2147483648, by go_num, by omega, by omega, by first | rfl | go_num, by omega, by rw [unhide HY], hv0, .inr ⟨rfl, rfl, _, rfl⟩, unhide HE⟩
                              case measure => simp [intOf]; omega
                          · have hdz : Pu.dig (zs.getD q 0) = 0 := by omega
                            by_cases ht : Pu.dig (zs.getD q 0) < Pu.thr kq st.bias
                            · have HE := hide ((unhide HRq).trans (by rw [Pu.rdN_last hd ht, hdz, Int.zero_mul, Int.add_zero]))
                              rw [hdz] at HD ht
                              clear HRq HM HROW hdz hd hd0 hd35
                              generalize zs.getD q 0 = z at *
                              generalize Pu.thr kq st.bias = t at *
                              generalize hvv : vm vl = vv at *
                              have HVV := hide hvv
                              clear hvv
                              go_wp2_with (first | (go_at_call 28; refine (unhide (HD _)).mono ?_; rintro e wq ⟨rfl, rfl⟩; clear HD) | (go_at_call 29; refine (unhide (HTH _)).mono ?_; rintro e wq ⟨rfl, rfl⟩; clear HTH))
                              go_meet
                              case rel => exact ⟨by first | rfl | trivial, q + 1, vl, by go_num, by omega, by omega, by rw [unhide HVV], hvl, unhide HE⟩
                            · omega
                    · have HE := hide (hr.trans ((congrArg (Pu.after st) ((congrArg (fun x => Pu.rdN st.bias x kq vl wt) (List.drop_eq_nil_of_le (by omega))).trans (Pu.rdN_end _ _ _ _))).trans (Pu.after_err (by omega))))
                      have HBL := hide (unhide HM).bel
                      have hne : ((q : Int) == (s.size : Int)) = true := by simp; omega
                      clear hr hvm1 hvm2 HM HROW
                      rcases how with ⟨rfl, rfl, hw1, hw2⟩ | ⟨rfl, rfl, x, rfl⟩
                      all_goals
                        go_wp2
                        go_ret2
                        exact RdPost.no (unhide HE) (by omega) (unhide HBL)
                case rest =>
                  clear HR1
                  obtain ⟨hwc, q, vl, rfl, hpq, hql, rfl, hvl, hr⟩ := hcut
                  subst hwc
                  have hvm1 := vm_le vl
                  have hvm2 := vm_nn hvl
                  by_cases hbig : 2147483647 < vl
                  · have hb2 := vm_gt.2 hbig
                    have HE := hide (hr.trans (Pu.after_over hbig))
                    have HBL := hide (unhide HM).bel
                    clear hr HM HROW
                    generalize vm vl = vv at *
                    go_wp2
                    go_ret2
                    exact RdPost.no (unhide HE) (by omega) (unhide HBL)
                  · have hvi := vm_id hbig
                    rw [hvi]
                    rw [hvi] at hvm1 hvm2
                    clear hvi
                    have HS := hide (refStep_any v st vl wc (unhide HROW).sk (unhide HM).nil (by omega) (by omega) (by omega) (by omega))
                    have HM2 : Hid (∀ v' w2, Utf.okc (Pu.stepN st vl) → Ok .i32 21 w2 wc.heap.size v' (Pu.step st vl).xs → Below wc.heap.size wc w2 → ∃ W', ((((w2.setCell ⟨b, 0, none⟩ v').setCell ⟨b, 1, none⟩ (.int .i64 (Pu.step st vl).n)).setCell ⟨b, 2, none⟩ (.int .i64 (Pu.step st vl).i)).setCell ⟨b, 3, none⟩ (.int .i64 (Pu.step st vl).bias)).setCell ⟨b, 4, none⟩ (.bool false) = W' ∧ Rn 0 w.heap.size b w q (Pu.step st vl) v' W') :=
                      fun v' w2 h1 h2 h3 => (unhide HM).step hpq (by omega) h1 h2 h3
                    have HAF1 : Hid (Utf.okc (Pu.stepN st vl) → r = Pu.rdW (zs.drop q) (Pu.step st vl)) := fun h => hr.trans (Pu.after_ok hbig h)
                    have HAF2 : Hid (¬ Utf.okc (Pu.stepN st vl) → r = ([], 31)) := fun h => hr.trans (Pu.after_bad hbig h)
                    have hblt := (unhide HM).lt
                    have HBL := hide (unhide HM).bel
                    have HST := hide (unhide HM).state
                    clear hr HM HROW
                    have hcc : ∀ W, Below wc.heap.size wc W → StR W b v st.n st.i st.bias st.first := fun W hb => by unfold StR; rw [hb.block b hblt]; exact unhide HST
                    have HCC := hide hcc
                    clear hcc HST
                    unfold StV at HS
                    go_wp2_with fail
                    refine (unhide HS).mono ?_
                    rintro e w2 ⟨hb2, ⟨hno, ao', l', c', n', i', b', fl', rfl⟩ | ⟨hyes, v', rfl, hrow'⟩⟩
                    · have HE := hide (unhide HAF2 hno)
                      obtain ⟨W', hW', hR', hbel', _⟩ := put5 (unhide HCC _ hb2) ((unhide HBL).trans (hb2.mono (by omega))) hBb (.slice ao' l' c') n' i' b' fl'
                      have hR2 := unhide HCC _ hb2
                      obtain ⟨_, _, _, _, _, y0, y1, y2, y3, y4⟩ := hR2.cells
                      clear HS HM2 HAF1 HAF2 HBL HCC hb2 hno hR' hR2
                      unfold StV
                      have HBQ := hide hbel'
                      clear hbel'
                      go_wp2
                      go_ret2
                      exact RdPost.no (unhide HE) (by omega) (unhide HBQ)
                    · have HE := hide (unhide HAF1 hyes)
                      obtain ⟨W', hW', hM'⟩ := unhide HM2 v' w2 hyes hrow' hb2
                      obtain ⟨ao', cap', hv', _, _⟩ := hrow'.sk.shape
                      have hR2 := unhide HCC _ hb2
                      obtain ⟨_, _, _, _, _, y0, y1, y2, y3, y4⟩ := hR2.cells
                      have HMM := hide hM'
                      clear HS HM2 HAF1 HAF2 HBL HCC hb2 hyes hR2 hM' hrow'
                      generalize (Pu.step st vl).xs.length = nl at hv'
                      subst hv'
                      generalize Pu.step st vl = st2 at *
                      unfold StV
                      go_wp2
                      go_roundw
                      case rel => exact ⟨q, st2, _, rfl, hql, unhide HMM, unhide HE⟩
                      case measure => simp [intOf]; omega
              · have hpe : p = zs.length := by omega
                have HE := hide (hr.trans ((congrArg (fun q => Pu.rdW q st) (List.drop_eq_nil_of_le (by omega))).trans (Pu.rdW_nil st)))
                have HROW := hide row
                have HBL := hide bel
                clear hr hM row nilv state bel
                go_wp2
                go_ret2
                exact RdPost.yes (unhide HE) (unhide HROW) (unhide HBL)
          · rw [if_neg hm0] at HM0 HR
            go_wp2
            try rw [show (decide (0 < m)) = true from decide_eq_true (by omega)]
            have hPl : m + 1 ≤ zs.length := by omega
            clear hln
            go_loopw [2, 3, 9, 10, 11, 12, 13, 14, 15, 16] (fun _ _ pp _ _ _ _ _ _ _ wr => ∃ (k : Nat) (st : Pu.St) (v : Value), pp = .int .i64 k ∧ k ≤ zs.length ∧ Rn m w.heap.size b w k st v wr ∧ r = Pu.rdW (zs.drop k) st) (fun _ _ pp _ _ _ _ _ _ _ _ => zs.length - (intOf pp).toNat)
            case atStart => exact ⟨m + 1, stB, _, by first | rfl | go_num, hPl, unhide HM0, unhide HR⟩
            case round =>
              clear HM0 HR
              obtain ⟨p, st, v, rfl, hpl, hM, hr⟩ := hrel
              obtain ⟨wo, hwo⟩ : ∃ wo, wo = wr := ⟨_, rfl⟩
              subst hwo
              obtain ⟨row, nilv, state, bel, hBb, ne, len, hn0, hi1, hbias⟩ := id hM
              obtain ⟨c0, c1, c2, c3, c4, f0, f1, f2, f3, f4⟩ := state.cells
              by_cases hplt : p < zs.length
              · have HR1 := hide (hr.trans (Pu.rdW_num (by rw [dropz hplt]; exact List.cons_ne_nil _ _) st))
                have HM := hide hM
                have HROW := hide row
                clear hr hM row nilv state bel
                go_upto_block 6 with fail
                rw [show (decide (p < s.size)) = true from decide_eq_true (by omega)]
                go_cut [2, 3, 9, 10, 11, 12, 13, 14, 15] (fun _ _ pp vv _ _ _ _ _ wc => wc = wo ∧ ∃ (q : Nat) (vl : Int), pp = .int .i64 q ∧ p < q ∧ q ≤ zs.length ∧ vv = .int .i64 (vm vl) ∧ 0 ≤ vl ∧ r = Pu.after st (0, vl, zs.drop q))
                case first =>
                  go_wp2
                  go_loopw [2, 3, 9, 10, 11, 12, 13, 14, 15] (fun _ _ pp vv ww oo kk _ _ wr => wr = wo ∧ ∃ (q : Nat) (kq vl wt : Int), pp = .int .i64 q ∧ p ≤ q ∧ q ≤ zs.length ∧ kk = .int .i64 kq ∧ (1 ≤ kq ∧ kq ≤ q + 1) ∧ vv = .int .i64 (vm vl) ∧ 0 ≤ vl ∧ ((oo = .bool false ∧ ww = .int .i64 wt ∧ 1 ≤ wt ∧ wt ≤ 2147483647) ∨ (oo = .bool true ∧ wt = 2147483648 ∧ ∃ x, ww = .int .i64 x)) ∧ r = Pu.after st (Pu.rdN st.bias (zs.drop q) kq vl wt)) (fun _ _ pp _ _ _ _ _ _ _ => zs.length - (intOf pp).toNat)
                  case atStart => exact ⟨rfl, p, 1, 0, 1, rfl, Nat.le_refl _, hpl, rfl, by omega, rfl, by omega, .inl ⟨rfl, rfl, by omega, by omega⟩, unhide HR1⟩
                  case round =>
                    clear HR1
                    obtain ⟨hwr, q, kq, vl, wt, rfl, hpq, hql, rfl, hkq, rfl, hvl, how, hr⟩ := hrel
                    subst hwr
                    have hvm1 := vm_le vl
                    have hvm2 := vm_nn hvl
                    by_cases hqlt : q < zs.length
                    · have hat := unhide HAT (q : Int) q rfl (by omega)
                      have hrg := unhide HDG q hqlt
                      have hd35 := Pu.dig_le (zs.getD q 0)
                      have hne : ((q : Int) == (s.size : Int)) = false := by simp; omega
                      have HD := fun W => hide (worth_any (zs.getD q 0) W hrg.1 hrg.2)
                      have HTH := fun W => hide (refThreshold_any kq st.bias W (by omega) (by omega))
                      have htb := Pu.thr_bounds kq st.bias
                      have HRq := hide (hr.trans (by rw [dropz hqlt]))
                      clear hr
                      by_cases hd : Pu.dig (zs.getD q 0) < 0
                      · have HE := hide ((unhide HRq).trans ((congrArg (Pu.after st) (Pu.rdN_bad hd)).trans (Pu.after_err (by omega))))
                        have HBL := hide (unhide HM).bel
                        clear HRq HTH htb hvm1 hvm2 HM HROW
                        generalize Pu.dig (zs.getD q 0) = d at *
                        generalize zs.getD q 0 = z at *
                        rcases how with ⟨rfl, rfl, hw1, hw2⟩ | ⟨rfl, rfl, x, rfl⟩
                        all_goals
                          go_wp2_with (go_at_call 28; refine (unhide (HD _)).mono ?_; rintro e wq ⟨rfl, rfl⟩; clear HD)
                          go_ret2
                          exact RdPost.no (unhide HE) (by omega) (unhide HBL)
                      · rcases how with ⟨rfl, rfl, hw1, hw2⟩ | ⟨rfl, rfl, x, rfl⟩
                        · have hml := wt_bounds (d := Pu.dig (zs.getD q 0)) (wt := wt) (by omega) (by omega)
                          have HY := hide (vm_min (x := vl) hml.1)
                          have hv0 : 0 ≤ vl + Pu.dig (zs.getD q 0) * wt := by omega
                          by_cases ht : Pu.dig (zs.getD q 0) < Pu.thr kq st.bias
                          · have HE := hide ((unhide HRq).trans (by rw [Pu.rdN_last hd ht]))
                            clear HRq HM HROW
                            generalize hnv : vl + Pu.dig (zs.getD q 0) * wt = nv at *
                            clear hnv
                            generalize Pu.dig (zs.getD q 0) = d at *
                            generalize zs.getD q 0 = z at *
                            generalize Pu.thr kq st.bias = t at *
                            generalize vm vl = vv at *
                            go_wp2_with (first | (go_at_call 28; refine (unhide (HD _)).mono ?_; rintro e wq ⟨rfl, rfl⟩; clear HD) | (go_at_call 29; refine (unhide (HTH _)).mono ?_; rintro e wq ⟨rfl, rfl⟩; clear HTH))
                            go_meet
                            case rel => exact ⟨by first | rfl | trivial, q + 1, nv, by go_num, by omega, by omega, by first | rw [unhide HY] | (rw [← unhide HY]), hv0, unhide HE⟩
                          · have hwn := wt_next (t := Pu.thr kq st.bias) (wt := wt) htb (by omega)
                            have HE := hide ((unhide HRq).trans (by rw [Pu.rdN_more hd ht]))
                            clear HRq HM HROW
                            generalize hnv : vl + Pu.dig (zs.getD q 0) * wt = nv at *
                            clear hnv
                            generalize Pu.dig (zs.getD q 0) = d at *
                            generalize zs.getD q 0 = z at *
                            generalize Pu.thr kq st.bias = t at *
                            generalize vm vl = vv at *
                            by_cases hov : 2147483647 < wt * (36 - t)
                            · have hif : (if 2147483648 < wt * (36 - t) then 2147483648 else wt * (36 - t)) = 2147483648 := by split <;> omega
                              rw [hif] at HE
                              clear hif
                              go_wp2_with (first | (go_at_call 28; refine (unhide (HD _)).mono ?_; rintro e wq ⟨rfl, rfl⟩; clear HD) | (go_at_call 29; refine (unhide (HTH _)).mono ?_; rintro e wq ⟨rfl, rfl⟩; clear HTH))
                              go_roundw
                              case rel => exact ⟨by first | rfl | trivial, q + 1, kq + 1, nv, 2147483648, by go_num, by omega, by omega, by first | rfl | go_num, by omega, by first | rw [unhide HY] | (rw [← unhide HY]), hv0, .inr ⟨by first | rfl | simp [hov], rfl, _, rfl⟩, unhide HE⟩
                              case measure => simp [intOf]; omega
                            · rw [if_neg (by omega)] at HE
                              go_wp2_with (first | (go_at_call 28; refine (unhide (HD _)).mono ?_; rintro e wq ⟨rfl, rfl⟩; clear HD) | (go_at_call 29; refine (unhide (HTH _)).mono ?_; rintro e wq ⟨rfl, rfl⟩; clear HTH))
                              go_roundw
                              case rel => exact ⟨by first | rfl | trivial, q + 1, kq + 1, nv, wt * (36 - t), by go_num, by omega, by omega, by first | rfl | go_num, by omega, by first | rw [unhide HY] | (rw [← unhide HY]), hv0, .inl ⟨by first | rfl | simp [hov], by first | rfl | go_num, by omega, by omega⟩, unhide HE⟩
                              case measure => simp [intOf]; omega
                        · by_cases hd0 : 1 ≤ Pu.dig (zs.getD q 0)
                          · have HY := hide (vm_over hvl hd0)
                            have hv0 : 0 ≤ vl + Pu.dig (zs.getD q 0) * 2147483648 := by omega
                            by_cases ht : Pu.dig (zs.getD q 0) < Pu.thr kq st.bias
                            · have HE := hide ((unhide HRq).trans (by rw [Pu.rdN_last hd ht]))
                              clear HRq HM HROW
                              generalize hnv : vl + Pu.dig (zs.getD q 0) * 2147483648 = nv at *
                              clear hnv
                              generalize Pu.dig (zs.getD q 0) = d at *
                              generalize zs.getD q 0 = z at *
                              generalize Pu.thr kq st.bias = t at *
                              generalize vm vl = vv at *
                              go_wp2_with (first | (go_at_call 28; refine (unhide (HD _)).mono ?_; rintro e wq ⟨rfl, rfl⟩; clear HD) | (go_at_call 29; refine (unhide (HTH _)).mono ?_; rintro e wq ⟨rfl, rfl⟩; clear HTH))
                              go_meet
                              case rel => exact ⟨by first | rfl | trivial, q + 1, nv, by go_num, by omega, by omega, by rw [unhide HY], hv0, unhide HE⟩
                            · have HE := hide ((unhide HRq).trans (by rw [Pu.rdN_more hd ht, if_pos (by omega)]))
                              clear HRq HM HROW
                              generalize hnv : vl + Pu.dig (zs.getD q 0) * 2147483648 = nv at *
                              clear hnv
                              generalize Pu.dig (zs.getD q 0) = d at *
                              generalize zs.getD q 0 = z at *
                              generalize Pu.thr kq st.bias = t at *
                              generalize vm vl = vv at *
                              go_wp2_with (first | (go_at_call 28; refine (unhide (HD _)).mono ?_; rintro e wq ⟨rfl, rfl⟩; clear HD) | (go_at_call 29; refine (unhide (HTH _)).mono ?_; rintro e wq ⟨rfl, rfl⟩; clear HTH))
                              go_roundw
                              case rel => exact ⟨by first | rfl | trivial, q + 1, kq + 1, nv, 2147483648, by go_num, by omega, by omega, by first | rfl | go_num, by omega, by rw [unhide HY], hv0, .inr ⟨rfl, rfl, _, rfl⟩, unhide HE⟩
                              case measure => simp [intOf]; omega
                          · have hdz : Pu.dig (zs.getD q 0) = 0 := by omega
                            by_cases ht : Pu.dig (zs.getD q 0) < Pu.thr kq st.bias
                            · have HE := hide ((unhide HRq).trans (by rw [Pu.rdN_last hd ht, hdz, Int.zero_mul, Int.add_zero]))
                              rw [hdz] at HD ht
                              clear HRq HM HROW hdz hd hd0 hd35
                              generalize zs.getD q 0 = z at *
                              generalize Pu.thr kq st.bias = t at *
                              generalize hvv : vm vl = vv at *
                              have HVV := hide hvv
                              clear hvv
                              go_wp2_with (first | (go_at_call 28; refine (unhide (HD _)).mono ?_; rintro e wq ⟨rfl, rfl⟩; clear HD) | (go_at_call 29; refine (unhide (HTH _)).mono ?_; rintro e wq ⟨rfl, rfl⟩; clear HTH))
                              go_meet
                              case rel => exact ⟨by first | rfl | trivial, q + 1, vl, by go_num, by omega, by omega, by rw [unhide HVV], hvl, unhide HE⟩
                            · omega
                    · have HE := hide (hr.trans ((congrArg (Pu.after st) ((congrArg (fun x => Pu.rdN st.bias x kq vl wt) (List.drop_eq_nil_of_le (by omega))).trans (Pu.rdN_end _ _ _ _))).trans (Pu.after_err (by omega))))
                      have HBL := hide (unhide HM).bel
                      have hne : ((q : Int) == (s.size : Int)) = true := by simp; omega
                      clear hr hvm1 hvm2 HM HROW
                      rcases how with ⟨rfl, rfl, hw1, hw2⟩ | ⟨rfl, rfl, x, rfl⟩
                      all_goals
                        go_wp2
                        go_ret2
                        exact RdPost.no (unhide HE) (by omega) (unhide HBL)
                case rest =>
                  clear HR1
                  obtain ⟨hwc, q, vl, rfl, hpq, hql, rfl, hvl, hr⟩ := hcut
                  subst hwc
                  have hvm1 := vm_le vl
                  have hvm2 := vm_nn hvl
                  by_cases hbig : 2147483647 < vl
                  · have hb2 := vm_gt.2 hbig
                    have HE := hide (hr.trans (Pu.after_over hbig))
                    have HBL := hide (unhide HM).bel
                    clear hr HM HROW
                    generalize vm vl = vv at *
                    go_wp2
                    go_ret2
                    exact RdPost.no (unhide HE) (by omega) (unhide HBL)
                  · have hvi := vm_id hbig
                    rw [hvi]
                    rw [hvi] at hvm1 hvm2
                    clear hvi
                    have HS := hide (refStep_any v st vl wc (unhide HROW).sk (unhide HM).nil (by omega) (by omega) (by omega) (by omega))
                    have HM2 : Hid (∀ v' w2, Utf.okc (Pu.stepN st vl) → Ok .i32 21 w2 wc.heap.size v' (Pu.step st vl).xs → Below wc.heap.size wc w2 → ∃ W', ((((w2.setCell ⟨b, 0, none⟩ v').setCell ⟨b, 1, none⟩ (.int .i64 (Pu.step st vl).n)).setCell ⟨b, 2, none⟩ (.int .i64 (Pu.step st vl).i)).setCell ⟨b, 3, none⟩ (.int .i64 (Pu.step st vl).bias)).setCell ⟨b, 4, none⟩ (.bool false) = W' ∧ Rn m w.heap.size b w q (Pu.step st vl) v' W') :=
                      fun v' w2 h1 h2 h3 => (unhide HM).step hpq (by omega) h1 h2 h3
                    have HAF1 : Hid (Utf.okc (Pu.stepN st vl) → r = Pu.rdW (zs.drop q) (Pu.step st vl)) := fun h => hr.trans (Pu.after_ok hbig h)
                    have HAF2 : Hid (¬ Utf.okc (Pu.stepN st vl) → r = ([], 31)) := fun h => hr.trans (Pu.after_bad hbig h)
                    have hblt := (unhide HM).lt
                    have HBL := hide (unhide HM).bel
                    have HST := hide (unhide HM).state
                    clear hr HM HROW
                    have hcc : ∀ W, Below wc.heap.size wc W → StR W b v st.n st.i st.bias st.first := fun W hb => by unfold StR; rw [hb.block b hblt]; exact unhide HST
                    have HCC := hide hcc
                    clear hcc HST
                    unfold StV at HS
                    go_wp2_with fail
                    refine (unhide HS).mono ?_
                    rintro e w2 ⟨hb2, ⟨hno, ao', l', c', n', i', b', fl', rfl⟩ | ⟨hyes, v', rfl, hrow'⟩⟩
                    · have HE := hide (unhide HAF2 hno)
                      obtain ⟨W', hW', hR', hbel', _⟩ := put5 (unhide HCC _ hb2) ((unhide HBL).trans (hb2.mono (by omega))) hBb (.slice ao' l' c') n' i' b' fl'
                      have hR2 := unhide HCC _ hb2
                      obtain ⟨_, _, _, _, _, y0, y1, y2, y3, y4⟩ := hR2.cells
                      clear HS HM2 HAF1 HAF2 HBL HCC hb2 hno hR' hR2
                      unfold StV
                      have HBQ := hide hbel'
                      clear hbel'
                      go_wp2
                      go_ret2
                      exact RdPost.no (unhide HE) (by omega) (unhide HBQ)
                    · have HE := hide (unhide HAF1 hyes)
                      obtain ⟨W', hW', hM'⟩ := unhide HM2 v' w2 hyes hrow' hb2
                      obtain ⟨ao', cap', hv', _, _⟩ := hrow'.sk.shape
                      have hR2 := unhide HCC _ hb2
                      obtain ⟨_, _, _, _, _, y0, y1, y2, y3, y4⟩ := hR2.cells
                      have HMM := hide hM'
                      clear HS HM2 HAF1 HAF2 HBL HCC hb2 hyes hR2 hM' hrow'
                      generalize (Pu.step st vl).xs.length = nl at hv'
                      subst hv'
                      generalize Pu.step st vl = st2 at *
                      unfold StV
                      go_wp2
                      go_roundw
                      case rel => exact ⟨q, st2, _, rfl, hql, unhide HMM, unhide HE⟩
                      case measure => simp [intOf]; omega
              · have hpe : p = zs.length := by omega
                have HE := hide (hr.trans ((congrArg (fun q => Pu.rdW q st) (List.drop_eq_nil_of_le (by omega))).trans (Pu.rdW_nil st)))
                have HROW := hide row
                have HBL := hide bel
                clear hr hM row nilv state bel
                go_wp2
                go_ret2
                exact RdPost.yes (unhide HE) (unhide HROW) (unhide HBL)
end Go.Proofs.Ytgccindoinhphaa
