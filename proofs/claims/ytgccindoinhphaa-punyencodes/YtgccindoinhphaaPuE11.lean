/- The walk of puny's read. (By program: genpe11.py.) -/
import Derived.Test.YtgccindoinhphaaPuD11
namespace Go.Proofs.Ytgccindoinhphaa
open Go.RowKit

theorem dropz {zs : List Int} {k : Nat} (hk : k < zs.length) : zs.drop k = zs.getD k 0 :: zs.drop (k + 1) := drop_next hk
theorem okb_eq {c : Int} (h : Utf.okc c) : okb c = true := decide_eq_true h
theorem okb_ne {c : Int} (h : ¬ Utf.okc c) : okb c = false := decide_eq_false h

set_option maxRecDepth 40000 in
set_option maxHeartbeats 20000000 in
theorem pread_any (B : Nat) (v0 : Value) (xs0 : List Int) (s : ByteArray) (w : World) (hv0 : Ok .i32 21 w B v0 xs0) (hB : B ≤ w.heap.size) (hs : xs0.length + s.size ≤ 100000) :
    Calls Try.prog 26 #[v0, .string s] w (RdPost B w (Pu.rdW (nums s) (Pu.begin xs0))) := by
  have hn0 := nums_length s
  have hr0 : Pu.rdW (nums s) (Pu.begin xs0) = Pu.rdW ((nums s).drop 0) (Pu.begin xs0) := by rw [List.drop_zero]
  generalize Pu.rdW (nums s) (Pu.begin xs0) = r at *
  have HBY := hide (nums_byt s)
  have HAT := hide (run_at s)
  obtain ⟨zs, hzs⟩ : ∃ zs, nums s = zs := ⟨_, rfl⟩
  rw [hzs] at hn0 hr0 HBY HAT
  have HR0 := hide hr0
  clear hr0 hzs
  obtain ⟨X0, hX0⟩ : ∃ X0, X0 = xs0.length := ⟨_, rfl⟩
  have HXL := hide hX0
  have HV0 := hide hv0
  obtain ⟨ao, cap, hvv, hc1, hc2⟩ := hv0.sk.shape
  have HVV := hide hvv
  have HDG : Hid (∀ k, k < zs.length → 0 ≤ zs.getD k 0 ∧ zs.getD k 0 ≤ 255) := fun k hk => by
    rw [List.getD, List.getElem?_eq_getElem hk]; exact unhide HBY _ (List.getElem_mem hk)
  subst hvv
  clear hv0 hX0 HVV HBY
  have HBG := hide (begun_any (xs0.length : Int) w)
  go_enter Try.func26, Try.ntmps26
  go_wp2
  refine wp_scope_labels' (fun l a wr => ∃ b, w.heap.size ≤ b ∧ Jq X0 B b s zs r w l a wr) (fun l a _ => pmes s.size l a) ?hf ?first ?pass
  case hf =>
    rintro l a wr ⟨b, hbw, h⟩
    match l, h with
    | 0, _ => rfl
    | 1, _ => rfl
    | 2, _ => rfl
    | (l + 3), h => exact h.elim

  case first =>
    go_wp2_with fail
    refine (unhide HBG).mono ?_
    rintro e wq ⟨rfl, hbq⟩
    have hM : Rm X0 B wq.heap.size w 0 (Pu.begin xs0) (.slice ao xs0.length cap) (wq.alloc (.cells #[.int .i64 (xs0.length : Int), .int .i64 128, .int .i64 0, .int .i64 72, .bool true] 57)) := by
      have hv := unhide HV0
      have hx := unhide HXL
      have hss := hbq.size
      refine ⟨ok_alloc (hv.below hbq) _, heap_alloc_new wq _, (hbq.mono hB).alloc (by omega) _, by omega, by rw [alloc_size]; omega, fun hh => ?_, by show xs0.length ≤ X0 + 0; omega, by show (0 : Int) ≤ 128 ∧ (128 : Int) ≤ 1114111; omega, by show (0 : Int) ≤ 0 ∧ (0 : Int) ≤ (xs0.length : Int); omega, by show (0 : Int) ≤ 72 ∧ (72 : Int) ≤ 468; omega⟩
      have := (hv.row.lt _ hh).2
      omega
    have hr : r = Pu.rdW (zs.drop 0) (Pu.begin xs0) := unhide HR0
    have hbw : w.heap.size ≤ wq.heap.size := hbq.size
    obtain ⟨b, hbe⟩ : ∃ b, b = wq.heap.size := ⟨_, rfl⟩
    obtain ⟨wr, hwr⟩ : ∃ wr, wq.alloc (.cells #[.int .i64 (xs0.length : Int), .int .i64 128, .int .i64 0, .int .i64 72, .bool true] 57) = wr := ⟨_, rfl⟩
    rw [hwr] at hM
    go_wp2
    go_step3
    rw [← hbe] at hM hbw ⊢
    clear hwr hbe hbq wq
    obtain ⟨st, hst0⟩ : ∃ st, Pu.begin xs0 = st := ⟨_, rfl⟩
    rw [hst0] at hM hr
    clear hst0
    generalize Value.slice ao xs0.length cap = v at *

    obtain ⟨row, state, bel, hBb, ltb, ne, len, hn, hi, hbias⟩ := id hM
    obtain ⟨c0, c1, c2, c3, c4, f0, f1, f2, f3, f4⟩ := state.cells
    by_cases hlt : 0 < zs.length
    · have hat := unhide HAT (0 : Int) 0 rfl (by omega)
      have hrg := unhide HDG 0 hlt
      have hd35 := Pu.dig_le (zs.getD 0 0)
      have hne : ((0 : Int) == (s.size : Int)) = false := by simp; omega
      have HD := fun W => hide (digitOf_any (zs.getD 0 0) W hrg.1 hrg.2)
      have HTH := fun W => hide (threshold_any 1 st.bias W (by omega) (by omega))
      have htb := Pu.thr_bounds 1 st.bias
      have HR := hide (hr.trans ((Pu.rdW_num (by rw [dropz hlt]; exact List.cons_ne_nil _ _) st).trans (by rw [dropz hlt])))
      by_cases hd : Pu.dig (zs.getD 0 0) < 0
      · have HE := hide ((unhide HR).trans ((congrArg (Pu.after st) (Pu.rdN_bad hd)).trans (Pu.after_err (by omega))))
        have HBL := hide bel
        clear HR hr hM row state HTH htb bel HR0 HV0 HBG HXL
        generalize Pu.dig (zs.getD 0 0) = d at *
        generalize zs.getD 0 0 = z at *
        go_wp2
        go_step3
        go_wp2_with fail
        refine (unhide (HD _)).mono ?_
        rintro e wq ⟨⟨_, rfl⟩ | ⟨hbad, _⟩, rfl⟩
        · clear HD
          go_wp2
          go_ret2
          exact RdPost.no (unhide HE) (by omega) (unhide HBL)
        · omega
      · have hml := wt_bounds (d := Pu.dig (zs.getD 0 0)) (wt := 1) (by omega) (by omega)
        by_cases ht : Pu.dig (zs.getD 0 0) < Pu.thr 1 st.bias
        · have HE := hide ((unhide HR).trans (by rw [Pu.rdN_last hd ht]))
          have HM := hide hM
          clear HR hr hM row state bel HR0 HV0 HBG HXL
          generalize hdg : Pu.dig (zs.getD 0 0) = d at *
          generalize zs.getD 0 0 = z at *
          clear hdg
          generalize Pu.thr 1 st.bias = t at *
          go_wp2
          go_step3
          go_wp2_with fail
          refine (unhide (HD _)).mono ?_
          rintro e wq ⟨⟨hbad, _⟩ | ⟨_, rfl⟩, rfl⟩
          · omega
          · clear HD
            go_wp2_with (go_at_call 42; refine (unhide (HTH _)).mono ?_; rintro e wq ⟨rfl, rfl⟩; clear HTH)
            go_step3
            show ∃ b, w.heap.size ≤ b ∧ Jq X0 B b s zs r w 2 _ _
            exact ⟨b, hbw, ⟨0 + 1, st, _, 1, 0 + d * 1, 1, ⟨rfl, rfl, rfl, rfl, rfl, rfl, by go_num, rfl, rfl, by first | rfl | go_num | simp, rfl⟩, by omega, by omega, (unhide HM).later (by omega), by omega, unhide HE⟩⟩
        · have HE := hide ((unhide HR).trans (by rw [Pu.rdN_more hd ht]))
          have HM := hide hM
          have hwn := wt_next (t := Pu.thr 1 st.bias) (wt := 1) htb (by omega)
          clear HR hr hM row state bel HR0 HV0 HBG HXL
          generalize hdg : Pu.dig (zs.getD 0 0) = d at *
          generalize zs.getD 0 0 = z at *
          clear hdg
          rw [if_neg (by omega)] at HE
          generalize Pu.thr 1 st.bias = t at *
          go_wp2
          go_step3
          go_wp2_with fail
          refine (unhide (HD _)).mono ?_
          rintro e wq ⟨⟨hbad, _⟩ | ⟨_, rfl⟩, rfl⟩
          · omega
          · clear HD
            go_wp2_with (go_at_call 42; refine (unhide (HTH _)).mono ?_; rintro e wq ⟨rfl, rfl⟩; clear HTH)
            go_step3
            show ∃ b, w.heap.size ≤ b ∧ Jq X0 B b s zs r w 1 _ _
            exact ⟨b, hbw, ⟨0 + 1, st, _, 1 + 1, 0 + d * 1, 1 * (36 - t), ⟨rfl, rfl, rfl, rfl, rfl, rfl, by go_num, rfl, by first | rfl | go_num, by first | rfl | go_num | simp, by first | rfl | go_num | simp⟩, by omega, (unhide HM).later (by omega), by omega, by omega, by omega, unhide HE⟩⟩
    · have hke : 0 = zs.length := by omega
      have HE := hide (hr.trans ((congrArg (fun q => Pu.rdW q st) (List.drop_eq_nil_of_le (by omega))).trans (Pu.rdW_nil st)))
      have HRW := hide row
      have HBL := hide bel
      have hne : ((0 : Int) == (s.size : Int)) = true := by simp; omega
      clear hr hM row state bel HR0 HV0 HBG HXL
      go_wp2
      go_ret2
      exact RdPost.yes (unhide HE) (unhide HRW) (unhide HBL)
  case pass =>
    rintro l a wr ⟨b, hbw, h⟩
    match l, h with
    | (l + 3), h => exact h.elim
    | 0, h =>
      obtain ⟨k, st, v, hF, hks, hM, hr⟩ := h
      obtain ⟨U, rfl⟩ := hF.open
      clear hF
      conv => arg 2; whnf
      obtain ⟨row, state, bel, hBb, ltb, ne, len, hn, hi, hbias⟩ := id hM
      obtain ⟨c0, c1, c2, c3, c4, f0, f1, f2, f3, f4⟩ := state.cells
      by_cases hlt : k < zs.length
      · have hat := unhide HAT (k : Int) k rfl (by omega)
        have hrg := unhide HDG k hlt
        have hd35 := Pu.dig_le (zs.getD k 0)
        have hne : ((k : Int) == (s.size : Int)) = false := by simp; omega
        have HD := fun W => hide (digitOf_any (zs.getD k 0) W hrg.1 hrg.2)
        have HTH := fun W => hide (threshold_any 1 st.bias W (by omega) (by omega))
        have htb := Pu.thr_bounds 1 st.bias
        have HR := hide (hr.trans ((Pu.rdW_num (by rw [dropz hlt]; exact List.cons_ne_nil _ _) st).trans (by rw [dropz hlt])))
        by_cases hd : Pu.dig (zs.getD k 0) < 0
        · have HE := hide ((unhide HR).trans ((congrArg (Pu.after st) (Pu.rdN_bad hd)).trans (Pu.after_err (by omega))))
          have HBL := hide bel
          clear HR hr hM row state HTH htb bel HR0 HV0 HBG HXL
          generalize Pu.dig (zs.getD k 0) = d at *
          generalize zs.getD k 0 = z at *
          go_wp2
          go_step3
          go_wp2_with fail
          refine (unhide (HD _)).mono ?_
          rintro e wq ⟨⟨_, rfl⟩ | ⟨hbad, _⟩, rfl⟩
          · clear HD
            go_wp2
            go_ret2
            exact RdPost.no (unhide HE) (by omega) (unhide HBL)
          · omega
        · have hml := wt_bounds (d := Pu.dig (zs.getD k 0)) (wt := 1) (by omega) (by omega)
          by_cases ht : Pu.dig (zs.getD k 0) < Pu.thr 1 st.bias
          · have HE := hide ((unhide HR).trans (by rw [Pu.rdN_last hd ht]))
            have HM := hide hM
            clear HR hr hM row state bel HR0 HV0 HBG HXL
            generalize hdg : Pu.dig (zs.getD k 0) = d at *
            generalize zs.getD k 0 = z at *
            clear hdg
            generalize Pu.thr 1 st.bias = t at *
            go_wp2
            go_step3
            go_wp2_with fail
            refine (unhide (HD _)).mono ?_
            rintro e wq ⟨⟨hbad, _⟩ | ⟨_, rfl⟩, rfl⟩
            · omega
            · clear HD
              go_wp2_with (go_at_call 42; refine (unhide (HTH _)).mono ?_; rintro e wq ⟨rfl, rfl⟩; clear HTH)
              go_step3
              show (∃ b, w.heap.size ≤ b ∧ Jq X0 B b s zs r w 2 _ _) ∧ _
              exact ⟨⟨b, hbw, ⟨k + 1, st, _, 1, 0 + d * 1, 1, ⟨rfl, rfl, rfl, rfl, rfl, rfl, by go_num, rfl, rfl, by first | rfl | go_num | simp, rfl⟩, by omega, by omega, (unhide HM).later (by omega), by omega, unhide HE⟩⟩, pmes_lt (k := k) (k2 := k + 1) rfl (by go_num) (by simp <;> omega)⟩
          · have HE := hide ((unhide HR).trans (by rw [Pu.rdN_more hd ht]))
            have HM := hide hM
            have hwn := wt_next (t := Pu.thr 1 st.bias) (wt := 1) htb (by omega)
            clear HR hr hM row state bel HR0 HV0 HBG HXL
            generalize hdg : Pu.dig (zs.getD k 0) = d at *
            generalize zs.getD k 0 = z at *
            clear hdg
            rw [if_neg (by omega)] at HE
            generalize Pu.thr 1 st.bias = t at *
            go_wp2
            go_step3
            go_wp2_with fail
            refine (unhide (HD _)).mono ?_
            rintro e wq ⟨⟨hbad, _⟩ | ⟨_, rfl⟩, rfl⟩
            · omega
            · clear HD
              go_wp2_with (go_at_call 42; refine (unhide (HTH _)).mono ?_; rintro e wq ⟨rfl, rfl⟩; clear HTH)
              go_step3
              show (∃ b, w.heap.size ≤ b ∧ Jq X0 B b s zs r w 1 _ _) ∧ _
              exact ⟨⟨b, hbw, ⟨k + 1, st, _, 1 + 1, 0 + d * 1, 1 * (36 - t), ⟨rfl, rfl, rfl, rfl, rfl, rfl, by go_num, rfl, by first | rfl | go_num, by first | rfl | go_num | simp, by first | rfl | go_num | simp⟩, by omega, (unhide HM).later (by omega), by omega, by omega, by omega, unhide HE⟩⟩, pmes_lt (k := k) (k2 := k + 1) rfl (by go_num) (by simp <;> omega)⟩
      · have hke : k = zs.length := by omega
        have HE := hide (hr.trans ((congrArg (fun q => Pu.rdW q st) (List.drop_eq_nil_of_le (by omega))).trans (Pu.rdW_nil st)))
        have HRW := hide row
        have HBL := hide bel
        have hne : ((k : Int) == (s.size : Int)) = true := by simp; omega
        clear hr hM row state bel HR0 HV0 HBG HXL
        go_wp2
        go_ret2
        exact RdPost.yes (unhide HE) (unhide HRW) (unhide HBL)
    | 1, h =>
      obtain ⟨k, st, v, kk, vl, wt, hF, hks, hM, hkk, hvl, hwt, hr⟩ := h
      obtain ⟨U, rfl⟩ := hF.open
      clear hF
      conv => arg 2; whnf
      obtain ⟨row, state, bel, hBb, ltb, ne, len, hn, hi, hbias⟩ := id hM
      obtain ⟨c0, c1, c2, c3, c4, f0, f1, f2, f3, f4⟩ := state.cells
      by_cases hlt : k < zs.length
      · have hat := unhide HAT (k : Int) k rfl (by omega)
        have hrg := unhide HDG k hlt
        have hd35 := Pu.dig_le (zs.getD k 0)
        have hne : ((k : Int) == (s.size : Int)) = false := by simp; omega
        have HD := fun W => hide (digitOf_any (zs.getD k 0) W hrg.1 hrg.2)
        have HTH := fun W => hide (threshold_any kk st.bias W (by omega) (by omega))
        have htb := Pu.thr_bounds kk st.bias
        have HR := hide (hr.trans (by rw [dropz hlt]))
        by_cases hd : Pu.dig (zs.getD k 0) < 0
        · have HE := hide ((unhide HR).trans ((congrArg (Pu.after st) (Pu.rdN_bad hd)).trans (Pu.after_err (by omega))))
          have HBL := hide bel
          clear HR hr hM row state HTH htb bel HR0 HV0 HBG HXL
          generalize Pu.dig (zs.getD k 0) = d at *
          generalize zs.getD k 0 = z at *
          go_wp2_with fail
          refine (unhide (HD _)).mono ?_
          rintro e wq ⟨⟨_, rfl⟩ | ⟨hbad, _⟩, rfl⟩
          · clear HD
            go_wp2
            go_ret2
            exact RdPost.no (unhide HE) (by omega) (unhide HBL)
          · omega
        · have hml := wt_bounds (d := Pu.dig (zs.getD k 0)) (wt := wt) (by omega) (by omega)
          by_cases ht : Pu.dig (zs.getD k 0) < Pu.thr kk st.bias
          · have HE := hide ((unhide HR).trans (by rw [Pu.rdN_last hd ht]))
            have HM := hide hM
            clear HR hr hM row state bel HR0 HV0 HBG HXL
            generalize hdg : Pu.dig (zs.getD k 0) = d at *
            generalize zs.getD k 0 = z at *
            clear hdg
            generalize Pu.thr kk st.bias = t at *
            go_wp2_with fail
            refine (unhide (HD _)).mono ?_
            rintro e wq ⟨⟨hbad, _⟩ | ⟨_, rfl⟩, rfl⟩
            · omega
            · clear HD
              go_wp2_with (go_at_call 42; refine (unhide (HTH _)).mono ?_; rintro e wq ⟨rfl, rfl⟩; clear HTH)
              go_step3
              show (∃ b, w.heap.size ≤ b ∧ Jq X0 B b s zs r w 2 _ _) ∧ _
              exact ⟨⟨b, hbw, ⟨k + 1, st, _, kk, vl + d * wt, wt, ⟨rfl, rfl, rfl, rfl, rfl, rfl, by go_num, rfl, rfl, by first | rfl | go_num | simp, rfl⟩, by omega, by omega, (unhide HM).later (by omega), by omega, unhide HE⟩⟩, pmes_lt (k := k) (k2 := k + 1) rfl (by go_num) (by simp <;> omega)⟩
          · have HE := hide ((unhide HR).trans (by rw [Pu.rdN_more hd ht]))
            have HM := hide hM
            have hwn := wt_next (t := Pu.thr kk st.bias) (wt := wt) htb (by omega)
            clear HR hr hM row state bel HR0 HV0 HBG HXL
            generalize hdg : Pu.dig (zs.getD k 0) = d at *
            generalize zs.getD k 0 = z at *
            clear hdg
            by_cases hmin : 2147483648 < wt * (36 - Pu.thr kk st.bias)
            · rw [if_pos hmin] at HE
              generalize Pu.thr kk st.bias = t at *
              go_wp2_with fail
              refine (unhide (HD _)).mono ?_
              rintro e wq ⟨⟨hbad, _⟩ | ⟨_, rfl⟩, rfl⟩
              · omega
              · clear HD
                go_wp2_with (go_at_call 42; refine (unhide (HTH _)).mono ?_; rintro e wq ⟨rfl, rfl⟩; clear HTH)
                go_step3
                show (∃ b, w.heap.size ≤ b ∧ Jq X0 B b s zs r w 1 _ _) ∧ _
                exact ⟨⟨b, hbw, ⟨k + 1, st, _, kk + 1, vl + d * wt, 2147483648, ⟨rfl, rfl, rfl, rfl, rfl, rfl, by go_num, rfl, by first | rfl | go_num, by first | rfl | go_num | simp, by first | rfl | go_num | simp⟩, by omega, (unhide HM).later (by omega), by omega, by omega, by omega, unhide HE⟩⟩, pmes_lt (k := k) (k2 := k + 1) rfl (by go_num) (by simp <;> omega)⟩
            · rw [if_neg hmin] at HE
              generalize Pu.thr kk st.bias = t at *
              go_wp2_with fail
              refine (unhide (HD _)).mono ?_
              rintro e wq ⟨⟨hbad, _⟩ | ⟨_, rfl⟩, rfl⟩
              · omega
              · clear HD
                go_wp2_with (go_at_call 42; refine (unhide (HTH _)).mono ?_; rintro e wq ⟨rfl, rfl⟩; clear HTH)
                go_step3
                show (∃ b, w.heap.size ≤ b ∧ Jq X0 B b s zs r w 1 _ _) ∧ _
                exact ⟨⟨b, hbw, ⟨k + 1, st, _, kk + 1, vl + d * wt, wt * (36 - t), ⟨rfl, rfl, rfl, rfl, rfl, rfl, by go_num, rfl, by first | rfl | go_num, by first | rfl | go_num | simp, by first | rfl | go_num | simp⟩, by omega, (unhide HM).later (by omega), by omega, by omega, by omega, unhide HE⟩⟩, pmes_lt (k := k) (k2 := k + 1) rfl (by go_num) (by simp <;> omega)⟩
      · have HE := hide (hr.trans ((congrArg (Pu.after st) ((congrArg (fun q => Pu.rdN st.bias q kk vl wt) (List.drop_eq_nil_of_le (by omega))).trans (Pu.rdN_end _ _ _ _))).trans (Pu.after_err (by omega))))
        have HBL := hide bel
        have hne : ((k : Int) == (s.size : Int)) = true := by simp; omega
        clear hr hM row state bel HR0 HV0 HBG HXL
        go_wp2
        go_ret2
        exact RdPost.no (unhide HE) (by omega) (unhide HBL)
    | 2, h =>
      obtain ⟨k, st, v, kk, vl, wt, hF, hks, hk1, hM, hvl, hr⟩ := h
      obtain ⟨U, rfl⟩ := hF.open
      clear hF
      conv => arg 2; whnf
      obtain ⟨row, state, bel, hBb, ltb, ne, len, hn, hi, hbias⟩ := id hM
      have hxl := unhide HXL
      by_cases hover : 2147483647 < vl
      · have HE := hide (hr.trans (Pu.after_over hover))
        have HBL := hide bel
        clear hr hM row state bel HR0 HV0 HBG HXL
        go_wp2
        go_ret2
        exact RdPost.no (unhide HE) (by omega) (unhide HBL)
      · have HS := hide (step_any b st.xs.length st.n st.i st.bias vl st.first wr state (by omega) (by omega) (by omega) (by omega))
        have hN : Pu.stepN st vl = st.n + (st.i + vl) / (st.xs.length + 1) := rfl
        have hP : Pu.stepP st vl = (st.i + vl) % (st.xs.length + 1) := rfl
        rw [← hN, ← hP] at HS
        have hq0 : 0 ≤ (st.i + vl) / ((st.xs.length : Int) + 1) := Int.ediv_nonneg (by omega) (by omega)
        have hq1 : (st.i + vl) / ((st.xs.length : Int) + 1) ≤ st.i + vl := Int.ediv_le_self _ (by omega)
        have hr0 : 0 ≤ (st.i + vl) % ((st.xs.length : Int) + 1) := Int.emod_nonneg _ (by omega)
        have hr1 : (st.i + vl) % ((st.xs.length : Int) + 1) < (st.xs.length : Int) + 1 := Int.emod_lt_of_pos _ (by omega)
        have hn0 : 0 ≤ Pu.stepN st vl ∧ Pu.stepN st vl ≤ 9000000000 := by rw [hN]; omega
        have hp0 : 0 ≤ Pu.stepP st vl ∧ Pu.stepP st vl ≤ st.xs.length := by rw [hP]; omega
        clear hN hP hq0 hq1 hr0 hr1
        by_cases hbig : 1114111 < Pu.stepN st vl
        · have HE := hide (hr.trans (Pu.after_bad hover (by unfold Utf.okc; omega)))
          have HBL := hide bel
          have HRW := hide row
          clear hr hM row state bel HR0 HV0 HBG HXL
          generalize Pu.stepN st vl = nn at *
          generalize Pu.stepP st vl = pp at *
          generalize Pu.adapt vl ((st.xs.length : Int) + 1) st.first = ad at *
          go_wp2_with fail
          refine (unhide HS).mono ?_
          rintro e wq ⟨rfl, hst, hgr, hsz⟩
          clear HS
          have HBQ := hide ((unhide HBL).grown hgr (by omega) (fun g hg => by simp at hg; omega))
          clear hst hgr hsz HBL
          go_wp2
          go_ret2
          exact RdPost.no (unhide HE) (by omega) (unhide HBQ)
        · have HV := fun W => hide (valid_any (Pu.stepN st vl) W (by omega))
          by_cases hok : Utf.okc (Pu.stepN st vl)
          · rw [okb_eq hok] at HV
            have HE := hide (hr.trans (Pu.after_ok hover hok))
            obtain ⟨p, hp⟩ : ∃ p : Nat, Pu.stepP st vl = p := ⟨(Pu.stepP st vl).toNat, by omega⟩
            have HST : Hid (∀ wq e w2, StAt wq b ((st.xs.length : Int) + 1) (Pu.stepN st vl) (Pu.stepP st vl + 1) (Pu.adapt vl ((st.xs.length : Int) + 1) st.first) false → wr.grownBy wq (some b) → wq.heap.size = wr.heap.size →
                InsPost B v (wq.alloc (.cells #[.int .i32 (Pu.stepN st vl)] 21)) (Pu.ins st.xs (Pu.stepP st vl).toNat (Pu.stepN st vl)) e w2 → ∃ v', e = .returned v' ∧ Rm X0 B b w k (Pu.step st vl) v' w2) :=
              fun wq e w2 h1 h2 h3 h4 => hM.step hk1 (by omega) hok h1 h2 h3 h4
            have HIN : Hid (∀ wq, wr.grownBy wq (some b) → wq.heap.size = wr.heap.size → Calls Try.prog 44 #[v, .int .i64 p, .slice (some ⟨wq.heap.size, 0, none⟩) 1 1] (wq.alloc (.cells #[.int .i32 (Pu.stepN st vl)] 21)) (InsPost B v (wq.alloc (.cells #[.int .i32 (Pu.stepN st vl)] 21)) (Pu.ins st.xs (Pu.stepP st vl).toNat (Pu.stepN st vl)))) :=
              fun wq h1 h2 => hM.ins (by omega) hok h1 h2 p hp
            clear hr hM row state bel HR0 HV0 HBG HXL hok len
            rw [hp] at HS HST HIN
            generalize Pu.ins st.xs ((p : Int)).toNat (Pu.stepN st vl) = ys at *
            clear hp
            generalize Pu.stepN st vl = nn at *
            generalize Pu.adapt vl ((st.xs.length : Int) + 1) st.first = ad at *
            go_wp2_with fail
            refine (unhide HS).mono ?_
            rintro e wq ⟨rfl, hst, hgr, hsz⟩
            clear HS
            have HI := hide (unhide HIN wq hgr hsz)
            have HQ := hide (fun e w2 => unhide HST wq e w2 hst hgr hsz)
            clear hst hgr hsz HIN HST
            go_wp2_with (go_at_call 43; refine (unhide (HV _)).mono ?_; rintro e wx ⟨rfl, rfl⟩; clear HV)
            refine (unhide HI).mono ?_
            intro e w2 hins
            obtain ⟨v', rfl, hM2⟩ := unhide HQ e w2 hins
            have HM2 := hide hM2
            clear hins hM2 HI HQ
            go_wp2
            go_step3
            show (∃ b, w.heap.size ≤ b ∧ Jq X0 B b s zs r w 0 _ _) ∧ _
            exact ⟨⟨b, hbw, k, _, v', ⟨rfl, rfl, rfl, rfl, rfl, rfl, rfl, rfl⟩, hks, unhide HM2, unhide HE⟩, pmes_lt (k := k) (k2 := k) rfl rfl (by simp)⟩
          · have HE := hide (hr.trans (Pu.after_bad hover hok))
            rw [okb_ne hok] at HV
            have HBL := hide bel
            clear hr hM row state bel HR0 HV0 HBG HXL hok
            generalize Pu.stepN st vl = nn at *
            generalize Pu.stepP st vl = pp at *
            generalize Pu.adapt vl ((st.xs.length : Int) + 1) st.first = ad at *
            go_wp2_with fail
            refine (unhide HS).mono ?_
            rintro e wq ⟨rfl, hst, hgr, hsz⟩
            clear HS
            have HBQ := hide ((unhide HBL).grown hgr (by omega) (fun g hg => by simp at hg; omega))
            clear hst hgr hsz HBL
            go_wp2_with (go_at_call 43; refine (unhide (HV _)).mono ?_; rintro e wx ⟨rfl, rfl⟩; clear HV)
            go_ret2
            exact RdPost.no (unhide HE) (by omega) (unhide HBQ)
end Go.Proofs.Ytgccindoinhphaa
