/- The contract of scalar's Encode. -/
import Derived.Test.YtchjnplceelgoaaScB
namespace Go.Proofs.Ytchjnplceelgoaa
open Go.RowKit

theorem conv8_zero (w : World) (ad : Addr) (c : Nat) : (convert 52 9 (.slice (some ad) 0 c)).run Try.prog w = .ok (.string (strOfNums [])) w := by
  rw [run_convert_bytes_string w 52 9 5 _ 0 c Try.underlying52 Try.underlying5 Try.underlying9, run_bytesToString w ad 0 c [] (run_loadCells_list (P := Try.prog) w ad [] (fun j v hj => by simp at hj))]
  rfl
theorem Sk.conv8 {w : World} {v : Value} {zs : List Int} (h : Sk .u8 w v zs) : (convert 52 9 v).run Try.prog w = .ok (.string (strOfNums zs)) w := by
  rcases Nat.eq_zero_or_pos zs.length with h0 | h0
  · obtain rfl := List.eq_nil_of_length_eq_zero h0
    obtain ⟨ao, cap, rfl, _, _⟩ := h.shape
    cases ao with
    | none => rw [List.length_nil, run_convert_bytes_nil w 52 5 Try.underlying52 Try.underlying5 0 cap 9 Try.underlying9]; rfl
    | some ad => exact conv8_zero w ad cap
  · obtain ⟨b, off, cap, rfl, hl, hm, hc⟩ := h.place h0
    exact run_convert_bytes_arg w 52 5 Try.underlying52 Try.underlying5 b off zs.length cap zs rfl hc 9 Try.underlying9

theorem fb_enc (i : Nat) (xs : List Int) : (fb (fun c => !okb c) i xs = -1 ∧ (Utf.encA i xs).2.2 = 0 ∧ ∀ c ∈ xs, Utf.okc c) ∨ ∃ q : Nat, fb (fun c => !okb c) i xs = (q : Int) ∧ Utf.encA i xs = ([], (q : Int), 31) ∧ q < i + xs.length := by
  induction xs generalizing i with
  | nil => exact .inl ⟨rfl, rfl, fun c hc => by cases hc⟩
  | cons c r ih =>
    by_cases hc : Utf.okc c
    · have hb : (!okb c) = false := by simp [okb, hc]
      have e1 : fb (fun c => !okb c) i (c :: r) = fb (fun c => !okb c) (i + 1) r := by simp [fb, hb]
      have e2 : Utf.encA i (c :: r) = Utf.glue (Utf.form c) (Utf.encA (i + 1) r) := by simp [Utf.encA, hc]
      rw [e1, e2]
      rcases ih (i + 1) with ⟨h1, h2, h3⟩ | ⟨q, h1, h2, h3⟩
      · refine .inl ⟨h1, by simp [Utf.glue, h2], fun d hd => ?_⟩
        rcases List.mem_cons.1 hd with rfl | hd
        · exact hc
        · exact h3 d hd
      · exact .inr ⟨q, h1, by rw [h2]; simp [Utf.glue], by simp; omega⟩
    · have hb : (!okb c) = true := by simp [okb, hc]
      exact .inr ⟨i, by simp [fb, hb], by simp [Utf.encA, hc], by simp⟩

theorem all_at {xs : List Int} (h : ∀ c ∈ xs, Utf.okc c) {k : Nat} (hk : k < xs.length) : Utf.okc (xs.getD k 0) := by
  have : xs.getD k 0 = xs[k] := by simp [List.getD, hk]
  rw [this]; exact h _ (List.getElem_mem hk)

set_option maxHeartbeats 2000000 in
theorem encC : EncC := by
  intro v xs w hv hl
  obtain ⟨i0, hi, hz0, hz1, hz2⟩ := info_parts infoB
  have H1 := hide (firstUnsound_any v xs w hv)
  rcases fb_enc 0 xs with ⟨hf, h2, hall⟩ | ⟨q, hf, he, hq⟩
  · have HB := hide (bytes_any v xs w hv hl)
    have hcn : cnt (Utf.encA 0 xs) = ((Utf.encA 0 xs).1.length : Int) := by unfold cnt; rw [if_pos h2]
    rw [hcn] at HB
    rw [hf] at H1
    have hle := Utf.enc_len 0 xs
    have hr0 := encs_begin xs
    have htot : ∀ (ys : List Int) (k : Nat), k < xs.length → Utf.encA 0 xs = Utf.glue ys (Utf.encA k (xs.drop k)) → ys.length ≤ 4 * k → ys.length + (Utf.form (xs.getD k 0)).length ≤ 140737488355328 := by
      intro ys k hk _ hy
      have := Utf.form_len (xs.getD k 0)
      omega
    have HT := hide htot
    clear htot hcn hf h2
    obtain ⟨wm, hmk, hrowm, hgm⟩ := run_make_own (P := Try.prog) w w.heap.size 52 5 i0 (.int .u8 0) 1 Try.underlying52 hi hz0 hz1 .i64 .i64 (Utf.encA 0 xs).1.length (by rw [hz2]; omega) (by unfold maxLen; omega) (Nat.le_refl _)
    have hbm : Below w.heap.size w wm := (Below.refl _ w).grown hgm (Nat.le_refl _) (fun k hk => by cases hk)
    have okm : Ok .u8 5 wm w.heap.size (.slice (some ⟨w.heap.size, 0, none⟩) 0 (Utf.encA 0 xs).1.length) [] := Ok.of (Fit.nil _) (by simp) hrowm rfl rfl
    clear hgm hrowm
    generalize (Utf.encA 0 xs).1.length = L at *
    rcases Nat.eq_zero_or_pos xs.length with h0 | h0
    · have HF := EncPost.mk (w := w) (w' := wm) (encs_end h0.symm hr0) hbm
      have hcv := okm.sk.conv8
      obtain ⟨ao, cap, rfl, _, _⟩ := hv.shape
      rw [h0] at H1 HB ⊢
      clear hv hr0 HT hall okm
      generalize Utf.encA 0 xs = r at *
      go_enter Try.func14, Try.ntmps14
      go_wp2_with fail
      refine (unhide H1).mono ?_
      rintro e w ⟨rfl, rfl⟩
      clear H1
      go_wp2_with fail
      refine (unhide HB).mono ?_
      rintro e w ⟨rfl, rfl⟩
      clear HB
      go_wp2
      refine wp_loop_rounds 1 ?_
      rw [rounds_succ]
      go_wp2
      go_ret3
      exact HF
    · have hfit := hide hv.1
      obtain ⟨b, off, cap, rfl, hc1, hc2, hc⟩ := hv.place h0
      have HC : Hid (∀ wx, Below w.heap.size w wx → ∀ i, i < xs.length → wx.cell? ⟨b, off + i, none⟩ = some (.int .i32 (xs.getD i 0))) := by
        intro wx hb i hi
        rw [hb.cell (lt_of_cell? (hc i hi))]; exact hc i hi
      have HR0 := hide hr0
      have HA := hide hall
      clear hv hc hr0 hall
      generalize Utf.encA 0 xs = r at *
      go_enter Try.func14, Try.ntmps14
      go_wp2_with fail
      refine (unhide H1).mono ?_
      rintro e w ⟨rfl, rfl⟩
      clear H1
      go_wp2_with fail
      refine (unhide HB).mono ?_
      rintro e w ⟨rfl, rfl⟩
      clear HB
      go_wp2
      go_loopw [6, 19] (fun vb i wr => ∃ (k : Nat) (ys : List Int), i = .int .i64 k ∧ k ≤ xs.length ∧ Ok .u8 5 wr w.heap.size vb ys ∧ ys.length ≤ 4 * k ∧ Below w.heap.size w wr ∧ r = Utf.glue ys (Utf.encA k (xs.drop k))) (fun _ i _ => xs.length - (intOf i).toNat)
      case atStart => exact ⟨0, [], rfl, by omega, okm, by simp, hbm, unhide HR0⟩
      case round =>
        clear okm hbm hmk
        obtain ⟨k, ys, rfl, hk, hok, hyl, hbel, hr⟩ := hrel
        by_cases hlt : k < xs.length
        · have hcell := (unhide HC) wr hbel k hlt
          have hrg := (unhide hfit).i32at k
          have hkc := all_at (unhide HA) hlt
          have hsz := hbel.size
          have HP := hide (appendRune_any _ ys (xs.getD k 0) w.heap.size wr hok hsz hkc ((unhide HT) ys k hlt hr hyl))
          have HR := hide (encs_step hlt hr hkc)
          have hf := Utf.form_len (xs.getD k 0)
          have hyl2 : (ys ++ Utf.form (xs.getD k 0)).length ≤ 4 * (k + 1) := by rw [List.length_append]; omega
          clear hr hkc hok hf
          generalize ys ++ Utf.form (xs.getD k 0) = ys2 at *
          generalize xs.getD k 0 = c at *
          go_wp2_with fail
          refine (unhide HP).mono ?_
          rintro e w2 ⟨v2, rfl, ok2, hb2⟩
          have hb3 : Below w.heap.size w w2 := hbel.trans hb2
          clear HP hb2 hbel
          go_wp2
          go_roundw
          case rel => exact ⟨k + 1, ys2, by go_num, by omega, ok2, hyl2, hb3, unhide HR⟩
          case measure => simp [intOf]; omega
        · have HF := EncPost.mk (w := w) (w' := wr) (encs_end (show k = xs.length by omega) hr) hbel
          have hcv := hok.sk.conv8
          clear hr hok
          go_wp2
          go_ret3
          exact HF
  · have HF := EncPost.no (w := w) (w' := w) he (Below.refl _ _)
    rw [hf] at H1
    clear hf he hv
    generalize Utf.encA 0 xs = r at *
    go_enter Try.func14, Try.ntmps14
    go_wp2_with fail
    refine (unhide H1).mono ?_
    rintro e w ⟨rfl, rfl⟩
    clear H1
    go_wp2
    go_ret3
    exact HF
end Go.Proofs.Ytchjnplceelgoaa
