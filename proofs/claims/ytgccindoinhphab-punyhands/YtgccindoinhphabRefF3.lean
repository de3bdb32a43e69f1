/- The contracts of the document's own Form, Encode, Bytes. -/
import Derived.Test.YtgccindoinhphabRefE
namespace Go.Proofs.Ytgccindoinhphab
open Go.RowKit

theorem conv_zero (w : World) (ad : Addr) (c : Nat) : (convert 38 9 (.slice (some ad) 0 c)).run Try.prog w = .ok (.string (strOfNums [])) w := by
  rw [run_convert_bytes_string w 38 9 5 _ 0 c Try.underlying38 Try.underlying5 Try.underlying9, run_bytesToString w ad 0 c [] (run_loadCells_list (P := Try.prog) w ad [] (fun j v hj => by simp at hj))]
  rfl

theorem Sk.conv {w : World} {v : Value} {zs : List Int} (h : Sk .u8 w v zs) : (convert 38 9 v).run Try.prog w = .ok (.string (strOfNums zs)) w := by
  rcases Nat.eq_zero_or_pos zs.length with h0 | h0
  · obtain rfl := List.eq_nil_of_length_eq_zero h0
    obtain ⟨ao, cap, rfl, _, _⟩ := h.shape
    cases ao with
    | none => rw [List.length_nil, run_convert_bytes_nil w 38 5 Try.underlying38 Try.underlying5 0 cap 9 Try.underlying9]; rfl
    | some ad => exact conv_zero w ad cap
  · obtain ⟨b, off, cap, rfl, hl, hm, hc⟩ := h.place h0
    exact run_convert_bytes_arg w 38 5 Try.underlying38 Try.underlying5 b off zs.length cap zs rfl hc 9 Try.underlying9

/-- New values. -/
def NewB (w : World) (zs : List Int) (e : Ending) (w' : World) : Prop := ∃ v, e = .returned v ∧ Sk .u8 w' v zs ∧ Below w.heap.size w w'

theorem NewB.lit {w : World} {zs r : List Int} {n : Nat} {C : Array Value} {m : Nat × Nat} {g : Nat} (hr : r = zs) (hg : g = w.heap.size) (hn : zs.length = n) (hC : C = (zs.map (Value.int .u8)).toArray) (hb : Utf.Byt r) (hl : zs.length ≤ 1000) :
    NewB w r (.returned (.slice (some ⟨g, 0, none⟩) n n)) (w.alloc (.cells C 5 m)) := by
  subst hr
  exact ⟨_, rfl, Sk.lit .u8 5 w g hg r n hn C hC m (fit_u8_of hb) hl, (Below.refl _ _).alloc (Nat.le_refl _) _⟩

set_option maxHeartbeats 1000000 in
theorem refForm_any (c : Int) (w : World) (h : Utf.okc c) :
    Calls Try.prog 12 #[.int .i32 c] w (NewB w (Utf.form c)) := by
  have hby := Utf.form_byt h
  unfold Utf.okc at h
  have h0 : 0 ≤ c := by omega
  have h1 : c ≤ 1114111 := by omega
  clear h
  by_cases a1 : c < 128
  · have e : Utf.form c = [c] := by simp [Utf.form, a1]
    have HF := fun (w : World) m => NewB.lit (w := w) (m := m) e rfl rfl rfl hby (by simp)
    clear e hby
    generalize Utf.form c = r at *
    go_enter Try.func12, Try.ntmps12
    go_wp2
    go_ret
    exact HF w _
  · by_cases a2 : c < 2048
    · have e : Utf.form c = [192 + c / 64, 128 + c % 64] := by simp [Utf.form, a1, a2]
      have HF := fun (w : World) m => NewB.lit (w := w) (m := m) e rfl rfl rfl hby (by simp)
      clear e hby
      generalize Utf.form c = r at *
      go_enter Try.func12, Try.ntmps12
      go_wp2
      go_ret
      exact HF w _
    · by_cases a3 : c < 65536
      · have e : Utf.form c = [224 + c / 4096, 128 + c / 64 % 64, 128 + c % 64] := by simp [Utf.form, a1, a2, a3]
        have HF := fun (w : World) m => NewB.lit (w := w) (m := m) e rfl rfl rfl hby (by simp)
        clear e hby
        generalize Utf.form c = r at *
        go_enter Try.func12, Try.ntmps12
        go_wp2
        go_ret
        exact HF w _
      · have e : Utf.form c = [240 + c / 262144, 128 + c / 4096 % 64, 128 + c / 64 % 64, 128 + c % 64] := by simp [Utf.form, a1, a2, a3]
        have HF := fun (w : World) m => NewB.lit (w := w) (m := m) e rfl rfl rfl hby (by simp)
        clear e hby
        generalize Utf.form c = r at *
        go_enter Try.func12, Try.ntmps12
        go_wp2
        go_ret
        exact HF w _

theorem enc_step {xs ys : List Int} {k : Nat} {r : List Int × Int × Int} (hk : k < xs.length) (h : r = Utf.glue ys (Utf.encA k (xs.drop k))) (hc : Utf.okc (xs.getD k 0)) :
    r = Utf.glue (ys ++ Utf.form (xs.getD k 0)) (Utf.encA (k + 1) (xs.drop (k + 1))) := by
  rw [h, drop_next hk]
  simp only [Utf.encA, if_pos hc, Utf.glue_glue]
theorem enc_stop {xs ys : List Int} {k : Nat} {r : List Int × Int × Int} (hk : k < xs.length) (h : r = Utf.glue ys (Utf.encA k (xs.drop k))) (hc : ¬ Utf.okc (xs.getD k 0)) :
    r = ([], (k : Int), 31) := by
  rw [h, drop_next hk]
  simp only [Utf.encA, if_neg hc]
  simp [Utf.glue]
theorem enc_end {xs ys : List Int} {k : Nat} {r : List Int × Int × Int} (hk : k = xs.length) (h : r = Utf.glue ys (Utf.encA k (xs.drop k))) : r = (ys, 0, 0) := by
  subst hk
  rw [h, List.drop_length]
  simp [Utf.encA, Utf.glue]

set_option maxHeartbeats 1000000 in
theorem refEncode_any (v : Value) (xs : List Int) (w : World) (hv : Sk .i32 w v xs) (hl : xs.length ≤ 35184372087808) :
    Calls Try.prog 4 #[v] w (EncPost w (Utf.encA 0 xs)) := by
  obtain ⟨i0, hi, hz0, hz1, hz2⟩ := info_parts Try.info5
  have hr0 : Utf.encA 0 xs = Utf.glue [] (Utf.encA 0 (xs.drop 0)) := by
    rw [List.drop_zero, Utf.glue_nil]
    · intro h; rcases Utf.enc_shape 0 xs with h1 | ⟨q, h1, _⟩
      · exact h1.2
      · rw [h1] at h; simp at h
    · intro h; rcases Utf.enc_shape 0 xs with h1 | ⟨q, h1, _⟩
      · exact absurd h1.1 h
      · rw [h1]
  rcases Nat.eq_zero_or_pos xs.length with h0 | h0
  · have HF := EncPost.no (w := w) (w' := w) (enc_end h0.symm hr0) (Below.refl _ _)
    have hnil := (Sk.nil .u8 w).conv
    obtain ⟨ao, cap, rfl, _, _⟩ := hv.shape
    rw [h0]
    clear hv hr0
    generalize Utf.encA 0 xs = r at *
    go_enter Try.func4, Try.ntmps4
    go_wp2
    refine wp_loop_rounds 1 ?_
    rw [rounds_succ]
    go_wp2
    go_ret3
    exact HF
  · have hfit := hide hv.1
    have hvs := hide hv
    obtain ⟨b, off, cap, rfl, hc1, hc2, hc⟩ := hv.place h0
    clear hv hc
    generalize Utf.encA 0 xs = r at *
    have HR := hide hr0
    clear hr0
    go_enter Try.func4, Try.ntmps4
    go_wp2
    go_loopw [5, 6] (fun vb i wr => ∃ (k : Nat) (ys : List Int), i = .int .i64 k ∧ k ≤ xs.length ∧ Ok .u8 5 wr w.heap.size vb ys ∧ ys.length ≤ 4 * k ∧ Below w.heap.size w wr ∧ r = Utf.glue ys (Utf.encA k (xs.drop k))) (fun _ i _ => xs.length - (intOf i).toNat)
    case atStart => exact ⟨0, [], rfl, by omega, Ok.nil _ _ _ _, by simp, Below.refl _ _, unhide HR⟩
    case round =>
      obtain ⟨k, ys, rfl, hk, hown, hyl, hbel, hr⟩ := hrel
      by_cases hlt : k < xs.length
      · have hcell : wr.cell? ⟨b, off + k, none⟩ = some (.int .i32 (xs.getD k 0)) := by
          obtain ⟨b', off', cap', hv', _, _, hc'⟩ := ((unhide hvs).below hbel).place h0
          simp only [Value.slice.injEq, Option.some.injEq, Addr.mk.injEq, and_true] at hv'
          obtain ⟨⟨rfl, rfl⟩, _⟩ := hv'
          exact hc' k hlt
        have hrg := (unhide hfit).i32at k
        have HV : Hid (Calls Try.prog 11 #[.int .i32 (xs.getD k 0)] wr fun e w' => e = .returned (.bool (okb (xs.getD k 0))) ∧ w' = wr) := hide (refValid_any (xs.getD k 0) wr hrg)
        cases hok : okb (xs.getD k 0) with
        | true =>
          have hokc : Utf.okc (xs.getD k 0) := of_decide_eq_true hok
          have hst := hide (enc_step hlt hr hokc)
          have HFm := hide (refForm_any (xs.getD k 0) wr hokc)
          have hfl := Utf.form_len (xs.getD k 0)
          have hfb := hide (fit_u8_of (Utf.form_byt hokc))
          rw [hok] at HV
          clear hr hok hokc
          generalize xs.getD k 0 = c at *
          go_wp2_with fail
          refine (unhide HV).mono ?_
          rintro e wr ⟨rfl, rfl⟩
          clear HV
          go_wp2_with fail
          refine (unhide HFm).mono ?_
          rintro e w1 ⟨vf, rfl, hsk, hb1⟩
          clear HFm
          have hown1 := (hown.below hb1)
          have hs0 := hbel.size
          have hs1 := hb1.size
          rcases hsk.src with ⟨h1, h2⟩ | ⟨ad, cp, rfl, hsrc⟩
          · rw [h1] at hfl; simp at hfl
          · have hbel1 := hbel.trans (hb1.mono hs0)
            generalize hform : Utf.form c = fs at *
            go_wp2_with (first
              | (at_builtin; refine wpList_append_own _ rfl _ _ 38 rfl w.heap.size 5 i0 (.int .u8 0) 1 1 Try.underlying38 hi hz0 hz1 hz2 rfl (by decide) _ _ _ rfl hown1.row ad fs.length cp (fs.map (Value.int .u8)) rfl (by simp) hsrc (ints_one .u8 fs) (by unfold maxLen; omega) (by omega) (by omega) ?_)
              | go_in)
            intro v2 w2 hown2 hg2 _
            have hb2 : Below w.heap.size w w2 := below_append0 (by omega) hown1.row hbel1 hg2
            have hok2 : Ok .u8 5 w2 w.heap.size v2 (ys ++ fs) := Ok.of (hown.1.app (unhide hfb)) (by simp; omega) hown2 (by simp) (by simp)
            clear hown hown1 hown2 hg2 hsk hsrc
            go_wp2
            go_roundw
            case rel => exact ⟨k + 1, ys ++ fs, by go_num, by omega, hok2, by simp; omega, hb2, unhide hst⟩
            case measure => simp [intOf]; omega
        | false =>
          have hokc : ¬ Utf.okc (xs.getD k 0) := of_decide_eq_false hok
          have HF := EncPost.no (w := w) (enc_stop hlt hr hokc) hbel
          rw [hok] at HV
          clear hr hok hokc hown
          generalize xs.getD k 0 = c at *
          go_wp2_with fail
          refine (unhide HV).mono ?_
          rintro e wr ⟨rfl, rfl⟩
          clear HV
          go_wp2
          go_ret3
          exact HF
      · have hke : k = xs.length := by omega
        have HF := EncPost.mk (w := w) (enc_end hke hr) hbel
        have hcv := hown.sk.conv
        clear hr hown
        generalize strOfNums ys = st at *
        go_wp2
        go_ret3
        exact HF

end Go.Proofs.Ytgccindoinhphab
