/- The law ScalarBack, out of the contracts. (By program: LBack3.py.) -/
import Derived.Test.YtchjnplceelgoaaTold3
namespace Go.Proofs.Ytchjnplceelgoaa
open Go.RowKit

set_option maxHeartbeats 2000000 in
theorem scalarBack_any (HD : DecC) (HE : EncC) (HV : ValC) (HS : SplC) (v : Value) (xs : List Int) (s : ByteArray) (w : World) (hv : Sk .i32 w v xs) (hx : xs.length ≤ 1048576) (hs : s.size ≤ 1048576) :
    Calls Try.prog 7 #[v, .string s] w (Tells w true) := by
  have HT := fun w => hide (told_any HD HE HV HS w)
  have H1 := hide (HE v xs w hv (by omega))
  have H2 := fun w => hide (HD s w (by omega))
  have hed := Utf.enc_dec _ 0 0 (nums s) (Nat.le_refl _) (nums_byt s)
  have hsh := Utf.dec_shape _ 0 (nums s) (Nat.le_refl _)
  have hnl := nums_length s
  rw [hnl] at hsh
  generalize Utf.dec 0 (nums s) = d at *
  have hde := Utf.dec_enc 0 0 xs
  have hes := Utf.enc_shape 0 xs
  have hel := Utf.enc_len 0 xs
  have heb := Utf.enc_byt 0 xs
  generalize Utf.encA 0 xs = r at *
  obtain ⟨a, p, er⟩ := r
  rcases hes with ⟨h1, h2⟩ | ⟨q, h1, h2, h3⟩
  · simp only at h1 h2 hel heb
    subst h1; subst h2
    have hds := HD (strOfNums a)
    rw [nums_strOf heb, show Utf.dec 0 a = (xs, 0, 0) from hde rfl, strOfNums_size] at hds
    have HD2 := fun w => hide (hds w (by omega))
    have hskw := hv
    obtain ⟨ao, cap, rfl, hc1, hc2⟩ := hv.shape
    have H1' : Hid (Calls Try.prog 14 #[.slice ao xs.length cap] w fun e w' => e = .returned (.tuple #[.string (strOfNums a), .int .i64 0, .int .i64 0]) ∧ Below w.heap.size w w') := H1
    clear HD HV HS H1 hds hde heb hel
    generalize strOfNums a = st at *
    go_enter Try.func7, Try.ntmps7
    go_wp2_with fail
    refine (unhide H1').mono ?_
    rintro e w1 ⟨rfl, hb1⟩
    clear H1'
    go_wp2_with fail
    refine (unhide (HD2 _)).mono ?_
    rintro e w2 ⟨v2, rfl, hok2, hb2⟩
    have hbA := bthen hb1 hb2
    have HSm := hide (same_any _ v2 xs xs w2 (hskw.below hbA) hok2.sk)
    simp only [decide_true] at HSm
    clear HD2 hok2 hskw
    go_wp2_with fail
    refine (unhide HSm).mono ?_
    rintro e w3 ⟨rfl, hbB⟩
    clear HSm
    have hbm := bthen hbA hbB
    go_wp2_with fail
    refine (unhide (H2 _)).mono ?_
    rintro e w5 ⟨v5, rfl, hok5, hb5⟩
    have hbm := bthen hbm hb5
    rcases hsh with ⟨h1, h2, h3⟩ | ⟨q, h1, h2, h3⟩
    · have H3 := hide (HE v5 _ w5 hok5.sk (by omega))
      rw [hed h1] at H3
      have H3' : Hid (Calls Try.prog 14 #[v5] w5 fun e w' => e = .returned (.tuple #[.string s, .int .i64 0, .int .i64 0]) ∧ Below w5.heap.size w5 w') := by
        have h := unhide H3
        unfold EncPost at h
        rw [strOf_nums] at h
        exact h
      clear H3 hok5 hed HE
      obtain ⟨a5, p5, e5⟩ := d
      simp only at h1 h2
      subst h1; subst h2
      go_wp2_with fail
      refine (unhide H3').mono ?_
      rintro e w6 ⟨rfl, hb6⟩
      have hbm := bthen hbm hb6
      clear H3' hb6
      go_wp2_with fail
      refine (unhide (HT _)).mono ?_
      rintro e w7 ⟨rfl, hb7⟩
      have hbm := bthen hbm hb7
      clear HT
      go_wp2
      go_ret
      exact ⟨rfl, hbm⟩
    · subst h1
      clear hok5 hed HE
      go_wp2_with fail
      refine (unhide (HT _)).mono ?_
      rintro e w7 ⟨rfl, hb7⟩
      have hbm := bthen hbm hb7
      clear HT
      go_wp2
      go_ret
      exact ⟨rfl, hbm⟩
  · simp only [Prod.mk.injEq] at h1
    obtain ⟨rfl, rfl, rfl⟩ := h1
    have H1' : Hid (Calls Try.prog 14 #[v] w fun e w' => e = .returned (.tuple #[.string ⟨#[]⟩, .int .i64 (q : Int), .int .i64 31]) ∧ Below w.heap.size w w') := H1
    obtain ⟨ao, cap, rfl, hc1, hc2⟩ := hv.shape
    clear HD HV HS H1 hde heb hel hv
    go_enter Try.func7, Try.ntmps7
    go_wp2_with fail
    refine (unhide H1').mono ?_
    rintro e w1 ⟨rfl, hbA⟩
    have hbB := Below.refl w1.heap.size w1
    clear H1'
    have hbm := bthen hbA hbB
    go_wp2_with fail
    refine (unhide (H2 _)).mono ?_
    rintro e w5 ⟨v5, rfl, hok5, hb5⟩
    have hbm := bthen hbm hb5
    rcases hsh with ⟨h1, h2, h3⟩ | ⟨q, h1, h2, h3⟩
    · have H3 := hide (HE v5 _ w5 hok5.sk (by omega))
      rw [hed h1] at H3
      have H3' : Hid (Calls Try.prog 14 #[v5] w5 fun e w' => e = .returned (.tuple #[.string s, .int .i64 0, .int .i64 0]) ∧ Below w5.heap.size w5 w') := by
        have h := unhide H3
        unfold EncPost at h
        rw [strOf_nums] at h
        exact h
      clear H3 hok5 hed HE
      obtain ⟨a5, p5, e5⟩ := d
      simp only at h1 h2
      subst h1; subst h2
      go_wp2_with fail
      refine (unhide H3').mono ?_
      rintro e w6 ⟨rfl, hb6⟩
      have hbm := bthen hbm hb6
      clear H3' hb6
      go_wp2_with fail
      refine (unhide (HT _)).mono ?_
      rintro e w7 ⟨rfl, hb7⟩
      have hbm := bthen hbm hb7
      clear HT
      go_wp2
      go_ret
      exact ⟨rfl, hbm⟩
    · subst h1
      clear hok5 hed HE
      go_wp2_with fail
      refine (unhide (HT _)).mono ?_
      rintro e w7 ⟨rfl, hb7⟩
      have hbm := bthen hbm hb7
      clear HT
      go_wp2
      go_ret
      exact ⟨rfl, hbm⟩
end Go.Proofs.Ytchjnplceelgoaa
