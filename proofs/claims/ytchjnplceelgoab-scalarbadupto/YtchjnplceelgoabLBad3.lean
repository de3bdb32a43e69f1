/- The law ScalarBad, out of the contracts. -/
import Derived.Test.YtchjnplceelgoabTold3
namespace Go.Proofs.Ytchjnplceelgoab
open Go.RowKit

set_option maxHeartbeats 2000000 in
theorem scalarBad_any (HD : DecC) (HE : EncC) (HV : ValC) (HS : SplC) (s tl : ByteArray) (w : World) (hs : s.size + tl.size ≤ 1048576) :
    Calls Try.prog 4 #[.string s, .string tl] w (Tells w true) := by
  have HT := fun w => hide (told_any HD HE HV HS w)
  have H1 := hide (HD s w (by omega))
  have hsh := Utf.dec_shape _ 0 (nums s) (Nat.le_refl _)
  have hbad := fun q => Utf.dec_bad _ 0 q (nums s) (nums tl) (Nat.le_refl _)
  have hnl := nums_length s
  rw [hnl] at hsh
  generalize hd : Utf.dec 0 (nums s) = d at *
  clear hd
  rcases hsh with ⟨h1, h2, h3⟩ | ⟨q, h1, h2, h3⟩
  · obtain ⟨a, p, er⟩ := d
    simp only at h1 h2
    subst h1; subst h2
    clear hbad HD HE HV HS
    go_enter Try.func4, Try.ntmps4
    go_wp2_with fail
    refine (unhide H1).mono ?_
    rintro e w1 ⟨v1, rfl, ok1, hb1⟩
    clear H1 ok1
    go_wp2_with fail
    refine (unhide (HT _)).mono ?_
    rintro e w2 ⟨rfl, hb2⟩
    have hb := bthen hb1 hb2
    clear HT
    go_wp2
    go_ret
    exact ⟨rfl, hb⟩
  · subst h1
    by_cases hq : q < s.size
    · have hB := hbad q (by simp) (by omega)
      simp only [Nat.zero_add] at hB
      have hsz : (s.extract 0 (q + 1) ++ tl).size ≤ 1048576 := by
        have h4 : (s.extract 0 (q + 1)).size = q + 1 := by rw [← nums_length, nums_extract, List.length_take, hnl]; omega
        rw [ByteArray.size_append]; omega
      have H2 := fun w => hide (HD (s.extract 0 (q + 1) ++ tl) w (by omega))
      rw [nums_append, nums_extract, hB] at H2
      have e1 : ((30 : Int) == 0) = false := rfl
      have hq1 : (0 : Int) ≤ (q : Int) + 1 := by omega
      have hq2 : (q : Int) + 1 ≤ (s.size : Int) := by omega
      have e2 : decide ((s.size : Int) ≤ (q : Int)) = false := by simp; omega
      have hno : ¬ 9223372036854775807 < q + 1 + tl.size := by omega
      clear hbad HD HE HV HS hB
      go_enter Try.func4, Try.ntmps4
      go_wp2_with fail
      refine (unhide H1).mono ?_
      rintro e w1 ⟨v1, rfl, ok1, hb1⟩
      clear H1 ok1
      go_wp2_with fail
      refine (unhide (H2 _)).mono ?_
      rintro e w2 ⟨v2, rfl, ok2, hb2⟩
      obtain ⟨ao2, cap2, rfl, _, _⟩ := ok2.sk.shape
      have hb02 := bthen hb1 hb2
      clear H2 ok2 hb1 hb2
      go_wp2_with fail
      refine (unhide (HT _)).mono ?_
      rintro e w3 ⟨rfl, hb3⟩
      have hb := bthen hb02 hb3
      clear HT
      go_wp2
      go_ret
      exact ⟨rfl, hb⟩
    · have e2 : decide ((s.size : Int) ≤ (q : Int)) = true := by simp; omega
      clear hbad HD HE HV HS
      go_enter Try.func4, Try.ntmps4
      go_wp2_with fail
      refine (unhide H1).mono ?_
      rintro e w1 ⟨v1, rfl, ok1, hb1⟩
      clear H1 ok1
      go_wp2_with fail
      refine (unhide (HT _)).mono ?_
      rintro e w2 ⟨rfl, hb2⟩
      have hb := bthen hb1 hb2
      clear HT
      go_wp2
      go_ret
      exact ⟨rfl, hb⟩
end Go.Proofs.Ytchjnplceelgoab
