/- The walk of PunyForth. -/
import Derived.Test.YtgccindoinhphaaLDecodes11
import Derived.Test.YtgccindoinhphaaPgB11
import Derived.Test.YtgccindoinhphaaPuH11
namespace Go.Proofs.Ytgccindoinhphaa
open Go.RowKit

set_option maxRecDepth 20000 in
set_option maxHeartbeats 2000000 in
theorem forth_any (s0 : ByteArray) (w : World) (hs0 : s0.size ≤ 140737488355328) :
    Calls Try.prog 7 #[.string s0] w (Tells w true) := by
  obtain ⟨s, hs⟩ : ∃ s, s0.extract 0 (min (s0.size : Int) 1000).toNat = s := ⟨_, rfl⟩
  have hss : s.size ≤ 1000 := by rw [← hs, ByteArray.size_extract]; omega
  have HD := fun W => hide (decode_any s W (by omega))
  have hrl : (Pu.decode (nums s)).1.length ≤ 2000 := by have := Pu.decode_len (nums s); rw [nums_length] at this; omega
  obtain ⟨r, hr⟩ : ∃ r, Pu.decode (nums s) = r := ⟨_, rfl⟩
  have HR := hide hr
  rw [hr] at HD hrl
  clear hr
  go_enter Try.func7, Try.ntmps7
  go_wp2_with fail
  refine (unhide (HD _)).mono ?_
  rintro e w1 (⟨v1, rfl, hr2, ok1, b1⟩ | ⟨h1, h2, rfl, b1⟩)
  · obtain ⟨a1, c1, hv1, hl1, hm1⟩ := ok1.sk.shape
    subst hv1
    have OK1 := hide ok1
    have B1 := hide b1
    have HEN := fun W (h : Below w1.heap.size w1 W) => hide (encode_all _ r.1 W (ok1.below h).sk hrl)
    have HFO : Hid ((∀ z ∈ Pu.tail (nums s), Pu.smallB z) → Pu.encode r.1 = (nums s, 0)) := fun hh => Pu.forth (zs := nums s) (by rw [unhide HR]; exact hr2) (fun z hz => (nums_byt s z hz).1) hh hrl
    clear ok1 b1 HD HR hr2
    have HTL : Hid (∀ l, Pu.lastH (nums s) 0 0 = l → (∀ k, l ≤ k → k < s.size → (l < k ∨ l = 0) → Pu.smallB ((nums s).getD k 0)) → ∀ z ∈ Pu.tail (nums s), Pu.smallB z) := fun l hl hh z hz => by
      have hnl := nums_length s
      unfold Pu.tail at hz
      rw [hl] at hz
      by_cases h0 : l = 0
      · rw [if_pos h0] at hz
        obtain ⟨k, hk, rfl⟩ := List.mem_iff_getElem.1 hz
        have := hh k (by omega) (by omega) (.inr h0)
        rw [List.getD, List.getElem?_eq_getElem hk] at this; exact this
      · rw [if_neg h0] at hz
        obtain ⟨k, hk, rfl⟩ := List.mem_iff_getElem.1 hz
        rw [List.length_drop] at hk
        have := hh (l + 1 + k) (by omega) (by omega) (.inl (by omega))
        rw [List.getD, List.getElem?_eq_getElem (by omega)] at this
        rw [List.getElem_drop]; exact this
    have HST : Hid (∀ k l, k < s.size → Pu.lastH ((nums s).drop k) k l = Pu.lastH ((nums s).drop (k + 1)) (k + 1) (if (nums s).getD k 0 = 45 then k else l)) := fun k l hk => lastH_step (by rw [nums_length]; exact hk)
    have HEND : Hid (∀ l, Pu.lastH ((nums s).drop s.size) s.size l = l) := fun l => by rw [List.drop_eq_nil_of_le (by rw [nums_length]; exact Nat.le_refl _)]; rfl
    have HBY : Hid (∀ k, k < s.size → 0 ≤ (nums s).getD k 0 ∧ (nums s).getD k 0 ≤ 255) := fun k hk => nums_byt s _ (by have := nums_length s; rw [List.getD, List.getElem?_eq_getElem (by omega)]; exact List.getElem_mem _)
    have HSTR := hide (strOf_nums s)
    go_upto_block 0 with fail
    go_wp2
    go_loopw [5, 6] (fun ll ii wr => ∃ l k : Nat, ll = .int .i64 l ∧ ii = .int .i64 k ∧ k ≤ s.size ∧ l ≤ s.size ∧ Pu.lastH (nums s) 0 0 = Pu.lastH ((nums s).drop k) k l ∧ Below w1.heap.size w1 wr) (fun _ ii _ => 1001 - (intOf ii).toNat)
    case atStart => exact ⟨0, 0, rfl, rfl, by omega, by omega, by rw [List.drop_zero], Below.refl _ _⟩
    case round =>
      obtain ⟨l, k, rfl, rfl, hk, hlk, hla, hbel⟩ := hrel
      have HB2 := hide hbel
      clear hbel
      by_cases hlt : k < s.size
      · have hat : ∀ W, (Instr.index 9 (.string s) (.int .i64 (k : Int))).run Try.prog W = .ok (.int .u8 ((nums s).getD k 0)) W := fun W => run_at s (k : Int) k rfl hlt W
        have hc := unhide HBY k hlt
        rw [unhide HST k l hlt] at hla
        by_cases h45 : (nums s).getD k 0 = 45
        · rw [if_pos h45] at hla
          have HLA := hide hla
          rw [h45] at hat
          clear hla h45 hc
          go_wp2
          go_roundw
          case rel => exact ⟨k, k + 1, rfl, by go_num, by omega, by omega, unhide HLA, unhide HB2⟩
          case measure => simp [intOf]; omega
        · rw [if_neg h45] at hla
          have HLA := hide hla
          have hne : ((nums s).getD k 0 == 45) = false := by simpa using h45
          clear hla h45
          generalize (nums s).getD k 0 = c at *
          go_wp2
          go_roundw
          case rel => exact ⟨l, k + 1, rfl, by go_num, by omega, hlk, unhide HLA, unhide HB2⟩
          case measure => simp [intOf]; omega
      · have hke : k = s.size := by omega
        rw [hke, unhide HEND l] at hla
        have HLA := hide hla
        clear hla hke
        go_upto_block 2 with fail
        go_wp2
        go_loopw [2, 7] (fun _ ii wr => ∃ m : Nat, ii = .int .i64 m ∧ l ≤ m ∧ m ≤ s.size ∧ (∀ j, l ≤ j → j < m → (l < j ∨ l = 0) → Pu.smallB ((nums s).getD j 0)) ∧ Below w1.heap.size w1 wr) (fun _ ii _ => 1001 - (intOf ii).toNat)
        case atStart => exact ⟨l, rfl, Nat.le_refl _, hlk, fun j h1 h2 _ => by omega, unhide HB2⟩
        case round =>
          clear HB2
          obtain ⟨m, rfl, hm1, hm2, hsm, hbel⟩ := hrel
          have HB3 := hide hbel
          have HSM := hide hsm
          clear hbel hsm
          by_cases hlt2 : m < s.size
          · have hat : ∀ W, (Instr.index 9 (.string s) (.int .i64 (m : Int))).run Try.prog W = .ok (.int .u8 ((nums s).getD m 0)) W := fun W => run_at s (m : Int) m rfl hlt2 W
            have hc := unhide HBY m hlt2
            have HNX : Hid (((l < m ∨ l = 0) → Pu.smallB ((nums s).getD m 0)) → ∀ j, l ≤ j → j < m + 1 → (l < j ∨ l = 0) → Pu.smallB ((nums s).getD j 0)) := fun hh j h1 h2 h3 => by
              by_cases hj : j = m
              · subst hj; exact hh h3
              · exact unhide HSM j h1 (by omega) h3
            generalize (nums s).getD m 0 = c at hat hc HNX
            by_cases hA : 65 ≤ c
            · by_cases hZ : c ≤ 90
              · by_cases hlm : l < m
                · have HT := hide (told_any wr)
                  go_wp2_with fail
                  refine (unhide HT).mono ?_
                  rintro e w4 ⟨rfl, b4⟩
                  have B4 := hide (bthen (bthen (unhide B1) (unhide HB3)) b4)
                  clear HT b4
                  go_wp2
                  go_ret
                  exact ⟨rfl, unhide B4⟩
                · by_cases hl0 : l = 0
                  · subst hl0
                    have HT := hide (told_any wr)
                    go_wp2_with fail
                    refine (unhide HT).mono ?_
                    rintro e w4 ⟨rfl, b4⟩
                    have B4 := hide (bthen (bthen (unhide B1) (unhide HB3)) b4)
                    clear HT b4
                    go_wp2
                    go_ret
                    exact ⟨rfl, unhide B4⟩
                  · have hl0b : ((l : Int) == 0) = false := by simpa using hl0
                    go_wp2
                    go_roundw
                    case rel => exact ⟨m + 1, by go_num, by omega, by omega, unhide HNX (fun h => by omega), unhide HB3⟩
                    case measure => simp [intOf]; omega
              · go_wp2
                go_roundw
                case rel => exact ⟨m + 1, by go_num, by omega, by omega, unhide HNX (fun _ h => by omega), unhide HB3⟩
                case measure => simp [intOf]; omega
            · go_wp2
              go_roundw
              case rel => exact ⟨m + 1, by go_num, by omega, by omega, unhide HNX (fun _ h => by omega), unhide HB3⟩
              case measure => simp [intOf]; omega
          · have hme : m = s.size := by omega
            subst hme
            have hE := unhide HFO (unhide HTL l (unhide HLA) (unhide HSM))
            have HE1 := hide (unhide (HEN wr (unhide HB3)))
            rw [hE] at HE1
            clear hE HSM HEN HFO HTL HLA HST HEND HBY
            go_wp2_with fail
            refine (unhide HE1).mono ?_
            rintro e w4 ⟨rfl, b4⟩
            rw [unhide HSTR]
            have B4 := hide (bthen (bthen (unhide B1) (unhide HB3)) b4)
            have HT := hide (told_any w4)
            clear HE1 b4
            go_wp2_with fail
            refine (unhide HT).mono ?_
            rintro e w5 ⟨rfl, b5⟩
            have B5 := hide (bthen (unhide B4) b5)
            clear HT b5 B4
            go_wp2
            go_ret
            exact ⟨rfl, unhide B5⟩
  · have HT := hide (told_any w1)
    have hne : (r.2 == 0) = false := by simpa using h2
    have B1 := hide b1
    clear b1 HD HR h1 hrl
    generalize r.2 = er at *
    go_wp2_with fail
    refine (unhide HT).mono ?_
    rintro e w2 ⟨rfl, b2⟩
    have B2 := hide (bthen (unhide B1) b2)
    clear b2 B1 HT
    go_wp2
    go_ret
    exact ⟨rfl, unhide B2⟩
end Go.Proofs.Ytgccindoinhphaa
