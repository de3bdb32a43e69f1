/- The walk of PunyBack. -/
import Derived.Test.YtgccindoinhphaaLDecodes11
import Derived.Test.YtgccindoinhphaaPfC11
namespace Go.Proofs.Ytgccindoinhphaa
open Go.RowKit

set_option maxRecDepth 20000 in
set_option maxHeartbeats 2000000 in
theorem back_any (xv : Value) (xs : List Int) (w : World) (hx : Sk .i32 w xv xs) : Calls Try.prog 6 #[xv] w (Tells w true) := by
  have hxl := hx.len
  have HX := hide hx
  have HXF : Hid (∀ k, -2147483648 ≤ xs.getD k 0 ∧ xs.getD k 0 ≤ 2147483647) := fun k => hx.1.i32at k
  obtain ⟨ax, cx, hxv, hcx1, hcx2⟩ := hx.shape
  subst hxv
  clear hx
  go_enter Try.func6, Try.ntmps6
  go_upto_block 0 with fail
  go_cut [3, 4] (fun wv _ wc => ∃ (ws : List Int), ws.length ≤ 1000 ∧ allb okb ws = true ∧ Ok .i32 21 wc w.heap.size wv ws ∧ Below w.heap.size w wc)
  case first =>
    go_wp2
    go_loopw [3, 4] (fun wv jj wr => ∃ (k : Nat) (ws : List Int), jj = .int .i64 k ∧ k ≤ xs.length ∧ k ≤ 1000 ∧ ws.length ≤ k ∧ allb okb ws = true ∧ Ok .i32 21 wr w.heap.size wv ws ∧ Below w.heap.size w wr) (fun _ jj _ => 1001 - (intOf jj).toNat)
    case atStart => exact ⟨0, [], rfl, by omega, by omega, Nat.le_refl _, rfl, Ok.nil _ _ _ _, Below.refl _ _⟩
    case round =>
      obtain ⟨k, ws, rfl, hk, hk60, hwl, hwb, hok, hbel⟩ := hrel
      have hbs := hbel.size
      by_cases hlt : k < xs.length
      · by_cases hlt60 : k < 1000
        · obtain ⟨bx, ox, cqx, hex, _, _, hclx⟩ := (unhide HX).place (by omega)
          simp only [Value.slice.injEq] at hex
          obtain ⟨rfl, h9, rfl⟩ := hex
          clear h9
          have hcell : wr.cell? ⟨bx, ox + k, none⟩ = some (.int .i32 (xs.getD k 0)) := by
            have h3 := hclx k hlt
            rw [hbel.cell (lt_of_cell? h3)]; exact h3
          have hrg := unhide HXF k
          generalize xs.getD k 0 = c at *
          have HV := fun W => hide (refValid_any c W hrg)
          by_cases hv : Utf.okc c
          · rw [decide_eq_true hv] at HV
            have HOK := hide (ok_alloc hok (.cells #[.int .i32 c] 21))
            have HON := hide (Sk.one wr c hrg)
            have hsa := hide (alloc_size wr (.cells #[.int .i32 c] 21))
            have HBA := hide (hbel.alloc hbs (.cells #[.int .i32 c] 21))
            have HWB : Hid (allb okb (ws ++ [c]) = true) := by
              show _ = _
              unfold allb at hwb ⊢
              rw [List.all_append, hwb]
              simp [okb, hv]
            have HWL : Hid ((ws ++ [c]).length ≤ k + 1) := by show _ ≤ _; simp; omega
            clear hclx hok hbel hwb hv
            go_wp2_with (first | (go_at_call 18; refine (unhide (HV _)).mono ?_; rintro e wq ⟨rfl, rfl⟩; clear HV) | (at_builtin; refine wpList_append_sk rfl (.tmp 24) (.tmp 29) rfl w.heap.size _ _ ws [c] rfl rfl (unhide HOK) (unhide HON) (by simp; omega) (by have := unhide hsa; omega) ?_))
            intro v' w' h1 h2
            have hvb : ∀ g, u3.ownBlock = some g → w.heap.size ≤ g := fun g hh => ((unhide HOK).row.lt g hh).1
            have HN := hide h1
            have HB := hide ((unhide HBA).grown h2 (by have := unhide hsa; omega) hvb)
            clear h1 h2 hvb HOK HON HBA
            go_wp2
            go_roundw
            case rel => exact ⟨k + 1, ws ++ [c], by go_num, by omega, by omega, unhide HWL, unhide HWB, unhide HN, unhide HB⟩
            case measure => simp [intOf]; omega
          · rw [decide_eq_false hv] at HV
            have HE := hide (And.intro hwb (And.intro hok hbel))
            clear hclx hok hbel hwb hv
            go_wp2_with (go_at_call 18; refine (unhide (HV _)).mono ?_; rintro e wq ⟨rfl, rfl⟩; clear HV)
            go_roundw
            case rel => exact ⟨k + 1, ws, by go_num, by omega, by omega, by omega, (unhide HE).1, (unhide HE).2.1, (unhide HE).2.2⟩
            case measure => simp [intOf]; omega
        · have HE : Hid (∃ (ws : List Int), ws.length ≤ 1000 ∧ allb okb ws = true ∧ Ok .i32 21 wr w.heap.size u3 ws ∧ Below w.heap.size w wr) := ⟨ws, by omega, hwb, hok, hbel⟩
          clear hwb hok hbel hwl
          go_wp2
          go_meet
          case rel => exact unhide HE
      · have HE : Hid (∃ (ws : List Int), ws.length ≤ 1000 ∧ allb okb ws = true ∧ Ok .i32 21 wr w.heap.size u3 ws ∧ Below w.heap.size w wr) := ⟨ws, by omega, hwb, hok, hbel⟩
        clear hwb hok hbel hwl
        go_wp2
        go_meet
        case rel => exact unhide HE
  case rest =>
    obtain ⟨ws, hwl, hwb, hok, hbel⟩ := hcut
    obtain ⟨q1, q2, q3, q4⟩ := Pu.back hwb (by omega)
    have HEN := hide (encode_all u3 ws wc hok.sk (by omega))
    have HNS : Hid (Pu.decode (nums (strOfNums (Pu.encode ws).1)) = (ws, 0)) := by
      show _ = _
      rw [nums_strOf (fun z hz => by have := q3 z hz; omega)]; exact q4
    have HD := fun W => hide (decode_any (strOfNums (Pu.encode ws).1) W (by rw [strOfNums_size]; omega))
    rw [unhide HNS] at HD
    have HER := hide q1
    obtain ⟨aw, cw, hwv, hcw1, hcw2⟩ := hok.sk.shape
    have HOK := hide hok
    have HBEL := hide hbel
    subst hwv
    clear hok hbel hwb HX HXF q1 q2 q3 q4 HNS
    go_wp2_with fail
    refine (unhide HEN).mono ?_
    rintro e w1 ⟨rfl, hb1⟩
    rw [unhide HER]
    have HOK1 := hide ((unhide HOK).below hb1)
    have HB1 := hide (bthen (unhide HBEL) hb1)
    clear hb1 HEN HER HOK HBEL
    generalize strOfNums (Pu.encode ws).1 = s at *
    go_wp2_with fail
    refine (unhide (HD _)).mono ?_
    intro e w2 h2
    obtain ⟨v2, rfl, ok2, b2⟩ := Ans.of h2
    clear h2 HD
    obtain ⟨a2, c2, hv2, hl2, hm2⟩ := ok2.sk.shape
    subst hv2
    have HOK2 := hide ((unhide HOK1).below b2)
    have OK2 := hide ok2
    have HB2 := hide (bthen (unhide HB1) b2)
    clear ok2 b2 HOK1 HB1
    have HT := hide (told_any w2)
    go_wp2_with fail
    refine (unhide HT).mono ?_
    rintro e w3 ⟨rfl, b3⟩
    have HSM := hide (same_any _ _ ws ws w3 ((unhide HOK2).below b3).sk ((unhide OK2).below b3).sk)
    rw [sameT] at HSM
    have HB3 := hide (bthen (unhide HB2) b3)
    clear HT b3 HOK2 OK2 HB2
    go_wp2_with (go_at_call 13; refine (unhide HSM).mono ?_; rintro e w5 ⟨rfl, b5⟩; clear HSM)
    go_ret
    exact ⟨rfl, bthen (unhide HB3) b5⟩
end Go.Proofs.Ytgccindoinhphaa
