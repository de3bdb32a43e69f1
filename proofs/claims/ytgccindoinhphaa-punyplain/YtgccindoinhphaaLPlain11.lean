/- The walk of PunyPlain. -/
import Derived.Test.YtgccindoinhphaaLFew11
namespace Go.Proofs.Ytgccindoinhphaa
open Go.RowKit

theorem str_app2 (a b : List Int) : strOfNums a ++ strOfNums b = strOfNums (a ++ b) := by
  unfold strOfNums
  apply ByteArray.ext
  simp
theorem ext_app (a b : ByteArray) : (a ++ b).extract 0 a.size = a := ByteArray.extract_append_eq_left rfl
theorem str_empty : strOfNums [] = ⟨#[]⟩ := rfl
def lowAt (xs : List Int) (k : Nat) : Bool := Pu.lowq (xs.getD k 0)

set_option maxRecDepth 20000 in
set_option maxHeartbeats 2000000 in
theorem plain_any (xv : Value) (xs0 : List Int) (w : World) (hx : Sk .i32 w xv xs0) : Calls Try.prog 8 #[xv] w (Tells w true) := by
  have HFEW := hide (few11_any xv xs0 600 w hx (by omega))
  obtain ⟨ax, cx, hxv, hcx1, hcx2⟩ := hx.shape
  subst hxv
  have hxl : (xs0.take 600).length ≤ 600 := by rw [List.length_take]; omega
  clear hx
  generalize xs0.take 600 = xs at *
  go_enter Try.func8, Try.ntmps8
  go_wp2_with fail
  refine (unhide HFEW).mono ?_
  rintro e w1 ⟨g, cap, rfl, hok, hb⟩
  have hsk : Sk .i32 w1 (.slice (some ⟨g, 0, none⟩) xs.length cap) xs := by
    have := hok.sk.head (k := xs.length) (by omega) (by obtain ⟨_, _, h1, h2, _⟩ := hok.sk.shape; simp only [Value.slice.injEq] at h1; simp at h2; omega)
    simpa using this
  have hcap1 : xs.length + 2 ≤ cap := by
    obtain ⟨_, _, h1, h2, _⟩ := hok.sk.shape; simp only [Value.slice.injEq] at h1; simp at h2; omega
  have hcap2 : cap ≤ 9223372036854775807 := by
    obtain ⟨_, _, h1, h2, h3⟩ := hok.sk.shape; simp only [Value.slice.injEq] at h1; omega
  have HSK := hide hsk
  have HB := hide hb
  have HEN := hide (encode_all _ xs w1 hsk (by omega))
  clear hok hb hsk HFEW
  cases hsd : allb okb xs with
  | false =>
    have hE : Pu.encode xs = ([], 31) := by unfold Pu.encode; rw [if_pos hsd]
    rw [hE] at HEN
    go_wp2_with fail
    refine (unhide HEN).mono ?_
    rintro e w2 ⟨rfl, hb2⟩
    rw [str_empty]
    have HSN := fun W (h : Below w1.heap.size w1 W) => hide (refSound_any _ xs W ((unhide HSK).below h))
    rw [hsd] at HSN
    have HB2 := hide hb2
    clear hb2 HEN hsd hE
    have HT := hide (told_any w2)
    go_wp2_with fail
    refine (unhide HT).mono ?_
    rintro e w3 ⟨rfl, b3⟩
    have HSN3 := hide (unhide (HSN w3 (bthen (unhide HB2) b3)))
    have HB3 := hide (bthen (bthen (unhide HB) (unhide HB2)) b3)
    clear HT b3 HSN HB HB2
    go_wp2_with (go_at_call 19; refine (unhide HSN3).mono ?_; rintro e w5 ⟨rfl, rfl⟩; clear HSN3)
    go_ret
    exact ⟨rfl, unhide HB3⟩
  | true =>
    obtain ⟨body, hE, h2, h3, h4, h5, _⟩ := Pu.enc_back hsd (by omega)
    rw [hE] at HEN
    obtain ⟨L, hL⟩ : ∃ L, Pu.sel xs (fun k => Pu.lowq (xs.getD k 0)) xs.length = L := ⟨_, rfl⟩
    rw [hL] at HEN h5
    have HRG : Hid (∀ k, k < xs.length → 0 ≤ xs.getD k 0 ∧ xs.getD k 0 ≤ 1114111) := fun k hk => Pu.at_range hsd hk
    have HSEL : Hid (∀ k, Pu.sel xs (fun k => Pu.lowq (xs.getD k 0)) (k + 1) = Pu.sel xs (fun k => Pu.lowq (xs.getD k 0)) k ++ if Pu.lowq (xs.getD k 0) then [xs.getD k 0] else []) := fun k => Pu.sel_succ _ _ k
    have HSZ : Hid (∀ k, k ≤ xs.length → (strOfNums (Pu.sel xs (fun k => Pu.lowq (xs.getD k 0)) k)).size ≤ 600) := fun k hk => by
      rw [strOfNums_size, Pu.sel_len]; have := Pu.cnt_le (fun k => Pu.lowq (xs.getD k 0)) k; omega
    have HS0 : Hid (strOfNums (Pu.sel xs (fun k => Pu.lowq (xs.getD k 0)) 0) = ⟨#[]⟩) := rfl
    have hsum := Pu.idx_sum xs
    have hLl : L.length ≤ 600 := by rw [← hL, Pu.sel_len]; have := Pu.cnt_le (fun k => Pu.lowq (xs.getD k 0)) xs.length; omega
    have HL := hide hL
    have HBODY := hide h2
    have HLOW := hide h5
    have hyl : (Pu.hy L).length ≤ 1 := by unfold Pu.hy; split <;> simp
    have hol : (strOfNums (L ++ Pu.hy L ++ body)).size ≤ 30000 := by rw [strOfNums_size]; simp only [List.length_append]; omega
    have HASC : Hid ((body.length = 0 ↔ allb ascb xs = true)) := by
      show _ ↔ _
      constructor
      · intro hb0
        unfold allb; rw [List.all_eq_true]; intro z hz
        obtain ⟨k, hk, rfl⟩ := List.mem_iff_getElem.1 hz
        have hno : (Pu.idx xs Pu.highq).length = 0 := by omega
        have hq : Pu.lowq (xs.getD k 0) = true := by
          cases hh : Pu.lowq (xs.getD k 0) with
          | true => rfl
          | false =>
            have : k ∈ Pu.idx xs Pu.highq := Pu.idx_mem.2 ⟨hk, by unfold Pu.highq; rw [hh]; rfl⟩
            rw [List.eq_nil_of_length_eq_zero hno] at this; cases this
        have hr := Pu.at_range hsd hk
        have he : xs.getD k 0 = xs[k] := by simp [List.getD, hk]
        rw [he] at hq hr
        unfold Pu.lowq at hq
        have := of_decide_eq_true hq
        unfold ascb; exact decide_eq_true (by omega)
      · intro ha
        have hno : Pu.idx xs Pu.highq = [] := by
          refine List.eq_nil_iff_forall_not_mem.2 fun k hk => ?_
          obtain ⟨k1, k2⟩ := Pu.idx_mem.1 hk
          have := List.all_eq_true.1 ha (xs.getD k 0) (by rw [List.getD, List.getElem?_eq_getElem k1]; exact List.getElem_mem k1)
          unfold ascb at this
          have := of_decide_eq_true this
          have k3 : Pu.lowq (xs.getD k 0) = false := by unfold Pu.highq at k2; simpa using k2
          unfold Pu.lowq at k3
          have := of_decide_eq_false k3
          omega
        rw [hno] at h3; simpa using h3
    clear hE h2 h3 h4 h5 hL hsum hyl
    have HOUT : Hid (∃ s, s = strOfNums (L ++ Pu.hy L ++ body)) := ⟨_, rfl⟩
    go_wp2_with fail
    refine (unhide HEN).mono ?_
    rintro e w2 ⟨rfl, hb2⟩
    have HB2 := hide hb2
    clear hb2 HEN HOUT
    obtain ⟨s, hs⟩ : ∃ s, strOfNums (L ++ Pu.hy L ++ body) = s := ⟨_, rfl⟩
    have HS := hide hs
    rw [hs] at hol ⊢
    clear hs hsd
    go_upto_block 0 with fail
    go_cut [6, 7] (fun hh _ wc => hh = .string (strOfNums L) ∧ Below w1.heap.size w1 wc)
    case first =>
      go_wp2
      go_loopw [6, 7] (fun hh ii wr => ∃ k : Nat, ii = .int .i64 k ∧ k ≤ xs.length ∧ hh = .string (strOfNums (Pu.sel xs (fun k => Pu.lowq (xs.getD k 0)) k)) ∧ Below w1.heap.size w1 wr) (fun _ ii _ => 601 - (intOf ii).toNat)
      case atStart => exact ⟨0, rfl, by omega, rfl, unhide HB2⟩
      case round =>
        obtain ⟨k, rfl, hk, rfl, hbel⟩ := hrel
        have hsz := unhide HSZ k hk
        have hbs := hbel.size
        by_cases hlt : k < xs.length
        · obtain ⟨bx, ox, cqx, hex, _, _, hclx⟩ := (unhide HSK).place (by omega)
          simp only [Value.slice.injEq, Option.some.injEq, Addr.mk.injEq] at hex
          obtain ⟨⟨rfl, rfl, h8⟩, h9, rfl⟩ := hex
          clear h8 h9
          have hcell : wr.cell? ⟨g, k, none⟩ = some (.int .i32 (xs.getD k 0)) := by
            have h3 := hclx k hlt
            rw [Nat.zero_add] at h3
            rw [hbel.cell (lt_of_cell? h3)]; exact h3
          have hrg := unhide HRG k hlt
          have hnx := unhide HSEL k
          by_cases hlow : xs.getD k 0 < 128
          · have hq : Pu.lowq (xs.getD k 0) = true := decide_eq_true hlow
            rw [hq, if_pos rfl] at hnx
            have HBA := fun c => hide (hbel.alloc hbs (.cells #[.int .u8 c] 5))
            have HNX := hide hnx
            clear hnx hq hclx hbel
            generalize xs.getD k 0 = c at hcell hrg hlow HNX
            generalize Pu.sel xs (fun k => Pu.lowq (xs.getD k 0)) k = zs at *
            have HAP := hide (str_app2 zs [c])
            have hcv : (convert 40 9 (.slice (some ⟨wr.heap.size, 0, none⟩) 1 1)).run Try.prog (wr.alloc (.cells #[.int .u8 c] 5)) = .ok (.string (strOfNums [c])) (wr.alloc (.cells #[.int .u8 c] 5)) :=
              Sk.conv (Sk.lit .u8 5 wr wr.heap.size rfl [c] 1 rfl _ rfl (0, 0) (fun z hz => by simp at hz; subst hz; exact u8_fit (by omega)) (by simp))
            have hz2 : (strOfNums [c]).size = 1 := strOfNums_size [c]
            generalize strOfNums zs = sz at *
            generalize strOfNums [c] = sc at *
            go_wp2
            go_roundw
            case rel => exact ⟨k + 1, by go_num, by omega, by rw [unhide HNX, ← unhide HAP], unhide (HBA _)⟩
            case measure => simp [intOf]; omega
          · have hq : Pu.lowq (xs.getD k 0) = false := decide_eq_false hlow
            rw [hq, if_neg (by simp), List.append_nil] at hnx
            have HNX := hide (congrArg strOfNums hnx)
            have HBE := hide hbel
            clear hnx hq hclx hbel
            generalize xs.getD k 0 = c at hcell hrg hlow
            generalize Pu.sel xs (fun k => Pu.lowq (xs.getD k 0)) k = zs at *
            generalize strOfNums zs = sz at *
            go_wp2
            go_roundw
            case rel => exact ⟨k + 1, by go_num, by omega, by rw [unhide HNX], unhide HBE⟩
            case measure => simp [intOf]; omega
        · have hkl : k = xs.length := by omega
          subst hkl
          have HE := hide hbel
          rw [unhide HL]
          clear hbel
          go_wp2
          go_meet
          case rel => exact ⟨rfl, unhide HE⟩
    case rest =>
      obtain ⟨rfl, hbel⟩ := hcut
      have HBE := hide hbel
      obtain ⟨hd, hhd⟩ : ∃ hd, strOfNums (L ++ Pu.hy L) = hd := ⟨_, rfl⟩
      have hdl : hd.size = (L ++ Pu.hy L).length := by rw [← hhd, strOfNums_size]
      have hyl : (Pu.hy L).length ≤ 1 := by unfold Pu.hy; split <;> simp
      rw [List.length_append] at hdl
      have HSZ2 : Hid (s.size = hd.size + body.length) := by
        show _ = _
        rw [← unhide HS, strOfNums_size, List.length_append, hdl, List.length_append]
      have HEX : Hid (s.extract 0 hd.size = hd) := by
        show _ = _
        rw [← unhide HS, ← str_app2, hhd]
        exact ext_app _ _
      have HBYT : Hid (∀ k, k < s.size → 0 ≤ (nums s).getD k 0 ∧ (nums s).getD k 0 < 128) := by
        have hall : ∀ z ∈ L ++ Pu.hy L ++ body, 0 ≤ z ∧ z < 128 := fun z hz => by
          simp only [List.mem_append] at hz
          rcases hz with (hz | hz) | hz
          · exact unhide HLOW z hz
          · unfold Pu.hy at hz
            split at hz
            · cases hz
            · simp at hz; omega
          · have := unhide HBODY z hz; omega
        intro k hk
        have hn : nums s = L ++ Pu.hy L ++ body := by rw [← unhide HS]; exact nums_strOf (fun z hz => by have := hall z hz; omega)
        have hl : k < (L ++ Pu.hy L ++ body).length := by rw [← unhide HS, strOfNums_size] at hk; exact hk
        rw [hn]
        exact hall _ (by rw [List.getD, List.getElem?_eq_getElem hl]; exact List.getElem_mem hl)
      have hLs := strOfNums_size L
      clear hbel HB2 HSEL HSZ HS0 HRG HBODY HLOW HS HL
      by_cases hL0 : L.length = 0
      · have hLe : L = [] := List.eq_nil_of_length_eq_zero hL0
        subst hLe
        have hhd0 : hd = ⟨#[]⟩ := by rw [← hhd]; rfl
        rw [str_empty]
        go_upto_block 2 with fail
        rw [← hhd0]
        clear hhd hhd0 hLs
        have HBT : Hid (∀ k, k < s.size → 0 ≤ (nums s).getD k 0 ∧ (nums s).getD k 0 < 128) := unhide HBYT
        have hex := unhide HEX
        have hsz := unhide HSZ2
        have hdb : hd.size ≤ 601 := by rw [hdl]; omega
        clear hdl
        go_wp2
        go_loopw [2, 8] (fun _ ii wr => ∃ k : Nat, ii = .int .i64 k ∧ k ≤ s.size ∧ Below w1.heap.size w1 wr) (fun _ ii _ => 30001 - (intOf ii).toNat)
        case atStart => exact ⟨0, rfl, by omega, unhide HBE⟩
        case round =>
          clear HBE
          obtain ⟨k, rfl, hk, hbel⟩ := hrel
          have HB5 := hide hbel
          by_cases hlt : k < s.size
          · have hat : ∀ W, (Instr.index 9 (.string s) (.int .i64 (k : Int))).run Try.prog W = .ok (.int .u8 ((nums s).getD k 0)) W := fun W => run_at s (k : Int) k rfl hlt W
            have hc := unhide HBT k hlt
            generalize (nums s).getD k 0 = c at *
            clear hbel
            go_wp2
            go_roundw
            case rel => exact ⟨k + 1, by go_num, by omega, unhide HB5⟩
            case measure => simp [intOf]; omega
          · clear hbel
            have HT := hide (told_any wr)
            go_wp2_with fail
            refine (unhide HT).mono ?_
            rintro e w6 ⟨rfl, b6⟩
            have HAS := hide (refASCII_any _ xs w6 ((unhide HSK).below (bthen (unhide HB5) b6)))
            have HB6 := hide (bthen (bthen (unhide HB) (unhide HB5)) b6)
            clear HT b6 HB5
            have hge : hd.size ≤ s.size := by omega
            by_cases hb0 : body.length = 0
            · have hq : ((s.size : Int) == (hd.size : Int)) = true := by simp; omega
              rw [(unhide HASC).1 hb0] at HAS
              clear hsz
              go_wp2_with (go_at_call 20; refine (unhide HAS).mono ?_; rintro e w5 ⟨rfl, rfl⟩; clear HAS)
              go_ret
              exact ⟨rfl, unhide HB6⟩
            · have hq : ((s.size : Int) == (hd.size : Int)) = false := by simp; omega
              have hfa : allb ascb xs = false := by
                cases hh : allb ascb xs with
                | false => rfl
                | true => exact absurd ((unhide HASC).2 hh) hb0
              rw [hfa] at HAS
              clear hsz hfa
              go_wp2_with (go_at_call 20; refine (unhide HAS).mono ?_; rintro e w5 ⟨rfl, rfl⟩; clear HAS)
              go_ret
              exact ⟨rfl, unhide HB6⟩
      · have hye : Pu.hy L = [45] := by unfold Pu.hy; rw [if_neg hL0]
        have happ : strOfNums L ++ ⟨#[45]⟩ = hd := by rw [← hhd, hye, ← str_app2]; rfl
        have hne : (strOfNums L).toList.isEmpty = false := by
          rw [ByteArray.toList_eq, List.isEmpty_eq_false_iff]
          intro hh
          have h0 : (strOfNums L).data.toList.length = 0 := by rw [hh]; rfl
          have h1 : (strOfNums L).size = 0 := by rw [Array.length_toList] at h0; exact h0
          omega
        have hls6 : (strOfNums L).size ≤ 600 := by omega
        clear hhd hye
        generalize strOfNums L = sl at *
        go_upto_block 2 with fail
        clear happ hne hLs
        have HBT : Hid (∀ k, k < s.size → 0 ≤ (nums s).getD k 0 ∧ (nums s).getD k 0 < 128) := unhide HBYT
        have hex := unhide HEX
        have hsz := unhide HSZ2
        have hdb : hd.size ≤ 601 := by rw [hdl]; omega
        clear hdl
        go_wp2
        go_loopw [2, 8] (fun _ ii wr => ∃ k : Nat, ii = .int .i64 k ∧ k ≤ s.size ∧ Below w1.heap.size w1 wr) (fun _ ii _ => 30001 - (intOf ii).toNat)
        case atStart => exact ⟨0, rfl, by omega, unhide HBE⟩
        case round =>
          clear HBE
          obtain ⟨k, rfl, hk, hbel⟩ := hrel
          have HB5 := hide hbel
          by_cases hlt : k < s.size
          · have hat : ∀ W, (Instr.index 9 (.string s) (.int .i64 (k : Int))).run Try.prog W = .ok (.int .u8 ((nums s).getD k 0)) W := fun W => run_at s (k : Int) k rfl hlt W
            have hc := unhide HBT k hlt
            generalize (nums s).getD k 0 = c at *
            clear hbel
            go_wp2
            go_roundw
            case rel => exact ⟨k + 1, by go_num, by omega, unhide HB5⟩
            case measure => simp [intOf]; omega
          · clear hbel
            have HT := hide (told_any wr)
            go_wp2_with fail
            refine (unhide HT).mono ?_
            rintro e w6 ⟨rfl, b6⟩
            have HAS := hide (refASCII_any _ xs w6 ((unhide HSK).below (bthen (unhide HB5) b6)))
            have HB6 := hide (bthen (bthen (unhide HB) (unhide HB5)) b6)
            clear HT b6 HB5
            have hge : hd.size ≤ s.size := by omega
            by_cases hb0 : body.length = 0
            · have hq : ((s.size : Int) == (hd.size : Int)) = true := by simp; omega
              rw [(unhide HASC).1 hb0] at HAS
              clear hsz
              go_wp2_with (go_at_call 20; refine (unhide HAS).mono ?_; rintro e w5 ⟨rfl, rfl⟩; clear HAS)
              go_ret
              exact ⟨rfl, unhide HB6⟩
            · have hq : ((s.size : Int) == (hd.size : Int)) = false := by simp; omega
              have hfa : allb ascb xs = false := by
                cases hh : allb ascb xs with
                | false => rfl
                | true => exact absurd ((unhide HASC).2 hh) hb0
              rw [hfa] at HAS
              clear hsz hfa
              go_wp2_with (go_at_call 20; refine (unhide HAS).mono ?_; rintro e w5 ⟨rfl, rfl⟩; clear HAS)
              go_ret
              exact ⟨rfl, unhide HB6⟩
end Go.Proofs.Ytgccindoinhphaa
