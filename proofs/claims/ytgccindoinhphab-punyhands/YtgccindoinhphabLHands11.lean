/- The walk of PunyHands. (By program: genlh11.py.) -/
import Derived.Test.YtgccindoinhphabPhB11
import Derived.Test.YtgccindoinhphabPuH11
import Derived.Test.YtgccindoinhphabPwG11
import Derived.Laws.BitsLemmas
namespace Go.Proofs.Ytgccindoinhphab
open Go.RowKit

theorem i64_and40 (n : Int) : bits .and .i64 n 1099511627775 = n % 1099511627776 := by
  have h40 : (BitVec.ofInt 64 1099511627775).toNat = 2 ^ 40 - 1 := by decide
  have key : (BitVec.ofInt 64 n &&& BitVec.ofInt 64 1099511627775).toNat = (n % ((2 ^ 64 : Nat) : Int)).toNat % 2 ^ 40 := by
    rw [BitVec.toNat_and, BitVec.toNat_ofInt, h40, Nat.and_two_pow_sub_one_eq_mod]
  show IntKind.i64.wrap ((BitVec.ofInt 64 n &&& BitVec.ofInt 64 1099511627775).toNat : Nat) = n % 1099511627776
  rw [key, IntKind.wrap_i64]
  omega
theorem i32_and7 (n : Int) : bits .and .i32 n 127 = n % 128 := by
  have h7 : (BitVec.ofInt 32 127).toNat = 2 ^ 7 - 1 := by decide
  have key : (BitVec.ofInt 32 n &&& BitVec.ofInt 32 127).toNat = (n % ((2 ^ 32 : Nat) : Int)).toNat % 2 ^ 7 := by
    rw [BitVec.toNat_and, BitVec.toNat_ofInt, h7, Nat.and_two_pow_sub_one_eq_mod]
  show IntKind.i32.wrap ((BitVec.ofInt 32 n &&& BitVec.ofInt 32 127).toNat : Nat) = n % 128
  rw [key, IntKind.wrap_i32]
  omega

theorem Rn.grow {X0 B b : Nat} {w0 : World} {k : Nat} {st : Pu.St} {v : Value} {wr w1 : World} (h : Rn X0 B b w0 k st v wr) (hb : Below wr.heap.size wr w1) : Rn X0 B b w0 k st v w1 :=
  ⟨h.row.below hb, h.nil, by unfold StR; rw [hb.block b h.lt]; exact h.state, h.bel.trans (hb.mono (Nat.le_trans h.hB (Nat.le_of_lt h.lt))), h.hB, h.ne, h.len, h.n, h.i, h.bias⟩

theorem Pu.wrNum_len2 {v bias : Int} (h0 : 0 ≤ v) (h1 : v ≤ 1099511627775) : (Pu.wrNum v bias).length ≤ 41 := Pu.wrN_len bias 40 _ _ _ h0 (by omega)

theorem hy_len (ws : List Int) : (Pu.hy ws).length ≤ 1 := by unfold Pu.hy; split <;> simp

theorem enc_plain (i : Nat) {ws : List Int} (h : ∀ z ∈ ws, 0 ≤ z ∧ z < 128) : Utf.encA i ws = (ws, 0, 0) := by
  induction ws generalizing i with
  | nil => rfl
  | cons c r ih =>
    have hc := h c (by simp)
    rw [Utf.encA, if_pos (by unfold Utf.okc; omega), ih (i + 1) (fun z hz => h z (by simp [hz]))]
    have hf : Utf.form c = [c] := by unfold Utf.form; rw [if_pos (by omega)]
    rw [hf]
    simp [Utf.glue]

set_option maxRecDepth 20000 in
set_option maxHeartbeats 20000000 in
theorem hands_any (xv dv : Value) (xs ds : List Int) (w : World) (hx : Sk .i32 w xv xs) (hd : Sk .i64 w dv ds) : Calls Try.prog 3 #[xv, dv] w (Tells w true) := by
  have hxl := hx.len
  have hdl := hd.len
  have HX := hide hx
  have HDS := hide hd
  have HXF : Hid (∀ k, -2147483648 ≤ xs.getD k 0 ∧ xs.getD k 0 ≤ 2147483647) := fun k => hx.1.i32at k
  obtain ⟨ax, cx, hxv, hcx1, hcx2⟩ := hx.shape
  obtain ⟨ad, cd, hdv, hcd1, hcd2⟩ := hd.shape
  subst hxv
  subst hdv
  clear hx hd
  go_enter Try.func3, Try.ntmps3
  go_upto_block 0 with fail
  go_cut [5, 6] (fun wv _ wc => ∃ (ws : List Int), ws.length ≤ 60 ∧ (∀ z ∈ ws, 0 ≤ z ∧ z < 128) ∧ Ok .i32 21 wc w.heap.size wv ws ∧ (ws = [] → wv = .slice none 0 0) ∧ Below w.heap.size w wc)
  case first =>
    go_wp2
    go_loopw [5, 6] (fun wv jj wr => ∃ (k : Nat) (ws : List Int), jj = .int .i64 k ∧ k ≤ xs.length ∧ k ≤ 60 ∧ ws.length = k ∧ (∀ z ∈ ws, 0 ≤ z ∧ z < 128) ∧ Ok .i32 21 wr w.heap.size wv ws ∧ (ws = [] → wv = .slice none 0 0) ∧ Below w.heap.size w wr) (fun _ jj _ => 61 - (intOf jj).toNat)
    case atStart => exact ⟨0, [], rfl, by omega, by omega, rfl, fun z hz => by simp at hz, Ok.nil _ _ _ _, fun _ => rfl, Below.refl _ _⟩
    case round =>
      obtain ⟨k, ws, rfl, hk, hk60, hwl, hwb, hok, hnil, hbel⟩ := hrel
      have hbs := hbel.size
      by_cases hlt : k < xs.length
      · by_cases hlt60 : k < 60
        · obtain ⟨bx, ox, cqx, hex, _, _, hclx⟩ := (unhide HX).place (by omega)
          simp only [Value.slice.injEq] at hex
          obtain ⟨rfl, h9, rfl⟩ := hex
          clear h9
          have hcell : wr.cell? ⟨bx, ox + k, none⟩ = some (.int .i32 (xs.getD k 0)) := by
            have h3 := hclx k hlt
            rw [hbel.cell (lt_of_cell? h3)]; exact h3
          have hand := i32_and7 (xs.getD k 0)
          have hrg := unhide HXF k
          generalize xs.getD k 0 = z at *
          have hz : 0 ≤ z % 128 ∧ z % 128 < 128 := by omega
          generalize hzz : z % 128 = c at *
          clear hzz
          have HOK := hide (ok_alloc hok (.cells #[.int .i32 c] 21))
          have HON := hide (Sk.one wr c (by omega))
          have hsa := hide (alloc_size wr (.cells #[.int .i32 c] 21))
          have HBA := hide (hbel.alloc hbs (.cells #[.int .i32 c] 21))
          have HWB : Hid (∀ y ∈ ws ++ [c], 0 ≤ y ∧ y < 128) := fun y hy => by
            rcases List.mem_append.1 hy with h | h
            · exact hwb y h
            · simp at h; subst h; exact hz
          have HWL : Hid ((ws ++ [c]).length = k + 1) := by show _ = _; simp [hwl]
          clear hclx hok hbel hwb hnil
          go_wp2_with (at_builtin; refine wpList_append_sk rfl (.tmp 28) (.tmp 34) rfl w.heap.size _ _ ws [c] rfl rfl (unhide HOK) (unhide HON) (by simp; omega) (by have := unhide hsa; omega) ?_)
          intro v' w' h1 h2
          have hvb : ∀ g, u5.ownBlock = some g → w.heap.size ≤ g := fun g hh => ((unhide HOK).row.lt g hh).1
          have HN := hide h1
          have HB := hide ((unhide HBA).grown h2 (by have := unhide hsa; omega) hvb)
          clear h1 h2 hvb HOK HON HBA
          go_wp2
          go_roundw
          case rel => exact ⟨k + 1, ws ++ [c], by go_num, by omega, by omega, unhide HWL, unhide HWB, unhide HN, fun h => by simp at h, unhide HB⟩
          case measure => simp [intOf]; omega
        · have HE : Hid (∃ (ws : List Int), ws.length ≤ 60 ∧ (∀ z ∈ ws, 0 ≤ z ∧ z < 128) ∧ Ok .i32 21 wr w.heap.size u5 ws ∧ (ws = [] → u5 = .slice none 0 0) ∧ Below w.heap.size w wr) := ⟨ws, by omega, hwb, hok, hnil, hbel⟩
          clear hwb hok hnil hbel hwl
          go_wp2
          go_meet
          case rel => exact unhide HE
      · have HE : Hid (∃ (ws : List Int), ws.length ≤ 60 ∧ (∀ z ∈ ws, 0 ≤ z ∧ z < 128) ∧ Ok .i32 21 wr w.heap.size u5 ws ∧ (ws = [] → u5 = .slice none 0 0) ∧ Below w.heap.size w wr) := ⟨ws, by omega, hwb, hok, hnil, hbel⟩
        clear hwb hok hnil hbel hwl
        go_wp2
        go_meet
        case rel => exact unhide HE
  case rest =>
    obtain ⟨ws, hw60, hwb, hok, hnil, hbel⟩ := hcut
    have HWS := hide hwb
    have HEN := hide (refEncode_any u5 ws wc hok.sk (by omega))
    rw [enc_plain 0 hwb] at HEN
    obtain ⟨aw, cw, hwv, hcw1, hcw2⟩ := hok.sk.shape
    have HOK := hide hok
    have HNIL := hide hnil
    have HBEL := hide hbel
    have hbs := hbel.size
    subst hwv
    clear hok hnil hbel hwb HX HXF
    go_wp2_with fail
    refine (unhide HEN).mono ?_
    rintro e w1 ⟨rfl, hb1⟩
    have HB1 := hide hb1
    clear hb1 HEN
    have hss : (strOfNums ws).size ≤ 60 := by rw [strOfNums_size]; exact hw60
    by_cases hz : ws.length = 0
    · have HSTR : Hid (strOfNums (ws ++ Pu.hy ws ++ []) = strOfNums ws) := by show _ = _; unfold Pu.hy; rw [if_pos hz]; simp
      rw [hz] at HOK HNIL
      have hBg := fun W => hide (refBegin_any aw 0 cw W)
      go_wp2_with fail
      refine (unhide (hBg _)).mono ?_
      rintro e w2 ⟨rfl, hb2⟩
      clear hBg
      unfold StV
      have hs2 := hb2.size
      have hs1 := (unhide HB1).size
      obtain ⟨W, hW⟩ : ∃ W, w2.alloc (.cells #[.slice aw 0 cw, .int .i64 128, .int .i64 0, .int .i64 72, .bool true] 27) = W := ⟨_, rfl⟩
      obtain ⟨b, hbe⟩ : ∃ b, w2.heap.size = b := ⟨_, rfl⟩
      have hM : Rn 60 w.heap.size b w 0 (Pu.begin ws) (.slice aw 0 cw) W := by
        rw [← hW, ← hbe]
        refine ⟨ok_alloc (((unhide HOK).below (unhide HB1)).below hb2) _, unhide HNIL, heap_alloc_new w2 _, ((unhide HBEL).trans ((bthen (unhide HB1) hb2).mono hbs)).alloc (by omega) _, by omega, fun hh => ?_, by show ws.length ≤ _; omega, by show (0 : Int) ≤ 128 ∧ (128 : Int) ≤ 1114111; omega, by show (0 : Int) ≤ 0 ∧ (0 : Int) ≤ (ws.length : Int); omega, by show (0 : Int) ≤ 72 ∧ (72 : Int) ≤ 468; omega⟩
        have := ((unhide HOK).row.lt _ hh).2
        omega
      have HM0 := hide hM
      clear hM HOK HNIL HBEL HB1 hb2 hs1 hs2 hbs
      have hhy : (Pu.hy ws).length ≤ 1 := hy_len ws
      have HNB : Hid (∀ body2 : List Int, (∀ z ∈ body2, 48 ≤ z ∧ z ≤ 122) → nums (strOfNums (ws ++ Pu.hy ws ++ body2)) = ws ++ Pu.hy ws ++ body2) := fun body2 h1 => nums_strOf (by
        intro z hz
        simp only [List.mem_append] at hz
        rcases hz with (hz | hz) | hz
        · have := unhide HWS z hz; omega
        · unfold Pu.hy at hz
          split at hz
          · simp at hz
          · first | (simp at hz; done) | (simp at hz; subst hz; omega)
        · have := h1 z hz; omega)
      have HSZ : Hid (∀ body2 : List Int, body2.length ≤ 5000 → (strOfNums (ws ++ Pu.hy ws ++ body2)).size ≤ 10000) := fun body2 h => by rw [strOfNums_size, List.length_append, List.length_append]; omega
      have HD : Hid (∀ (body2 : List Int) W, (∀ z ∈ body2, 48 ≤ z ∧ z ≤ 122) → body2.length ≤ 5000 → Calls Try.prog 8 #[.string (strOfNums (ws ++ Pu.hy ws ++ body2))] W (RdPost W.heap.size W (Pu.rdW body2 (Pu.begin ws)))) := fun body2 W h1 h2 => by
        have := decode_any (strOfNums (ws ++ Pu.hy ws ++ body2)) W (by have := unhide HSZ body2 h2; omega)
        rw [unhide HNB body2 h1, Pu.decode_hands (unhide HWS) h1 (by omega)] at this
        exact this
      clear HNB hhy
      go_upto_block 2 with fail
      try rw [show decide (0 < ws.length) = true from decide_eq_true (by omega)]
      go_cut [4, 7, 11, 12, 13, 14, 15] (fun _ sv _ _ _ _ _ wc => ∃ (st : Pu.St) (v : Value) (body : List Int), sv = .string (strOfNums (ws ++ Pu.hy ws ++ body)) ∧ Rn 60 w.heap.size b w 40 st v wc ∧ (∀ z ∈ body, 48 ≤ z ∧ z ≤ 122) ∧ body.length ≤ 1640 ∧ Pu.rdW body (Pu.begin ws) = (st.xs, 0))
      case first =>
        go_wp2
        go_loopw [4, 7, 11, 12, 13, 14, 15] (fun _ sv jj _ _ _ _ wr => ∃ (k : Nat) (st : Pu.St) (v : Value) (body : List Int), jj = .int .i64 k ∧ k ≤ ds.length ∧ k ≤ 40 ∧ sv = .string (strOfNums (ws ++ Pu.hy ws ++ body)) ∧ Rn 60 w.heap.size b w k st v wr ∧ (∀ z ∈ body, 48 ≤ z ∧ z ≤ 122) ∧ body.length ≤ 41 * k ∧ ∀ rest, Pu.rdW (body ++ rest) (Pu.begin ws) = Pu.rdW rest st) (fun _ _ jj _ _ _ _ _ => 41 - (intOf jj).toNat)
        case atStart => exact ⟨0, _, _, [], rfl, by omega, by omega, by rw [unhide HSTR], unhide HM0, fun z hz => by simp at hz, by simp, fun rest => rfl⟩
        case round =>
          clear HM0
          obtain ⟨k, st, v, body, rfl, hkd, hk40, rfl, hM, hby, hbl, hI⟩ := hrel
          have hszk := unhide HSZ body (by omega)
          have HOUT : Hid (∃ (st : Pu.St) (v : Value) (body2 : List Int), Value.string (strOfNums (ws ++ Pu.hy ws ++ body)) = .string (strOfNums (ws ++ Pu.hy ws ++ body2)) ∧ Rn 60 w.heap.size b w 40 st v wr ∧ (∀ z ∈ body2, 48 ≤ z ∧ z ≤ 122) ∧ body2.length ≤ 1640 ∧ Pu.rdW body2 (Pu.begin ws) = (st.xs, 0)) := by
            refine ⟨st, v, body, rfl, hM.later hk40, hby, by omega, ?_⟩
            have := hI []
            rw [List.append_nil] at this
            exact this.trans (Pu.rdW_nil st)
          by_cases hlt : k < ds.length
          · by_cases hlt40 : k < 40
            · obtain ⟨row, nilv, state, bel, hBb, ne, len, hn, hi, hbias⟩ := id hM
              obtain ⟨c0, c1, c2, c3, c4, f0, f1, f2, f3, f4⟩ := state.cells
              have hblt := hM.lt
              have hbsz := bel.size
              obtain ⟨b2, o2, cq2, he2, _, _, hcl2⟩ := (unhide HDS).place (by omega)
              simp only [Value.slice.injEq] at he2
              obtain ⟨rfl, h9, rfl⟩ := he2
              clear h9
              have hcell2 : wr.cell? ⟨b2, o2 + k, none⟩ = some (.int .i64 (ds.getD k 0)) := by
                have h3 := hcl2 k hlt
                rw [bel.cell (lt_of_cell? h3)]; exact h3
              have hand := i64_and40 (ds.getD k 0)
              have hd0 : 0 ≤ ds.getD k 0 % 1099511627776 ∧ ds.getD k 0 % 1099511627776 ≤ 1099511627775 := by omega
              generalize ds.getD k 0 = dd at *
              generalize hdd : dd % 1099511627776 = d at *
              clear hdd
              have HW := fun W => hide (refWritten_any d st.bias W hd0 hbias)
              have hwb := Pu.wrNum_bytes (bias := st.bias) hd0.1
              have hwl := Pu.wrNum_len2 (v := d) (bias := st.bias) hd0.1 hd0.2
              have hb2y : ∀ z ∈ body ++ Pu.wrNum d st.bias, 48 ≤ z ∧ z ≤ 122 := fun z hz => by
                rcases List.mem_append.1 hz with h | h
                · exact hby z h
                · exact hwb z h
              have hb2l : (body ++ Pu.wrNum d st.bias).length ≤ 41 * (k + 1) := by rw [List.length_append]; omega
              have HAPP : Hid (strOfNums (ws ++ Pu.hy ws ++ body) ++ strOfNums (Pu.wrNum d st.bias) = strOfNums (ws ++ Pu.hy ws ++ (body ++ Pu.wrNum d st.bias))) := by
                show _ = _
                rw [str_app]; simp
              have hwz : (strOfNums (Pu.wrNum d st.bias)).size ≤ 100 := by rw [strOfNums_size]; omega
              have HI2 : Hid (∀ rest, Pu.rdW ((body ++ Pu.wrNum d st.bias) ++ rest) (Pu.begin ws) = Pu.rdW (Pu.wrNum d st.bias ++ rest) st) := fun rest => by rw [List.append_assoc]; exact hI _
              have HD2 := hide (fun W => unhide HD (body ++ Pu.wrNum d st.bias) W hb2y (by omega))
              have HBY := hide hb2y
              have HBL := hide hb2l
              have HM := hide hM
              have HROW := hide row
              have HNV := hide nilv
              have HBE := hide bel
              clear hM hby hbl hI hcl2 hwb hb2y hb2l row nilv state bel HD hwl HOUT
              have HNI : Hid (Pu.rdW (body ++ Pu.wrNum d st.bias) (Pu.begin ws) = Pu.rdW (Pu.wrNum d st.bias ++ []) st) := by
                have := unhide HI2 []
                rwa [List.append_nil] at this
              by_cases hmx : d ≤ 2147483647
              · have hmx2 : ¬ 2147483647 < d := by omega
                have HSTEP : Hid (∀ W, Below wr.heap.size wr W → Calls Try.prog 7 #[.agg #[v, .int .i64 st.n, .int .i64 st.i, .int .i64 st.bias, .bool st.first], .int .i64 d] W (StepD W st d)) := fun W hb =>
                  refStep_any v st d W ((unhide HROW).sk.below hb) (unhide HNV) (by omega) hn (by omega) (by omega)
                have HRS : Hid (∀ w1, Below wr.heap.size wr w1 → Rn 60 w.heap.size b w k st v w1) := fun w1 hb => (unhide HM).grow hb
                have HOK : Hid (Utf.okc (Pu.stepN st d) → ∀ rest, Pu.rdW ((body ++ Pu.wrNum d st.bias) ++ rest) (Pu.begin ws) = Pu.rdW rest (Pu.step st d)) := fun h rest => (unhide HI2 rest).trans (Pu.rdW_step rest hd0.1 hmx h)
                have HNO : Hid (¬ Utf.okc (Pu.stepN st d) → Pu.rdW (body ++ Pu.wrNum d st.bias) (Pu.begin ws) = ([], 31)) := fun h => (unhide HNI).trans (Pu.rdW_bad (s := st) [] hd0.1 hmx h)
                clear HI2 HM HNI HROW HNV
                generalize body ++ Pu.wrNum d st.bias = body2 at *
                generalize Pu.wrNum d st.bias = wn at *
                generalize strOfNums (ws ++ Pu.hy ws ++ body) = sA at *
                go_wp2_with fail
                refine (unhide (HW _)).mono ?_
                rintro e w3 ⟨rfl, hb3⟩
                have hRn3 := unhide HRS w3 hb3
                obtain ⟨y0, y1, y2, y3, y4, _⟩ := hRn3.state.cells
                have HST3 := hide (unhide HSTEP w3 hb3)
                have HR3 := hide hRn3
                have HAP2 := unhide HAPP
                clear HW hb3 HSTEP HRS hRn3
                rw [show strOfNums (ws ++ Pu.hy ws ++ body2) = strOfNums (ws ++ Pu.hy ws ++ body2) from rfl] at HAP2
                obtain ⟨sB, hsB⟩ : ∃ sB, strOfNums (ws ++ Pu.hy ws ++ body2) = sB := ⟨_, rfl⟩
                rw [hsB] at HAP2
                have HSB := hide hsB
                clear hsB HAPP
                generalize strOfNums wn = sW at *
                go_wp2_with fail
                refine (unhide HST3).mono ?_
                rintro e w4 ⟨hb4, ⟨hno, ao', l', cc', n', i', bb', fl', rfl⟩ | ⟨hyes, v', rfl, hrow'⟩⟩
                · have hR := unhide HNO hno
                  have HDD := fun W => hide (unhide HD2 W)
                  rw [hR, unhide HSB] at HDD
                  have hst4 := ((unhide HR3).grow hb4).state
                  obtain ⟨_, _, _, _, _, z0, z1, z2, z3, z4⟩ := hst4.cells
                  obtain ⟨W5, hW5, hR5, hbel5, _⟩ := put5 hst4 ((unhide HR3).grow hb4).bel hBb (.slice ao' l' cc') n' i' bb' fl'
                  have HB5 := hide hbel5
                  clear hR hst4 hR5 hbel5 HNO HOK HST3 HD2 hno HR3 hb4 HBY HBL HBE
                  unfold StV
                  go_wp2_with fail
                  refine (unhide (HDD _)).mono ?_
                  rintro e w6 (⟨_, _, h2, _⟩ | ⟨_, _, rfl, hb6⟩)
                  · simp at h2
                  · have hb7 := (unhide HB5).trans (hb6.mono (unhide HB5).size)
                    have HT := hide (told_any w6)
                    clear HDD hb6
                    go_wp2_with (go_at_call 9; refine (unhide HT).mono ?_; rintro e w8 ⟨rfl, hb8⟩; clear HT)
                    go_ret
                    exact ⟨by first | rfl | (show Ending.returned (Value.bool (!decide (2147483647 < d))) = _; rw [decide_eq_false (show ¬ 2147483647 < d by omega)]; rfl) | (show Ending.returned (Value.bool (decide (d ≤ 2147483647))) = _; rw [decide_eq_true (show d ≤ 2147483647 by omega)]), hb7.trans (hb8.mono hb7.size)⟩
                · obtain ⟨W5, hW5, hM5⟩ := ((unhide HR3).grow (Below.refl _ _)).step (k' := k + 1) (by omega) (by omega) hyes hrow' hb4
                  obtain ⟨ao', cap', hv', _, _⟩ := hrow'.sk.shape
                  have hst4 := ((unhide HR3).grow hb4).state
                  obtain ⟨_, _, _, _, _, z0, z1, z2, z3, z4⟩ := hst4.cells
                  have HM5 := hide hM5
                  have HI5 := hide (unhide HOK hyes)
                  clear hM5 hst4 HNO HOK HST3 HD2 hyes HR3 hb4 hrow' HBE
                  generalize (Pu.step st d).xs.length = nl at hv'
                  subst hv'
                  generalize Pu.step st d = st2 at *
                  unfold StV
                  go_wp2
                  go_roundw
                  case rel => exact ⟨k + 1, st2, _, body2, by go_num, by omega, by omega, by rw [unhide HSB], unhide HM5, unhide HBY, unhide HBL, unhide HI5⟩
                  case measure => simp [intOf]; omega
              · have hmx2 : 2147483647 < d := by omega
                have hR : Pu.rdW (body ++ Pu.wrNum d st.bias) (Pu.begin ws) = ([], 113) := (unhide HNI).trans (Pu.rdW_over (s := st) [] hd0.1 (by omega))
                have HDD := fun W => hide (unhide HD2 W)
                rw [hR] at HDD
                clear HI2 HM HNI HROW HNV hR HD2 HBY HBL
                generalize body ++ Pu.wrNum d st.bias = body2 at *
                generalize Pu.wrNum d st.bias = wn at *
                generalize strOfNums (ws ++ Pu.hy ws ++ body) = sA at *
                go_wp2_with fail
                refine (unhide (HW _)).mono ?_
                rintro e w3 ⟨rfl, hb3⟩
                have HB3 := hide ((unhide HBE).trans (hb3.mono hbsz))
                have HAP2 := unhide HAPP
                clear HW hb3 HBE HAPP
                generalize strOfNums (ws ++ Pu.hy ws ++ body2) = sB at *
                generalize strOfNums wn = sW at *
                go_wp2_with fail
                refine (unhide (HDD _)).mono ?_
                rintro e w6 (⟨_, _, h2, _⟩ | ⟨_, _, rfl, hb6⟩)
                · simp at h2
                · have hb7 := (unhide HB3).trans (hb6.mono (unhide HB3).size)
                  have HT := hide (told_any w6)
                  clear HDD hb6
                  go_wp2_with (go_at_call 9; refine (unhide HT).mono ?_; rintro e w8 ⟨rfl, hb8⟩; clear HT)
                  go_ret
                  exact ⟨by first | rfl | (show Ending.returned (Value.bool (decide (2147483647 < d))) = _; rw [decide_eq_true (show 2147483647 < d by omega)]) | (show Ending.returned (Value.bool (!decide (d ≤ 2147483647))) = _; rw [decide_eq_false (show ¬ d ≤ 2147483647 by omega)]; rfl), hb7.trans (hb8.mono hb7.size)⟩
                rename_i hbad
                rw [decide_eq_false (show ¬ d ≤ 2147483647 by omega)] at hbad
                cases hbad
            · clear hM hby hbl hI
              go_wp2
              go_meet
              case rel => exact unhide HOUT
          · clear hM hby hbl hI
            go_wp2
            go_meet
            case rel => exact unhide HOUT
      case rest =>
        obtain ⟨st, v, body, rfl, hM, hby, hbl, hR⟩ := hcut
        have HDD := hide (unhide HD body wc hby (by omega))
        rw [hR] at HDD
        have hszk := unhide HSZ body (by omega)
        have hbsz := hM.bel.size
        have hBB := hM.hB
        have hblt := hM.lt
        have HM := hide hM
        clear hM hby hR HD
        generalize strOfNums (ws ++ Pu.hy ws ++ body) = sA at *
        go_wp2_with fail
        refine (unhide HDD).mono ?_
        rintro e w6 (⟨y6, rfl, _, hok6, hb6⟩ | ⟨_, h2, _⟩)
        · have HT := hide (told_any w6)
          clear HDD
          have HO6 := hide hok6
          have HB6 := hide hb6
          clear hok6 hb6
          go_wp2_with fail
          refine (unhide HT).mono ?_
          rintro e w8 ⟨rfl, hb8⟩
          have hM8 := ((unhide HM).grow (unhide HB6)).grow hb8
          obtain ⟨c0, _⟩ := hM8.state.cells
          have HSM := hide (same_any y6 v st.xs st.xs w8 ((unhide HO6).below hb8).sk hM8.row.sk)
          rw [decide_eq_true (rfl : st.xs = st.xs)] at HSM
          have HB8 := hide hM8.bel
          clear HT hM8 HM HO6 HB6 hb8
          go_wp2_with (go_at_call 10; refine (unhide HSM).mono ?_; rintro e w9 ⟨rfl, hb9⟩; clear HSM)
          go_ret
          exact ⟨rfl, (unhide HB8).trans (hb9.mono (unhide HB8).size)⟩
        · exact absurd rfl h2
    · have HSTR : Hid (strOfNums (ws ++ Pu.hy ws ++ []) = strOfNums ws ++ ⟨#[45]⟩) := by
        show _ = _
        unfold Pu.hy; rw [if_neg hz, List.append_nil, ← str_app]; rfl
      have hpz : 0 < ws.length := by omega
      have hBg := fun W => hide (refBegin_any aw ws.length cw W)
      go_wp2_with fail
      refine (unhide (hBg _)).mono ?_
      rintro e w2 ⟨rfl, hb2⟩
      clear hBg
      unfold StV
      have hs2 := hb2.size
      have hs1 := (unhide HB1).size
      obtain ⟨W, hW⟩ : ∃ W, w2.alloc (.cells #[.slice aw ws.length cw, .int .i64 128, .int .i64 0, .int .i64 72, .bool true] 27) = W := ⟨_, rfl⟩
      obtain ⟨b, hbe⟩ : ∃ b, w2.heap.size = b := ⟨_, rfl⟩
      have hM : Rn 60 w.heap.size b w 0 (Pu.begin ws) (.slice aw ws.length cw) W := by
        rw [← hW, ← hbe]
        refine ⟨ok_alloc (((unhide HOK).below (unhide HB1)).below hb2) _, unhide HNIL, heap_alloc_new w2 _, ((unhide HBEL).trans ((bthen (unhide HB1) hb2).mono hbs)).alloc (by omega) _, by omega, fun hh => ?_, by show ws.length ≤ _; omega, by show (0 : Int) ≤ 128 ∧ (128 : Int) ≤ 1114111; omega, by show (0 : Int) ≤ 0 ∧ (0 : Int) ≤ (ws.length : Int); omega, by show (0 : Int) ≤ 72 ∧ (72 : Int) ≤ 468; omega⟩
        have := ((unhide HOK).row.lt _ hh).2
        omega
      have HM0 := hide hM
      clear hM HOK HNIL HBEL HB1 hb2 hs1 hs2 hbs
      have hhy : (Pu.hy ws).length ≤ 1 := hy_len ws
      have HNB : Hid (∀ body2 : List Int, (∀ z ∈ body2, 48 ≤ z ∧ z ≤ 122) → nums (strOfNums (ws ++ Pu.hy ws ++ body2)) = ws ++ Pu.hy ws ++ body2) := fun body2 h1 => nums_strOf (by
        intro z hz
        simp only [List.mem_append] at hz
        rcases hz with (hz | hz) | hz
        · have := unhide HWS z hz; omega
        · unfold Pu.hy at hz
          split at hz
          · simp at hz
          · first | (simp at hz; done) | (simp at hz; subst hz; omega)
        · have := h1 z hz; omega)
      have HSZ : Hid (∀ body2 : List Int, body2.length ≤ 5000 → (strOfNums (ws ++ Pu.hy ws ++ body2)).size ≤ 10000) := fun body2 h => by rw [strOfNums_size, List.length_append, List.length_append]; omega
      have HD : Hid (∀ (body2 : List Int) W, (∀ z ∈ body2, 48 ≤ z ∧ z ≤ 122) → body2.length ≤ 5000 → Calls Try.prog 8 #[.string (strOfNums (ws ++ Pu.hy ws ++ body2))] W (RdPost W.heap.size W (Pu.rdW body2 (Pu.begin ws)))) := fun body2 W h1 h2 => by
        have := decode_any (strOfNums (ws ++ Pu.hy ws ++ body2)) W (by have := unhide HSZ body2 h2; omega)
        rw [unhide HNB body2 h1, Pu.decode_hands (unhide HWS) h1 (by omega)] at this
        exact this
      clear HNB hhy
      go_upto_block 2 with fail
      try rw [show decide (0 < ws.length) = true from decide_eq_true (by omega)]
      go_cut [4, 7, 11, 12, 13, 14, 15] (fun _ sv _ _ _ _ _ wc => ∃ (st : Pu.St) (v : Value) (body : List Int), sv = .string (strOfNums (ws ++ Pu.hy ws ++ body)) ∧ Rn 60 w.heap.size b w 40 st v wc ∧ (∀ z ∈ body, 48 ≤ z ∧ z ≤ 122) ∧ body.length ≤ 1640 ∧ Pu.rdW body (Pu.begin ws) = (st.xs, 0))
      case first =>
        go_wp2
        go_loopw [4, 7, 11, 12, 13, 14, 15] (fun _ sv jj _ _ _ _ wr => ∃ (k : Nat) (st : Pu.St) (v : Value) (body : List Int), jj = .int .i64 k ∧ k ≤ ds.length ∧ k ≤ 40 ∧ sv = .string (strOfNums (ws ++ Pu.hy ws ++ body)) ∧ Rn 60 w.heap.size b w k st v wr ∧ (∀ z ∈ body, 48 ≤ z ∧ z ≤ 122) ∧ body.length ≤ 41 * k ∧ ∀ rest, Pu.rdW (body ++ rest) (Pu.begin ws) = Pu.rdW rest st) (fun _ _ jj _ _ _ _ _ => 41 - (intOf jj).toNat)
        case atStart => exact ⟨0, _, _, [], rfl, by omega, by omega, by rw [unhide HSTR], unhide HM0, fun z hz => by simp at hz, by simp, fun rest => rfl⟩
        case round =>
          clear HM0
          obtain ⟨k, st, v, body, rfl, hkd, hk40, rfl, hM, hby, hbl, hI⟩ := hrel
          have hszk := unhide HSZ body (by omega)
          have HOUT : Hid (∃ (st : Pu.St) (v : Value) (body2 : List Int), Value.string (strOfNums (ws ++ Pu.hy ws ++ body)) = .string (strOfNums (ws ++ Pu.hy ws ++ body2)) ∧ Rn 60 w.heap.size b w 40 st v wr ∧ (∀ z ∈ body2, 48 ≤ z ∧ z ≤ 122) ∧ body2.length ≤ 1640 ∧ Pu.rdW body2 (Pu.begin ws) = (st.xs, 0)) := by
            refine ⟨st, v, body, rfl, hM.later hk40, hby, by omega, ?_⟩
            have := hI []
            rw [List.append_nil] at this
            exact this.trans (Pu.rdW_nil st)
          by_cases hlt : k < ds.length
          · by_cases hlt40 : k < 40
            · obtain ⟨row, nilv, state, bel, hBb, ne, len, hn, hi, hbias⟩ := id hM
              obtain ⟨c0, c1, c2, c3, c4, f0, f1, f2, f3, f4⟩ := state.cells
              have hblt := hM.lt
              have hbsz := bel.size
              obtain ⟨b2, o2, cq2, he2, _, _, hcl2⟩ := (unhide HDS).place (by omega)
              simp only [Value.slice.injEq] at he2
              obtain ⟨rfl, h9, rfl⟩ := he2
              clear h9
              have hcell2 : wr.cell? ⟨b2, o2 + k, none⟩ = some (.int .i64 (ds.getD k 0)) := by
                have h3 := hcl2 k hlt
                rw [bel.cell (lt_of_cell? h3)]; exact h3
              have hand := i64_and40 (ds.getD k 0)
              have hd0 : 0 ≤ ds.getD k 0 % 1099511627776 ∧ ds.getD k 0 % 1099511627776 ≤ 1099511627775 := by omega
              generalize ds.getD k 0 = dd at *
              generalize hdd : dd % 1099511627776 = d at *
              clear hdd
              have HW := fun W => hide (refWritten_any d st.bias W hd0 hbias)
              have hwb := Pu.wrNum_bytes (bias := st.bias) hd0.1
              have hwl := Pu.wrNum_len2 (v := d) (bias := st.bias) hd0.1 hd0.2
              have hb2y : ∀ z ∈ body ++ Pu.wrNum d st.bias, 48 ≤ z ∧ z ≤ 122 := fun z hz => by
                rcases List.mem_append.1 hz with h | h
                · exact hby z h
                · exact hwb z h
              have hb2l : (body ++ Pu.wrNum d st.bias).length ≤ 41 * (k + 1) := by rw [List.length_append]; omega
              have HAPP : Hid (strOfNums (ws ++ Pu.hy ws ++ body) ++ strOfNums (Pu.wrNum d st.bias) = strOfNums (ws ++ Pu.hy ws ++ (body ++ Pu.wrNum d st.bias))) := by
                show _ = _
                rw [str_app]; simp
              have hwz : (strOfNums (Pu.wrNum d st.bias)).size ≤ 100 := by rw [strOfNums_size]; omega
              have HI2 : Hid (∀ rest, Pu.rdW ((body ++ Pu.wrNum d st.bias) ++ rest) (Pu.begin ws) = Pu.rdW (Pu.wrNum d st.bias ++ rest) st) := fun rest => by rw [List.append_assoc]; exact hI _
              have HD2 := hide (fun W => unhide HD (body ++ Pu.wrNum d st.bias) W hb2y (by omega))
              have HBY := hide hb2y
              have HBL := hide hb2l
              have HM := hide hM
              have HROW := hide row
              have HNV := hide nilv
              have HBE := hide bel
              clear hM hby hbl hI hcl2 hwb hb2y hb2l row nilv state bel HD hwl HOUT
              have HNI : Hid (Pu.rdW (body ++ Pu.wrNum d st.bias) (Pu.begin ws) = Pu.rdW (Pu.wrNum d st.bias ++ []) st) := by
                have := unhide HI2 []
                rwa [List.append_nil] at this
              by_cases hmx : d ≤ 2147483647
              · have hmx2 : ¬ 2147483647 < d := by omega
                have HSTEP : Hid (∀ W, Below wr.heap.size wr W → Calls Try.prog 7 #[.agg #[v, .int .i64 st.n, .int .i64 st.i, .int .i64 st.bias, .bool st.first], .int .i64 d] W (StepD W st d)) := fun W hb =>
                  refStep_any v st d W ((unhide HROW).sk.below hb) (unhide HNV) (by omega) hn (by omega) (by omega)
                have HRS : Hid (∀ w1, Below wr.heap.size wr w1 → Rn 60 w.heap.size b w k st v w1) := fun w1 hb => (unhide HM).grow hb
                have HOK : Hid (Utf.okc (Pu.stepN st d) → ∀ rest, Pu.rdW ((body ++ Pu.wrNum d st.bias) ++ rest) (Pu.begin ws) = Pu.rdW rest (Pu.step st d)) := fun h rest => (unhide HI2 rest).trans (Pu.rdW_step rest hd0.1 hmx h)
                have HNO : Hid (¬ Utf.okc (Pu.stepN st d) → Pu.rdW (body ++ Pu.wrNum d st.bias) (Pu.begin ws) = ([], 31)) := fun h => (unhide HNI).trans (Pu.rdW_bad (s := st) [] hd0.1 hmx h)
                clear HI2 HM HNI HROW HNV
                generalize body ++ Pu.wrNum d st.bias = body2 at *
                generalize Pu.wrNum d st.bias = wn at *
                generalize strOfNums (ws ++ Pu.hy ws ++ body) = sA at *
                go_wp2_with fail
                refine (unhide (HW _)).mono ?_
                rintro e w3 ⟨rfl, hb3⟩
                have hRn3 := unhide HRS w3 hb3
                obtain ⟨y0, y1, y2, y3, y4, _⟩ := hRn3.state.cells
                have HST3 := hide (unhide HSTEP w3 hb3)
                have HR3 := hide hRn3
                have HAP2 := unhide HAPP
                clear HW hb3 HSTEP HRS hRn3
                rw [show strOfNums (ws ++ Pu.hy ws ++ body2) = strOfNums (ws ++ Pu.hy ws ++ body2) from rfl] at HAP2
                obtain ⟨sB, hsB⟩ : ∃ sB, strOfNums (ws ++ Pu.hy ws ++ body2) = sB := ⟨_, rfl⟩
                rw [hsB] at HAP2
                have HSB := hide hsB
                clear hsB HAPP
                generalize strOfNums wn = sW at *
                go_wp2_with fail
                refine (unhide HST3).mono ?_
                rintro e w4 ⟨hb4, ⟨hno, ao', l', cc', n', i', bb', fl', rfl⟩ | ⟨hyes, v', rfl, hrow'⟩⟩
                · have hR := unhide HNO hno
                  have HDD := fun W => hide (unhide HD2 W)
                  rw [hR, unhide HSB] at HDD
                  have hst4 := ((unhide HR3).grow hb4).state
                  obtain ⟨_, _, _, _, _, z0, z1, z2, z3, z4⟩ := hst4.cells
                  obtain ⟨W5, hW5, hR5, hbel5, _⟩ := put5 hst4 ((unhide HR3).grow hb4).bel hBb (.slice ao' l' cc') n' i' bb' fl'
                  have HB5 := hide hbel5
                  clear hR hst4 hR5 hbel5 HNO HOK HST3 HD2 hno HR3 hb4 HBY HBL HBE
                  unfold StV
                  go_wp2_with fail
                  refine (unhide (HDD _)).mono ?_
                  rintro e w6 (⟨_, _, h2, _⟩ | ⟨_, _, rfl, hb6⟩)
                  · simp at h2
                  · have hb7 := (unhide HB5).trans (hb6.mono (unhide HB5).size)
                    have HT := hide (told_any w6)
                    clear HDD hb6
                    go_wp2_with (go_at_call 9; refine (unhide HT).mono ?_; rintro e w8 ⟨rfl, hb8⟩; clear HT)
                    go_ret
                    exact ⟨by first | rfl | (show Ending.returned (Value.bool (!decide (2147483647 < d))) = _; rw [decide_eq_false (show ¬ 2147483647 < d by omega)]; rfl) | (show Ending.returned (Value.bool (decide (d ≤ 2147483647))) = _; rw [decide_eq_true (show d ≤ 2147483647 by omega)]), hb7.trans (hb8.mono hb7.size)⟩
                · obtain ⟨W5, hW5, hM5⟩ := ((unhide HR3).grow (Below.refl _ _)).step (k' := k + 1) (by omega) (by omega) hyes hrow' hb4
                  obtain ⟨ao', cap', hv', _, _⟩ := hrow'.sk.shape
                  have hst4 := ((unhide HR3).grow hb4).state
                  obtain ⟨_, _, _, _, _, z0, z1, z2, z3, z4⟩ := hst4.cells
                  have HM5 := hide hM5
                  have HI5 := hide (unhide HOK hyes)
                  clear hM5 hst4 HNO HOK HST3 HD2 hyes HR3 hb4 hrow' HBE
                  generalize (Pu.step st d).xs.length = nl at hv'
                  subst hv'
                  generalize Pu.step st d = st2 at *
                  unfold StV
                  go_wp2
                  go_roundw
                  case rel => exact ⟨k + 1, st2, _, body2, by go_num, by omega, by omega, by rw [unhide HSB], unhide HM5, unhide HBY, unhide HBL, unhide HI5⟩
                  case measure => simp [intOf]; omega
              · have hmx2 : 2147483647 < d := by omega
                have hR : Pu.rdW (body ++ Pu.wrNum d st.bias) (Pu.begin ws) = ([], 113) := (unhide HNI).trans (Pu.rdW_over (s := st) [] hd0.1 (by omega))
                have HDD := fun W => hide (unhide HD2 W)
                rw [hR] at HDD
                clear HI2 HM HNI HROW HNV hR HD2 HBY HBL
                generalize body ++ Pu.wrNum d st.bias = body2 at *
                generalize Pu.wrNum d st.bias = wn at *
                generalize strOfNums (ws ++ Pu.hy ws ++ body) = sA at *
                go_wp2_with fail
                refine (unhide (HW _)).mono ?_
                rintro e w3 ⟨rfl, hb3⟩
                have HB3 := hide ((unhide HBE).trans (hb3.mono hbsz))
                have HAP2 := unhide HAPP
                clear HW hb3 HBE HAPP
                generalize strOfNums (ws ++ Pu.hy ws ++ body2) = sB at *
                generalize strOfNums wn = sW at *
                go_wp2_with fail
                refine (unhide (HDD _)).mono ?_
                rintro e w6 (⟨_, _, h2, _⟩ | ⟨_, _, rfl, hb6⟩)
                · simp at h2
                · have hb7 := (unhide HB3).trans (hb6.mono (unhide HB3).size)
                  have HT := hide (told_any w6)
                  clear HDD hb6
                  go_wp2_with (go_at_call 9; refine (unhide HT).mono ?_; rintro e w8 ⟨rfl, hb8⟩; clear HT)
                  go_ret
                  exact ⟨by first | rfl | (show Ending.returned (Value.bool (decide (2147483647 < d))) = _; rw [decide_eq_true (show 2147483647 < d by omega)]) | (show Ending.returned (Value.bool (!decide (d ≤ 2147483647))) = _; rw [decide_eq_false (show ¬ d ≤ 2147483647 by omega)]; rfl), hb7.trans (hb8.mono hb7.size)⟩
                rename_i hbad
                rw [decide_eq_false (show ¬ d ≤ 2147483647 by omega)] at hbad
                cases hbad
            · clear hM hby hbl hI
              go_wp2
              go_meet
              case rel => exact unhide HOUT
          · clear hM hby hbl hI
            go_wp2
            go_meet
            case rel => exact unhide HOUT
      case rest =>
        obtain ⟨st, v, body, rfl, hM, hby, hbl, hR⟩ := hcut
        have HDD := hide (unhide HD body wc hby (by omega))
        rw [hR] at HDD
        have hszk := unhide HSZ body (by omega)
        have hbsz := hM.bel.size
        have hBB := hM.hB
        have hblt := hM.lt
        have HM := hide hM
        clear hM hby hR HD
        generalize strOfNums (ws ++ Pu.hy ws ++ body) = sA at *
        go_wp2_with fail
        refine (unhide HDD).mono ?_
        rintro e w6 (⟨y6, rfl, _, hok6, hb6⟩ | ⟨_, h2, _⟩)
        · have HT := hide (told_any w6)
          clear HDD
          have HO6 := hide hok6
          have HB6 := hide hb6
          clear hok6 hb6
          go_wp2_with fail
          refine (unhide HT).mono ?_
          rintro e w8 ⟨rfl, hb8⟩
          have hM8 := ((unhide HM).grow (unhide HB6)).grow hb8
          obtain ⟨c0, _⟩ := hM8.state.cells
          have HSM := hide (same_any y6 v st.xs st.xs w8 ((unhide HO6).below hb8).sk hM8.row.sk)
          rw [decide_eq_true (rfl : st.xs = st.xs)] at HSM
          have HB8 := hide hM8.bel
          clear HT hM8 HM HO6 HB6 hb8
          go_wp2_with (go_at_call 10; refine (unhide HSM).mono ?_; rintro e w9 ⟨rfl, hb9⟩; clear HSM)
          go_ret
          exact ⟨rfl, (unhide HB8).trans (hb9.mono (unhide HB8).size)⟩
        · exact absurd rfl h2
end Go.Proofs.Ytgccindoinhphab
