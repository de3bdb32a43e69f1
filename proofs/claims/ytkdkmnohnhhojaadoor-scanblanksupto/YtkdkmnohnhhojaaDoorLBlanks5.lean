/- The walk of ScanBlanks, out of what scan's calls are asked. -/
import Derived.Test.YtkdkmnohnhhojaaDoorLLines5
import Derived.Test.YtkdkmnohnhhojaaDoorBlk5
namespace Go.Proofs.YtkdkmnohnhhojaaDoor
open Go.RowKit

theorem and3 (n : Int) : ∃ c : Int, bits .and .i64 n 3 = c ∧ 0 ≤ c ∧ c ≤ 3 := by
  refine ⟨_, rfl, ?_⟩
  have h : (BitVec.ofInt 64 n &&& BitVec.ofInt 64 3).toNat ≤ 3 := by
    rw [BitVec.toNat_and]
    exact Nat.le_trans Nat.and_le_right (by decide)
  show 0 ≤ IntKind.i64.wrap ((BitVec.ofInt 64 n &&& BitVec.ofInt 64 3).toNat : Int) ∧ IntKind.i64.wrap ((BitVec.ofInt 64 n &&& BitVec.ofInt 64 3).toNat : Int) ≤ 3
  generalize (BitVec.ofInt 64 n &&& BitVec.ofInt 64 3).toNat = c at *
  rw [show IntKind.i64.wrap (c : Int) = c from IntWalk.i64_in _ ⟨by omega, by omega⟩]
  omega
theorem slice_is {L T : ByteArray} {p : Nat} (h : p + T.size ≤ L.size) (e : L.extract p (p + T.size) = T) (w : World) : (Instr.slice 9 (.string L) (some (.int .i64 (p : Int))) (some (.int .i64 ((p : Int) + (T.size : Int)))) none).run Tryd.prog w = .ok (.string T) w := by
  rw [run_slice_string_if (h := Tryd.underlying9), if_pos ⟨by omega, by omega⟩, if_pos ⟨by omega, by omega⟩]
  have e2 : L.extract (p : Int).toNat ((p : Int) + (T.size : Int)).toNat = T := by
    rw [show ((p : Int) + (T.size : Int)).toNat = p + T.size by omega, show (p : Int).toNat = p by omega]; exact e
  rw [e2]
theorem idx0 (w : World) : (Instr.index 49 (.agg #[.string ⟨#[32]⟩, .string ⟨#[9]⟩, .string ⟨#[13]⟩]) (.int .i64 0)).run Tryd.prog w = .ok (.string ⟨#[32]⟩) w := by
  simp [Instr.index, run_underlying Tryd.underlying49, asIntOf, go_sem, Tryd.sizeOf9, Tryd.isAgg9]
theorem idx1 (w : World) : (Instr.index 49 (.agg #[.string ⟨#[32]⟩, .string ⟨#[9]⟩, .string ⟨#[13]⟩]) (.int .i64 1)).run Tryd.prog w = .ok (.string ⟨#[9]⟩) w := by
  simp [Instr.index, run_underlying Tryd.underlying49, asIntOf, go_sem, Tryd.sizeOf9, Tryd.isAgg9]
theorem idx2 (w : World) : (Instr.index 49 (.agg #[.string ⟨#[32]⟩, .string ⟨#[9]⟩, .string ⟨#[13]⟩]) (.int .i64 2)).run Tryd.prog w = .ok (.string ⟨#[13]⟩) w := by
  simp [Instr.index, run_underlying Tryd.underlying49, asIntOf, go_sem, Tryd.sizeOf9, Tryd.isAgg9]
/-- Where the building of the line stands behind i words: the line, and the words that are wanted. -/
def BAt (w : World) (i : Nat) (lv wv : Value) (wr : World) : Prop :=
  ∃ (L : ByteArray) (ws : List Wrd), lv = .string L ∧ Scn.Laid (nums L) ws ∧ L.size ≤ 24 * i ∧ ws.length ≤ i ∧ wr.ownsRow w.heap.size 9 1 wv ws.length (txts (ws.map (·.1))) ∧ Below w.heap.size w wr

set_option maxRecDepth 8000 in
set_option maxHeartbeats 16000000 in
theorem blanks_any (HL : LinesC) (HW : WordsC) (HS : SpanC) (HO : WholeC) (HN : NameC) (HP : PCodeC) (vt vb : Value) (ts : List ByteArray) (zs : List Int) (s : ByteArray) (w : World) (hg : Glob w) (hs : s.size ≤ 100000000)
    (hvt : Sv w vt (ts.map Value.string)) (hvb : Sk .i64 w vb zs) :
    Calls Tryd.prog 7 #[vt, vb, .string s] w (Tells w true) := by
  have KT := hide (told_any HL HW HS HO HN HP)
  have HKW := hide HW
  clear HL HW HS HO HN HP
  obtain ⟨i0, hi, hz0, hz1, hz2⟩ := info_parts Tryd.info9
  have htl : (ts.map Value.string).length = ts.length := List.length_map _
  have HTC : Hid (∀ i, i < ts.length → ∀ wr, Below w.heap.size w wr → ∃ b off, (∃ cap, vt = .slice (some ⟨b, off, none⟩) ts.length cap) ∧ wr.cell? ⟨b, off + i, none⟩ = some (.string (ts.getD i ⟨#[]⟩))) := by
    intro i hi wr hb
    obtain ⟨b, off, cap, rfl, hc1, hc2, hc⟩ := hvt.place (by omega)
    have h := hc i (by omega)
    refine ⟨b, off, ⟨cap, by rw [htl]⟩, ?_⟩
    rw [hb.cell (lt_of_cell? h), h]
    simp [List.getD, hi]
  obtain ⟨ao, cap, rfl, ht1, ht2⟩ := hvt.shape
  rw [htl] at ht1 HTC ⊢
  go_enter Tryd.func7, Tryd.ntmps7
  go_wp2
  go_loopw [7, 8, 9, 10, 11, 12, 13, 14] (fun lv wv iv _ _ _ _ _ wr => ∃ i : Nat, iv = .int .i64 i ∧ i ≤ ts.length ∧ i ≤ 20 ∧ BAt w i lv wv wr) (fun _ _ iv _ _ _ _ _ _ => 20 - (intOf iv).toNat)
  case atStart => exact ⟨0, rfl, by omega, by omega, ⟨#[]⟩, [], rfl, Scn.Laid.nil, by decide, by simp, World.ownsRow_nil _ _ _ _, Below.refl _ _⟩
  case round =>
    obtain ⟨i, rfl, hi1, hi2, L, ws, rfl, hlaid, hLs, hwl, how, hbel⟩ := hrel
    by_cases hlt : i < ts.length ∧ i < 20
    · obtain ⟨hlt1, hlt2⟩ := hlt
      obtain ⟨b, off, ⟨cap', he⟩, _⟩ := (unhide HTC) i hlt1 wr hbel
      obtain ⟨rfl, rfl⟩ : ao = some ⟨b, off, none⟩ ∧ cap = cap' := by simpa using he
      clear he
      have HTW : Hid (∀ wi, Below wr.heap.size wr wi → wi.cell? ⟨b, off + i, none⟩ = some (.string (ts.getD i ⟨#[]⟩))) := by
        intro wi hb
        obtain ⟨b', off', ⟨cap', he⟩, hc⟩ := (unhide HTC) i hlt1 wi (hbel.trans (hb.mono hbel.size))
        obtain ⟨⟨rfl, rfl⟩, _⟩ : (b = b' ∧ off = off') ∧ cap = cap' := by simpa using he
        exact hc
      generalize ts.getD i ⟨#[]⟩ = t at *
      have HByt := hide (fun k => (nums_byt t).at k)
      have HAt : Hid (∀ k, k < t.size → ∀ w, (Instr.index 9 (.string t) (.int .i64 (k : Int))).run Tryd.prog w = .ok (.int .u8 ((nums t).getD k 0)) w) := fun k hk w => run_at t k k rfl hk w
      have HLAID := hide hlaid
      have HOW := hide how
      have HBEL := hide hbel
      clear hlaid how hbel
      obtain ⟨wo, hwo⟩ : ∃ x : World, x = wr := ⟨wr, rfl⟩
      subst hwo
      go_wp2
      go_loopw [10, 11, 12] (fun qv kv _ wi => ∃ (k : Nat) (q : ByteArray), qv = .string q ∧ kv = .int .i64 k ∧ k ≤ t.size ∧ k ≤ 20 ∧ q.size ≤ k ∧ (∀ c ∈ nums q, Scn.Sign c) ∧ Below wo.heap.size wo wi) (fun _ kv _ _ => 20 - (intOf kv).toNat)
      case atStart => exact ⟨0, ⟨#[]⟩, rfl, rfl, by omega, by omega, by decide, fun c hc => (by cases hc), Below.refl _ _⟩
      case round =>
        obtain ⟨k, q, rfl, rfl, hk1, hk2, hqs, hsg, hbi⟩ := hrel
        have hcell := (unhide HTW) wr hbi
        by_cases hkk : k < t.size ∧ k < 20
        · obtain ⟨hkk1, hkk2⟩ := hkk
          have hc0 := (unhide HAt) k hkk1
          obtain ⟨c1, c2⟩ := (unhide HByt) k
          clear HTC HTW HAt HByt HLAID HOW HBEL KT HKW hvb hvt
          generalize (nums t).getD k 0 = c at *
          by_cases g1 : 32 < c
          · by_cases g2 : c = 35
            · subst g2
              go_wp2
              go_roundw
              case rel => exact ⟨k + 1, q, rfl, by go_num, by omega, by omega, by omega, hsg, hbi⟩
              case measure => simp [intOf]; omega
            · have g3 : (c != 35) = true := by simp [g2]
              have hcv := conv_one wr c
              have hq2 : nums (q ++ strOfNums [c]) = nums q ++ [c] := by
                rw [nums_append, nums_strOf (fun z hz => by simp at hz; omega)]
              have HX : Hid (∃ (k1 : Nat) (q1 : ByteArray), Value.string (q ++ strOfNums [c]) = .string q1 ∧ Value.int .i64 ((k : Int) + 1) = .int .i64 k1 ∧ k1 ≤ t.size ∧ k1 ≤ 20 ∧ q1.size ≤ k1 ∧ (∀ c ∈ nums q1, Scn.Sign c) ∧ Below wo.heap.size wo (wr.alloc (.cells #[.int .u8 c] 5))) := by
                refine ⟨k + 1, _, rfl, by go_num, by omega, by omega, ?_, fun x hx => ?_, hbi.alloc hbi.size _⟩
                · rw [← nums_length, hq2, List.length_append, nums_length]; simp; omega
                · rw [hq2] at hx
                  rcases List.mem_append.1 hx with hx | hx
                  · exact hsg x hx
                  · simp at hx; subst hx; exact Scn.sign_of g1 g2
              have hqk : q.size ≤ 20 := by omega
              have hsz1 : (strOfNums [c]).size = 1 := by rw [strOf_size]; rfl
              clear hq2 hsg hbi
              generalize strOfNums [c] = qc at *
              go_wp2
              go_roundw
              case rel => exact unhide HX
              case measure => simp [intOf]; omega
          · go_wp2
            go_roundw
            case rel => exact ⟨k + 1, q, rfl, by go_num, by omega, by omega, by omega, hsg, hbi⟩
            case measure => simp [intOf]; omega
        · have hex : ¬ k < t.size ∨ (k < t.size ∧ ¬ k < 20) := by omega
          clear hkk
          have hbel2 : Below w.heap.size w wr := (unhide HBEL).trans (hbi.mono (unhide HBEL).size)
          have how2 := own_keep (w' := wr) (unhide HOW) (fun g h => hbi.block g ((unhide HOW).lt g h).2)
          have hB0 := hbel2.size
          have hlaid := unhide HLAID
          clear HTW HAt HByt HOW HBEL HLAID hbi
          by_cases hq0 : q = ⟨#[]⟩
          · subst hq0
            have HX : Hid (BAt w (i + 1) (.string L) u8 wr) := ⟨L, ws, rfl, hlaid, by omega, by omega, how2, hbel2⟩
            clear hlaid how2 hbel2 hsg
            rcases hex with hex | ⟨hex, hex2⟩
            all_goals
              go_wp2
              go_roundw
              case rel => exact ⟨i + 1, by go_num, by omega, by omega, unhide HX⟩
              case measure => simp [intOf]; omega
          · have hqe : q.toList.isEmpty = false := by
              rw [ByteArray.toList_eq, List.isEmpty_eq_false_iff]
              exact fun e => hq0 (by cases q; simp_all)
            have HSG := hide hsg
            have HQN : Hid (nums q ≠ []) := fun e => hq0 (nums_inj (e.trans rfl))
            clear hsg hq0
            have hqs20 : q.size ≤ 20 := by omega
            by_cases hib : i < zs.length
            · obtain ⟨bb, boff, bcap, rfl, hbc1, hbc2, hbc⟩ := hvb.place (by omega)
              have hz := hbc i hib
              have hzc : wr.cell? ⟨bb, boff + i, none⟩ = some (.int .i64 (zs.getD i 0)) := by rw [hbel2.cell (lt_of_cell? hz)]; exact hz
              obtain ⟨c, hce, cc0, cc1⟩ := and3 (zs.getD i 0)
              generalize zs.getD i 0 = z at *
              clear hbc hz
              rcases hex with hex | ⟨hex, hex2⟩
              all_goals
                go_wp2
                clear hzc hce
                go_loop [7, 14] (fun lv kv => ∃ (k : Nat) (L2 : ByteArray) (B : List Int), lv = .string L2 ∧ kv = .int .i64 k ∧ (k : Int) ≤ c + 1 ∧ nums L2 = nums L ++ B ∧ B.length = k ∧ ∀ c ∈ B, Scn.isBlank c = true) (fun _ kv => 4 - (intOf kv).toNat)
                case atStart => exact ⟨0, L, [], rfl, rfl, by omega, by simp, rfl, fun c hc => (by cases hc)⟩
                case round =>
                  obtain ⟨k, L2, B, rfl, rfl, hk, hL2, hBl, hB⟩ := hrel
                  have hL2s : L2.size = L.size + k := by
                    have := congrArg List.length hL2
                    rw [nums_length, List.length_append, nums_length, hBl] at this
                    exact this
                  by_cases hkn : (k : Int) < c + 1
                  · have hr : ((c + 1) + (k : Int)).tmod 3 = 0 ∨ ((c + 1) + (k : Int)).tmod 3 = 1 ∨ ((c + 1) + (k : Int)).tmod 3 = 2 := by
                      rw [Int.tmod_eq_emod_of_nonneg (by omega)]; omega
                    have HL2 := hide hL2
                    have HBB := hide hB
                    have HBL := hide hBl
                    have HX : Hid (∀ b : ByteArray, (∃ c, nums b = [c] ∧ Scn.isBlank c = true) → ∃ (k1 : Nat) (L3 : ByteArray) (B3 : List Int), Value.string (L2 ++ b) = .string L3 ∧ Value.int .i64 ((k : Int) + 1) = .int .i64 k1 ∧ (k1 : Int) ≤ c + 1 ∧ nums L3 = nums L ++ B3 ∧ B3.length = k1 ∧ ∀ c ∈ B3, Scn.isBlank c = true) := by
                      rintro b ⟨c, hc, hcb⟩
                      refine ⟨k + 1, L2 ++ b, B ++ [c], rfl, by go_num, by omega, by rw [nums_append, unhide HL2, hc, List.append_assoc], by rw [List.length_append, unhide HBL]; rfl, fun x hx => ?_⟩
                      rcases List.mem_append.1 hx with hx | hx
                      · exact (unhide HBB) x hx
                      · simp at hx; rw [hx]; exact hcb
                    clear hL2 hB hBl HL2 HBB HBL
                    obtain ⟨r, bl, hre, hid, hbl⟩ : ∃ (r : Int) (bl : ByteArray), ((c + 1) + (k : Int)).tmod 3 = r ∧ (∀ W, (Instr.index 49 (.agg #[.string ⟨#[32]⟩, .string ⟨#[9]⟩, .string ⟨#[13]⟩]) (.int .i64 r)).run Tryd.prog W = .ok (.string bl) W) ∧ ∃ c, nums bl = [c] ∧ Scn.isBlank c = true := by
                      rcases hr with hr | hr | hr
                      · exact ⟨0, ⟨#[32]⟩, hr, idx0, 32, rfl, rfl⟩
                      · exact ⟨1, ⟨#[9]⟩, hr, idx1, 9, rfl, rfl⟩
                      · exact ⟨2, ⟨#[13]⟩, hr, idx2, 13, rfl, rfl⟩
                    have hbs : bl.size = 1 := by
                      obtain ⟨c, hc, _⟩ := hbl
                      rw [← nums_length, hc]; rfl
                    have HY := hide ((unhide HX) bl hbl)
                    clear HX hr hbl
                    go_wp2
                    go_round
                    case rel => exact unhide HY
                    case measure => simp [intOf]; omega
                  · have hke : (k : Int) = c + 1 := by omega
                    have hBn : B ≠ [] := fun e => by rw [e] at hBl; simp at hBl; omega
                    have hadd := hlaid.add hB hBn (unhide HSG) (unhide HQN)
                    have hnl : nums (L2 ++ q) = nums L ++ B ++ nums q := by rw [nums_append, hL2]
                    rw [← hnl] at hadd
                    have HAD := hide hadd
                    clear hadd hnl hL2 hB hBn hlaid
                    go_wp2_with (at_builtin; refine wpList_append_own _ rfl (.tmp 86) (.tmp 88) 22 rfl w.heap.size 9 i0 (.string ⟨#[]⟩) 1 16 Tryd.underlying22 hi hz0 hz1 hz2 rfl (by decide) _ _ _ rfl (how2.alloc _) ⟨wr.heap.size, 0, none⟩ 1 1 [.string q] rfl rfl (cell_one_new _ _ _) (string_one _) (by unfold maxLen; omega) (by omega) (by simp; omega) ?_)
                    intro v9 w9 hrow9 hg9 _
                    have hb9 : Below w.heap.size w w9 := below_append hB0 how2 hbel2 hg9
                    rw [txts_snoc _ q rfl] at hrow9
                    have HR := hide hrow9
                    clear hrow9 hg9 how2
                    go_wp2
                    go_roundw
                    case rel => exact ⟨i + 1, by go_num, by omega, by omega, L2 ++ q, _, rfl, unhide HAD, by rw [ByteArray.size_append]; omega, by simp; omega, by simpa using unhide HR, hb9⟩
                    case measure => simp [intOf]; omega
            · obtain ⟨bao, bcap, rfl, hbc1, hbc2⟩ := hvb.shape
              rcases hex with hex | ⟨hex, hex2⟩
              all_goals
                go_wp2
                go_loop [7, 14] (fun lv kv => ∃ (k : Nat) (L2 : ByteArray) (B : List Int), lv = .string L2 ∧ kv = .int .i64 k ∧ (k : Int) ≤ 1 ∧ nums L2 = nums L ++ B ∧ B.length = k ∧ ∀ c ∈ B, Scn.isBlank c = true) (fun _ kv => 4 - (intOf kv).toNat)
                case atStart => exact ⟨0, L, [], rfl, rfl, by omega, by simp, rfl, fun c hc => (by cases hc)⟩
                case round =>
                  obtain ⟨k, L2, B, rfl, rfl, hk, hL2, hBl, hB⟩ := hrel
                  have hL2s : L2.size = L.size + k := by
                    have := congrArg List.length hL2
                    rw [nums_length, List.length_append, nums_length, hBl] at this
                    exact this
                  by_cases hkn : (k : Int) < 1
                  · have hr : ((1 : Int) + (k : Int)).tmod 3 = 0 ∨ ((1 : Int) + (k : Int)).tmod 3 = 1 ∨ ((1 : Int) + (k : Int)).tmod 3 = 2 := by
                      rw [Int.tmod_eq_emod_of_nonneg (by omega)]; omega
                    have HL2 := hide hL2
                    have HBB := hide hB
                    have HBL := hide hBl
                    have HX : Hid (∀ b : ByteArray, (∃ c, nums b = [c] ∧ Scn.isBlank c = true) → ∃ (k1 : Nat) (L3 : ByteArray) (B3 : List Int), Value.string (L2 ++ b) = .string L3 ∧ Value.int .i64 ((k : Int) + 1) = .int .i64 k1 ∧ (k1 : Int) ≤ 1 ∧ nums L3 = nums L ++ B3 ∧ B3.length = k1 ∧ ∀ c ∈ B3, Scn.isBlank c = true) := by
                      rintro b ⟨c, hc, hcb⟩
                      refine ⟨k + 1, L2 ++ b, B ++ [c], rfl, by go_num, by omega, by rw [nums_append, unhide HL2, hc, List.append_assoc], by rw [List.length_append, unhide HBL]; rfl, fun x hx => ?_⟩
                      rcases List.mem_append.1 hx with hx | hx
                      · exact (unhide HBB) x hx
                      · simp at hx; rw [hx]; exact hcb
                    clear hL2 hB hBl HL2 HBB HBL
                    obtain ⟨r, bl, hre, hid, hbl⟩ : ∃ (r : Int) (bl : ByteArray), ((1 : Int) + (k : Int)).tmod 3 = r ∧ (∀ W, (Instr.index 49 (.agg #[.string ⟨#[32]⟩, .string ⟨#[9]⟩, .string ⟨#[13]⟩]) (.int .i64 r)).run Tryd.prog W = .ok (.string bl) W) ∧ ∃ c, nums bl = [c] ∧ Scn.isBlank c = true := by
                      rcases hr with hr | hr | hr
                      · exact ⟨0, ⟨#[32]⟩, hr, idx0, 32, rfl, rfl⟩
                      · exact ⟨1, ⟨#[9]⟩, hr, idx1, 9, rfl, rfl⟩
                      · exact ⟨2, ⟨#[13]⟩, hr, idx2, 13, rfl, rfl⟩
                    have hbs : bl.size = 1 := by
                      obtain ⟨c, hc, _⟩ := hbl
                      rw [← nums_length, hc]; rfl
                    have HY := hide ((unhide HX) bl hbl)
                    clear HX hr hbl
                    go_wp2
                    go_round
                    case rel => exact unhide HY
                    case measure => simp [intOf]; omega
                  · have hke : (k : Int) = 1 := by omega
                    have hBn : B ≠ [] := fun e => by rw [e] at hBl; simp at hBl; omega
                    have hadd := hlaid.add hB hBn (unhide HSG) (unhide HQN)
                    have hnl : nums (L2 ++ q) = nums L ++ B ++ nums q := by rw [nums_append, hL2]
                    rw [← hnl] at hadd
                    have HAD := hide hadd
                    clear hadd hnl hL2 hB hBn hlaid
                    go_wp2_with (at_builtin; refine wpList_append_own _ rfl (.tmp 86) (.tmp 88) 22 rfl w.heap.size 9 i0 (.string ⟨#[]⟩) 1 16 Tryd.underlying22 hi hz0 hz1 hz2 rfl (by decide) _ _ _ rfl (how2.alloc _) ⟨wr.heap.size, 0, none⟩ 1 1 [.string q] rfl rfl (cell_one_new _ _ _) (string_one _) (by unfold maxLen; omega) (by omega) (by simp; omega) ?_)
                    intro v9 w9 hrow9 hg9 _
                    have hb9 : Below w.heap.size w w9 := below_append hB0 how2 hbel2 hg9
                    rw [txts_snoc _ q rfl] at hrow9
                    have HR := hide hrow9
                    clear hrow9 hg9 how2
                    go_wp2
                    go_roundw
                    case rel => exact ⟨i + 1, by go_num, by omega, by omega, L2 ++ q, _, rfl, unhide HAD, by rw [ByteArray.size_append]; omega, by simp; omega, by simpa using unhide HR, hb9⟩
                    case measure => simp [intOf]; omega

    · have hex : ¬ i < ts.length ∨ (i < ts.length ∧ ¬ i < 20) := by omega
      clear hlt HTC
      have hnl : nums (L ++ ⟨#[32, 35]⟩ ++ s) = nums L ++ [32, 35] ++ nums s := by rw [nums_append, nums_append]; rfl
      obtain ⟨hw1, hw2⟩ := hlaid.words (nums s)
      have hsz : (L ++ ⟨#[32, 35]⟩ ++ s).size ≤ 1000000000 := by
        rw [ByteArray.size_append, ByteArray.size_append]
        show L.size + 2 + s.size ≤ _
        omega
      have gr := hg.on hbel
      have K1 : Hid (Calls Tryd.prog 12 #[.string (L ++ ⟨#[32, 35]⟩ ++ s)] wr (WordsNew 34 wr ws (L.size + 1))) := by
        have h := (unhide HKW) (L ++ ⟨#[32, 35]⟩ ++ s) wr gr hsz
        rw [hnl, hw1, hw2, nums_length] at h
        exact h
      have HAT : Hid (∀ j, j < ws.length → (ws.getD j ([], 0)).2 + (strOfNums (ws.getD j ([], 0)).1).size ≤ L.size ∧ L.extract (ws.getD j ([], 0)).2 ((ws.getD j ([], 0)).2 + (strOfNums (ws.getD j ([], 0)).1).size) = strOfNums (ws.getD j ([], 0)).1) := by
        intro j hj
        have hm : ws.getD j ([], 0) ∈ ws := by simp [List.getD, hj]
        obtain ⟨h1, h2⟩ := hlaid.at_ _ hm
        rw [nums_length] at h1
        rw [strOf_size]
        refine ⟨h1, ?_⟩
        have e : nums (L.extract (ws.getD j ([], 0)).2 ((ws.getD j ([], 0)).2 + (ws.getD j ([], 0)).1.length)) = (ws.getD j ([], 0)).1 := by
          rw [nums_cut, Nat.add_sub_cancel_left]; exact h2
        rw [← strOf_nums (L.extract _ _), e]
      have HOW := hide how
      clear hlaid hnl hw1 hw2 HKW
      have hLe : L.size ≤ 480 := by omega
      rcases hex with hex | ⟨hex, hex2⟩
      all_goals
        go_wp2_with fail
        refine (unhide K1).mono ?_
        rintro e1 w1 ⟨vx, rfl, ox, hb1⟩
        have g1 := gr.on hb1
        clear K1
        go_wp2_with fail
        refine ((unhide KT) w1 g1).mono ?_
        rintro e2 w2 ⟨rfl, hb2⟩
        clear KT
        have hb12 : Below wr.heap.size wr w2 := bthen hb1 hb2
        have dx := (Wd.own ox).below hb2
        have ow2 := own_keep (w' := w2) (unhide HOW) (fun g h => hb12.block g ((unhide HOW).lt g h).2)
        have dw : Sv w2 u8 (txts (ws.map (·.1))) := Ow.sv ⟨by rw [txts_length, List.length_map]; omega, by rw [txts_length, List.length_map]; exact ow2⟩
        have hBF : Below w.heap.size w w2 := hbel.trans (hb12.mono hbel.size)
        clear HOW ow2 ox hb1 hb2 hb12 g1
        have htw : (txts (ws.map (·.1))).length = ws.length := by rw [txts_length, List.length_map]
        have q1 : ((ws.length : Int) != (ws.length : Int)) = false := by simp
        have q2 : ((L.size : Int) + 1 != (L.size : Int) + 1) = false := by simp
        rcases Nat.eq_zero_or_pos ws.length with h0 | h0
        · obtain ⟨xo, xcap, rfl, _⟩ := dx.shape
          obtain ⟨wo, wcap, rfl, _, _⟩ := dw.shape
          rw [htw, h0]
          have HF : Tells w true (.returned (.bool true)) w2 := ⟨rfl, hBF⟩
          clear dx dw HAT
          go_wp2
          refine wp_loop_rounds 1 ?_
          rw [rounds_succ]
          go_wp2
          go_ret
          exact HF
        · obtain ⟨xb, xoff, xcap, rfl, hx1, hx2, hxc⟩ := dx.place h0
          obtain ⟨wb, woff, wcap, rfl, hw1, hw2, hwc⟩ := dw.place (by omega)
          rw [htw] at hw1 hwc ⊢
          have HC : Hid (∀ wi, Below w2.heap.size w2 wi → ∀ j, j < ws.length → (wi.cell? ⟨xb, xoff + j * 2, none⟩ = some (.string (strOfNums (ws.getD j ([], 0)).1)) ∧ wi.cell? ⟨xb, xoff + j * 2 + 1, none⟩ = some (.int .i64 ((ws.getD j ([], 0)).2 : Int))) ∧ wi.cell? ⟨wb, woff + j, none⟩ = some (.string (strOfNums (ws.getD j ([], 0)).1))) := by
            intro wi hb j hj
            obtain ⟨a0, a1⟩ := hxc j hj
            have d0 := hwc j hj
            rw [txts_at (by rw [List.length_map]; exact hj)] at d0
            have e : (ws.map (·.1)).getD j [] = (ws.getD j ([], 0)).1 := by simp [List.getD, hj]
            rw [e] at d0
            exact ⟨⟨by rw [hb.cell (lt_of_cell? a0)]; exact a0, by rw [hb.cell (lt_of_cell? a1)]; exact a1⟩, by rw [hb.cell (lt_of_cell? d0)]; exact d0⟩
          clear dx dw hxc hwc htw
          go_wp2
          go_loopw [17] (fun kv wi => ∃ k : Nat, kv = .int .i64 k ∧ k ≤ ws.length ∧ ∃ m, wi = w2.drewN m) (fun kv _ => ws.length - (intOf kv).toNat)
          case atStart => exact ⟨0, rfl, by omega, drew0 w2⟩
          case round =>
            obtain ⟨k, rfl, hk, hdr⟩ := hrel
            by_cases hlt : k < ws.length
            · obtain ⟨⟨a0, a1⟩, d0⟩ := (unhide HC) _ (drewB hdr) k hlt
              obtain ⟨x1, x2⟩ := (unhide HAT) k hlt
              clear HC HAT
              generalize strOfNums (ws.getD k ([], 0)).1 = T at *
              generalize (ws.getD k ([], 0)).2 = p at *
              have ht := self_beq T
              have e2 : IntKind.i64.wrap ((p : Int) + (T.size : Int)) = (p : Int) + (T.size : Int) := IntWalk.i64_in _ ⟨by omega, by omega⟩
              have e3 : decide ((L.size : Int) < (p : Int) + (T.size : Int)) = false := decide_eq_false (by omega)
              have e4 : decide ((p : Int) < 0) = false := decide_eq_false (by omega)
              have hsl := slice_is x1 x2
              clear hi hz0 hz1 hz2 hg gr hbel hs hvt hvb htl ht1 ht2 hi1 hi2 hLs hwl how hsz hLe q1 q2 h0 hk
              go_wp2
              go_big_quiet (fail)
              go_wp2
              go_roundw
              case rel => exact ⟨k + 1, by go_num, by omega, drews hdr _⟩
              case measure => simp [intOf]; omega
            · have HF : Tells w true (.returned (.bool true)) wr := ⟨rfl, bthen hBF (drewB hdr)⟩
              clear HC HAT
              go_wp2
              go_ret
              exact HF
end Go.Proofs.YtkdkmnohnhhojaaDoor
