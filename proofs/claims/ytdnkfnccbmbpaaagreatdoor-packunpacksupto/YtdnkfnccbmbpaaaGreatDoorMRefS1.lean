/- The contract of the document's own Sum. -/
import Derived.Test.YtdnkfnccbmbpaaaGreatDoorGm8
namespace Go.Proofs.YtdnkfnccbmbpaaaGreatDoor.Wi
open Go.RowKit

theorem and_one32 (x : Nat) (h : x < 4294967296) : bits .and .u32 (x : Int) 1 = ((x % 2 : Nat) : Int) := by
  rw [show (1 : Int) = ((1 : Nat) : Int) from rfl, u32_and_nat x 1 h (by decide), nat_mask1]

set_option maxRecDepth 8000 in
set_option maxHeartbeats 1000000 in
theorem refSum_any (v : Value) (zs : List Int) (w : World) (hs : Sl w v zs) :
    Calls Tryz.prog 19 #[v] w fun e w' => e = .returned (.int .u32 (Crc.sum zs : Nat)) ∧ w' = w := by
  have hl := hs.len
  rcases Nat.eq_zero_or_pos zs.length with h0 | h0
  · have hz : zs = [] := List.eq_nil_of_length_eq_zero h0
    subst hz
    obtain ⟨ao2, cap2, rfl, _, _⟩ := hs.shape
    have hx := u32_xor_nat 4294967295 4294967295 (by decide) (by decide)
    go_enter Tryz.func19, Tryz.ntmps19
    go_wp2
    refine wp_loop_rounds 1 ?_
    rw [rounds_succ]
    go_wp2
    go_ret
    exact ⟨rfl, rfl⟩
  · obtain ⟨b, off, cap, rfl, hd1, hd2, hd⟩ := hs.place h0
    have hbk := hs.1
    go_enter Tryz.func19, Tryz.ntmps19
    go_wp2
    go_loop [3, 4] (fun x i => ∃ j : Nat, j ≤ zs.length ∧ i = .int .i64 j ∧ x = .int .u32 (Crc.bys 4294967295 (zs.take j) : Nat)) (fun _ i => zs.length - (intOf i).toNat)
    case atStart => exact ⟨0, by omega, rfl, rfl⟩
    case round =>
      obtain ⟨j, hj, rfl, rfl⟩ := hrel
      have hrj : Crc.bys 4294967295 (zs.take j) < 4294967296 := Crc.bys_lt _ _ (by decide) (fun z hz => hbk z (List.mem_of_mem_take hz))
      by_cases hjl : j < zs.length
      · have hcj := hd j hjl
        have hr := hbk.at j
        have HT := hide (bys_step 4294967295 zs j hjl)
        simp only [List.getD_eq_getElem?_getD] at hcj
        clear hd
        generalize zs[j]?.getD 0 = c at *
        obtain ⟨c, rfl⟩ := Int.eq_ofNat_of_zero_le hr.1
        have hc8 : c < 256 := by omega
        generalize Crc.bys 4294967295 (zs.take j) = x at *
        have hx := xor32 x c hrj hc8
        have hy : x ^^^ c < 4294967296 := Nat.xor_lt_two_pow (n := 32) hrj (by omega)
        rw [Int.toNat_natCast] at HT
        generalize x ^^^ c = y at *
        go_wp2
        go_loop [3, 5] (fun r i => ∃ k : Nat, k ≤ 8 ∧ i = .int .i64 k ∧ r = .int .u32 (Crc.sts k y : Nat)) (fun _ i => 8 - (intOf i).toNat)
        case atStart => exact ⟨0, by omega, rfl, rfl⟩
        case round =>
          obtain ⟨k, hk, rfl, rfl⟩ := hrel
          have hlt := Crc.sts_lt k y hy
          by_cases h8 : k < 8
          · have HS := hide (show Crc.sts (k + 1) y = Crc.st (Crc.sts k y) from rfl)
            generalize Crc.sts k y = q at *
            have ha := and_one32 q hlt
            rcases Nat.mod_two_eq_zero_or_one q with hb | hb
            · rw [hb] at ha
              have ha' : bits .and .u32 (q : Int) 1 = 0 := ha
              have hst : Crc.st q = q / 2 := by unfold Crc.st; rw [if_neg (by omega)]
              rw [hst] at HS
              clear ha hb hst
              go_wp2
              go_round
              case rel => exact ⟨k + 1, by omega, by go_num, val_int (by rw [unhide HS]; omega)⟩
              case measure => simp [intOf]; omega
            · rw [hb] at ha
              have ha' : bits .and .u32 (q : Int) 1 = 1 := ha
              have hst : Crc.st q = (q / 2) ^^^ 2197175160 := by unfold Crc.st; rw [if_pos hb]
              have hxx : bits .xor .u32 ((q : Int) / 2) 2197175160 = (((q / 2) ^^^ 2197175160 : Nat) : Int) := by
                rw [show (q : Int) / 2 = ((q / 2 : Nat) : Int) by omega]
                exact u32_xor_nat (q / 2) 2197175160 (by omega) (by decide)
              rw [← hst] at hxx
              clear ha hb hst
              go_wp2
              go_round
              case rel => exact ⟨k + 1, by omega, by go_num, val_int (by rw [unhide HS])⟩
              case measure => simp [intOf]; omega
          · obtain rfl : k = 8 := by omega
            go_wp2
            go_round
            case rel => exact ⟨j + 1, by omega, by go_num, val_int (by rw [unhide HT])⟩
            case measure => simp [intOf]; omega
      · have HR := hide (show Crc.sum zs = Crc.bys 4294967295 (zs.take j) ^^^ 4294967295 by rw [List.take_of_length_le (by omega)]; rfl)
        generalize Crc.bys 4294967295 (zs.take j) = R at *
        have hx : bits .xor .u32 (R : Int) 4294967295 = ((R ^^^ 4294967295 : Nat) : Int) := u32_xor_nat R 4294967295 hrj (by decide)
        clear hd
        go_wp2
        go_ret
        exact ⟨ret_int (by rw [unhide HR]), rfl⟩
end Go.Proofs.YtdnkfnccbmbpaaaGreatDoor.Wi
