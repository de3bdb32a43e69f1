/- The contracts of the check sum. -/
import Derived.Test.YtmdbdfigpccbpaaRead
import Derived.Test.YtmdbdfigpccbpaaCrc
namespace Go.Proofs.Ytmdbdfigpccbpaa
open Go.RowKit

set_option maxRecDepth 100000 in
theorem st_bits (x : Nat) (h : x < 4294967296) : bits .xor .u32 ((x : Int) / 2) (bits .and .u32 2197175160 (-bits .and .u32 (x : Int) 1 % 4294967296)) = ((Crc.st x : Nat) : Int) := by
  have e1 : bits .and .u32 (x : Int) 1 = ((x % 2 : Nat) : Int) := by
    rw [show (1 : Int) = ((1 : Nat) : Int) from rfl, u32_and_nat x 1 h (by decide), nat_mask1]
  have e2 : ((x : Int) / 2) = ((x / 2 : Nat) : Int) := by omega
  rw [e1, e2]
  unfold Crc.st
  by_cases hp : x % 2 = 1
  · rw [if_pos hp, hp]
    have e3 : (-((1 : Nat) : Int) % 4294967296) = ((4294967295 : Nat) : Int) := by decide
    rw [e3, show (2197175160 : Int) = ((2197175160 : Nat) : Int) from rfl, u32_and_nat 2197175160 4294967295 (by decide) (by decide), show (2197175160 &&& 4294967295 : Nat) = 2197175160 by decide, u32_xor_nat (x / 2) 2197175160 (by omega) (by decide)]
  · rw [if_neg hp, show x % 2 = 0 by omega]
    have e3 : (-((0 : Nat) : Int) % 4294967296) = ((0 : Nat) : Int) := by decide
    rw [e3, show (2197175160 : Int) = ((2197175160 : Nat) : Int) from rfl, u32_and_nat 2197175160 0 (by decide) (by decide), show (2197175160 &&& 0 : Nat) = 0 by decide, u32_xor_nat (x / 2) 0 (by omega) (by decide), Nat.xor_zero]

set_option maxHeartbeats 1000000 in
theorem shifted_any (r : Nat) (w : World) (h : r < 4294967296) :
    Calls Try.prog 36 #[.int .u32 (r : Int)] w fun e w' => e = .returned (.int .u32 (Crc.sts 8 r : Nat)) ∧ w' = w := by
  go_enter Try.func36, Try.ntmps36
  go_wp2
  go_loop [0, 3] (fun x i => ∃ k : Nat, k ≤ 8 ∧ i = .int .i64 k ∧ x = .int .u32 (Crc.sts k r : Nat)) (fun _ i => 8 - (intOf i).toNat)
  case atStart => exact ⟨0, by omega, rfl, rfl⟩
  case round =>
    obtain ⟨k, hk, rfl, rfl⟩ := hrel
    have hlt := Crc.sts_lt k r h
    by_cases h8 : k < 8
    · have hs : Crc.sts (k + 1) r = Crc.st (Crc.sts k r) := rfl
      have HS := hide hs
      clear hs
      generalize Crc.sts k r = x at *
      go_wp2
      go_round
      case rel => exact ⟨k + 1, by omega, by go_num, val_int (by rw [unhide HS]; exact st_bits x hlt)⟩
      case measure => simp [intOf]; omega
    · obtain rfl : k = 8 := by omega
      go_wp2
      go_ret
      exact ⟨rfl, rfl⟩

/-- The slice v of slices holds the parts ls. -/
def Pa (w : World) (v : Value) (ls : List (List Int)) : Prop :=
  ls.length ≤ 140737488355328 ∧
    ((ls = [] ∧ ∃ ao cap, v = .slice ao 0 cap) ∨
      ∃ b off cap, v = .slice (some ⟨b, off, none⟩) ls.length cap ∧ ls.length ≤ cap ∧ ∀ i, i < ls.length → ∃ u, w.cell? ⟨b, off + i, none⟩ = some u ∧ Sl w u (ls.getD i []))

theorem takes_snoc (ls : List (List Int)) (k : Nat) (h : k < ls.length) : (ls.take (k + 1)).flatten = (ls.take k).flatten ++ ls.getD k [] := by
  rw [List.take_succ_eq_append_getElem h, List.flatten_append]
  simp only [List.flatten_cons, List.flatten_nil, List.append_nil, List.getD, List.getElem?_eq_getElem h, Option.getD_some]

theorem xor32 (x c : Nat) (h : x < 4294967296) (hc : c < 256) : bits .xor .u32 (x : Int) (c : Int) = ((x ^^^ c : Nat) : Int) := u32_xor_nat x c h (by omega)

theorem not32 (x : Nat) (h : x < 4294967296) : bits .xor .u32 IntKind.u32.max (x : Int) = ((x ^^^ 4294967295 : Nat) : Int) := by
  rw [show IntKind.u32.max = ((4294967295 : Nat) : Int) by decide, u32_xor_nat 4294967295 x (by decide) h, Nat.xor_comm]

theorem bys_step (R0 : Nat) (zs : List Int) (j : Nat) (hj : j < zs.length) : Crc.bys R0 (zs.take (j + 1)) = Crc.sts 8 (Crc.bys R0 (zs.take j) ^^^ (zs[j]?.getD 0).toNat) := by
  rw [take_snoc zs j hj, Crc.bys_snoc]; rfl

set_option maxHeartbeats 2000000 in
theorem sum_any (v : Value) (ls : List (List Int)) (w : World) (hs : Pa w v ls) (hby : ∀ l ∈ ls, Byt l) :
    Calls Try.prog 27 #[v] w fun e w' => e = .returned (.int .u32 (Crc.sum ls.flatten : Nat)) ∧ w' = w := by
  have hl := hs.1
  rcases hs.2 with ⟨rfl, ao, cap, rfl⟩ | ⟨b, off, cap, rfl, hcap, hc⟩
  · go_enter Try.func27, Try.ntmps27
    go_wp2
    refine wp_loop_rounds 1 ?_
    rw [rounds_succ]
    go_wp2
    go_ret
    exact ⟨rfl, rfl⟩
  · go_enter Try.func27, Try.ntmps27
    go_wp2
    go_loop [3, 10] (fun x i => ∃ k : Nat, k ≤ ls.length ∧ i = .int .i64 k ∧ x = .int .u32 (Crc.bys 4294967295 (ls.take k).flatten : Nat)) (fun _ i => ls.length - (intOf i).toNat)
    case atStart => exact ⟨0, by omega, rfl, rfl⟩
    case round =>
      obtain ⟨k, hk, rfl, rfl⟩ := hrel
      have hrl : Crc.bys 4294967295 (ls.take k).flatten < 4294967296 := Crc.bys_lt _ _ (by decide) (fun z hz => by
        obtain ⟨l, hl1, hl2⟩ := List.mem_flatten.1 hz
        exact hby l (List.mem_of_mem_take hl1) z hl2)
      by_cases hlt : k < ls.length
      · have hts := takes_snoc ls k hlt
        have hbk : Byt (ls.getD k []) := by
          simp only [List.getD, List.getElem?_eq_getElem hlt, Option.getD_some]
          exact hby _ (List.getElem_mem hlt)
        have HS := hide (show Crc.bys 4294967295 (ls.take (k + 1)).flatten = Crc.bys (Crc.bys 4294967295 (ls.take k).flatten) (ls.getD k []) by rw [hts, Crc.bys_append])
        obtain ⟨u, hcell, hu⟩ := hc k hlt
        clear hts hc hby hs
        generalize ls.getD k [] = zs at *
        generalize Crc.bys 4294967295 (ls.take k).flatten = R0 at *
        have hzl := hu.len
        rcases Nat.eq_zero_or_pos zs.length with h0 | h0
        · have hz : zs = [] := List.eq_nil_of_length_eq_zero h0
          subst hz
          obtain ⟨ao2, cap2, rfl, _, _⟩ := hu.shape
          go_wp2
          refine wp_loop_rounds 1 ?_
          rw [rounds_succ]
          go_wp2
          go_round
          case rel => exact ⟨k + 1, by omega, by go_num, val_int (by rw [unhide HS]; rfl)⟩
          case measure => simp [intOf]; omega
        · obtain ⟨b2, off2, cap2, rfl, hd1, hd2, hd⟩ := hu.place h0
          go_wp2
          go_loop [3, 16] (fun x i => ∃ j : Nat, j ≤ zs.length ∧ i = .int .i64 j ∧ x = .int .u32 (Crc.bys R0 (zs.take j) : Nat)) (fun _ i => zs.length - (intOf i).toNat)
          case atStart => exact ⟨0, by omega, rfl, rfl⟩
          case round =>
            obtain ⟨j, hj, rfl, rfl⟩ := hrel
            have hrj : Crc.bys R0 (zs.take j) < 4294967296 := Crc.bys_lt _ _ hrl (fun z hz => hbk z (List.mem_of_mem_take hz))
            by_cases hjl : j < zs.length
            · have hcj := hd j hjl
              have hr := hbk.at j
              have HT := hide (bys_step R0 zs j hjl)
              simp only [List.getD_eq_getElem?_getD] at hcj
              clear hd
              generalize zs[j]?.getD 0 = c at *
              obtain ⟨c, rfl⟩ := Int.eq_ofNat_of_zero_le hr.1
              have hc8 : c < 256 := by omega
              generalize Crc.bys R0 (zs.take j) = x at *
              have hx := xor32 x c hrj hc8
              have HC := hide (shifted_any (x ^^^ c) w (Nat.xor_lt_two_pow (n := 32) hrj (by omega)))
              go_wp2_with fail
              refine (unhide HC).mono ?_
              rintro e w' ⟨rfl, rfl⟩
              go_wp2
              go_round
              case rel => exact ⟨j + 1, by omega, by go_num, val_int (by rw [unhide HT]; simp)⟩
              case measure => simp [intOf]; omega
            · have HJ := hide (show Crc.bys R0 (zs.take j) = Crc.bys 4294967295 (ls.take (k + 1)).flatten by rw [List.take_of_length_le (by omega), unhide HS])
              clear hd HS
              go_wp2
              go_round
              case rel => exact ⟨k + 1, by omega, by go_num, val_int (by rw [unhide HJ])⟩
              case measure => simp [intOf]; omega
      · have HR := hide (show Crc.sum ls.flatten = Crc.bys 4294967295 (ls.take k).flatten ^^^ 4294967295 by rw [List.take_of_length_le (by omega)]; rfl)
        generalize Crc.bys 4294967295 (ls.take k).flatten = R at *
        go_wp2
        go_ret
        exact ⟨ret_int (by rw [unhide HR]; exact not32 R hrl), rfl⟩
end Go.Proofs.Ytmdbdfigpccbpaa
