/- How the library writes a number by hex digits. -/
import Derived.Test.YtkdkmnohnhhojaaDoorScN5
namespace Go.Proofs.YtkdkmnohnhhojaaDoor
open Go.RowKit

theorem pow16_any (w : World) : Calls Tryd.prog 83 #[.int .i64 16] w fun e w' => e = .returned (.bool true) ∧ w' = w := by
  go_enter Tryd.func83, Tryd.ntmps83
  go_wp2
  go_ret
  exact ⟨by rfl, rfl⟩
theorem tz16_any (w : World) (h : w.cell? ⟨6, 15, none⟩ = some (.int .u8 4)) : Calls Tryd.prog 84 #[.int .u64 16] w fun e w' => e = .returned (.int .i64 4) ∧ w' = w := by
  have hk : bits .and .u64 16 18446744073709551600 = 16 := by decide
  have hw : IntKind.u64.wrap (-16) = 18446744073709551600 := by decide
  have hm : IntKind.u64.wrap 4573923408821661840 = 4573923408821661840 := by decide
  go_enter Tryd.func84, Tryd.ntmps84
  go_wp2
  go_ret
  exact ⟨by rfl, rfl⟩

namespace Scn
def lowc (d : Int) : Int := if d < 10 then 48 + d else 87 + d
/-- The hex digits of a number, in small letters. -/
def hexL : Nat → Int → List Int → List Int
  | 0, _, a => a
  | f + 1, n, a => if 16 ≤ n then hexL f (n / 16) (lowc (n % 16) :: a) else lowc n :: a
end Scn
def digs36 : ByteArray := ⟨#[48, 49, 50, 51, 52, 53, 54, 55, 56, 57, 97, 98, 99, 100, 101, 102, 103, 104, 105, 106, 107, 108, 109, 110, 111, 112, 113, 114, 115, 116, 117, 118, 119, 120, 121, 122]⟩
theorem dig_at (d : Int) (h0 : 0 ≤ d) (h1 : d < 16) (w : World) : (Instr.index 9 (.string digs36) (.int .u64 d)).run Tryd.prog w = .ok (.int .u8 (Scn.lowc d)) w := by
  have h : d = 0 ∨ d = 1 ∨ d = 2 ∨ d = 3 ∨ d = 4 ∨ d = 5 ∨ d = 6 ∨ d = 7 ∨ d = 8 ∨ d = 9 ∨ d = 10 ∨ d = 11 ∨ d = 12 ∨ d = 13 ∨ d = 14 ∨ d = 15 := by omega
  rw [run_index_string w 9 digs36 .u64 d Tryd.underlying9, dif_pos (by have : digs36.size = 36 := rfl; omega)]
  rcases h with rfl | rfl | rfl | rfl | rfl | rfl | rfl | rfl | rfl | rfl | rfl | rfl | rfl | rfl | rfl | rfl <;> rfl
theorem and15 (n : Nat) (h : n < 18446744073709551616) : bits .and .u64 (n : Int) 15 = ((n % 16 : Nat) : Int) := by
  show IntKind.u64.wrap ((BitVec.ofInt 64 (n : Int) &&& BitVec.ofInt 64 15).toNat : Int) = _
  have e : (BitVec.ofInt 64 (n : Int) &&& BitVec.ofInt 64 15).toNat = n % 16 := by
    rw [BitVec.toNat_and, BitVec.ofInt_natCast, BitVec.toNat_ofNat, Nat.mod_eq_of_lt h, show (BitVec.ofInt 64 15).toNat = 2 ^ 4 - 1 from rfl, Nat.and_two_pow_sub_one_eq_mod]
  rw [e]
  exact IntWalk.u64_in _ ⟨by omega, by omega⟩
/-- The cells from a place on hold these numbers. -/
def Tail (cur : Array Value) (acc : List Int) : Prop := cur.size = 65 ∧ acc.length ≤ 65 ∧ cur.toList.drop (65 - acc.length) = acc.map fun z => Value.int .u8 z

theorem Tail.cell {cur : Array Value} {acc : List Int} (h : Tail cur acc) (i : Nat) (hi : i < acc.length) : cur[65 - acc.length + i]? = some (.int .u8 (acc.getD i 0)) := by
  obtain ⟨h1, h2, h3⟩ := h
  have e := congrArg (fun l => l[i]?) h3
  simp only [List.getElem?_drop, List.getElem?_map] at e
  rw [← Array.getElem?_toList, e, List.getElem?_eq_getElem hi]
  simp [List.getD, hi]
/-- Nothing, and a text of these bytes; what was there stays. -/
def BitsOut (w : World) (zs : List Int) (e : Ending) (w' : World) : Prop := ∃ t, e = .returned (.tuple #[.slice none 0 0, .string t]) ∧ nums t = zs ∧ Below w.heap.size w w'
theorem lowc_byt {d : Int} (h0 : 0 ≤ d) (h1 : d < 16) : 0 ≤ Scn.lowc d ∧ Scn.lowc d ≤ 255 := by unfold Scn.lowc; split <;> omega
theorem hexL_byt (f : Nat) : ∀ (n : Int) (a : List Int), 0 ≤ n → Byt a → Byt (Scn.hexL f n a) := by
  induction f with
  | zero => intro n a _ h; exact h
  | succ f ih =>
    intro n a h0 h
    rw [Scn.hexL]
    split
    · refine ih _ _ (by omega) fun z hz => ?_
      rcases List.mem_cons.1 hz with rfl | hz
      · exact lowc_byt (by omega) (by omega)
      · exact h z hz
    · intro z hz
      rcases List.mem_cons.1 hz with rfl | hz
      · exact lowc_byt (by omega) (by omega)
      · exact h z hz
theorem slice106 (b k : Nat) (hk : k ≤ 64) (w : World) : (Instr.sliceAt 106 (.pointer (some ⟨b, 0, none⟩)) (some (.int .i64 ((64 - k : Nat) : Int))) none none).run Tryd.prog w = .ok (.slice (some ⟨b, 64 - k, none⟩) (k + 1) (k + 1)) w := by
  have hl : Tryd.prog.arrayLen 106 = 65 := by kernel_rfl
  have he : Tryd.prog.elem 106 = 5 := by kernel_rfl
  rw [run_sliceAt_array_l w 106 ⟨b, 0, none⟩ (by rw [hl, he]; exact Tryd.underlying106) .i64 _ (by omega) (by rw [hl]; omega), hl, he, Tryd.sizeOf5]
  show Result.ok (slicedAt _ _ _ _ _) w = _
  unfold slicedAt
  rw [show ((64 - k : Nat) : Int).toNat = 64 - k by omega, if_neg (by omega), addr_add, show 65 - (64 - k) = k + 1 by omega]
  simp

set_option maxRecDepth 8000 in
set_option maxHeartbeats 4000000 in
theorem formatBits_any (c : Nat) (hc : c ≤ 1114111) (w : World) (h6 : w.cell? ⟨6, 15, none⟩ = some (.int .u8 4)) :
    Calls Tryd.prog 68 #[.slice none 0 0, .int .u64 (c : Int), .int .i64 16, .bool false, .bool false] w (BitsOut w (Scn.hexL 8 c [])) := by
  have K1 := hide (fun w => pow16_any w)
  have K2 := hide (fun w h => tz16_any w h)
  have hlt : 6 < w.heap.size := lt_of_cell? h6
  go_enter Tryd.func68, Tryd.ntmps68
  go_wp2_with fail
  refine ((unhide K1) _).mono ?_
  rintro e w1 ⟨rfl, hw1⟩
  subst w1
  clear K1
  go_wp2_with fail
  refine ((unhide K2) _ (by rw [Below.cell ((Below.refl w.heap.size w).alloc (Nat.le_refl _) _) hlt]; exact h6)).mono ?_
  rintro e w1 ⟨rfl, hw1⟩
  subst w1
  clear K2
  go_wp2
  go_loopw [1, 13] (fun uv iv wr => ∃ (u k : Nat) (cur : Array Value) (acc : List Int), uv = .int .u64 (u : Int) ∧ iv = .int .i64 ((65 - k : Nat) : Int) ∧ acc.length = k ∧ k ≤ 5 ∧ u < 16 ^ (6 - k) ∧ wr = w.alloc (.cells cur 106) ∧ Tail cur acc ∧ Scn.hexL 8 c [] = Scn.hexL (8 - k) u acc) (fun uv _ _ => (intOf uv).toNat)
  case atStart => exact ⟨c, 0, _, [], rfl, rfl, rfl, by omega, by omega, rfl, ⟨rfl, by simp, by rfl⟩, rfl⟩
  case round =>
    obtain ⟨u, k, cur, acc, rfl, rfl, hk, hk5, hu, rfl, htl, hx⟩ := hrel
    have hu2 : u < 16777216 := by
      have : 16 ^ (6 - k) ≤ 16 ^ 6 := Nat.pow_le_pow_right (by omega) (by omega)
      omega
    obtain ⟨t1, t2, t3⟩ := htl
    by_cases hge : 16 ≤ u
    · obtain ⟨d, hde⟩ : ∃ d : Int, ((u % 16 : Nat) : Int) = d := ⟨_, rfl⟩
      have hA := and15 u (by omega)
      rw [hde] at hA
      have d0 : 0 ≤ d := by omega
      have d1 : d < 16 := by omega
      have hd := dig_at d d0 d1
      unfold digs36 at hd
      obtain ⟨x, hcx⟩ : ∃ x, cur[64 - k]? = some x := ⟨_, Array.getElem?_eq_getElem (by omega)⟩
      have hki : ((65 - k : Nat) : Int) - 1 = ((64 - k : Nat) : Int) := by omega
      have HX : Hid (∃ (u1 k1 : Nat) (cur1 : Array Value) (acc1 : List Int), Value.int .u64 ((u : Int) / 16) = .int .u64 (u1 : Int) ∧ Value.int .i64 ((64 - k : Nat) : Int) = .int .i64 ((65 - k1 : Nat) : Int) ∧ acc1.length = k1 ∧ k1 ≤ 5 ∧ u1 < 16 ^ (6 - k1) ∧ w.alloc (.cells (cur.setIfInBounds (64 - k) (.int .u8 (Scn.lowc d))) 106) = w.alloc (.cells cur1 106) ∧ Tail cur1 acc1 ∧ Scn.hexL 8 c [] = Scn.hexL (8 - k1) u1 acc1) := by
        have hk4 : k ≤ 4 := by
          rcases Nat.lt_or_ge k 5 with h | h
          · omega
          · obtain rfl : k = 5 := by omega
            simp at hu; omega
        refine ⟨u / 16, k + 1, _, Scn.lowc d :: acc, rfl, by rw [show 65 - (k + 1) = 64 - k by omega], by simp [hk], by omega, ?_, rfl, ⟨by simp [t1], by simp; omega, ?_⟩, ?_⟩
        · rw [show 6 - k = (6 - (k + 1)) + 1 by omega, Nat.pow_succ] at hu
          omega
        · have e : 65 - (Scn.lowc d :: acc).length = 64 - k := by simp [hk]
          rw [e, Array.toList_setIfInBounds, List.drop_set, if_neg (by omega), Nat.sub_self]
          have hlen : 64 - k < cur.toList.length := by rw [Array.length_toList]; omega
          rw [List.drop_eq_getElem_cons hlen, List.set_cons_zero, List.map_cons, ← t3, hk, show 64 - k + 1 = 65 - k by omega]
        · rw [hx, show 8 - k = (8 - (k + 1)) + 1 by omega, Scn.hexL, if_pos (by omega), ← hde]
          rfl
      clear t3 hx hu
      go_wp2
      go_roundw
      case rel => exact unhide HX
      case measure => simp [intOf]; omega
    · obtain ⟨d, hde⟩ : ∃ d : Int, ((u : Nat) : Int) = d := ⟨_, rfl⟩
      have hd := dig_at d (by omega) (by omega)
      unfold digs36 at hd
      obtain ⟨x, hcx⟩ : ∃ x, cur[64 - k]? = some x := ⟨_, Array.getElem?_eq_getElem (by omega)⟩
      have hki : ((65 - k : Nat) : Int) - 1 = ((64 - k : Nat) : Int) := by omega
      have HX : Hid (Tail (cur.setIfInBounds (64 - k) (.int .u8 (Scn.lowc d))) (Scn.hexL 8 c [])) := by
        have ee : Scn.hexL 8 c [] = Scn.lowc d :: acc := by
          rw [hx, show 8 - k = (7 - k) + 1 by omega, Scn.hexL, if_neg (by omega), hde]
        rw [ee]
        refine ⟨by simp [t1], by simp; omega, ?_⟩
        have e : 65 - (Scn.lowc d :: acc).length = 64 - k := by simp [hk]
        rw [e, Array.toList_setIfInBounds, List.drop_set, if_neg (by omega), Nat.sub_self]
        have hlen : 64 - k < cur.toList.length := by rw [Array.length_toList]; omega
        rw [List.drop_eq_getElem_cons hlen, List.set_cons_zero, List.map_cons, ← t3, hk, show 64 - k + 1 = 65 - k by omega]
      have hel : (Scn.hexL 8 c []).length = k + 1 := by
        rw [hx, show 8 - k = (7 - k) + 1 by omega, Scn.hexL, if_neg (by omega)]; simp [hk]
      have hsl := slice106 w.heap.size k (by omega)
      have hbt := hexL_byt 8 (c : Int) [] (by omega) (fun z hz => by cases hz)
      have hcv : (convert 48 9 (.slice (some ⟨w.heap.size, 64 - k, none⟩) (k + 1) (k + 1))).run Tryd.prog (w.alloc (.cells (cur.setIfInBounds (64 - k) (.int .u8 (Scn.lowc d))) 106)) = .ok (.string (strOfNums (Scn.hexL 8 c []))) (w.alloc (.cells (cur.setIfInBounds (64 - k) (.int .u8 (Scn.lowc d))) 106)) := by
        refine run_convert_bytes_arg _ 48 5 Tryd.underlying48 Tryd.underlying5 w.heap.size (64 - k) (k + 1) (k + 1) (Scn.hexL 8 c []) hel (fun i hi => ?_) 9 Tryd.underlying9
        have hcc := (unhide HX).cell i (by omega)
        rw [hel, show 65 - (k + 1) = 64 - k by omega] at hcc
        simp only [World.cell?, World.alloc]
        simpa using hcc
      have HF : BitsOut w (Scn.hexL 8 c []) (.returned (.tuple #[.slice none 0 0, .string (strOfNums (Scn.hexL 8 c []))])) (w.alloc (.cells (cur.setIfInBounds (64 - k) (.int .u8 (Scn.lowc d))) 106)) := ⟨_, rfl, nums_strOf hbt, (Below.refl _ _).alloc (Nat.le_refl _) _⟩
      rw [hde]
      clear t3 hx hu HX hbt hel
      generalize Scn.hexL 8 c [] = zs at *
      go_wp2
      go_ret2
      exact HF
end Go.Proofs.YtkdkmnohnhhojaaDoor
