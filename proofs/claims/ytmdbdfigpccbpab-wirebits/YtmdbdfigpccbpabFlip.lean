/- The contract of flip: a bit turned over, in bytes of the call's own. -/
import Derived.Test.YtmdbdfigpccbpabConv
import Derived.Test.YtmdbdfigpccbpabCrcFar
namespace Go.Proofs.Ytmdbdfigpccbpab
open Go.RowKit

theorem flip_byt {xs : List Int} (h : Byt xs) (p : Nat) : Byt (Crc.flipL xs p) := by
  intro z hz
  unfold Crc.flipL at hz
  rcases List.mem_or_eq_of_mem_set hz with hz | hz
  · exact h z hz
  · subst hz
    have h1 := h.at (p / 8)
    have h2 : (xs.getD (p / 8) 0).toNat < 2 ^ 8 := by
      rw [List.getD_eq_getElem?_getD]; omega
    have h3 : 2 ^ (p % 8) < 2 ^ 8 := Nat.pow_lt_pow_right (by decide) (Nat.mod_lt _ (by decide))
    have := Nat.xor_lt_two_pow h2 h3
    omega

theorem two_cast (j : Nat) : ((2 ^ j : Nat) : Int) = (2 : Int) ^ j := by simp
theorem shl_bit (j : Nat) (h : j < 8) : (2 : Int) ^ j % 256 = (2 : Int) ^ j := by
  have h3 : 2 ^ j < 2 ^ 8 := Nat.pow_lt_pow_right (by decide) h
  rw [← two_cast]
  generalize 2 ^ j = x at *
  omega

set_option maxHeartbeats 400000 in
theorem flip_any (g len cap B : Nat) (xs : List Int) (i : Nat) (w : World) (hown : w.ownsRow B 5 1 (.slice (some ⟨g, 0, none⟩) len cap) len (xs.map (Value.int .u8))) (hb : Byt xs) (hl : xs.length = len) (hi : i < 8 * len) (hlen : len ≤ 4096) :
    Calls Try.prog 10 #[.slice (some ⟨g, 0, none⟩) len cap, .int .i64 (i : Int)] w fun e w' => e = .returned (.tuple #[]) ∧ w'.ownsRow B 5 1 (.slice (some ⟨g, 0, none⟩) len cap) len ((Crc.flipL xs i).map (Value.int .u8)) ∧ w.grownBy w' (some g) := by
  have hc : w.cell? ⟨g, i / 8, none⟩ = some (.int .u8 (xs[i / 8]?.getD 0)) := by
    rw [hown.cellAt (i / 8) (by omega)]
    have : i / 8 < xs.length := by omega
    simp [this]
  have hf := hown.frozenAt (i / 8)
  have R := hown.stored (i / 8) (.int .u8 (((xs.getD (i / 8) 0).toNat ^^^ 2 ^ (i % 8) : Nat) : Int))
  rw [← List.map_set] at R
  have e : xs.set (i / 8) (((xs.getD (i / 8) 0).toNat ^^^ 2 ^ (i % 8) : Nat) : Int) = Crc.flipL xs i := rfl
  rw [e] at R
  rw [List.getD_eq_getElem?_getD] at R
  have hr := hb.at (i / 8)
  have hi8 : i / 8 < len := by omega
  clear hown e hl
  generalize xs[i / 8]?.getD 0 = z at *
  obtain ⟨z, rfl⟩ := Int.eq_ofNat_of_zero_le hr.1
  have hj : i % 8 < 8 := Nat.mod_lt _ (by decide)
  have hz : z < 256 := by omega
  rw [Int.toNat_natCast] at R
  have hx := u8_xor_nat z (2 ^ (i % 8)) hz (by have h3 : 2 ^ (i % 8) < 2 ^ 8 := Nat.pow_lt_pow_right (by decide) hj; omega)
  rw [← hx, two_cast] at R
  clear hx
  have hs := shl_bit (i % 8) hj
  go_enter Try.func10, Try.ntmps10
  go_wp2
  go_end0
  exact ⟨rfl, R.1, R.2⟩
end Go.Proofs.Ytmdbdfigpccbpab
