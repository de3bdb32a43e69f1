/- A number cut by a mask. -/
import Derived.Test.YtmdbdfigpccbpabRead
namespace Go.Proofs.Ytmdbdfigpccbpab
open Go.RowKit

theorem and_mask (n : Int) (m : Nat) (hm : m < 9223372036854775808) : ∃ c : Int, bits .and .i64 n (m : Int) = c ∧ 0 ≤ c ∧ c ≤ m := by
  refine ⟨_, rfl, ?_⟩
  have h : (BitVec.ofInt 64 n &&& BitVec.ofInt 64 (m : Int)).toNat ≤ m := by
    rw [BitVec.toNat_and]
    refine Nat.le_trans Nat.and_le_right ?_
    rw [BitVec.ofInt_natCast, BitVec.toNat_ofNat]
    exact Nat.mod_le _ _
  show 0 ≤ IntKind.i64.wrap ((BitVec.ofInt 64 n &&& BitVec.ofInt 64 (m : Int)).toNat : Int) ∧ IntKind.i64.wrap ((BitVec.ofInt 64 n &&& BitVec.ofInt 64 (m : Int)).toNat : Int) ≤ m
  generalize (BitVec.ofInt 64 n &&& BitVec.ofInt 64 (m : Int)).toNat = c at *
  rw [wraps_i64 _ (by omega) (by omega)]
  omega
theorem and_max63 (n : Int) : ∃ c : Int, bits .and .i64 n 9223372036854775807 = c ∧ 0 ≤ c ∧ c ≤ 9223372036854775807 := and_mask n 9223372036854775807 (by decide)
theorem and_seven (n : Int) : ∃ c : Int, bits .and .i64 n 7 = c ∧ 0 ≤ c ∧ c ≤ 7 := and_mask n 7 (by decide)
theorem and_forty (n : Int) : ∃ c : Int, bits .and .i64 n 1099511627775 = c ∧ 0 ≤ c ∧ c ≤ 1099511627775 := and_mask n 1099511627775 (by decide)
end Go.Proofs.Ytmdbdfigpccbpab
