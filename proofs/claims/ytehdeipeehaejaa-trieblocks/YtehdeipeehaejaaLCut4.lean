/- The law TrieCut, out of the contracts. -/
import Derived.Test.YtehdeipeehaejaaCon4
import Derived.Deep.RegionHeld3
import Derived.Deep.AppendLies
namespace Go.Proofs.Ytehdeipeehaejaa
open Go.RowKit

theorem mask30 (n : Int) : bits .and .i64 n 1073741823 = n % 1073741824 := by
  have h30 : (BitVec.ofInt 64 1073741823).toNat = 2 ^ 30 - 1 := by decide
  have key : (BitVec.ofInt 64 n &&& BitVec.ofInt 64 1073741823).toNat = (n % ((2 ^ 64 : Nat) : Int)).toNat % 2 ^ 30 := by
    rw [BitVec.toNat_and, BitVec.toNat_ofInt, h30, Nat.and_two_pow_sub_one_eq_mod]
  show IntKind.i64.wrap ((BitVec.ofInt 64 n &&& BitVec.ofInt 64 1073741823).toNat : Nat) = n % 1073741824
  rw [key, IntKind.wrap_i64]
  omega

theorem run_rem (a b : Int) (w : World) (ha : 0 ≤ a) (hb : 0 < b) : (Op.intDiv .rem .i64 a b).run Try.prog w = .ok (.int .i64 (a % b)) w := by
  have h1 : a.tmod b = a % b := Int.tmod_eq_emod_of_nonneg ha
  have hb0 : b ≠ 0 := by omega
  simp [Op.intDiv, hb0, h1]

theorem mask21 (n : Int) : bits .and .i64 n 2097151 = n % 2097152 := by
  have h21 : (BitVec.ofInt 64 2097151).toNat = 2 ^ 21 - 1 := by decide
  have key : (BitVec.ofInt 64 n &&& BitVec.ofInt 64 2097151).toNat = (n % ((2 ^ 64 : Nat) : Int)).toNat % 2 ^ 21 := by
    rw [BitVec.toNat_and, BitVec.toNat_ofInt, h21, Nat.and_two_pow_sub_one_eq_mod]
  show IntKind.i64.wrap ((BitVec.ofInt 64 n &&& BitVec.ofInt 64 2097151).toNat : Nat) = n % 2097152
  rw [key, IntKind.wrap_i64]
  omega

/-- How deep each cut is. -/
def msk (cs : List Int) : List Int := cs.map fun c => c % 1073741824
theorem msk_in {cs : List Int} {k : Nat} (hk : k < cs.length) : ((msk cs).drop k).headD 1 = cs.getD k 0 % 1073741824 := by
  have : k < (msk cs).length := by simp [msk, hk]
  rw [List.drop_eq_getElem_cons this]
  simp [msk, List.getD, hk]
theorem msk_out {cs : List Int} {k : Nat} (hk : ¬ k < cs.length) : ((msk cs).drop k).headD 1 = 1 := by
  rw [List.drop_eq_nil_of_le (by simp [msk]; omega)]; rfl

/-- What one range is cut into. -/
def pieceA (d at_ k lo : Int) : List Tri.Rg := if k % 3 = 0 ∧ at_ < lo then [(at_ + k % (lo - at_), lo - 1, d)] else []
def pieceB (k lo hi v : Int) : List Tri.Rg := if lo < hi then [(lo, lo + k % (hi - lo), v), (lo + k % (hi - lo) + 1, hi, v)] else [(lo, hi, v)]

theorem cut_step {d at_ : Int} {rs : List Tri.Rg} {ks : List Int} {k : Nat} {ms res : List Tri.Rg} (hk : k < rs.length) (h : res = ms ++ Tri.cutA d at_ (rs.drop k) (ks.drop k)) :
    res = ((ms ++ pieceA d at_ ((ks.drop k).headD 1) (Tri.lo (rs.getD k (0, 0, 0)))) ++ pieceB ((ks.drop k).headD 1) (Tri.lo (rs.getD k (0, 0, 0))) (Tri.hi (rs.getD k (0, 0, 0))) (Tri.vl (rs.getD k (0, 0, 0)))) ++ Tri.cutA d (Tri.hi (rs.getD k (0, 0, 0)) + 1) (rs.drop (k + 1)) (ks.drop (k + 1)) := by
  have hd : rs.drop k = rs.getD k (0, 0, 0) :: rs.drop (k + 1) := by
    rw [List.drop_eq_getElem_cons hk]; simp [List.getD, hk]
  rw [h, hd, show ks.drop (k + 1) = (ks.drop k).tail by simp]
  simp only [Tri.cutA, pieceA, pieceB, List.append_assoc]
  rfl

/-- The box of a range beside a row that grows. -/
theorem box_kept {w w9 : World} {o : Obj} {v : Value} {g j : Nat} {x : Value} (hg : (w.alloc o).grownBy w9 v.ownBlock) (hc : w.cell? ⟨g, j, none⟩ = some x) (hne : v.ownBlock ≠ some g) : w9.cell? ⟨g, j, none⟩ = some x := by
  have hl := lt_of_cell? hc
  rw [hg.cell_far ⟨g, j, none⟩ (by simp; omega) (fun h => hne h.symm), ((Below.refl _ w).alloc (Nat.le_refl _) o).cell hl]
  exact hc
theorem drews4 {w w' : World} (h : ∃ m, w' = w.drewN m) (n : Nat) : ∃ m, w'.drewN n = w.drewN m := by
  obtain ⟨m, rfl⟩ := h
  exact ⟨m + n, by rw [World.drewN_drewN]⟩
theorem drewB4 {w w' : World} (h : ∃ m, w' = w.drewN m) : Below w.heap.size w w' := by
  obtain ⟨m, rfl⟩ := h
  exact below_drewN (Below.refl _ _) m
theorem box_keptD {w w9 : World} {o : Obj} {v : Value} {g j : Nat} {x : Value} (hg : (w.alloc o).drew.grownBy w9 v.ownBlock) (hc : w.cell? ⟨g, j, none⟩ = some x) (hne : v.ownBlock ≠ some g) : w9.cell? ⟨g, j, none⟩ = some x := by
  have hl := lt_of_cell? hc
  rw [hg.cell_far ⟨g, j, none⟩ (by simp; omega) (fun h => hne h.symm), ((Below.refl _ w).alloc (Nat.le_refl _) o).drew.cell hl]
  exact hc
theorem val_drop {rs : List Tri.Rg} (k : Nat) (hk : k < rs.length) (at_ : Int) (hv : Tri.Val at_ (rs.drop k)) : at_ ≤ Tri.lo (rs.getD k (0, 0, 0)) ∧ Tri.Val (Tri.hi (rs.getD k (0, 0, 0)) + 1) (rs.drop (k + 1)) := by
  have hd : rs.drop k = rs.getD k (0, 0, 0) :: rs.drop (k + 1) := by
    rw [List.drop_eq_getElem_cons hk]; simp [List.getD, hk]
  rw [hd] at hv
  exact ⟨hv.1, hv.2.2.2.2.2⟩
end Go.Proofs.Ytehdeipeehaejaa
