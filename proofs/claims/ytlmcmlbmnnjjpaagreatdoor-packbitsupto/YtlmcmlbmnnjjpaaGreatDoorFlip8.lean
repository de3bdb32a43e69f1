/- The contract of flip: a bit turned over, in bytes of the call's own. -/
import Derived.Test.YtlmcmlbmnnjjpaaGreatDoorGl8
import Derived.Test.YtlmcmlbmnnjjpaaGreatDoorCrcF8
import Derived.Test.YtlmcmlbmnnjjpaaGreatDoorGm8
import Derived.Deep.QuietTactic
import Derived.BigQuiet
import Derived.Lib.Strings
import Derived.WideShapes
namespace Go.Proofs.YtlmcmlbmnnjjpaaGreatDoor.Wi
open Go.RowKit

theorem flip_byt {xs : List Int} (h : Byt xs) (p : Nat) : Byt (Crc.flipL xs p) := by
  intro z hz
  unfold Crc.flipL at hz
  rcases List.mem_or_eq_of_mem_set hz with hz | hz
  · exact h z hz
  · subst hz
    have h1 := h.at (p / 8)
    have h2 : (xs.getD (p / 8) 0).toNat < 2 ^ 8 := by
      rw [List.getD_eq_getElem?_getD]; omega
    have h3 : 2 ^ (p % 8) < 2 ^ 8 := Nat.pow_lt_pow_right (by decide) (Nat.mod_lt _ (by decide))
    have := Nat.xor_lt_two_pow h2 h3
    omega

theorem two_cast (j : Nat) : ((2 ^ j : Nat) : Int) = (2 : Int) ^ j := by simp
theorem shl_bit (j : Nat) (h : j < 8) : (2 : Int) ^ j % 256 = (2 : Int) ^ j := by
  have h3 : 2 ^ j < 2 ^ 8 := Nat.pow_lt_pow_right (by decide) h
  rw [← two_cast]
  generalize 2 ^ j = x at *
  omega

set_option maxHeartbeats 400000 in
theorem flip_any (g len cap B : Nat) (xs : List Int) (i : Nat) (w : World) (hown : w.ownsRow B 5 1 (.slice (some ⟨g, 0, none⟩) len cap) len (xs.map (Value.int .u8))) (hb : Byt xs) (hl : xs.length = len) (hi : i < 8 * len) (hlen : len ≤ 5000) :
    Calls Tryz.prog 16 #[.slice (some ⟨g, 0, none⟩) len cap, .int .i64 (i : Int)] w fun e w' => e = .returned (.tuple #[]) ∧ w'.ownsRow B 5 1 (.slice (some ⟨g, 0, none⟩) len cap) len ((Crc.flipL xs i).map (Value.int .u8)) ∧ w.grownBy w' (some g) := by
  have hc : w.cell? ⟨g, i / 8, none⟩ = some (.int .u8 (xs[i / 8]?.getD 0)) := by
    rw [hown.cellAt (i / 8) (by omega)]
    have : i / 8 < xs.length := by omega
    simp [this]
  have hf := hown.frozenAt (i / 8)
  have R := hown.stored (i / 8) (.int .u8 (((xs.getD (i / 8) 0).toNat ^^^ 2 ^ (i % 8) : Nat) : Int))
  rw [← List.map_set] at R
  have e : xs.set (i / 8) (((xs.getD (i / 8) 0).toNat ^^^ 2 ^ (i % 8) : Nat) : Int) = Crc.flipL xs i := rfl
  rw [e] at R
  rw [List.getD_eq_getElem?_getD] at R
  have hr := hb.at (i / 8)
  have hi8 : i / 8 < len := by omega
  clear hown e hl
  generalize xs[i / 8]?.getD 0 = z at *
  obtain ⟨z, rfl⟩ := Int.eq_ofNat_of_zero_le hr.1
  have hj : i % 8 < 8 := Nat.mod_lt _ (by decide)
  have hz : z < 256 := by omega
  rw [Int.toNat_natCast] at R
  have hx := u8_xor_nat z (2 ^ (i % 8)) hz (by have h3 : 2 ^ (i % 8) < 2 ^ 8 := Nat.pow_lt_pow_right (by decide) hj; omega)
  rw [← hx, two_cast] at R
  clear hx
  have hs := shl_bit (i % 8) hj
  go_enter Tryz.func16, Tryz.ntmps16
  go_wp2
  go_end0
  exact ⟨rfl, R.1, R.2⟩
theorem own_lower {w : World} {B B' : Nat} {v : Value} {n : Nat} {xs : List Value} (h : w.ownsRow B 5 1 v n xs) (hB : B' ≤ B) : w.ownsRow B' 5 1 v n xs := by
  refine ⟨h.1, ?_⟩
  rcases h.2 with h2 | ⟨g, cap, cur, hv, hg, r⟩
  · exact .inl h2
  · exact .inr ⟨g, cap, cur, hv, by omega, r⟩

/-- Two copies of the call's own, in rows of their own. -/
def St (w0 wr : World) (g1 cap1 g2 cap2 len : Nat) (xs ys : List Int) : Prop :=
  wr.ownsRow w0.heap.size 5 1 (.slice (some ⟨g1, 0, none⟩) len cap1) len (xs.map (Value.int .u8)) ∧
  wr.ownsRow w0.heap.size 5 1 (.slice (some ⟨g2, 0, none⟩) len cap2) len (ys.map (Value.int .u8)) ∧
  g1 ≠ g2 ∧ Below w0.heap.size w0 wr ∧ Byt xs ∧ Byt ys ∧ xs.length = len ∧ ys.length = len

theorem St.flip1 {w0 w : World} {g1 cap1 g2 cap2 len : Nat} {xs ys : List Int} (h : St w0 w g1 cap1 g2 cap2 len xs ys) (i : Nat) (hi : i < 8 * len) (hlen : len ≤ 5000) :
    Calls Tryz.prog 16 #[.slice (some ⟨g1, 0, none⟩) len cap1, .int .i64 (i : Int)] w fun e w' => e = .returned (.tuple #[]) ∧ St w0 w' g1 cap1 g2 cap2 len (Crc.flipL xs i) ys := by
  obtain ⟨h1, h2, h3, h4, h5, h6, h7, h8⟩ := h
  refine (flip_any g1 len cap1 _ xs i w h1 h5 h7 hi hlen).mono ?_
  rintro e w' ⟨he, ho, hg⟩
  refine ⟨he, ho, h2.kept hg (.inr (fun e => h3 ?_)), h3, h4.grown hg h4.size (fun k hk => ?_), flip_byt h5 i, h6, by rw [Crc.flipL_length]; exact h7, h8⟩
  · simp only [Value.ownBlock, Option.some.injEq] at e; exact e.symm
  · simp only [Option.some.injEq] at hk; subst hk; exact (h1.lt g1 rfl).1

theorem St.flip2 {w0 w : World} {g1 cap1 g2 cap2 len : Nat} {xs ys : List Int} (h : St w0 w g1 cap1 g2 cap2 len xs ys) (i : Nat) (hi : i < 8 * len) (hlen : len ≤ 5000) :
    Calls Tryz.prog 16 #[.slice (some ⟨g2, 0, none⟩) len cap2, .int .i64 (i : Int)] w fun e w' => e = .returned (.tuple #[]) ∧ St w0 w' g1 cap1 g2 cap2 len xs (Crc.flipL ys i) := by
  obtain ⟨h1, h2, h3, h4, h5, h6, h7, h8⟩ := h
  refine (flip_any g2 len cap2 _ ys i w h2 h6 h8 hi hlen).mono ?_
  rintro e w' ⟨he, ho, hg⟩
  refine ⟨he, h1.kept hg (.inr (fun e => h3 ?_)), ho, h3, h4.grown hg h4.size (fun k hk => ?_), h5, flip_byt h6 i, h7, by rw [Crc.flipL_length]; exact h8⟩
  · simp only [Value.ownBlock, Option.some.injEq] at e; exact e
  · simp only [Option.some.injEq] at hk; subst hk; exact (h2.lt g2 rfl).1

theorem St.drew {w0 w : World} {g1 cap1 g2 cap2 len : Nat} {xs ys : List Int} (h : St w0 w g1 cap1 g2 cap2 len xs ys) (n : Nat) : St w0 (w.drewN n) g1 cap1 g2 cap2 len xs ys := by
  obtain ⟨h1, h2, h3, h4, h5⟩ := h
  exact ⟨h1, h2, h3, below_drewN h4 n, h5⟩

theorem St.sl1 {w0 w : World} {g1 cap1 g2 cap2 len : Nat} {xs ys : List Int} (h : St w0 w g1 cap1 g2 cap2 len xs ys) (hlen : len ≤ 5000) : Sl w (.slice (some ⟨g1, 0, none⟩) len cap1) xs := by
  obtain ⟨h1, h2, h3, h4, h5, h6, h7, h8⟩ := h
  subst h7
  exact Own.sl (base := w0.heap.size) ⟨h5, by omega, h1⟩
theorem St.sl2 {w0 w : World} {g1 cap1 g2 cap2 len : Nat} {xs ys : List Int} (h : St w0 w g1 cap1 g2 cap2 len xs ys) (hlen : len ≤ 5000) : Sl w (.slice (some ⟨g2, 0, none⟩) len cap2) ys := by
  obtain ⟨h1, h2, h3, h4, h5, h6, h7, h8⟩ := h
  subst h8
  exact Own.sl (base := w0.heap.size) ⟨h6, by omega, h2⟩

theorem mod_bits (c : Int) (l : Nat) (hl : 1 ≤ l) : ∃ k : Nat, c % (8 * (l : Int)) = k ∧ k < 8 * l := by
  have h1 := Int.emod_nonneg c (show (8 * (l : Int)) ≠ 0 by omega)
  have h2 := Int.emod_lt_of_pos c (show (0 : Int) < 8 * (l : Int) by omega)
  obtain ⟨k, hk⟩ := Int.eq_ofNat_of_zero_le h1
  exact ⟨k, hk, by omega⟩




theorem nat_ne {a b : Nat} (h : a ≠ b) : (((a : Nat) : Int) != ((b : Nat) : Int)) = true := by
  rw [bne_iff_ne]; omega

theorem pat_bit (pat k : Nat) (h : pat < 4294967296) : bits .and .u32 ((pat : Int) / 2 ^ k) 1 = ((pat / 2 ^ k % 2 : Nat) : Int) := by
  have e : (pat : Int) / 2 ^ k = ((pat / 2 ^ k : Nat) : Int) := by simp
  have hd := Nat.div_le_self pat (2 ^ k)
  rw [e, show (1 : Int) = ((1 : Nat) : Int) from rfl, u32_and_nat _ 1 (by omega) (by decide), nat_mask1]
end Go.Proofs.YtlmcmlbmnnjjpaaGreatDoor.Wi
