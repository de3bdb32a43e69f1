/- WireBits: the two copies, and what flip does to them. -/
import Derived.Test.YtmdbdfigpccbpabFlip
import Derived.Test.YtmdbdfigpccbpabTold
import Derived.Test.YtmdbdfigpccbpabShortM
import Derived.Test.YtmdbdfigpccbpabMask
import Derived.Deep.QuietTactic
import Derived.BigQuiet
import Derived.Lib.Strings
import Derived.WideShapes
namespace Go.Proofs.Ytmdbdfigpccbpab
open Go.RowKit

theorem own_lower {w : World} {B B' : Nat} {v : Value} {n : Nat} {xs : List Value} (h : w.ownsRow B 5 1 v n xs) (hB : B' ≤ B) : w.ownsRow B' 5 1 v n xs := by
  refine ⟨h.1, ?_⟩
  rcases h.2 with h2 | ⟨g, cap, cur, hv, hg, r⟩
  · exact .inl h2
  · exact .inr ⟨g, cap, cur, hv, by omega, r⟩

/-- Two copies of the call's own, in rows of their own. -/
def St (w0 wr : World) (g1 cap1 g2 cap2 len : Nat) (xs ys : List Int) : Prop :=
  wr.ownsRow w0.heap.size 5 1 (.slice (some ⟨g1, 0, none⟩) len cap1) len (xs.map (Value.int .u8)) ∧
  wr.ownsRow w0.heap.size 5 1 (.slice (some ⟨g2, 0, none⟩) len cap2) len (ys.map (Value.int .u8)) ∧
  g1 ≠ g2 ∧ Below w0.heap.size w0 wr ∧ Byt xs ∧ Byt ys ∧ xs.length = len ∧ ys.length = len

theorem St.flip1 {w0 w : World} {g1 cap1 g2 cap2 len : Nat} {xs ys : List Int} (h : St w0 w g1 cap1 g2 cap2 len xs ys) (i : Nat) (hi : i < 8 * len) (hlen : len ≤ 4096) :
    Calls Try.prog 10 #[.slice (some ⟨g1, 0, none⟩) len cap1, .int .i64 (i : Int)] w fun e w' => e = .returned (.tuple #[]) ∧ St w0 w' g1 cap1 g2 cap2 len (Crc.flipL xs i) ys := by
  obtain ⟨h1, h2, h3, h4, h5, h6, h7, h8⟩ := h
  refine (flip_any g1 len cap1 _ xs i w h1 h5 h7 hi hlen).mono ?_
  rintro e w' ⟨he, ho, hg⟩
  refine ⟨he, ho, h2.kept hg (.inr (fun e => h3 ?_)), h3, h4.grown hg h4.size (fun k hk => ?_), flip_byt h5 i, h6, by rw [Crc.flipL_length]; exact h7, h8⟩
  · simp only [Value.ownBlock, Option.some.injEq] at e; exact e.symm
  · simp only [Option.some.injEq] at hk; subst hk; exact (h1.lt g1 rfl).1

theorem St.flip2 {w0 w : World} {g1 cap1 g2 cap2 len : Nat} {xs ys : List Int} (h : St w0 w g1 cap1 g2 cap2 len xs ys) (i : Nat) (hi : i < 8 * len) (hlen : len ≤ 4096) :
    Calls Try.prog 10 #[.slice (some ⟨g2, 0, none⟩) len cap2, .int .i64 (i : Int)] w fun e w' => e = .returned (.tuple #[]) ∧ St w0 w' g1 cap1 g2 cap2 len xs (Crc.flipL ys i) := by
  obtain ⟨h1, h2, h3, h4, h5, h6, h7, h8⟩ := h
  refine (flip_any g2 len cap2 _ ys i w h2 h6 h8 hi hlen).mono ?_
  rintro e w' ⟨he, ho, hg⟩
  refine ⟨he, h1.kept hg (.inr (fun e => h3 ?_)), ho, h3, h4.grown hg h4.size (fun k hk => ?_), h5, flip_byt h6 i, h7, by rw [Crc.flipL_length]; exact h8⟩
  · simp only [Value.ownBlock, Option.some.injEq] at e; exact e
  · simp only [Option.some.injEq] at hk; subst hk; exact (h2.lt g2 rfl).1

theorem St.drew {w0 w : World} {g1 cap1 g2 cap2 len : Nat} {xs ys : List Int} (h : St w0 w g1 cap1 g2 cap2 len xs ys) (n : Nat) : St w0 (w.drewN n) g1 cap1 g2 cap2 len xs ys := by
  obtain ⟨h1, h2, h3, h4, h5⟩ := h
  exact ⟨h1, h2, h3, below_drewN h4 n, h5⟩

theorem St.sl1 {w0 w : World} {g1 cap1 g2 cap2 len : Nat} {xs ys : List Int} (h : St w0 w g1 cap1 g2 cap2 len xs ys) (hlen : len ≤ 4096) : Sl w (.slice (some ⟨g1, 0, none⟩) len cap1) xs := by
  obtain ⟨h1, h2, h3, h4, h5, h6, h7, h8⟩ := h
  subst h7
  exact Own.sl (base := w0.heap.size) ⟨h5, by omega, h1⟩
theorem St.sl2 {w0 w : World} {g1 cap1 g2 cap2 len : Nat} {xs ys : List Int} (h : St w0 w g1 cap1 g2 cap2 len xs ys) (hlen : len ≤ 4096) : Sl w (.slice (some ⟨g2, 0, none⟩) len cap2) ys := by
  obtain ⟨h1, h2, h3, h4, h5, h6, h7, h8⟩ := h
  subst h8
  exact Own.sl (base := w0.heap.size) ⟨h6, by omega, h2⟩

theorem mod_bits (c : Int) (l : Nat) (hl : 1 ≤ l) : ∃ k : Nat, c % (8 * (l : Int)) = k ∧ k < 8 * l := by
  have h1 := Int.emod_nonneg c (show (8 * (l : Int)) ≠ 0 by omega)
  have h2 := Int.emod_lt_of_pos c (show (0 : Int) < 8 * (l : Int) by omega)
  obtain ⟨k, hk⟩ := Int.eq_ofNat_of_zero_le h1
  exact ⟨k, hk, by omega⟩

theorem str_ne' {a b : ByteArray} (h : a ≠ b) : (a.toList == b.toList) = false := by
  rw [Lib.toList_data, Lib.toList_data]
  exact beq_eq_false_iff_ne.2 (fun e => h (WideShapes.bytes_inj e))

/-- One part, in a new row. -/
theorem pa_one (w : World) (v : Value) (l : List Int) (h : Sl w v l) : Pa (w.alloc (.cells #[v] 22)) (.slice (some ⟨w.heap.size, 0, none⟩) 1 1) [l] := by
  have hb : Below w.heap.size w (w.alloc (.cells #[v] 22)) := (Below.refl _ _).alloc (Nat.le_refl _) _
  refine ⟨by simp, .inr ⟨w.heap.size, 0, 1, rfl, by simp, fun i hi => ?_⟩⟩
  match i, hi with
  | 0, _ => exact ⟨v, by rw [World.cell?_alloc_at _ _ _ _ rfl]; rfl, h.below hb⟩

theorem sum_one (w : World) (g : Nat) (hg : g = w.heap.size) (v : Value) (l : List Int) (h : Sl w v l) :
    Calls Try.prog 11 #[.slice (some ⟨g, 0, none⟩) 1 1] (w.alloc (.cells #[v] 22)) fun e w' => e = .returned (.int .u32 (Crc.sum l : Nat)) ∧ w' = w.alloc (.cells #[v] 22) := by
  subst hg
  have hp := sum_any _ [l] _ (pa_one w v l h) (by intro x hx; simp at hx; subst hx; exact h.1)
  have e : [l].flatten = l := by simp
  rw [e] at hp
  exact hp

theorem nat_ne {a b : Nat} (h : a ≠ b) : (((a : Nat) : Int) != ((b : Nat) : Int)) = true := by
  rw [bne_iff_ne]; omega

theorem pat_bit (pat k : Nat) (h : pat < 4294967296) : bits .and .u32 ((pat : Int) / 2 ^ k) 1 = ((pat / 2 ^ k % 2 : Nat) : Int) := by
  have e : (pat : Int) / 2 ^ k = ((pat / 2 ^ k : Nat) : Int) := by simp
  have hd := Nat.div_le_self pat (2 ^ k)
  rw [e, show (1 : Int) = ((1 : Nat) : Int) from rfl, u32_and_nat _ 1 (by omega) (by decide), nat_mask1]
end Go.Proofs.Ytmdbdfigpccbpab
