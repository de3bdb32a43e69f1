/- There and back: plain mathematics. -/
import Derived.Test.YtmdbdfigpccbpaaText
import Derived.Test.YtmdbdfigpccbpaaTextMake
namespace Go.Proofs.Ytmdbdfigpccbpaa

theorem num_ub (f : Nat) (x : Int) (rest : List Int) (hf : f ≤ 8) (h0 : 0 ≤ x) (h1 : x < 128 ^ (f + 1)) (h2 : f < 8 → 1 ≤ x) :
    Ref.num (8 - f) (Ref.ub f x ++ rest) = (8 - f + (Ref.ub f x).length, 0) := by
  induction f generalizing x with
  | zero =>
    have := h2 (by omega)
    simp at h1
    simp only [Ref.ub, List.cons_append, List.nil_append, Ref.num]
    rw [if_neg (by omega), if_neg (by omega)]
    rfl
  | succ f ih =>
    by_cases hx : x < 128
    · rw [ub_stop _ _ hx]
      simp only [List.cons_append, List.nil_append, Ref.num]
      rw [if_neg (by omega), if_neg ?_]
      · rfl
      · intro h
        have := h2 (by omega)
        omega
    · rw [ub_step _ _ hx]
      simp only [List.cons_append, Ref.num]
      have hq : x / 128 < 128 ^ (f + 1) := by
        rw [Int.pow_succ] at h1
        generalize (128 : Int) ^ (f + 1) = q at *
        omega
      have := ih (x / 128) (by omega) (by omega) hq (by omega)
      rw [if_pos (by omega), if_neg (by omega), show 8 - (f + 1) + 1 = 8 - f by omega, this]
      simp only [List.length_cons, Prod.mk.injEq, and_true]
      omega

theorem val_ub (f : Nat) (x : Int) (h0 : 0 ≤ x) (h1 : x < 128 ^ (f + 1)) : Ref.val (Ref.ub f x) = x := by
  induction f generalizing x with
  | zero => simp at h1; simp [Ref.ub, Ref.val]; omega
  | succ f ih =>
    by_cases hx : x < 128
    · rw [ub_stop _ _ hx]; simp [Ref.val]; omega
    · rw [ub_step _ _ hx]
      have hq : x / 128 < 128 ^ (f + 1) := by
        rw [Int.pow_succ] at h1
        generalize (128 : Int) ^ (f + 1) = q at *
        omega
      simp only [Ref.val]
      rw [ih (x / 128) (by omega) hq]
      omega

theorem ub_byt (f : Nat) (x : Int) (h0 : 0 ≤ x) (h1 : x < 128 ^ (f + 1)) : Byt (Ref.ub f x) := by
  induction f generalizing x with
  | zero =>
    simp at h1
    intro z hz
    simp [Ref.ub] at hz
    omega
  | succ f ih =>
    by_cases hx : x < 128
    · rw [ub_stop _ _ hx]
      intro z hz
      simp at hz
      omega
    · rw [ub_step _ _ hx]
      have hq : x / 128 < 128 ^ (f + 1) := by
        rw [Int.pow_succ] at h1
        generalize (128 : Int) ^ (f + 1) = q at *
        omega
      have := ih (x / 128) (by omega) hq
      intro z hz
      rcases List.mem_cons.1 hz with rfl | hz
      · omega
      · exact this z hz
theorem uint_byt' (n : Int) (h0 : 0 ≤ n) (h1 : n ≤ 9223372036854775807) : Byt (Ref.uint n) := by
  have hu : Ref.uint n = Ref.ub 8 n := by simp [Ref.uint]; omega
  rw [hu]
  exact ub_byt 8 n h0 (by simp; omega)

theorem rd_at (pre rest : List Int) (n : Int) (h0 : 0 ≤ n) (h1 : n ≤ 9223372036854775807) : Ref.rd (pre ++ (Ref.uint n ++ rest)) pre.length = (n, (pre.length : Int) + (Ref.uint n).length, 0) := by
  have e : (pre ++ (Ref.uint n ++ rest)).drop pre.length = Ref.uint n ++ rest := by simp
  have hu : Ref.uint n = Ref.ub 8 n := by simp [Ref.uint]; omega
  have hn := num_ub 8 n rest (by omega) h0 (by simp; omega) (by omega)
  rw [← hu] at hn
  rw [Ref.rd, if_neg (by simp; omega), Int.toNat_natCast, e]
  simp only [Nat.sub_self, Nat.zero_add] at hn
  rw [hn]
  simp only [if_true]
  rw [List.take_left', hu, val_ub 8 n h0 (by simp; omega)]
  · rfl

theorem rt_at (pre rest : List Int) (s : ByteArray) (hs : s.size ≤ 140737488351232) : Ref.rt (pre ++ ((Ref.uint s.size ++ nums s) ++ rest)) pre.length s.size = (nums s, (pre.length : Int) + (Ref.uint s.size ++ nums s).length, 0) := by
  have hr := rd_at pre (nums s ++ rest) s.size (by omega) (by omega)
  rw [show Ref.uint (s.size : Int) ++ (nums s ++ rest) = Ref.uint (s.size : Int) ++ nums s ++ rest from (List.append_assoc _ _ _).symm] at hr
  rw [Ref.rt, if_neg (by omega), hr]
  simp only [ne_eq, not_true_eq_false, if_false]
  rw [if_neg (by omega), if_neg (by simp [nums_length]; omega)]
  have e1 : ((pre.length : Int) + (Ref.uint s.size).length).toNat = (pre ++ Ref.uint s.size).length := by rw [List.length_append]; omega
  have e2 : pre ++ (Ref.uint s.size ++ nums s ++ rest) = (pre ++ Ref.uint s.size) ++ (nums s ++ rest) := by simp
  rw [e1, e2, List.drop_left', Int.toNat_natCast, List.take_left' (nums_length s)]
  · simp [nums_length, Int.add_assoc]
  · rfl
end Go.Proofs.Ytmdbdfigpccbpaa
