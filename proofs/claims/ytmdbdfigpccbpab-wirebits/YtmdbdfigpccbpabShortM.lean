/- Beginnings: plain mathematics. -/
import Derived.Test.YtmdbdfigpccbpabBackM
namespace Go.Proofs.Ytmdbdfigpccbpab

theorem num_short (l : List Int) (i : Nat) (hl : ∀ z ∈ l, 128 ≤ z) (hi : i + l.length ≤ 8) : Ref.num i l = (0, 10) := by
  induction l generalizing i with
  | nil => rfl
  | cons c r ih =>
    simp only [List.length_cons] at hi
    simp only [Ref.num]
    rw [if_pos (hl c (by simp)), if_neg (by omega)]
    exact ih (i + 1) (fun z hz => hl z (by simp [hz])) (by omega)

theorem ub_high (f : Nat) (x : Int) (k : Nat) (hk : k < (Ref.ub f x).length) : ∀ z ∈ (Ref.ub f x).take k, 128 ≤ z := by
  induction f generalizing x k with
  | zero =>
    simp [Ref.ub] at hk
    subst hk
    simp
  | succ f ih =>
    by_cases hx : x < 128
    · rw [ub_stop _ _ hx] at hk ⊢
      simp at hk
      subst hk
      simp
    · rw [ub_step _ _ hx] at hk ⊢
      cases k with
      | zero => simp
      | succ k =>
        simp only [List.length_cons] at hk
        intro z hz
        rw [List.take_succ_cons] at hz
        rcases List.mem_cons.1 hz with rfl | hz
        · omega
        · exact ih (x / 128) k (by omega) z hz

theorem uint_eq (n : Int) (h0 : 0 ≤ n) : Ref.uint n = Ref.ub 8 n := by simp [Ref.uint]; omega

/-- A beginning of a number's bytes is short. -/
theorem rd_short (n : Int) (k : Nat) (h0 : 0 ≤ n) (hk : k < (Ref.uint n).length) : Ref.rd ((Ref.uint n).take k) 0 = (0, 0, 10) := by
  have hl := uint_len n
  have hn : Ref.num 0 ((Ref.uint n).take k) = (0, 10) := by
    apply num_short
    · rw [uint_eq n h0] at hk ⊢
      exact ub_high 8 n k hk
    · rw [List.length_take]; omega
  rw [Ref.rd, if_neg (by omega)]
  simp only [Int.toNat_zero, List.drop_zero, hn]
  rfl

/-- A beginning of a text's bytes is short. -/
theorem rt_short (s : ByteArray) (j : Nat) (hs : s.size ≤ 140737488351232) (hj : j < (Ref.uint s.size ++ nums s).length) : Ref.rt ((Ref.uint s.size ++ nums s).take j) 0 s.size = ([], 0, 10) := by
  rw [List.length_append, nums_length] at hj
  rcases Nat.lt_or_ge j (Ref.uint s.size).length with h | h
  · have e : (Ref.uint s.size ++ nums s).take j = (Ref.uint s.size).take j := by rw [List.take_append_of_le_length (by omega)]
    have hr := rd_short s.size j (by omega) h
    rw [Ref.rt, if_neg (by omega), e, hr]
    simp
  · have e : (Ref.uint s.size ++ nums s).take j = [] ++ (Ref.uint s.size ++ (nums s).take (j - (Ref.uint s.size).length)) := by
      rw [List.take_append, List.take_of_length_le h, List.nil_append]
    have hr := rd_at [] ((nums s).take (j - (Ref.uint s.size).length)) s.size (by omega) (by omega)
    rw [← e] at hr
    have hr' : Ref.rd ((Ref.uint s.size ++ nums s).take j) 0 = ((s.size : Int), 0 + ((Ref.uint s.size).length : Int), 0) := hr
    rw [Ref.rt, if_neg (by omega), hr']
    simp only [ne_eq, not_true_eq_false, if_false]
    rw [if_neg (by omega), if_pos ?_]
    rw [List.length_take, List.length_append, nums_length]
    omega

/-- Of two unlike numbers neither's bytes begin the other's. -/
theorem uint_prefix (n m : Int) (h0 : 0 ≤ n) (h1 : n ≤ 9223372036854775807) (g0 : 0 ≤ m) (g1 : m ≤ 9223372036854775807) (h : (Ref.uint m).take (Ref.uint n).length = Ref.uint n) : n = m := by
  have e : Ref.uint m = [] ++ (Ref.uint n ++ (Ref.uint m).drop (Ref.uint n).length) := by
    conv => lhs; rw [← List.take_append_drop (Ref.uint n).length (Ref.uint m), h]
    rfl
  have hr := rd_at [] ((Ref.uint m).drop (Ref.uint n).length) n h0 h1
  rw [← e] at hr
  have hr2 := rd_at [] [] m g0 g1
  simp only [List.nil_append, List.append_nil] at hr2
  rw [hr] at hr2
  simp only [Prod.mk.injEq] at hr2
  exact hr2.1

theorem str_inj {a b : List Int} (ha : Byt a) (hb : Byt b) (h : strOfNums a = strOfNums b) : a = b := by
  have h2 : (strOfNums a).data.toList = (strOfNums b).data.toList := by rw [h]
  rw [strOfNums_data, strOfNums_data] at h2
  have h3 := congrArg (List.map fun x : UInt8 => (x.toNat : Int)) h2
  rw [List.map_map, List.map_map] at h3
  have key : ∀ l : List Int, Byt l → l.map ((fun x : UInt8 => (x.toNat : Int)) ∘ fun n : Int => UInt8.ofNat n.toNat) = l := by
    intro l hl
    conv => rhs; rw [← List.map_id l]
    apply List.map_congr_left
    intro z hz
    have := hl z hz
    simp
    omega
  rw [key a ha, key b hb] at h3
  exact h3
end Go.Proofs.Ytmdbdfigpccbpab
