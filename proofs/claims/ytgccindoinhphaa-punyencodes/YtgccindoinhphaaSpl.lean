/- Cutting at full stops and joining, as plain functions. -/
namespace Go.Proofs.Ytgccindoinhphaa.Spl

def splitA : List Int → List Int → List (List Int)
  | p, [] => [p]
  | p, c :: r => if c = 46 then p :: splitA [] r else splitA (p ++ [c]) r
def split (xs : List Int) : List (List Int) := splitA [] xs

def join : List (List Int) → List Int
  | [] => []
  | [p] => p
  | p :: q :: r => p ++ 46 :: join (q :: r)

theorem splitA_ne (p xs : List Int) : splitA p xs ≠ [] := by
  induction xs generalizing p with
  | nil => simp [splitA]
  | cons c r ih =>
    simp only [splitA]
    split
    · simp
    · exact ih _

theorem join_cons (p : List Int) {l : List (List Int)} (h : l ≠ []) : join (p :: l) = p ++ 46 :: join l := by
  cases l with
  | nil => exact absurd rfl h
  | cons q r => rfl

theorem join_splitA (p xs : List Int) : join (splitA p xs) = p ++ xs := by
  induction xs generalizing p with
  | nil => simp [splitA, join]
  | cons c r ih =>
    simp only [splitA]
    split
    · rename_i h
      rw [join_cons p (splitA_ne [] r), ih, h]; simp
    · rw [ih]; simp

theorem join_split (xs : List Int) : join (split xs) = xs := by simp [split, join_splitA]

theorem splitA_plain (p q : List Int) (hq : (46 : Int) ∉ q) (r : List Int) : splitA p (q ++ r) = splitA (p ++ q) r := by
  induction q generalizing p with
  | nil => simp
  | cons c q ih =>
    have hc : ¬ c = 46 := by intro h; subst h; simp at hq
    have hq' : (46 : Int) ∉ q := by intro h; exact hq (List.mem_cons_of_mem _ h)
    simp only [List.cons_append, splitA, if_neg hc]
    rw [ih _ hq']; simp

theorem split_join (m : List (List Int)) (hm : m ≠ []) (h : ∀ p ∈ m, (46 : Int) ∉ p) : split (join m) = m := by
  induction m with
  | nil => exact absurd rfl hm
  | cons p m ih =>
    cases m with
    | nil =>
      have := splitA_plain [] p (h p (by simp)) []
      simp only [List.append_nil, List.nil_append] at this
      simp [split, join, this, splitA]
    | cons q r =>
      have := splitA_plain [] p (h p (by simp)) (46 :: join (q :: r))
      rw [join_cons p (by simp), split, this]
      simp only [List.nil_append, splitA, if_true]
      have ih' := ih (by simp) (fun p' hp' => h p' (List.mem_cons_of_mem _ hp'))
      rw [split] at ih'
      rw [ih']

theorem splitA_len (p xs : List Int) : (splitA p xs).length ≤ xs.length + 1 := by
  induction xs generalizing p with
  | nil => simp [splitA]
  | cons c r ih =>
    simp only [splitA]
    split
    · have := ih []; simp; omega
    · have := ih (p ++ [c]); simp; omega

theorem splitA_mem (p xs : List Int) (l : List Int) (hl : l ∈ splitA p xs) : ∀ z ∈ l, z ∈ p ∨ z ∈ xs := by
  induction xs generalizing p with
  | nil => simp [splitA] at hl; subst hl; exact fun z hz => .inl hz
  | cons c r ih =>
    simp only [splitA] at hl
    split at hl
    · rcases List.mem_cons.1 hl with h | h
      · subst h; exact fun z hz => .inl hz
      · intro z hz
        rcases ih [] h z hz with h2 | h2
        · simp at h2
        · exact .inr (List.mem_cons_of_mem _ h2)
    · intro z hz
      rcases ih _ hl z hz with h2 | h2
      · rcases List.mem_append.1 h2 with h3 | h3
        · exact .inl h3
        · simp at h3; subst h3; exact .inr (by simp)
      · exact .inr (List.mem_cons_of_mem _ h2)

theorem join_take (l : List (List Int)) (k : Nat) (hk : k < l.length) : join (l.take (k + 1)) = (if k = 0 then [] else join (l.take k) ++ [46]) ++ l.getD k [] := by
  induction l generalizing k with
  | nil => simp at hk
  | cons p l ih =>
    cases k with
    | zero => simp [join]
    | succ k =>
      simp only [List.length_cons] at hk
      have hk' : k < l.length := by omega
      have hne : l.take (k + 1) ≠ [] := by
        intro h
        have := congrArg List.length h
        rw [List.length_take, List.length_nil] at this; omega
      have h1 : (p :: l).take (k + 1 + 1) = p :: l.take (k + 1) := rfl
      have hg : (p :: l).getD (k + 1) [] = l.getD k [] := rfl
      rw [h1, join_cons p hne, ih k hk', hg]
      cases k with
      | zero => simp [join]
      | succ k =>
        have hne2 : l.take (k + 1) ≠ [] := by
          intro h
          have := congrArg List.length h
          rw [List.length_take, List.length_nil] at this; omega
        have h2 : (p :: l).take (k + 1 + 1) = p :: l.take (k + 1) := rfl
        rw [h2, join_cons p hne2]
        simp

/-- How many numbers all of them hold. -/
def total (l : List (List Int)) : Nat := (l.map List.length).sum
theorem join_len (l : List (List Int)) : (join l).length ≤ total l + l.length := by
  induction l with
  | nil => simp [join, total]
  | cons p l ih =>
    cases l with
    | nil => simp [join, total]
    | cons q r =>
      rw [join_cons p (by simp)]
      simp only [total, List.map_cons, List.sum_cons, List.length_append, List.length_cons] at ih ⊢
      omega

theorem total_take (l : List (List Int)) (k : Nat) : total (l.take k) ≤ total l := by
  induction l generalizing k with
  | nil => simp
  | cons p l ih =>
    cases k with
    | zero => simp [total]
    | succ k =>
      have := ih k
      simp only [List.take_succ_cons, total, List.map_cons, List.sum_cons] at this ⊢
      omega
theorem join_take_len (l : List (List Int)) (k : Nat) : (join (l.take k)).length ≤ total l + l.length := by
  have h1 := join_len (l.take k)
  have h2 := total_take l k
  rw [List.length_take] at h1
  omega

theorem row_le (l : List (List Int)) (k : Nat) : (l.getD k []).length ≤ total l := by
  induction l generalizing k with
  | nil => simp
  | cons p l ih =>
    cases k with
    | zero => simp [total]
    | succ k =>
      have := ih k
      simp only [total, List.map_cons, List.sum_cons] at this ⊢
      have e : (p :: l).getD (k + 1) [] = l.getD k [] := rfl
      rw [e]; omega

/-- Without full stops. -/
def filt (xs : List Int) : List Int := xs.filter (fun c => c != 46)
theorem filt_no (xs : List Int) : (46 : Int) ∉ filt xs := by simp [filt]
theorem filt_snoc (xs : List Int) (c : Int) : filt (xs ++ [c]) = filt xs ++ (if c = 46 then [] else [c]) := by
  simp only [filt, List.filter_append]
  by_cases h : c = 46
  · simp [h]
  · simp [h]
theorem filt_len (xs : List Int) : (filt xs).length ≤ xs.length := List.length_filter_le _ _
theorem total_filt (l : List (List Int)) : total (l.map filt) ≤ total l := by
  induction l with
  | nil => simp [total]
  | cons p l ih =>
    have := filt_len p
    simp only [total, List.map_cons, List.sum_cons] at ih ⊢
    omega
theorem total_split (p xs : List Int) : total (splitA p xs) ≤ p.length + xs.length := by
  induction xs generalizing p with
  | nil => simp [splitA, total]
  | cons c r ih =>
    simp only [splitA]
    split
    · have := ih []
      simp only [total, List.map_cons, List.sum_cons, List.length_cons, List.length_nil] at this ⊢
      omega
    · have := ih (p ++ [c])
      simp only [List.length_append, List.length_cons, List.length_nil] at this ⊢
      omega
end Go.Proofs.Ytgccindoinhphaa.Spl
