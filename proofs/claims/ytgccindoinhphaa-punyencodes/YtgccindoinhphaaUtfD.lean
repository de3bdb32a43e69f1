/- Reading and writing whole texts: what goes there and back, what is refused and where. -/
import Derived.Test.YtgccindoinhphaaUtf
namespace Go.Proofs.Ytgccindoinhphaa.Utf

theorem decF_fuel (f g p : Nat) (zs : List Int) (hf : zs.length ≤ f) (hg : zs.length ≤ g) : decF f p zs = decF g p zs := by
  induction f generalizing g p zs with
  | zero =>
    have : zs = [] := List.eq_nil_of_length_eq_zero (by omega)
    subst this
    cases g <;> simp [decF]
  | succ f ih =>
    cases g with
    | zero =>
      have : zs = [] := List.eq_nil_of_length_eq_zero (by omega)
      subst this
      simp [decF]
    | succ g =>
      simp only [decF]
      split
      · rfl
      · split
        · rfl
        · rename_i n c h1
          have := one_len h1
          rw [ih g (p + n) (zs.drop n) (by simp; omega) (by simp; omega)]

theorem dec_nil (p : Nat) : dec p [] = ([], 0, 0) := rfl

theorem dec_err {zs : List Int} {k : Nat} (hz : zs ≠ []) (h : one zs = .error k) (p : Nat) : dec p zs = ([], ((p + k : Nat) : Int), 30) := by
  cases zs with
  | nil => exact absurd rfl hz
  | cons b r => simp only [dec, List.length_cons, decF, if_neg hz, h]

theorem dec_ok {zs : List Int} {n : Nat} {c : Int} (h : one zs = .ok (n, c)) (p : Nat) : dec p zs = glue [c] (dec (p + n) (zs.drop n)) := by
  have hl := one_len h
  cases zs with
  | nil => simp [one] at h
  | cons b r =>
    have hz : (b :: r) ≠ [] := by simp
    simp only [dec, List.length_cons, decF, if_neg hz, h]
    rw [decF_fuel r.length ((b :: r).drop n).length _ _ (by simp; omega) (Nat.le_refl _)]

theorem glue_glue (a b : List Int) (r : List Int × Int × Int) : glue a (glue b r) = glue (a ++ b) r := by
  unfold glue
  by_cases h : r.2.2 = 0
  · simp [h]
  · simp [h]

theorem glue_nil {r : List Int × Int × Int} (h : r.2.2 = 0 → r.2.1 = 0) (h' : r.2.2 ≠ 0 → r.1 = []) : glue [] r = r := by
  obtain ⟨a, b, c⟩ := r
  unfold glue
  by_cases hc : c = 0
  · simp [hc] at *; simp [h]
  · simp [hc] at *; simp [h']

/-- How an answer looks. -/
theorem dec_shape (m p : Nat) (zs : List Int) (hm : zs.length ≤ m) : ((dec p zs).2.2 = 0 ∧ (dec p zs).2.1 = 0 ∧ (dec p zs).1.length ≤ zs.length) ∨ ∃ q : Nat, dec p zs = ([], (q : Int), 30) ∧ p ≤ q ∧ q ≤ p + zs.length := by
  induction m generalizing p zs with
  | zero =>
    have : zs = [] := List.eq_nil_of_length_eq_zero (by omega)
    subst this
    exact .inl ⟨rfl, rfl, Nat.le_refl _⟩
  | succ m ih =>
    by_cases hz : zs = []
    · subst hz; exact .inl ⟨rfl, rfl, Nat.le_refl _⟩
    · cases h : one zs with
      | error k => exact .inr ⟨p + k, dec_err hz h p, by omega, by have := one_bad h; omega⟩
      | ok nc =>
        obtain ⟨n, c⟩ := nc
        have hl := one_len h
        rw [dec_ok h p]
        rcases ih (p + n) (zs.drop n) (by simp; omega) with ⟨h1, h2, h3⟩ | ⟨q, h1, h2, h3⟩
        · left
          simp only [glue, h1, if_true]
          refine ⟨trivial, trivial, ?_⟩
          simp at h3 ⊢; omega
        · right
          refine ⟨q, ?_, by omega, by simp at h3; omega⟩
          rw [h1]; simp [glue]

def encA (i : Nat) : List Int → List Int × Int × Int
  | [] => ([], 0, 0)
  | c :: r => if okc c then glue (form c) (encA (i + 1) r) else ([], (i : Int), 31)

theorem enc_shape (i : Nat) (xs : List Int) : ((encA i xs).2.2 = 0 ∧ (encA i xs).2.1 = 0) ∨ ∃ q : Nat, encA i xs = ([], (q : Int), 31) ∧ i ≤ q ∧ q < i + xs.length := by
  induction xs generalizing i with
  | nil => exact .inl ⟨rfl, rfl⟩
  | cons c r ih =>
    simp only [encA]
    split
    · rcases ih (i + 1) with ⟨h1, h2⟩ | ⟨q, h1, h2, h3⟩
      · left; simp [glue, h1]
      · right; exact ⟨q, by rw [h1]; simp [glue], by omega, by simp; omega⟩
    · right; exact ⟨i, rfl, by omega, by simp⟩

theorem enc_len (i : Nat) (xs : List Int) : (encA i xs).1.length ≤ 4 * xs.length := by
  induction xs generalizing i with
  | nil => simp [encA]
  | cons c r ih =>
    simp only [encA]
    split
    · have := ih (i + 1)
      have := form_len c
      unfold glue
      split
      · simp; omega
      · simp
    · simp

theorem enc_byt (i : Nat) (xs : List Int) : Byt (encA i xs).1 := by
  induction xs generalizing i with
  | nil => intro z hz; simp [encA] at hz
  | cons c r ih =>
    simp only [encA]
    split
    · rename_i h
      unfold glue
      split
      · intro z hz
        rcases List.mem_append.1 hz with hz | hz
        · exact form_byt h z hz
        · exact ih (i + 1) z hz
      · intro z hz; simp at hz
    · intro z hz; simp at hz

/-- What is written is read. -/
theorem dec_enc (i p : Nat) (xs : List Int) (h : (encA i xs).2.2 = 0) : dec p (encA i xs).1 = (xs, 0, 0) := by
  induction xs generalizing i p with
  | nil => rfl
  | cons c r ih =>
    simp only [encA] at h ⊢
    by_cases hc : okc c
    · rw [if_pos hc] at h ⊢
      have hr : (encA (i + 1) r).2.2 = 0 := by
        unfold glue at h
        by_cases h' : (encA (i + 1) r).2.2 = 0
        · exact h'
        · rw [if_neg h'] at h; exact h
      simp only [glue, hr, if_true]
      rw [dec_ok (one_form hc _), List.drop_left' rfl, ih (i + 1) _ hr]
      simp [glue]
    · rw [if_neg hc] at h; simp at h

/-- What is read is written. -/
theorem enc_dec (m i p : Nat) (zs : List Int) (hm : zs.length ≤ m) (hb : Byt zs) (h : (dec p zs).2.2 = 0) : encA i (dec p zs).1 = (zs, 0, 0) := by
  induction m generalizing i p zs with
  | zero =>
    have : zs = [] := List.eq_nil_of_length_eq_zero (by omega)
    subst this
    rfl
  | succ m ih =>
    by_cases hz : zs = []
    · subst hz; rfl
    · cases h1 : one zs with
      | error k => rw [dec_err hz h1] at h; simp at h
      | ok nc =>
        obtain ⟨n, c⟩ := nc
        have hl := one_len h1
        obtain ⟨hc, hf⟩ := form_one hb h1
        rw [dec_ok h1] at h ⊢
        have hr : (dec (p + n) (zs.drop n)).2.2 = 0 := by
          unfold glue at h
          by_cases h' : (dec (p + n) (zs.drop n)).2.2 = 0
          · exact h'
          · rw [if_neg h'] at h; exact h
        simp only [glue, hr, if_true, List.singleton_append, encA, if_pos hc]
        rw [ih (i + 1) (p + n) (zs.drop n) (by simp; omega) (fun z hz => hb z (List.mem_of_mem_drop hz)) hr]
        simp [← hf]

/-- Two texts, one behind the other. -/
theorem dec_cat (m p q : Nat) (s t : List Int) (hm : s.length ≤ m) (hs : (dec p s).2.2 = 0) (ht : (dec q t).2.2 = 0) : dec p (s ++ t) = ((dec p s).1 ++ (dec q t).1, 0, 0) := by
  have shift : ∀ (m p q : Nat) (t : List Int), t.length ≤ m → (dec q t).2.2 = 0 → dec p t = ((dec q t).1, 0, 0) := by
    intro m
    induction m with
    | zero =>
      intro p q t hm _
      have : t = [] := List.eq_nil_of_length_eq_zero (by omega)
      subst this; rfl
    | succ m ih =>
      intro p q t hm h
      by_cases hz : t = []
      · subst hz; rfl
      · cases h1 : one t with
        | error k => rw [dec_err hz h1] at h; simp at h
        | ok nc =>
          obtain ⟨n, c⟩ := nc
          have hl := one_len h1
          rw [dec_ok h1] at h ⊢
          rw [dec_ok h1]
          have hr : (dec (q + n) (t.drop n)).2.2 = 0 := by
            unfold glue at h
            by_cases h' : (dec (q + n) (t.drop n)).2.2 = 0
            · exact h'
            · rw [if_neg h'] at h; exact h
          rw [ih (p + n) (q + n) (t.drop n) (by simp; omega) hr]
          simp [glue, hr]
  induction m generalizing p s with
  | zero =>
    have : s = [] := List.eq_nil_of_length_eq_zero (by omega)
    subst this
    simpa [dec_nil] using shift t.length p q t (Nat.le_refl _) ht
  | succ m ih =>
    by_cases hz : s = []
    · subst hz
      simpa [dec_nil] using shift t.length p q t (Nat.le_refl _) ht
    · cases h1 : one s with
      | error k => rw [dec_err hz h1] at hs; simp at hs
      | ok nc =>
        obtain ⟨n, c⟩ := nc
        have hl := one_len h1
        rw [dec_ok h1] at hs
        have hr : (dec (p + n) (s.drop n)).2.2 = 0 := by
          unfold glue at hs
          by_cases h' : (dec (p + n) (s.drop n)).2.2 = 0
          · exact h'
          · rw [if_neg h'] at hs; exact hs
        rw [dec_ok (one_more h1 t), List.drop_append_of_le_length hl.2, ih (p + n) (s.drop n) (by simp; omega) hr, dec_ok h1]
        simp [glue, hr]

/-- What is refused at a byte is refused there whatever stands behind. -/
theorem dec_bad (m p q : Nat) (s t : List Int) (hm : s.length ≤ m) (h : dec p s = ([], ((p + q : Nat) : Int), 30)) (hq : q < s.length) : dec p (s.take (q + 1) ++ t) = ([], ((p + q : Nat) : Int), 30) := by
  induction m generalizing p q s with
  | zero => omega
  | succ m ih =>
    have hz : s ≠ [] := by intro hz; subst hz; simp at hq
    cases h1 : one s with
    | error k =>
      rw [dec_err hz h1] at h
      simp at h
      obtain rfl : k = q := by omega
      have h2 := one_stop h1 hq t
      rw [dec_err _ h2]
      intro hn
      rw [hn] at h2
      have h3 := congrArg List.length hn
      rw [List.length_append, List.length_take, List.length_nil] at h3
      omega
    | ok nc =>
      obtain ⟨n, c⟩ := nc
      have hl := one_len h1
      rw [dec_ok h1] at h
      have hr : dec (p + n) (s.drop n) = ([], ((p + q : Nat) : Int), 30) := by
        rcases dec_shape _ (p + n) (s.drop n) (Nat.le_refl _) with ⟨h2, h3, h4⟩ | ⟨q', h2, h3, h4⟩
        · simp [glue, h2] at h
        · rw [h2] at h ⊢; simp [glue] at h; simp; omega
      have hn : n ≤ q := by
        rcases dec_shape _ (p + n) (s.drop n) (Nat.le_refl _) with ⟨h2, h3, h4⟩ | ⟨q', h2, h3, h4⟩
        · rw [hr] at h2; simp at h2
        · rw [hr] at h2; simp at h2; omega
      obtain ⟨q', rfl⟩ : ∃ q', q = n + q' := ⟨q - n, by omega⟩
      have hone : one (s.take (n + q' + 1) ++ t) = .ok (n, c) := by
        have e : s.take (n + q' + 1) = s.take n ++ (s.drop n).take (q' + 1) := by rw [show n + q' + 1 = n + (q' + 1) by omega, List.take_add]
        have h5 : one (s.take n) = .ok (n, c) := one_take h1
        rw [e, List.append_assoc]
        exact one_more h5 _
      rw [dec_ok hone]
      have e2 : (s.take (n + q' + 1) ++ t).drop n = (s.drop n).take (q' + 1) ++ t := by
        rw [List.drop_append_of_le_length (by simp; omega), List.drop_take]
        congr 2; omega
      rw [e2, ih (p + n) q' (s.drop n) (by simp; omega) (by rw [hr]; congr 2; omega) (by simp; omega)]
      simp [glue]; omega

/-- What stands ahead of the place: refused at its own end, or a text; and it can be gone on with. -/
theorem dec_first (m p q : Nat) (s : List Int) (hm : s.length ≤ m) (h : dec p s = ([], ((p + q : Nat) : Int), 30)) :
    ((dec p (s.take q)).2.2 = 0 ∨ (dec p (s.take q)).2.1 = ((p + q : Nat) : Int)) ∧ ∃ t ∈ ends, (dec p (s.take q ++ t)).2.2 = 0 := by
  induction m generalizing p q s with
  | zero =>
    have : s = [] := List.eq_nil_of_length_eq_zero (by omega)
    subst this
    simp [dec_nil] at h
  | succ m ih =>
    by_cases hz : s = []
    · subst hz; simp [dec_nil] at h
    cases h1 : one s with
    | error k =>
      rw [dec_err hz h1] at h
      simp at h
      obtain rfl : k = q := by omega
      rcases Nat.eq_zero_or_pos k with hk | hk
      · subst hk
        exact ⟨.inl (by simp [dec_nil]), [], by simp [ends], by simp [dec_nil]⟩
      · have hkl := one_bad h1
        have hne : s.take k ≠ [] := by
          intro hn
          have := congrArg List.length hn
          rw [List.length_take, List.length_nil] at this
          omega
        refine ⟨.inr (by rw [dec_err hne (one_cut h1)]), ?_⟩
        obtain ⟨t, ht, c, hc⟩ := one_ends h1 hk
        refine ⟨t, ht, ?_⟩
        rw [dec_ok hc]
        have e : (s.take k ++ t).drop (k + t.length) = [] := List.drop_eq_nil_of_le (by simp; omega)
        rw [e, dec_nil]
        simp [glue]
    | ok nc =>
      obtain ⟨n, c⟩ := nc
      have hl := one_len h1
      rw [dec_ok h1] at h
      have hr : dec (p + n) (s.drop n) = ([], ((p + q : Nat) : Int), 30) := by
        rcases dec_shape _ (p + n) (s.drop n) (Nat.le_refl _) with ⟨h2, h3, h4⟩ | ⟨q', h2, h3, h4⟩
        · simp [glue, h2] at h
        · rw [h2] at h ⊢; simp [glue] at h; simp; omega
      have hn : n ≤ q := by
        rcases dec_shape _ (p + n) (s.drop n) (Nat.le_refl _) with ⟨h2, h3, h4⟩ | ⟨q', h2, h3, h4⟩
        · rw [hr] at h2; simp at h2
        · rw [hr] at h2; simp at h2; omega
      obtain ⟨q', rfl⟩ : ∃ q', q = n + q' := ⟨q - n, by omega⟩
      have e : s.take (n + q') = s.take n ++ (s.drop n).take q' := List.take_add
      have h5 : one (s.take n) = .ok (n, c) := one_take h1
      have hln : (s.take n).length = n := by simp; omega
      obtain ⟨i1, t, ht, i2⟩ := ih (p + n) q' (s.drop n) (by simp; omega) (by rw [hr]; congr 2; omega)
      refine ⟨?_, t, ht, ?_⟩
      · rw [e, dec_ok (one_more h5 _), List.drop_left' hln]
        rcases i1 with i1 | i1
        · left; simp [glue, i1]
        · by_cases h0 : (dec (p + n) ((s.drop n).take q')).2.2 = 0
          · left; simp [glue, h0]
          · right; simp only [glue, h0, if_false, i1]; omega
      · rw [e, List.append_assoc, dec_ok (one_more h5 _), List.drop_left' hln]
        simp [glue, i2]
end Go.Proofs.Ytgccindoinhphaa.Utf
