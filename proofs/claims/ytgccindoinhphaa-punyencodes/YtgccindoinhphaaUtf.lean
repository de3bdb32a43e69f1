/- UTF-8, as plain functions: what one number's bytes are, how bytes are read, and what follows. -/
namespace Go.Proofs.Ytgccindoinhphaa.Utf

abbrev okc (c : Int) : Prop := (0 ≤ c ∧ c ≤ 55295) ∨ (57344 ≤ c ∧ c ≤ 1114111)

/-- The bytes of a number. -/
def form (c : Int) : List Int :=
  if c < 128 then [c]
  else if c < 2048 then [192 + c / 64, 128 + c % 64]
  else if c < 65536 then [224 + c / 4096, 128 + c / 64 % 64, 128 + c % 64]
  else [240 + c / 262144, 128 + c / 4096 % 64, 128 + c / 64 % 64, 128 + c % 64]

/-- Of a first byte: how many more, the second's bounds, what it is worth; none: nothing begins so. -/
def lead (b : Int) : Option (Nat × Int × Int × Int) :=
  if b < 128 then some (0, 0, 0, b)
  else if 194 ≤ b ∧ b ≤ 223 then some (1, 128, 191, b % 32)
  else if b = 224 then some (2, 160, 191, b % 16)
  else if b = 237 then some (2, 128, 159, b % 16)
  else if 225 ≤ b ∧ b ≤ 239 then some (2, 128, 191, b % 16)
  else if b = 240 then some (3, 144, 191, b % 8)
  else if 241 ≤ b ∧ b ≤ 243 then some (3, 128, 191, b % 8)
  else if b = 244 then some (3, 128, 143, b % 8)
  else none

/-- The bytes behind a first one: how far, and the number; or where it ends. -/
def conts : Nat → Int → Int → Int → Nat → List Int → Except Nat (Nat × Int)
  | 0, _, _, c, k, _ => .ok (k, c)
  | _ + 1, _, _, _, k, [] => .error k
  | n + 1, lo, hi, c, k, b :: r => if b < lo ∨ hi < b then .error k else conts n 128 191 (c * 64 + b % 64) (k + 1) r

/-- One number at the head of the bytes: how many bytes, and the number; or the place that is wrong. -/
def one : List Int → Except Nat (Nat × Int)
  | [] => .error 0
  | b :: r => match lead b with
    | none => .error 0
    | some (n, lo, hi, c) => conts n lo hi c 1 r

def glue (acc : List Int) (r : List Int × Int × Int) : List Int × Int × Int := if r.2.2 = 0 then (acc ++ r.1, 0, 0) else ([], r.2.1, r.2.2)

def decF : Nat → Nat → List Int → List Int × Int × Int
  | 0, _, _ => ([], 0, 0)
  | f + 1, p, zs => if zs = [] then ([], 0, 0) else match one zs with
    | .error k => ([], ((p + k : Nat) : Int), 30)
    | .ok (n, c) => glue [c] (decF f (p + n) (zs.drop n))

def dec (p : Nat) (zs : List Int) : List Int × Int × Int := decF zs.length p zs

def Byt (zs : List Int) : Prop := ∀ z ∈ zs, 0 ≤ z ∧ z ≤ 255

/-- How many bytes are read. -/
theorem conts_len {n : Nat} {lo hi c : Int} {k : Nat} {r : List Int} {m : Nat} {d : Int} (h : conts n lo hi c k r = .ok (m, d)) : m = k + n ∧ n ≤ r.length := by
  induction n generalizing lo hi c k r with
  | zero => simp [conts] at h; simp [h.1]
  | succ n ih =>
    cases r with
    | nil => simp [conts] at h
    | cons b r =>
      simp only [conts] at h
      split at h
      · simp at h
      · have := ih h; simp; omega

theorem conts_bad {n : Nat} {lo hi c : Int} {k : Nat} {r : List Int} {m : Nat} (h : conts n lo hi c k r = .error m) : k ≤ m ∧ m ≤ k + r.length ∧ m < k + n := by
  induction n generalizing lo hi c k r with
  | zero => simp [conts] at h
  | succ n ih =>
    cases r with
    | nil => simp [conts] at h; simp; omega
    | cons b r =>
      simp only [conts] at h
      split at h
      · simp at h; simp; omega
      · have := ih h; simp; omega

/-- What is read is read whatever stands behind. -/
theorem conts_more {n : Nat} {lo hi c : Int} {k : Nat} {r : List Int} {m : Nat} {d : Int} (h : conts n lo hi c k r = .ok (m, d)) (t : List Int) : conts n lo hi c k (r ++ t) = .ok (m, d) := by
  induction n generalizing lo hi c k r with
  | zero => simpa [conts] using h
  | succ n ih =>
    cases r with
    | nil => simp [conts] at h
    | cons b r =>
      simp only [List.cons_append, conts] at h ⊢
      split at h
      · simp at h
      · rename_i hb; rw [if_neg hb]; exact ih h

/-- What is refused at a byte is refused there whatever stands behind it. -/
theorem conts_stop {n : Nat} {lo hi c : Int} {k : Nat} {r : List Int} {m : Nat} (h : conts n lo hi c k r = .error m) (hm : m < k + r.length) (t : List Int) : conts n lo hi c k (r.take (m + 1 - k) ++ t) = .error m := by
  induction n generalizing lo hi c k r with
  | zero => simp [conts] at h
  | succ n ih =>
    cases r with
    | nil => simp at hm; have := (conts_bad h).1; omega
    | cons b r =>
      simp only [conts] at h
      split at h
      · rename_i hb
        simp at h; subst h
        rw [show k + 1 - k = 1 by omega]
        simp [conts, hb]
      · rename_i hb
        have h1 := (conts_bad h).1
        rw [show m + 1 - k = (m + 1 - (k + 1)) + 1 by omega]
        simp only [List.take_succ_cons, List.cons_append, conts, if_neg hb]
        exact ih h (by simp at hm; omega)

/-- The bytes ahead of the place are refused at their own end. -/
theorem conts_cut {n : Nat} {lo hi c : Int} {k : Nat} {r : List Int} {m : Nat} (h : conts n lo hi c k r = .error m) : conts n lo hi c k (r.take (m - k)) = .error m := by
  induction n generalizing lo hi c k r with
  | zero => simp [conts] at h
  | succ n ih =>
    cases r with
    | nil => simpa using h
    | cons b r =>
      simp only [conts] at h
      split at h
      · simp at h; subst h; simp [conts]
      · rename_i hb
        have h1 := (conts_bad h).1
        rw [show m - k = (m - (k + 1)) + 1 by omega]
        simp only [List.take_succ_cons, conts, if_neg hb]
        exact ih h

theorem one_len {zs : List Int} {n : Nat} {c : Int} (h : one zs = .ok (n, c)) : 1 ≤ n ∧ n ≤ zs.length := by
  cases zs with
  | nil => simp [one] at h
  | cons b r =>
    simp only [one] at h
    split at h
    · simp at h
    · have := conts_len h; simp; omega

theorem one_bad {zs : List Int} {k : Nat} (h : one zs = .error k) : k ≤ zs.length ∧ k ≤ 3 := by
  cases zs with
  | nil => simp [one] at h; omega
  | cons b r =>
    simp only [one] at h
    split at h
    · simp at h; omega
    · rename_i n lo hi c hl
      have := conts_bad h
      have h3 : n ≤ 3 := by
        unfold lead at hl
        repeat' split at hl
        all_goals simp_all
        all_goals omega
      simp; omega

theorem one_more {zs : List Int} {n : Nat} {c : Int} (h : one zs = .ok (n, c)) (t : List Int) : one (zs ++ t) = .ok (n, c) := by
  cases zs with
  | nil => simp [one] at h
  | cons b r =>
    simp only [List.cons_append, one] at h ⊢
    split at h
    · simp at h
    · exact conts_more h t

theorem one_stop {zs : List Int} {k : Nat} (h : one zs = .error k) (hk : k < zs.length) (t : List Int) : one (zs.take (k + 1) ++ t) = .error k := by
  cases zs with
  | nil => simp at hk
  | cons b r =>
    simp only [List.take_succ_cons, List.cons_append, one] at h ⊢
    split at h
    · simpa using h
    · rename_i n lo hi c hl
      have h1 := (conts_bad h).1
      have := conts_stop h (by simp at hk; omega) t
      simpa [show k + 1 - 1 = k by omega] using this

theorem one_cut {zs : List Int} {k : Nat} (h : one zs = .error k) : one (zs.take k) = .error k := by
  cases zs with
  | nil => simpa using h
  | cons b r =>
    simp only [one] at h
    split at h
    · rename_i hl; simp at h; subst h; simp [one]
    · rename_i n lo hi c hl
      have h1 := (conts_bad h).1
      obtain ⟨k', rfl⟩ : ∃ k', k = k' + 1 := ⟨k - 1, by omega⟩
      have := conts_cut h
      simp only [List.take_succ_cons, one, hl]
      simpa using this

theorem conts_take {n : Nat} {lo hi c : Int} {k : Nat} {r : List Int} {m : Nat} {d : Int} (h : conts n lo hi c k r = .ok (m, d)) : conts n lo hi c k (r.take n) = .ok (m, d) := by
  induction n generalizing lo hi c k r with
  | zero => simpa [conts] using h
  | succ n ih =>
    cases r with
    | nil => simp [conts] at h
    | cons b r =>
      simp only [List.take_succ_cons, conts] at h ⊢
      split at h
      · simp at h
      · rename_i hb; rw [if_neg hb]; exact ih h

theorem one_take {zs : List Int} {n : Nat} {c : Int} (h : one zs = .ok (n, c)) : one (zs.take n) = .ok (n, c) := by
  cases zs with
  | nil => simp [one] at h
  | cons b r =>
    simp only [one] at h
    split at h
    · simp at h
    · rename_i n' lo hi c' hl
      have h1 := (conts_len h).1
      obtain rfl : n = n' + 1 := by omega
      simp only [List.take_succ_cons, one, hl]
      exact conts_take h

theorem lead2 {b : Int} (h : 194 ≤ b ∧ b ≤ 223) : lead b = some (1, 128, 191, b % 32) := by
  unfold lead; rw [if_neg (by omega), if_pos h]
theorem lead3 {b : Int} (h : 224 ≤ b ∧ b ≤ 239) : lead b = some (2, if b = 224 then 160 else 128, if b = 237 then 159 else 191, b % 16) := by
  unfold lead
  rw [if_neg (by omega), if_neg (by omega)]
  by_cases h1 : b = 224
  · subst h1; simp
  · by_cases h2 : b = 237
    · subst h2; simp
    · have : 225 ≤ b ∧ b ≤ 239 := by omega
      simp [h1, h2, this]
theorem lead4 {b : Int} (h : 240 ≤ b ∧ b ≤ 244) : lead b = some (3, if b = 240 then 144 else 128, if b = 244 then 143 else 191, b % 8) := by
  unfold lead
  rw [if_neg (by omega), if_neg (by omega), if_neg (by omega), if_neg (by omega), if_neg (by omega)]
  by_cases h1 : b = 240
  · subst h1; simp
  · by_cases h2 : b = 244
    · subst h2; simp
    · have : 241 ≤ b ∧ b ≤ 243 := by omega
      simp [h1, h2, this]

/-- Reading what was written. -/
theorem one_form {c : Int} (h : okc c) (t : List Int) : one (form c ++ t) = .ok ((form c).length, c) := by
  unfold okc at h
  unfold form
  split
  · simp [one, lead, conts, *]
  · split
    · simp only [List.cons_append, List.nil_append, one, lead2 (show 194 ≤ 192 + c / 64 ∧ 192 + c / 64 ≤ 223 by omega), conts]
      rw [if_neg (by omega)]
      simp; omega
    · split
      · simp only [List.cons_append, List.nil_append, one, lead3 (show 224 ≤ 224 + c / 4096 ∧ 224 + c / 4096 ≤ 239 by omega), conts]
        rw [if_neg (by split <;> split <;> omega), if_neg (by omega)]
        simp; omega
      · simp only [List.cons_append, List.nil_append, one, lead4 (show 240 ≤ 240 + c / 262144 ∧ 240 + c / 262144 ≤ 244 by omega), conts]
        rw [if_neg (by split <;> split <;> omega), if_neg (by omega), if_neg (by omega)]
        simp; omega

/-- What was read is written so. -/
theorem form_one {zs : List Int} {n : Nat} {c : Int} (hb : Byt zs) (h : one zs = .ok (n, c)) : okc c ∧ zs.take n = form c := by
  cases zs with
  | nil => simp [one] at h
  | cons b r =>
    have hb0 := hb b (by simp)
    by_cases h1 : b < 128
    · simp [one, lead, h1, conts] at h
      obtain ⟨rfl, rfl⟩ := h
      refine ⟨by unfold okc; omega, ?_⟩
      simp [form, h1]
    · by_cases h2 : 194 ≤ b ∧ b ≤ 223
      · simp only [one, lead2 h2] at h
        match r, h with
        | [], h => simp [conts] at h
        | b1 :: r, h =>
          simp only [conts] at h
          split at h
          · simp at h
          · simp at h
            obtain ⟨rfl, rfl⟩ := h
            refine ⟨by unfold okc; omega, ?_⟩
            unfold form
            rw [if_neg (by omega), if_pos (by omega)]
            simp; omega
      · by_cases h3 : 224 ≤ b ∧ b ≤ 239
        · simp only [one, lead3 h3] at h
          match r, h with
          | [], h => simp [conts] at h
          | [b1], h => exact absurd (conts_len h).2 (by simp)
          | b1 :: b2 :: r, h =>
            simp only [conts] at h
            by_cases ha : b1 < (if b = 224 then 160 else 128) ∨ (if b = 237 then 159 else 191) < b1
            · rw [if_pos ha] at h; simp at h
            · rw [if_neg ha] at h
              split at h
              · simp at h
              · simp at h
                obtain ⟨rfl, rfl⟩ := h
                have hk : (128 ≤ b1 ∧ b1 ≤ 191) ∧ (b = 224 → 160 ≤ b1) ∧ (b = 237 → b1 ≤ 159) := by
                  split at ha <;> split at ha <;> omega
                refine ⟨by unfold okc; omega, ?_⟩
                unfold form
                rw [if_neg (by omega), if_neg (by omega), if_pos (by omega)]
                simp; omega
        · by_cases h4 : 240 ≤ b ∧ b ≤ 244
          · simp only [one, lead4 h4] at h
            match r, h with
            | [], h => simp [conts] at h
            | [b1], h => exact absurd (conts_len h).2 (by simp)
            | [b1, b2], h => exact absurd (conts_len h).2 (by simp)
            | b1 :: b2 :: b3 :: r, h =>
              simp only [conts] at h
              by_cases ha : b1 < (if b = 240 then 144 else 128) ∨ (if b = 244 then 143 else 191) < b1
              · rw [if_pos ha] at h; simp at h
              · rw [if_neg ha] at h
                split at h
                · simp at h
                · split at h
                  · simp at h
                  · simp at h
                    obtain ⟨rfl, rfl⟩ := h
                    have hk : (128 ≤ b1 ∧ b1 ≤ 191) ∧ (b = 240 → 144 ≤ b1) ∧ (b = 244 → b1 ≤ 143) := by
                      split at ha <;> split at ha <;> omega
                    refine ⟨by unfold okc; omega, ?_⟩
                    unfold form
                    rw [if_neg (by omega), if_neg (by omega), if_neg (by omega)]
                    simp; omega
          · have : lead b = none := by
              unfold lead
              rw [if_neg h1, if_neg h2, if_neg (by omega), if_neg (by omega), if_neg (by omega), if_neg (by omega), if_neg (by omega), if_neg (by omega)]
            simp [one, this] at h

theorem form_len (c : Int) : 1 ≤ (form c).length ∧ (form c).length ≤ 4 := by
  unfold form; repeat' split
  all_goals simp

theorem form_byt {c : Int} (h : okc c) : Byt (form c) := by
  unfold okc at h
  intro z hz
  unfold form at hz
  repeat' split at hz
  all_goals simp at hz
  all_goals omega

/-- The rows of bytes that go on with what was begun. -/
def ends : List (List Int) := [[], [128], [160], [144], [128, 128], [160, 128], [144, 128], [128, 128, 128], [144, 128, 128]]

theorem one_ends {zs : List Int} {k : Nat} (h : one zs = .error k) (hk : 0 < k) : ∃ t ∈ ends, ∃ c, one (zs.take k ++ t) = .ok (k + t.length, c) := by
  cases zs with
  | nil => simp [one] at h; omega
  | cons b r =>
    simp only [one] at h
    split at h
    · simp at h; omega
    · rename_i n lo hi c hl
      have hs : (n = 0 ∨ n = 1 ∨ n = 2 ∨ n = 3) ∧ (n = 1 → lo = 128 ∧ hi = 191) ∧ (n = 2 → (lo = 160 ∧ hi = 191) ∨ (lo = 128 ∧ (hi = 191 ∨ hi = 159))) ∧ (n = 3 → (lo = 144 ∧ hi = 191) ∨ (lo = 128 ∧ (hi = 191 ∨ hi = 143))) := by
        unfold lead at hl
        repeat' split at hl
        all_goals simp at hl
        all_goals (obtain ⟨rfl, rfl, rfl, rfl⟩ := hl)
        all_goals omega
      obtain ⟨k', rfl⟩ : ∃ k', k = k' + 1 := ⟨k - 1, by omega⟩
      have hstep : ∀ t, one ((b :: r).take (k' + 1) ++ t) = conts n lo hi c 1 (r.take k' ++ t) := by
        intro t; simp [one, hl]
      simp only [hstep]
      have key : ∀ t d, conts n lo hi c 1 (r.take k' ++ t) = .ok (1 + n, d) → t.length + k' = n → ∃ c', conts n lo hi c 1 (r.take k' ++ t) = .ok (k' + 1 + t.length, c') :=
        fun t d h1 h2 => ⟨d, by rw [h1]; congr 2; omega⟩
      have h3 := conts_bad h
      match n, r, h with
      | 0, _, h => simp [conts] at h
      | 1, [], h =>
        simp [conts] at h; subst h
        obtain ⟨rfl, rfl⟩ := hs.2.1 rfl
        exact ⟨[128], by simp [ends], _, by simp [conts]; rfl⟩
      | 1, b1 :: r, h =>
        obtain ⟨rfl, rfl⟩ := hs.2.1 rfl
        simp only [conts] at h
        split at h
        · simp at h; subst h
          exact ⟨[128], by simp [ends], _, by simp [conts]; rfl⟩
        · simp at h
      | 2, [], h =>
        simp [conts] at h; subst h
        rcases hs.2.2.1 rfl with ⟨rfl, rfl⟩ | ⟨rfl, rfl | rfl⟩
        · exact ⟨[160, 128], by simp [ends], _, by simp [conts]; rfl⟩
        · exact ⟨[128, 128], by simp [ends], _, by simp [conts]; rfl⟩
        · exact ⟨[128, 128], by simp [ends], _, by simp [conts]; rfl⟩
      | 2, b1 :: r, h =>
        simp only [conts] at h
        split at h
        · simp at h; subst h
          rcases hs.2.2.1 rfl with ⟨rfl, rfl⟩ | ⟨rfl, rfl | rfl⟩
          · exact ⟨[160, 128], by simp [ends], _, by simp [conts]; rfl⟩
          · exact ⟨[128, 128], by simp [ends], _, by simp [conts]; rfl⟩
          · exact ⟨[128, 128], by simp [ends], _, by simp [conts]; rfl⟩
        · rename_i hb
          have hk1 : k' = 1 := by
            match r, h with
            | [], h => simp [conts] at h; omega
            | b2 :: r, h =>
              simp only [conts] at h
              split at h
              · simp at h; omega
              · simp at h
          subst hk1
          exact ⟨[128], by simp [ends], _, by simp [conts, hb]; rfl⟩
      | 3, [], h =>
        simp [conts] at h; subst h
        rcases hs.2.2.2 rfl with ⟨rfl, rfl⟩ | ⟨rfl, rfl | rfl⟩
        · exact ⟨[144, 128, 128], by simp [ends], _, by simp [conts]; rfl⟩
        · exact ⟨[128, 128, 128], by simp [ends], _, by simp [conts]; rfl⟩
        · exact ⟨[128, 128, 128], by simp [ends], _, by simp [conts]; rfl⟩
      | 3, b1 :: r, h =>
        simp only [conts] at h
        split at h
        · simp at h; subst h
          rcases hs.2.2.2 rfl with ⟨rfl, rfl⟩ | ⟨rfl, rfl | rfl⟩
          · exact ⟨[144, 128, 128], by simp [ends], _, by simp [conts]; rfl⟩
          · exact ⟨[128, 128, 128], by simp [ends], _, by simp [conts]; rfl⟩
          · exact ⟨[128, 128, 128], by simp [ends], _, by simp [conts]; rfl⟩
        · rename_i hb
          match r, h with
          | [], h =>
            simp [conts] at h; obtain rfl : k' = 1 := by omega
            exact ⟨[128, 128], by simp [ends], _, by simp [conts, hb]; rfl⟩
          | b2 :: r, h =>
            simp only [conts] at h
            split at h
            · simp at h; obtain rfl : k' = 1 := by omega
              exact ⟨[128, 128], by simp [ends], _, by simp [conts, hb]; rfl⟩
            · rename_i hb2
              have hk1 : k' = 2 := by
                match r, h with
                | [], h => simp [conts] at h; omega
                | b2 :: r, h =>
                  simp only [conts] at h
                  split at h
                  · simp at h; omega
                  · simp at h
              subst hk1
              exact ⟨[128], by simp [ends], _, by simp [conts, hb, hb2]; rfl⟩
      | n + 4, _, _ => omega
end Go.Proofs.Ytgccindoinhphaa.Utf
