/- Ranges, as plain functions: what they tell, what is refused, their fewest ranges, cuts. -/
namespace Go.Proofs.Ytehdeipeehaejaa.Tri
set_option linter.unusedSimpArgs false

abbrev Rg := Int × Int × Int
def lo (r : Rg) : Int := r.1
def hi (r : Rg) : Int := r.2.1
def vl (r : Rg) : Int := r.2.2
theorem lo_mk (a b c : Int) : lo (a, b, c) = a := rfl
theorem hi_mk (a b c : Int) : hi (a, b, c) = b := rfl
theorem vl_mk (a b c : Int) : vl (a, b, c) = c := rfl

def get (d : Int) : List Rg → Int → Int
  | [], _ => d
  | r :: rs, c => if lo r ≤ c ∧ c ≤ hi r then vl r else get d rs c

theorem get_mk (d a b v : Int) (rs : List Rg) (c : Int) : get d ((a, b, v) :: rs) c = if a ≤ c ∧ c ≤ b then v else get d rs c := rfl
theorem get_cons (d : Int) (r : Rg) (rs : List Rg) (c : Int) : get d (r :: rs) c = if lo r ≤ c ∧ c ≤ hi r then vl r else get d rs c := rfl

/-- What is wrong with one range, behind one that ends at p. -/
def bad (p : Option Int) (r : Rg) : Int :=
  if lo r < 0 ∨ 1114111 < hi r ∨ hi r < lo r then 40
  else if vl r < 0 ∨ 65535 < vl r then 42
  else match p with
    | none => 0
    | some h => if lo r ≤ h then 41 else 0

def checkA (d : Int) : Nat → Option Int → List Rg → Int × Int
  | i, _, [] => if d < 0 ∨ 65535 < d then ((i : Int), 42) else (0, 0)
  | i, p, r :: rs => if bad p r = 0 then checkA d (i + 1) (some (hi r)) rs else ((i : Int), bad p r)
def check (d : Int) (rs : List Rg) : Int × Int := checkA d 0 none rs

/-- Ranges that are right, from b on. -/
def Val : Int → List Rg → Prop
  | _, [] => True
  | b, r :: rs => b ≤ lo r ∧ lo r ≤ hi r ∧ hi r ≤ 1114111 ∧ 0 ≤ vl r ∧ vl r ≤ 65535 ∧ Val (hi r + 1) rs

theorem Val.mono {b b' : Int} {rs : List Rg} (h : Val b rs) (hb : b' ≤ b) : Val b' rs := by
  cases rs with
  | nil => trivial
  | cons r rs => exact ⟨Int.le_trans hb h.1, h.2⟩

theorem check_val (d : Int) (i : Nat) (p : Option Int) (rs : List Rg) : (checkA d i p rs).2 = 0 ↔ (Val (match p with | none => 0 | some h => max 0 (h + 1)) rs ∧ 0 ≤ d ∧ d ≤ 65535) := by
  induction rs generalizing i p with
  | nil =>
    simp only [checkA, Val, true_and]
    split
    · simp; omega
    · simp; omega
  | cons r rs ih =>
    simp only [checkA]
    by_cases hb : bad p r = 0
    · rw [if_pos hb, ih]
      unfold bad at hb
      split at hb
      · simp at hb
      · rename_i h1
        split at hb
        · simp at hb
        · rename_i h2
          cases p with
          | none =>
            simp only [Val]
            constructor
            · rintro ⟨h3, h4⟩
              exact ⟨⟨by omega, by omega, by omega, by omega, by omega, h3.mono (by omega)⟩, h4⟩
            · rintro ⟨⟨_, _, _, _, _, h3⟩, h4⟩
              exact ⟨h3.mono (by omega), h4⟩
          | some h =>
            simp only at hb
            split at hb
            · simp at hb
            · simp only [Val]
              constructor
              · rintro ⟨h3, h4⟩
                exact ⟨⟨by omega, by omega, by omega, by omega, by omega, h3.mono (by omega)⟩, h4⟩
              · rintro ⟨⟨_, _, _, _, _, h3⟩, h4⟩
                exact ⟨h3.mono (by omega), h4⟩
    · rw [if_neg hb]
      constructor
      · intro h; exact absurd h hb
      · rintro ⟨⟨h1, h2, h3, h4, h5, _⟩, _⟩
        exfalso
        apply hb
        unfold bad
        cases p with
        | none => simp only at h1; rw [if_neg (by omega), if_neg (by omega)]
        | some h => simp only at h1; rw [if_neg (by omega), if_neg (by omega)]; simp only; rw [if_neg (by omega)]

theorem check_ok {d : Int} {rs : List Rg} : (check d rs).2 = 0 ↔ Val 0 rs ∧ 0 ≤ d ∧ d ≤ 65535 := check_val d 0 none rs

theorem check_zero {d : Int} (i : Nat) (p : Option Int) (rs : List Rg) (h : (checkA d i p rs).2 = 0) : (checkA d i p rs).1 = 0 := by
  induction rs generalizing i p with
  | nil =>
    simp only [checkA] at h ⊢
    split at h
    · simp at h
    · rename_i h1; rw [if_neg h1]
  | cons r rs ih =>
    simp only [checkA] at h ⊢
    by_cases hb : bad p r = 0
    · rw [if_pos hb] at h ⊢; exact ih _ _ h
    · rw [if_neg hb] at h; exact absurd h hb

theorem get_below {d b c : Int} {rs : List Rg} (h : Val b rs) (hc : c < b) : get d rs c = d := by
  induction rs generalizing b with
  | nil => rfl
  | cons r rs ih =>
    obtain ⟨h1, h2, h3, h4, h5, h6⟩ := h
    simp only [get]
    rw [if_neg (by omega)]
    exact ih h6 (by omega)

theorem get_range {d c : Int} (hd : 0 ≤ d ∧ d ≤ 65535) {b : Int} {rs : List Rg} (h : Val b rs) : 0 ≤ get d rs c ∧ get d rs c ≤ 65535 := by
  induction rs generalizing b with
  | nil => exact hd
  | cons r rs ih =>
    obtain ⟨h1, h2, h3, h4, h5, h6⟩ := h
    simp only [get]
    split
    · omega
    · exact ih h6

theorem get_above {d c : Int} {b : Int} {rs : List Rg} (h : Val b rs) (hc : 1114111 < c) : get d rs c = d := by
  induction rs generalizing b with
  | nil => rfl
  | cons r rs ih =>
    obtain ⟨h1, h2, h3, h4, h5, h6⟩ := h
    simp only [get]
    rw [if_neg (by omega)]
    exact ih h6

/-- The fewest ranges: the last one so far is kept open. -/
def normA (d : Int) : Option Rg → List Rg → List Rg
  | cur, [] => cur.toList
  | none, r :: rs => if vl r = d then normA d none rs else normA d (some r) rs
  | some q, r :: rs => if vl r = d then normA d (some q) rs
    else if vl q = vl r ∧ hi q + 1 = lo r then normA d (some (lo q, hi r, vl q)) rs
    else q :: normA d (some r) rs
def norm (d : Int) (rs : List Rg) : List Rg := normA d none rs

/-- No two neighbours that could be one, and none of the default's value. -/
def NF (d : Int) : List Rg → Prop
  | [] => True
  | [r] => vl r ≠ d
  | r :: s :: rs => vl r ≠ d ∧ ¬ (vl r = vl s ∧ hi r + 1 = lo s) ∧ NF d (s :: rs)

theorem NF.tail {d : Int} {r : Rg} {rs : List Rg} (h : NF d (r :: rs)) : NF d rs := by
  cases rs with
  | nil => trivial
  | cons s rs => exact h.2.2
theorem NF.head {d : Int} {r : Rg} {rs : List Rg} (h : NF d (r :: rs)) : vl r ≠ d := by
  cases rs with
  | nil => exact h
  | cons s rs => exact h.1

/-- What the open one and the rest tell. -/
theorem normA_all (d : Int) (rs : List Rg) : (∀ b, Val b rs → Val b (normA d none rs) ∧ NF d (normA d none rs) ∧ ∀ c, get d (normA d none rs) c = get d rs c) ∧
    ∀ (q : Rg) b, b ≤ lo q → lo q ≤ hi q → hi q ≤ 1114111 → 0 ≤ vl q → vl q ≤ 65535 → vl q ≠ d → Val (hi q + 1) rs →
      (∃ h t, normA d (some q) rs = (lo q, h, vl q) :: t ∧ hi q ≤ h) ∧ Val b (normA d (some q) rs) ∧ NF d (normA d (some q) rs) ∧ ∀ c, get d (normA d (some q) rs) c = get d (q :: rs) c := by
  induction rs with
  | nil =>
    refine ⟨fun b _ => ⟨trivial, trivial, fun c => rfl⟩, fun q b h1 h2 h3 h4 h5 h6 _ => ?_⟩
    exact ⟨⟨hi q, [], rfl, by omega⟩, ⟨h1, h2, h3, h4, h5, trivial⟩, h6, fun c => rfl⟩
  | cons r rs ih =>
    obtain ⟨ih1, ih2⟩ := ih
    refine ⟨fun b hv => ?_, fun q b h1 h2 h3 h4 h5 h6 hv => ?_⟩
    · obtain ⟨a1, a2, a3, a4, a5, a6⟩ := hv
      simp only [normA]
      by_cases hd : vl r = d
      · rw [if_pos hd]
        obtain ⟨i1, i2, i3⟩ := ih1 _ a6
        refine ⟨i1.mono (by omega), i2, fun c => ?_⟩
        rw [i3]
        simp only [get]
        split
        · rename_i hc; rw [hd]; exact get_below a6 (by omega)
        · rfl
      · rw [if_neg hd]
        obtain ⟨_, i1, i2, i3⟩ := ih2 r b a1 a2 a3 a4 a5 hd a6
        exact ⟨i1, i2, i3⟩
    · obtain ⟨a1, a2, a3, a4, a5, a6⟩ := hv
      simp only [normA]
      by_cases hd : vl r = d
      · rw [if_pos hd]
        obtain ⟨i0, i1, i2, i3⟩ := ih2 q b h1 h2 h3 h4 h5 h6 (a6.mono (by omega))
        refine ⟨i0, i1, i2, fun c => ?_⟩
        rw [i3]
        simp only [get]
        split
        · rfl
        · split
          · rename_i hc; rw [hd]; exact get_below a6 (by omega)
          · rfl
      · rw [if_neg hd]
        by_cases hm : vl q = vl r ∧ hi q + 1 = lo r
        · rw [if_pos hm]
          obtain ⟨⟨h, t, i0, i0'⟩, i1, i2, i3⟩ := ih2 (lo q, hi r, vl q) b h1 (by simp only [lo_mk, hi_mk]; omega) a3 h4 h5 h6 a6
          simp only [lo_mk, hi_mk, vl_mk] at i0 i0'
          refine ⟨⟨h, t, i0, by omega⟩, i1, i2, fun c => ?_⟩
          rw [i3, get_mk, get_cons, get_cons]
          by_cases c1 : lo q ≤ c ∧ c ≤ hi q
          · rw [if_pos (by omega), if_pos c1]
          · rw [if_neg c1]
            by_cases c2 : lo r ≤ c ∧ c ≤ hi r
            · rw [if_pos (by omega), if_pos c2]; exact hm.1
            · rw [if_neg (by omega), if_neg c2]
        · rw [if_neg hm]
          obtain ⟨⟨h, t, i0, i0'⟩, i1, i2, i3⟩ := ih2 r (hi q + 1) a1 a2 a3 a4 a5 hd a6
          refine ⟨⟨hi q, _, rfl, by omega⟩, ⟨h1, h2, h3, h4, h5, i1⟩, ?_, fun c => ?_⟩
          · rw [i0] at i2 ⊢
            refine ⟨h6, ?_, i2⟩
            simpa [lo_mk, vl_mk] using hm
          · simp only [get]
            split
            · rfl
            · exact i3 c

theorem norm_val {d : Int} {rs : List Rg} {b : Int} (h : Val b rs) : Val b (norm d rs) := ((normA_all d rs).1 b h).1
theorem norm_nf {d : Int} {rs : List Rg} {b : Int} (h : Val b rs) : NF d (norm d rs) := ((normA_all d rs).1 b h).2.1
theorem norm_get {d : Int} {rs : List Rg} {b : Int} (h : Val b rs) (c : Int) : get d (norm d rs) c = get d rs c := ((normA_all d rs).1 b h).2.2 c

/-- What tells the same has the same fewest ranges. -/
theorem nf_unique {d : Int} (rs ms : List Rg) (b : Int) (h1 : Val b rs) (h2 : Val b ms) (n1 : NF d rs) (n2 : NF d ms) (h : ∀ c, get d rs c = get d ms c) : rs = ms := by
  induction rs generalizing ms b with
  | nil =>
    cases ms with
    | nil => rfl
    | cons m ms =>
      have := h (lo m)
      obtain ⟨a1, a2, _⟩ := h2
      simp only [get] at this
      rw [if_pos (by omega)] at this
      exact absurd this.symm n2.head
  | cons r rs ih =>
    cases ms with
    | nil =>
      have := h (lo r)
      obtain ⟨a1, a2, _⟩ := h1
      simp only [get] at this
      rw [if_pos (by omega)] at this
      exact absurd this n1.head
    | cons m ms =>
      obtain ⟨a1, a2, a3, a4, a5, a6⟩ := h1
      obtain ⟨b1, b2, b3, b4, b5, b6⟩ := h2
      have hlo : lo r = lo m := by
        rcases Int.lt_trichotomy (lo r) (lo m) with hlt | heq | hgt
        · have := h (lo r)
          simp only [get] at this
          rw [if_pos (by omega), if_neg (by omega), get_below b6 (by omega)] at this
          exact absurd this n1.head
        · exact heq
        · have := h (lo m)
          simp only [get] at this
          rw [if_pos (by omega : lo m ≤ lo m ∧ lo m ≤ hi m), if_neg (by omega), get_below a6 (by omega)] at this
          exact absurd this.symm n2.head
      have hvl : vl r = vl m := by
        have := h (lo r)
        simp only [get] at this
        rw [if_pos (by omega), if_pos (by omega)] at this
        exact this
      have next : ∀ (r : Rg) (rs : List Rg), Val (hi r + 1) rs → NF d (r :: rs) → get d rs (hi r + 1) ≠ vl r := by
        intro r rs hv hn
        cases rs with
        | nil => exact fun e => hn.head e.symm
        | cons s rs =>
          obtain ⟨c1, c2, _, _, _, c6⟩ := hv
          simp only [get]
          by_cases hs : lo s = hi r + 1
          · rw [if_pos (by omega)]
            exact fun e => hn.2.1 ⟨e.symm, hs.symm⟩
          · rw [if_neg (by omega), get_below c6 (by omega)]
            exact fun e => hn.head e.symm
      have hhi : hi r = hi m := by
        rcases Int.lt_trichotomy (hi r) (hi m) with hlt | heq | hgt
        · have := h (hi r + 1)
          simp only [get] at this
          rw [if_neg (by omega), if_pos (by omega)] at this
          exact absurd (this.trans hvl.symm) (next r rs a6 n1)
        · exact heq
        · have := h (hi m + 1)
          simp only [get] at this
          rw [if_pos (by omega), if_neg (by omega)] at this
          exact absurd (this.symm.trans hvl) (next m ms b6 n2)
      have hrm : r = m := by
        obtain ⟨r1, r2, r3⟩ := r
        obtain ⟨m1, m2, m3⟩ := m
        simp only [lo, hi, vl] at hlo hhi hvl
        simp [hlo, hhi, hvl]
      subst hrm
      congr 1
      refine ih ms (hi r + 1) a6 b6 n1.tail n2.tail (fun c => ?_)
      by_cases hc : c < hi r + 1
      · rw [get_below a6 hc, get_below b6 hc]
      · have := h c
        simp only [get] at this
        rw [if_neg (by omega), if_neg (by omega)] at this
        exact this

theorem norm_eq {d : Int} {rs ms : List Rg} (h1 : Val 0 rs) (h2 : Val 0 ms) : (∀ c, get d rs c = get d ms c) ↔ norm d rs = norm d ms := by
  constructor
  · intro h
    exact nf_unique _ _ 0 (norm_val h1) (norm_val h2) (norm_nf h1) (norm_nf h2) (fun c => by rw [norm_get h1, norm_get h2, h c])
  · intro h c
    rw [← norm_get h1, ← norm_get h2, h]

/-- Cuts: as the statement makes them. -/
def cutA (d : Int) : Int → List Rg → List Int → List Rg
  | _, [], _ => []
  | at_, r :: rs, ks =>
    let k := ks.headD 1
    (if k % 3 = 0 ∧ at_ < lo r then [(at_ + k % (lo r - at_), lo r - 1, d)] else []) ++
      (if lo r < hi r then [(lo r, lo r + k % (hi r - lo r), vl r), (lo r + k % (hi r - lo r) + 1, hi r, vl r)] else [r]) ++ cutA d (hi r + 1) rs ks.tail

theorem get_app {d : Int} (a b : List Rg) (c : Int) : get d (a ++ b) c = if ∃ r ∈ a, lo r ≤ c ∧ c ≤ hi r then get d a c else get d b c := by
  induction a with
  | nil => simp
  | cons r a ih =>
    simp only [List.cons_append, get]
    by_cases hc : lo r ≤ c ∧ c ≤ hi r
    · rw [if_pos hc, if_pos ⟨r, by simp, hc⟩, if_pos hc]
    · rw [if_neg hc, ih]
      by_cases he : ∃ s ∈ a, lo s ≤ c ∧ c ≤ hi s
      · obtain ⟨s, hs, hsc⟩ := he
        rw [if_pos ⟨s, hs, hsc⟩, if_pos ⟨s, List.mem_cons_of_mem _ hs, hsc⟩, if_neg hc]
      · rw [if_neg he, if_neg]
        rintro ⟨s, hs, hsc⟩
        rcases List.mem_cons.1 hs with rfl | hs
        · exact hc hsc
        · exact he ⟨s, hs, hsc⟩

theorem cut_ok {d : Int} (hd : 0 ≤ d ∧ d ≤ 65535) (rs : List Rg) (at_ : Int) (ks : List Int) (h : Val at_ rs) (h0 : 0 ≤ at_) : Val at_ (cutA d at_ rs ks) ∧ ∀ c, get d (cutA d at_ rs ks) c = get d rs c := by
  induction rs generalizing at_ ks with
  | nil => exact ⟨trivial, fun c => rfl⟩
  | cons r rs ih =>
    obtain ⟨a1, a2, a3, a4, a5, a6⟩ := h
    obtain ⟨i1, i2⟩ := ih (hi r + 1) ks.tail a6 (by omega)
    simp only [cutA]
    generalize ks.headD 1 = k
    have hin : ∀ m : Int, 0 < m → 0 ≤ k % m ∧ k % m < m := fun m hm => ⟨Int.emod_nonneg _ (by omega), Int.emod_lt_of_pos _ hm⟩
    have hrest : Val (lo r) ((if lo r < hi r then [(lo r, lo r + k % (hi r - lo r), vl r), (lo r + k % (hi r - lo r) + 1, hi r, vl r)] else [r]) ++ cutA d (hi r + 1) rs ks.tail) ∧
        ∀ c, get d ((if lo r < hi r then [(lo r, lo r + k % (hi r - lo r), vl r), (lo r + k % (hi r - lo r) + 1, hi r, vl r)] else [r]) ++ cutA d (hi r + 1) rs ks.tail) c = get d (r :: rs) c := by
      by_cases hlt : lo r < hi r
      · rw [if_pos hlt]
        have hk := hin (hi r - lo r) (by omega)
        generalize k % (hi r - lo r) = q at *
        refine ⟨⟨by simp [lo_mk], by simp only [lo_mk, hi_mk]; omega, by simp only [lo_mk, hi_mk]; omega, a4, a5, by simp only [lo_mk, hi_mk]; omega, by simp only [lo_mk, hi_mk]; omega, a3, a4, a5, i1⟩, fun c => ?_⟩
        simp only [List.cons_append, List.nil_append]
        rw [get_mk, get_mk, i2, get_cons]
        by_cases c1 : lo r ≤ c ∧ c ≤ hi r
        · rw [if_pos c1]
          by_cases c2 : c ≤ lo r + q
          · rw [if_pos (by omega)]
          · rw [if_neg (by omega), if_pos (by omega)]
        · rw [if_neg c1, if_neg (by omega), if_neg (by omega)]
      · rw [if_neg hlt]
        refine ⟨⟨by omega, a2, a3, a4, a5, i1⟩, fun c => ?_⟩
        simp only [List.cons_append, List.nil_append]
        rw [get_cons, get_cons, i2]
    rw [List.append_assoc]
    generalize (if lo r < hi r then [(lo r, lo r + k % (hi r - lo r), vl r), (lo r + k % (hi r - lo r) + 1, hi r, vl r)] else [r]) ++ cutA d (hi r + 1) rs ks.tail = rest at *
    obtain ⟨r1, r2⟩ := hrest
    by_cases hg : k % 3 = 0 ∧ at_ < lo r
    · rw [if_pos hg]
      have hk := hin (lo r - at_) (by omega)
      generalize k % (lo r - at_) = q at *
      refine ⟨⟨by simp only [lo_mk]; omega, by simp only [lo_mk, hi_mk]; omega, by simp only [lo_mk, hi_mk]; omega, hd.1, hd.2, r1.mono (by simp only [lo_mk, hi_mk]; omega)⟩, fun c => ?_⟩
      simp only [List.cons_append, List.nil_append]
      rw [get_mk]
      split
      · rename_i hc
        rw [get_cons, if_neg (by omega)]
        exact (get_below a6 (by omega)).symm
      · exact r2 c
    · rw [if_neg hg]
      exact ⟨r1.mono (by omega), r2⟩
end Go.Proofs.Ytehdeipeehaejaa.Tri
