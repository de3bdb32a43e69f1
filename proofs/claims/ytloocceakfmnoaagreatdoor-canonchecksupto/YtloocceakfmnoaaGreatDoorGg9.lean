import Derived.Test.YtloocceakfmnoaaGreatDoorGc9
import Derived.Test.YtloocceakfmnoaaGreatDoorGe9
/- What a right record is bound to. -/
namespace Go.Proofs.YtloocceakfmnoaaGreatDoor.Cn

theorem if_zero {p : Prop} [Decidable p] (h : (if p then (0 : Int) else 61) = 0) : p := by
  by_cases hp : p
  · exact hp
  · rw [if_neg hp] at h
    exact absurd h (by decide)
theorem right_kind {r : Rec} (h : right r = 0) : fam r.kind ≠ 0 := fun e => by
  unfold right at h
  rw [if_pos e] at h
  exact absurd h (by decide)
theorem right_span {r : Rec} (h : right r = 0) (hk : r.kind ≠ 15) : 0 ≤ r.lo ∧ r.lo ≤ r.hi ∧ r.hi ≤ 1114111 := by
  have hf := right_kind h
  unfold right at h
  rw [if_neg hf, if_neg hk] at h
  have hc := if_zero h
  rw [Bool.and_eq_true] at hc
  exact of_decide_eq_true hc.1
theorem right_step {r : Rec} (h : right r = 0) : 1 ≤ step r ∧ step r ≤ 64 := by
  unfold step
  by_cases h4 : r.kind = 4
  · rw [if_pos h4]
    have hf := right_kind h
    unfold right at h
    rw [if_neg hf, if_neg (by omega)] at h
    have hc := if_zero h
    rw [Bool.and_eq_true, if_neg (by omega), if_neg (by omega), if_pos h4] at hc
    have h2 := hc.2
    simp only [Bool.and_eq_true] at h2
    have := of_decide_eq_true h2.1.1.2
    omega
  · rw [if_neg h4]
    omega
theorem list_parts {x : List Int} {a b : Nat} (h : list x a b = true) : (a ≤ x.length ∧ x.length ≤ b) ∧ ∀ c ∈ x, scalar c = true := by
  unfold list at h
  rw [Bool.and_eq_true] at h
  exact ⟨of_decide_eq_true h.1, List.all_eq_true.1 h.2⟩
theorem right_decomp {r : Rec} (h : right r = 0) (h7 : r.kind = 7) : r.lo = r.hi ∧ scalar r.lo = true ∧ list r.to 2 2 = true := by
  have hf := right_kind h
  unfold right at h
  rw [if_neg hf, if_neg (by omega)] at h
  have hc := if_zero h
  rw [Bool.and_eq_true, if_neg (by omega), if_neg (by omega), if_neg (by omega), if_neg (by omega), if_neg (by omega), if_neg (by omega), if_pos h7] at hc
  have h2 := hc.2
  simp only [Bool.and_eq_true] at h2
  exact ⟨of_decide_eq_true h2.1.1.1, h2.1.1.2, h2.2⟩
theorem right_opens {r : Rec} (h : right r = 0) (h8 : r.kind = 8) : r.lo = r.hi ∧ scalar r.lo = true ∧ list r.to 1 2 = true := by
  have hf := right_kind h
  unfold right at h
  rw [if_neg hf, if_neg (by omega)] at h
  have hc := if_zero h
  rw [Bool.and_eq_true, if_neg (by omega), if_neg (by omega), if_neg (by omega), if_neg (by omega), if_neg (by omega), if_neg (by omega), if_neg (by omega), if_pos h8] at hc
  have h2 := hc.2
  simp only [Bool.and_eq_true] at h2
  exact ⟨of_decide_eq_true h2.1.1.1, h2.1.1.2, h2.2⟩
/-- All records of a list that is right are right. -/
theorem rightA_all : ∀ (l : List Rec) (i : Nat), rightA i l = Option.none → ∀ r ∈ l, right r = 0
  | [], _, _ => fun r hr => by cases hr
  | x :: l, i, h => fun r hr => by
    rw [rightA] at h
    split at h
    · next hx =>
      rcases List.mem_cons.1 hr with rfl | hr
      · exact hx
      · exact rightA_all l (i + 1) h r hr
    · cases h
theorem rightA_err : ∀ (l : List Rec) (i : Nat) (x : Nat × Int), rightA i l = some x → x.2 ≠ 0
  | [], _, _, h => by rw [rightA] at h; cases h
  | y :: l, i, x, h => by
    rw [rightA] at h
    split at h
    · exact rightA_err l (i + 1) x h
    · next hx => cases h; exact hx
theorem check6_all {l : List Rec} (h : (check6 l).2 = 0) : l.length ≤ 4096 ∧ ∀ r ∈ l, right r = 0 := by
  unfold check6 at h
  split at h
  · exact absurd h (by decide)
  · next hl =>
    refine ⟨by omega, ?_⟩
    split at h
    · next x hx => exact absurd h (rightA_err _ _ _ hx)
    · next hx => exact rightA_all _ _ hx
end Go.Proofs.YtloocceakfmnoaaGreatDoor.Cn
/- When two right records speak of one thing. -/
namespace Go.Proofs.YtloocceakfmnoaaGreatDoor.Cn

/-- A number of a run. -/
def inRun (lo hi s x : Int) : Prop := lo ≤ x ∧ x ≤ hi ∧ s ∣ x - lo
theorem run_meet {lo1 hi1 s1 lo2 hi2 s2 c0 : Int} {N : Nat} (h1 : 0 < s1) (h2 : 0 < s2) (hN : s2 ≤ N) (ha : lo1 ≤ c0) (hb : lo2 ≤ c0) (hd : s1 ∣ c0 - lo1) (hmin : ∀ x, lo1 ≤ x → lo2 ≤ x → s1 ∣ x - lo1 → c0 ≤ x) :
    (∃ x, inRun lo1 hi1 s1 x ∧ inRun lo2 hi2 s2 x) ↔ ∃ k : Nat, k < N ∧ c0 + k * s1 ≤ hi1 ∧ c0 + k * s1 ≤ hi2 ∧ s2 ∣ c0 + k * s1 - lo2 := by
  constructor
  · rintro ⟨x, ⟨a1, a2, a3⟩, b1, b2, b3⟩
    have hcx := hmin x a1 b1 a3
    obtain ⟨j, hj⟩ : s1 ∣ x - c0 := by
      have := Int.dvd_sub a3 hd
      rwa [show x - lo1 - (c0 - lo1) = x - c0 by omega] at this
    have hj0 : 0 ≤ j := by
      rcases Int.lt_or_le j 0 with h | h
      · have := Int.mul_neg_of_pos_of_neg h1 h
        omega
      · exact h
    have hk0 := Int.emod_nonneg j (show s2 ≠ 0 by omega)
    have hk1 := Int.emod_lt_of_pos j h2
    have hkj : j % s2 ≤ j := by
      have := Int.emod_add_mul_ediv j s2
      have := Int.mul_nonneg (show 0 ≤ s2 by omega) (Int.ediv_nonneg hj0 (show 0 ≤ s2 by omega))
      omega
    have hle : j % s2 * s1 ≤ x - c0 := by
      rw [hj, Int.mul_comm s1 j]
      exact Int.mul_le_mul_of_nonneg_right hkj (by omega)
    refine ⟨(j % s2).toNat, by omega, ?_, ?_, ?_⟩
    · rw [Int.toNat_of_nonneg hk0]; omega
    · rw [Int.toNat_of_nonneg hk0]; omega
    · rw [Int.toNat_of_nonneg hk0]
      have e : c0 + j % s2 * s1 - lo2 = (x - lo2) - (j - j % s2) * s1 := by
        rw [Int.sub_mul, Int.mul_comm j s1, ← hj]
        omega
      rw [e]
      refine Int.dvd_sub b3 (Int.dvd_mul_of_dvd_left ?_)
      exact Int.dvd_self_sub_emod
  · rintro ⟨k, _, k1, k2, k3⟩
    have hnn : 0 ≤ (k : Int) * s1 := Int.mul_nonneg (by omega) (by omega)
    refine ⟨c0 + k * s1, ⟨by omega, k1, ?_⟩, by omega, k2, k3⟩
    rw [show c0 + (k : Int) * s1 - lo1 = (c0 - lo1) + k * s1 by omega]
    exact Int.dvd_add hd (Int.dvd_mul_left _ _)
theorem speaks_iff {r : Rec} (h : right r = 0) (hk : r.kind ≠ 15) (c : Int) : speaks r c = true ↔ inRun r.lo r.hi (step r) c := by
  have hs := right_step h
  have hp := right_span h hk
  unfold speaks inRun
  rw [decide_eq_true_iff]
  constructor
  · rintro ⟨_, _, _, _, h5, h6, h7⟩
    exact ⟨h5, h6, Int.dvd_of_emod_eq_zero h7⟩
  · rintro ⟨h5, h6, h7⟩
    exact ⟨hk, by omega, by omega, by omega, h5, h6, Int.emod_eq_zero_of_dvd h7⟩
theorem clashA_iff (b : Rec) {s hi : Int} (hs : 0 ≤ s) : ∀ (n : Nat) (c : Int), clashA b s hi n c = true ↔ ∃ k : Nat, k < n ∧ c + k * s ≤ hi ∧ speaks b (c + k * s) = true
  | 0, c => by simp [clashA]
  | n + 1, c => by
    rw [clashA]
    split
    · next hc =>
      rw [Bool.or_eq_true, clashA_iff b hs n]
      constructor
      · rintro (h | ⟨k, h1, h2, h3⟩)
        · exact ⟨0, by omega, by simpa using hc, by simpa using h⟩
        · refine ⟨k + 1, by omega, ?_, ?_⟩
          · rw [show c + ((k + 1 : Nat) : Int) * s = c + s + k * s by push_cast; rw [Int.add_mul]; omega]; exact h2
          · rw [show c + ((k + 1 : Nat) : Int) * s = c + s + k * s by push_cast; rw [Int.add_mul]; omega]; exact h3
      · rintro ⟨k, h1, h2, h3⟩
        cases k with
        | zero => left; simpa using h3
        | succ k =>
          right
          rw [show c + ((k + 1 : Nat) : Int) * s = c + s + k * s by push_cast; rw [Int.add_mul]; omega] at h2 h3
          exact ⟨k, by omega, h2, h3⟩
    · next hc =>
      constructor
      · intro h; cases h
      · rintro ⟨k, _, h2, _⟩
        have := Int.mul_nonneg (show (0 : Int) ≤ k by omega) hs
        omega
/-- The first number of a run that is not below another. -/
theorem first_run {lo1 lo2 s : Int} (h : 0 < s) {c0 : Int} (hc : c0 = if lo1 < lo2 then lo1 + (lo2 - lo1 + s - 1) / s * s else lo1) :
    lo1 ≤ c0 ∧ lo2 ≤ c0 ∧ s ∣ c0 - lo1 ∧ ∀ x, lo1 ≤ x → lo2 ≤ x → s ∣ x - lo1 → c0 ≤ x := by
  by_cases hl : lo1 < lo2
  · rw [if_pos hl] at hc
    have e := Int.emod_add_mul_ediv (lo2 - lo1 + s - 1) s
    have e0 := Int.emod_nonneg (lo2 - lo1 + s - 1) (show s ≠ 0 by omega)
    have e1 := Int.emod_lt_of_pos (lo2 - lo1 + s - 1) h
    rw [Int.mul_comm] at e
    have hq : s ∣ (lo2 - lo1 + s - 1) / s * s := Int.dvd_mul_left _ _
    generalize (lo2 - lo1 + s - 1) / s * s = q at *
    subst hc
    refine ⟨by omega, by omega, by rw [show lo1 + q - lo1 = q by omega]; exact hq, fun x a b d => ?_⟩
    obtain ⟨j, hj⟩ := Int.dvd_sub hq d
    rcases Int.lt_or_le 0 j with h' | h'
    · have : s * 1 ≤ s * j := Int.mul_le_mul_of_nonneg_left (by omega) (by omega)
      omega
    · have := Int.mul_nonpos_of_nonneg_of_nonpos (show 0 ≤ s by omega) h'
      omega
  · rw [if_neg hl] at hc
    subst hc
    exact ⟨by omega, by omega, by simp, fun x a _ _ => a⟩
/-- Two right records of one family that are no mixes clash where both speak of one number. -/
theorem clash_iff {a b : Rec} (ha : right a = 0) (hb : right b = 0) (hf : fam a.kind = fam b.kind) (hk : a.kind ≠ 15) (hk' : b.kind ≠ 15) : clash a b = true ↔ ∃ c, speaks a c = true ∧ speaks b c = true := by
  have hsa := right_step ha
  have hsb := right_step hb
  unfold clash
  rw [if_neg (by simp [hf]), if_neg hk, clashA_iff b (by omega)]
  obtain ⟨f1, f2, f3, f4⟩ := first_run (lo1 := a.lo) (lo2 := max a.lo b.lo) (show 0 < step a by omega) rfl
  generalize (if a.lo < max a.lo b.lo then a.lo + (max a.lo b.lo - a.lo + step a - 1) / step a * step a else a.lo) = c0 at *
  have := run_meet (hi1 := a.hi) (hi2 := b.hi) (N := 64) (lo1 := a.lo) (lo2 := b.lo) (s1 := step a) (s2 := step b) (c0 := c0) (by omega) (by omega) (by omega) f1 (by omega) f3 (fun x p q d => f4 x p (by omega) d)
  constructor
  · rintro ⟨k, h1, h2, h3⟩
    rw [speaks_iff hb hk'] at h3
    obtain ⟨x, hx, hy⟩ := this.2 ⟨k, h1, by omega, by omega, h3.2.2⟩
    exact ⟨x, (speaks_iff ha hk x).2 hx, (speaks_iff hb hk' x).2 hy⟩
  · rintro ⟨x, hx, hy⟩
    obtain ⟨k, h1, h2, h3, h4⟩ := this.1 ⟨x, (speaks_iff ha hk x).1 hx, (speaks_iff hb hk' x).1 hy⟩
    refine ⟨k, h1, by omega, (speaks_iff hb hk' _).2 ⟨?_, h3, h4⟩⟩
    have := Int.mul_nonneg (show (0 : Int) ≤ k by omega) (show 0 ≤ step a by omega)
    omega
theorem fam_ten {k : Int} (h : fam k = 10) : k = 15 := by
  unfold fam at h
  split at h
  · omega
  · split at h
    · omega
    · split at h
      · omega
      · split at h <;> omega
theorem fam_mix : fam 15 = 10 := by decide
theorem clash_symm {a b : Rec} (ha : right a = 0) (hb : right b = 0) : clash a b = clash b a := by
  by_cases hf : fam a.kind = fam b.kind
  · by_cases hk : a.kind = 15
    · have hk' : b.kind = 15 := fam_ten (by rw [← hf, hk]; decide)
      unfold clash
      rw [if_neg (by simp [hf]), if_pos hk, if_neg (by simp [hf]), if_pos hk']
      refine decide_eq_decide.2 ⟨?_, ?_⟩
      · rintro (⟨h1, h2⟩ | ⟨h1, h2⟩)
        · exact .inl ⟨h1.symm, h2.symm⟩
        · exact .inr ⟨h2.symm, h1.symm⟩
      · rintro (⟨h1, h2⟩ | ⟨h1, h2⟩)
        · exact .inl ⟨h1.symm, h2.symm⟩
        · exact .inr ⟨h2.symm, h1.symm⟩
    · have hk' : b.kind ≠ 15 := fun e => hk (fam_ten (by rw [hf, e]; decide))
      have h1 := clash_iff ha hb hf hk hk'
      have h2 := clash_iff hb ha hf.symm hk' hk
      rw [Bool.eq_iff_iff, h1, h2]
      constructor <;> exact fun ⟨c, p, q⟩ => ⟨c, q, p⟩
  · unfold clash
    rw [if_pos hf, if_pos (fun e => hf e.symm)]
end Go.Proofs.YtloocceakfmnoaaGreatDoor.Cn
/- What a right table is, whatever the order of its records. -/
namespace Go.Proofs.YtloocceakfmnoaaGreatDoor.Cn

theorem getD_at {l : List Rec} {k : Nat} (h : k < l.length) : l.getD k none = l[k] := by simp [List.getD, h]
theorem twiceA_none {l : List Rec} : ∀ (n i : Nat), l.length - i = n → i ≤ l.length → (twiceA l i (l.drop i) = Option.none ↔ ∀ j, i ≤ j → (hj : j < l.length) → ∀ k, (hk : k < j) → clash l[k] l[j] = false)
  | 0, i, hn, hi => by
    rw [List.drop_eq_nil_of_le (by omega), twiceA]
    exact ⟨fun _ j a b => by omega, fun _ => rfl⟩
  | n + 1, i, hn, hi => by
    have hl : i < l.length := by omega
    rw [List.drop_eq_getElem_cons hl, twiceA]
    have ih := twiceA_none (l := l) n (i + 1) (by omega) hl
    have hany : ((l.take i).any fun k => clash k l[i]) = true ↔ ∃ k, ∃ hk : k < i, clash l[k] l[i] = true := by
      rw [List.any_eq_true]
      constructor
      · rintro ⟨x, hx, hc⟩
        obtain ⟨k, hk, rfl⟩ := List.mem_take_iff_getElem.1 hx
        exact ⟨k, by omega, hc⟩
      · rintro ⟨k, hk, hc⟩
        exact ⟨l[k], List.mem_take_iff_getElem.2 ⟨k, by omega, rfl⟩, hc⟩
    split
    · next h =>
      obtain ⟨k, hk, hc⟩ := hany.1 h
      exact ⟨fun h => (nomatch h), fun h => by rw [h i (Nat.le_refl _) hl k hk] at hc; cases hc⟩
    · next h =>
      rw [ih]
      constructor
      · intro h2 j hij hj k hk
        rcases Nat.eq_or_lt_of_le hij with rfl | hij
        · exact Bool.eq_false_iff.2 fun hc => h (hany.2 ⟨k, hk, hc⟩)
        · exact h2 j hij hj k hk
      · exact fun h2 j hij hj k hk => h2 j (by omega) hj k hk
theorem rightA_none : ∀ (l : List Rec) (i : Nat), rightA i l = Option.none ↔ ∀ r ∈ l, right r = 0
  | [], _ => ⟨fun _ r hr => absurd hr (by simp), fun _ => rfl⟩
  | x :: l, i => by
    rw [rightA, List.forall_mem_cons]
    split
    · next h => rw [rightA_none l]; exact ⟨fun a => ⟨h, a⟩, fun a => a.2⟩
    · next h => exact ⟨fun a => (nomatch a), fun a => absurd a.1 h⟩
/-- 6.3: which lists table's Check takes. -/
theorem check6_iff {l : List Rec} : (check6 l).2 = 0 ↔ l.length ≤ 4096 ∧ (∀ r ∈ l, right r = 0) ∧ l.Pairwise fun a b => clash a b = false := by
  have ht := twiceA_none (l := l) l.length 0 (by omega) (by omega)
  rw [List.drop_zero] at ht
  have hr := rightA_none l 0
  rw [List.pairwise_iff_getElem]
  unfold check6
  split
  · next h => exact ⟨fun a => absurd a (by decide), fun a => by omega⟩
  · next h =>
    split
    · next x hx =>
      refine ⟨fun a => absurd a (rightA_err _ _ _ hx), fun a => ?_⟩
      rw [hr.2 a.2.1] at hx
      cases hx
    · next hx =>
      split
      · next i hi =>
        refine ⟨fun a => absurd a (show ¬ (62 : Int) = 0 by decide), fun a => ?_⟩
        rw [ht.2 fun j _ hj k hk => a.2.2 k j (by omega) hj hk] at hi
        cases hi
      · next hi => exact ⟨fun _ => ⟨by omega, hr.1 hx, fun k j hk hj h => ht.1 hi j (by omega) hj k h⟩, fun _ => rfl⟩
theorem check6_zero {l : List Rec} (h : (check6 l).2 = 0) : check6 l = (0, 0) := by
  unfold check6 at h ⊢
  split
  · next h' => rw [if_pos h'] at h; exact absurd h (by decide)
  · next h' =>
    rw [if_neg h'] at h
    split
    · next x hx => simp only [hx] at h; exact absurd h (rightA_err _ _ _ hx)
    · next hx =>
      simp only [hx] at h
      split
      · next i hi => simp only [hi] at h; exact absurd h (show ¬ (62 : Int) = 0 by decide)
      · rfl
/-- What Find tells is there. -/
theorem findA_hit (f c : Int) : ∀ (l : List Rec) (i : Nat), 0 ≤ findA f c i l → ∃ k, ∃ hk : k < l.length, findA f c i l = (i + k : Nat) ∧ fam l[k].kind = f ∧ speaks l[k] c = true
  | [], i, h => by rw [findA] at h; omega
  | r :: l, i, h => by
    rw [findA] at h ⊢
    split
    · next hr => exact ⟨0, by simp, by simp, hr.1, hr.2⟩
    · next hr =>
      rw [if_neg hr] at h
      obtain ⟨k, hk, h1, h2, h3⟩ := findA_hit f c l (i + 1) h
      exact ⟨k + 1, by simp; omega, by rw [h1]; congr 1; omega, h2, h3⟩
theorem findA_some (f c : Int) : ∀ (l : List Rec) (i : Nat), (∃ r ∈ l, fam r.kind = f ∧ speaks r c = true) → 0 ≤ findA f c i l
  | [], i, ⟨r, hr, _⟩ => by cases hr
  | x :: l, i, ⟨r, hr, h1, h2⟩ => by
    rw [findA]
    split
    · omega
    · next hx =>
      rcases List.mem_cons.1 hr with rfl | hr
      · exact absurd ⟨h1, h2⟩ hx
      · exact findA_some f c l (i + 1) ⟨r, hr, h1, h2⟩
theorem hit_some {l : List Rec} {f c : Int} {r : Rec} (h : hit l f c = some r) : r ∈ l ∧ fam r.kind = f ∧ speaks r c = true := by
  unfold hit at h
  split at h
  · cases h
  · next hf =>
    cases h
    unfold find at hf ⊢
    split at hf
    · omega
    · next hg =>
      rw [if_neg hg]
      obtain ⟨k, hk, h1, h2, h3⟩ := findA_hit f c l 0 (by omega)
      rw [h1, show ((0 + k : Nat) : Int).toNat = k by omega, getD_at hk]
      exact ⟨List.getElem_mem hk, h2, h3⟩
/-- At most one record of a family speaks of a number. -/
theorem once {l : List Rec} (h : (check6 l).2 = 0) {f c : Int} {a b : Rec} (ha : a ∈ l) (hb : b ∈ l) (fa : fam a.kind = f) (fb : fam b.kind = f) (sa : speaks a c = true) (sb : speaks b c = true) : a = b := by
  obtain ⟨_, hr, hp⟩ := check6_iff.1 h
  rw [List.pairwise_iff_getElem] at hp
  have hk : ∀ {x : Rec}, speaks x c = true → x.kind ≠ 15 := fun hx => by
    unfold speaks at hx
    exact (of_decide_eq_true hx).1
  obtain ⟨i, hi, rfl⟩ := List.getElem_of_mem ha
  obtain ⟨j, hj, rfl⟩ := List.getElem_of_mem hb
  rcases Nat.lt_trichotomy i j with h' | rfl | h'
  · have := hp i j hi hj h'
    rw [Bool.eq_false_iff] at this
    exact absurd ((clash_iff (hr _ ha) (hr _ hb) (fa.trans fb.symm) (hk sa) (hk sb)).2 ⟨c, sa, sb⟩) this
  · rfl
  · have := hp j i hj hi h'
    rw [Bool.eq_false_iff] at this
    exact absurd ((clash_iff (hr _ hb) (hr _ ha) (fb.trans fa.symm) (hk sb) (hk sa)).2 ⟨c, sb, sa⟩) this
theorem hit_iff {l : List Rec} (h : (check6 l).2 = 0) {f c : Int} (hf : f ≠ 10 ∧ f ≠ 0) (r : Rec) : hit l f c = some r ↔ r ∈ l ∧ fam r.kind = f ∧ speaks r c = true := by
  refine ⟨hit_some, fun ⟨h1, h2, h3⟩ => ?_⟩
  have hs := findA_some f c l 0 ⟨r, h1, h2, h3⟩
  have he : hit l f c = some (l.getD (find l f c).toNat none) := by
    unfold hit
    rw [if_neg]
    unfold find
    rw [if_neg (by omega)]
    omega
  obtain ⟨g1, g2, g3⟩ := hit_some he
  rw [he, once h g1 h1 g2 h2 g3 h3]
theorem hit_none {l : List Rec} {f c : Int} (hf : f ≠ 10 ∧ f ≠ 0) (h : hit l f c = Option.none) : ∀ r ∈ l, fam r.kind = f → speaks r c = false := by
  intro r hr h2
  refine Bool.eq_false_iff.2 fun h3 => ?_
  have hs := findA_some f c l 0 ⟨r, hr, h2, h3⟩
  unfold hit at h
  rw [if_neg] at h
  · cases h
  · unfold find
    rw [if_neg (by omega)]
    omega
theorem hit_perm {l m : List Rec} (h : (check6 l).2 = 0) (hm : (check6 m).2 = 0) (hlm : ∀ r, r ∈ l ↔ r ∈ m) {f c : Int} (hf : f ≠ 10 ∧ f ≠ 0) : hit l f c = hit m f c := by
  cases e : hit l f c with
  | some r =>
    obtain ⟨h1, h2, h3⟩ := hit_some e
    exact ((hit_iff hm hf r).2 ⟨(hlm r).1 h1, h2, h3⟩).symm
  | none =>
    cases e2 : hit m f c with
    | none => rfl
    | some r =>
      obtain ⟨h1, h2, h3⟩ := hit_some e2
      rw [(hit_iff h hf r).2 ⟨(hlm r).2 h1, h2, h3⟩] at e
      cases e
end Go.Proofs.YtloocceakfmnoaaGreatDoor.Cn
/- 7.5: a right table in any other order is right, and opens alike. -/
namespace Go.Proofs.YtloocceakfmnoaaGreatDoor.Cn

/-- Two decompositions to the same two. -/
def sameTo (a b : Rec) : Prop := a.kind = 7 ∧ b.kind = 7 ∧ a.to.getD 0 0 = b.to.getD 0 0 ∧ a.to.getD 1 0 = b.to.getD 1 0
theorem pair_iff {l : List Rec} {i : Nat} {r : Rec} (h7 : r.kind = 7) : pair l i r = true ↔ pair l 0 r = true ∧ ∀ k ∈ l.take i, ¬ sameTo k r := by
  unfold pair
  rw [Bool.and_eq_true, Bool.and_eq_true]
  have h0 : (!((l.take 0).any fun k => decide (k.kind = 7 ∧ k.to.getD 0 0 = r.to.getD 0 0 ∧ k.to.getD 1 0 = r.to.getD 1 0))) = true := by simp
  have hi : (!((l.take i).any fun k => decide (k.kind = 7 ∧ k.to.getD 0 0 = r.to.getD 0 0 ∧ k.to.getD 1 0 = r.to.getD 1 0))) = true ↔ ∀ k ∈ l.take i, ¬ sameTo k r := by
    rw [Bool.not_eq_true', Bool.eq_false_iff, Ne, List.any_eq_true]
    constructor
    · exact fun h k hk ⟨a, _, b, c⟩ => h ⟨k, hk, decide_eq_true ⟨a, b, c⟩⟩
    · rintro h ⟨k, hk, hd⟩
      obtain ⟨a, b, c⟩ := of_decide_eq_true hd
      exact h k hk ⟨a, h7, b, c⟩
  rw [hi]
  exact ⟨fun ⟨a, b⟩ => ⟨⟨a, h0⟩, b⟩, fun ⟨⟨a, _⟩, b⟩ => ⟨a, b⟩⟩
/-- What is asked of a record ahead of its pair's rules. -/
def recF (l : List Rec) (r : Rec) (b : Bool) : Int :=
  if fam r.kind ≠ 2 ∧ fam r.kind ≠ 3 then 0
  else if covers r 0 127 then 70
  else if covers r 4352 4370 || covers r 4449 4469 || covers r 4520 4546 || covers r 44032 55203 then 71
  else if r.kind = 7 ∧ ((jl (r.to.getD 0 0) && jv (r.to.getD 1 0)) || (syl (r.to.getD 0 0) && decide ((r.to.getD 0 0 - 44032) % 28 = 0) && jt (r.to.getD 1 0))) = true then 71
  else if fam r.kind = 2 then 0
  else if (full l r.lo).2 ≠ 0 then (full l r.lo).2
  else if fallsA l (full l r.lo).1 then 75
  else if b = true then 74
  else 0
theorem record_F (l : List Rec) (i : Nat) (r : Rec) : record l i r = recF l r (decide (r.kind = 7 ∧ pair l i r = false)) := by
  unfold record recF
  simp only [decide_eq_true_eq]
theorem recF_two {l : List Rec} {r : Rec} (hf : fam r.kind = 3) : (recF l r true = recF l r false ∧ recF l r false ≠ 0) ∨ (recF l r true = 74 ∧ recF l r false = 0) := by
  unfold recF
  have h1 : ¬ (fam r.kind ≠ 2 ∧ fam r.kind ≠ 3) := fun h => h.2 hf
  have h2 : ¬ fam r.kind = 2 := by omega
  simp only [if_neg h1, if_neg h2, if_true]
  by_cases c1 : covers r 0 127 = true
  · simp [c1]
  · simp only [if_neg c1]
    by_cases c2 : (covers r 4352 4370 || covers r 4449 4469 || covers r 4520 4546 || covers r 44032 55203) = true
    · simp only [if_pos c2]; exact .inl ⟨trivial, by decide⟩
    · simp only [if_neg c2]
      by_cases c3 : r.kind = 7 ∧ ((jl (r.to.getD 0 0) && jv (r.to.getD 1 0)) || (syl (r.to.getD 0 0) && decide ((r.to.getD 0 0 - 44032) % 28 = 0) && jt (r.to.getD 1 0))) = true
      · simp only [if_pos c3]; exact .inl ⟨trivial, by decide⟩
      · simp only [if_neg c3]
        by_cases c4 : (full l r.lo).2 = 0
        · simp only [if_neg (show ¬ (full l r.lo).2 ≠ 0 from fun h => h c4)]
          by_cases c5 : fallsA l (full l r.lo).1 = true
          · simp only [if_pos c5]; exact .inl ⟨trivial, by decide⟩
          · simp only [if_neg c5]; exact .inr ⟨trivial, by simp⟩
        · simp only [if_pos (show (full l r.lo).2 ≠ 0 from c4)]; exact .inl ⟨trivial, c4⟩
theorem record_iff {l : List Rec} {i : Nat} {r : Rec} : record l i r = 0 ↔ record l 0 r = 0 ∧ ∀ k ∈ l.take i, ¬ sameTo k r := by
  rw [record_F, record_F]
  by_cases h7 : r.kind = 7
  · have hp := pair_iff (l := l) (i := i) h7
    have hf : fam r.kind = 3 := by rw [h7]; decide
    have e : ∀ i, decide (r.kind = 7 ∧ pair l i r = false) = !(pair l i r) := fun i => by cases pair l i r <;> simp [h7]
    rw [e, e]
    rcases recF_two (l := l) hf with ⟨h1, h2⟩ | ⟨h1, h2⟩
    · have : ∀ b, recF l r b ≠ 0 := fun b => by cases b <;> simp [h1, h2]
      exact ⟨fun a => absurd a (this _), fun a => absurd a.1 (this _)⟩
    · have : ∀ b, recF l r b = 0 ↔ b = false := fun b => by cases b <;> simp [h1, h2]
      rw [this, this, Bool.not_eq_false', Bool.not_eq_false']
      exact hp
  · have e : ∀ i, decide (r.kind = 7 ∧ pair l i r = false) = false := fun i => by simp [h7]
    rw [e, e]
    exact ⟨fun a => ⟨a, fun k _ s => h7 s.2.1⟩, fun a => a.1⟩
theorem recordA_none {l : List Rec} : ∀ (m : List Rec) (i : Nat), recordA l i m = Option.none ↔ ∀ j, (hj : j < m.length) → record l (i + j) m[j] = 0
  | [], i => ⟨fun _ j hj => absurd hj (by simp), fun _ => rfl⟩
  | r :: m, i => by
    rw [recordA]
    split
    · next h =>
      rw [recordA_none m]
      constructor
      · intro h2 j hj
        cases j with
        | zero => exact h
        | succ j =>
          have := h2 j (by simpa using hj)
          rwa [show i + 1 + j = i + (j + 1) by omega] at this
      · intro h2 j hj
        have := h2 (j + 1) (by simpa using hj)
        rwa [show i + (j + 1) = i + 1 + j by omega] at this
    · next h => exact ⟨fun a => (nomatch a), fun a => absurd (a 0 (by simp)) h⟩
theorem recordA_err {l : List Rec} : ∀ (m : List Rec) (i : Nat) (x : Nat × Int), recordA l i m = some x → x.2 ≠ 0
  | [], _, _, h => by rw [recordA] at h; cases h
  | y :: m, i, x, h => by
    rw [recordA] at h
    split at h
    · exact recordA_err m (i + 1) x h
    · next hx => cases h; exact hx
/-- 7.3: which tables are right. -/
theorem check_iff {l : List Rec} : (check l).2 = 0 ↔ (check6 l).2 = 0 ∧ (∀ r ∈ l, record l 0 r = 0) ∧ (l.Pairwise fun a b => ¬ sameTo a b) ∧ baseA l 78 45 = true := by
  have hr := recordA_none (l := l) l 0
  have hx : (∀ j, (hj : j < l.length) → record l (0 + j) l[j] = 0) ↔ (∀ r ∈ l, record l 0 r = 0) ∧ l.Pairwise fun a b => ¬ sameTo a b := by
    rw [List.pairwise_iff_getElem]
    constructor
    · intro h
      refine ⟨fun r hr => ?_, fun i j hi hj hij => ?_⟩
      · obtain ⟨j, hj, rfl⟩ := List.getElem_of_mem hr
        exact (record_iff.1 (h j hj)).1
      · exact (record_iff.1 (h j hj)).2 _ (List.mem_take_iff_getElem.2 ⟨i, by omega, rfl⟩)
    · rintro ⟨h1, h2⟩ j hj
      refine record_iff.2 ⟨h1 _ (List.getElem_mem hj), fun k hk => ?_⟩
      obtain ⟨i, hi, rfl⟩ := List.mem_take_iff_getElem.1 hk
      exact h2 i j (by omega) hj (by omega)
  unfold check
  split
  · next h => exact ⟨fun a => absurd a h, fun a => absurd a.1 h⟩
  · next h =>
    split
    · next x hx' =>
      refine ⟨fun a => absurd a (recordA_err _ _ _ hx'), fun a => ?_⟩
      rw [hr.2 (hx.2 ⟨a.2.1, a.2.2.1⟩)] at hx'
      cases hx'
    · next hx' =>
      have h2 := hx.1 (hr.1 hx')
      split
      · next hb => exact ⟨fun _ => ⟨Decidable.not_not.1 h, h2.1, h2.2, hb⟩, fun _ => rfl⟩
      · next hb => exact ⟨fun a => absurd a (show ¬ (70 : Int) = 0 by decide), fun a => absurd a.2.2.2 hb⟩
/-- What hangs on what Find tells alone. -/
theorem opn_congr {l m : List Rec} (h : ∀ c, hit l 3 c = hit m 3 c) (c : Int) : opn l c = opn m c := by
  unfold opn
  rw [h c]
theorem prim_congr {l m : List Rec} (h : ∀ c, hit l 3 c = hit m 3 c) (c : Int) : prim l c = prim m c := by
  unfold prim
  rw [h c, opn_congr h c]
theorem cls_congr {l m : List Rec} (h : ∀ c, hit l 2 c = hit m 2 c) (c : Int) : cls l c = cls m c := by
  unfold cls
  rw [h c]
theorem walk_congr {l m : List Rec} (h : ∀ c, opn l c = opn m c) : ∀ (f : Nat) (way : List Int) (c : Int) (out : List Int), walk l f way c out = walk m f way c out
  | 0, way, c, out => by rw [walk, walk, h c]
  | f + 1, way, c, out => by
    rw [walk, walk, h c]
    have e : (fun (s : List Int × Int) d => if s.2 = 0 then walk l f (way ++ [c]) d s.1 else s) = fun s d => if s.2 = 0 then walk m f (way ++ [c]) d s.1 else s := by
      funext s d
      rw [walk_congr h f]
    rw [e]
theorem full_congr {l m : List Rec} (h : ∀ c, hit l 3 c = hit m 3 c) (c : Int) : full l c = full m c := walk_congr (opn_congr h) 16 [] c []
theorem falls_congr {l m : List Rec} (h : ∀ c, hit l 2 c = hit m 2 c) : ∀ x : List Int, fallsA l x = fallsA m x
  | [] => rfl
  | [_] => rfl
  | a :: b :: r => by rw [fallsA, fallsA, cls_congr h a, cls_congr h b, falls_congr h (b :: r)]
theorem plain_congr {l m : List Rec} (h : ∀ c, hit l 1 c = hit m 1 c) (c : Int) : plain l c = plain m c := by
  unfold plain
  rw [h c]
theorem base_congr {l m : List Rec} (h : ∀ c, hit l 1 c = hit m 1 c) : ∀ (k : Nat) (c : Int), baseA l k c = baseA m k c
  | 0, c => rfl
  | k + 1, c => by rw [baseA, baseA, plain_congr h c, base_congr h k]
theorem record_congr {l m : List Rec} (h2 : ∀ c, hit l 2 c = hit m 2 c) (h3 : ∀ c, hit l 3 c = hit m 3 c) {i : Nat} (ht : l.take i = m.take i) (r : Rec) : record l i r = record m i r := by
  have hp : pair l i r = pair m i r := by
    unfold pair
    rw [cls_congr h2, cls_congr h2, opn_congr h3, opn_congr h3, prim_congr h3, ht]
  unfold record
  rw [full_congr h3, falls_congr h2, hp]
theorem clash_no {a b : Rec} (ha : right a = 0) (hb : right b = 0) (h : clash a b = false) : clash b a = false := by rw [clash_symm hb ha]; exact h
/-- 7.5. -/
theorem turned {l m : List Rec} (h : (check l).2 = 0) (hp : l.Perm m) : (check m).2 = 0 ∧ ∀ f c, f ≠ 10 ∧ f ≠ 0 → hit l f c = hit m f c := by
  obtain ⟨h6, hr, hs, hb⟩ := check_iff.1 h
  obtain ⟨g1, g2, g3⟩ := check6_iff.1 h6
  have hmem : ∀ r, r ∈ l ↔ r ∈ m := fun r => hp.mem_iff
  have m6 : (check6 m).2 = 0 := by
    refine check6_iff.2 ⟨by rw [← hp.length_eq]; exact g1, fun r hr => g2 r ((hmem r).2 hr), ?_⟩
    have key : l.Pairwise fun a b => right a = 0 ∧ right b = 0 ∧ clash a b = false := by
      rw [List.pairwise_iff_getElem] at g3 ⊢
      exact fun i j hi hj hij => ⟨g2 _ (List.getElem_mem hi), g2 _ (List.getElem_mem hj), g3 i j hi hj hij⟩
    exact (hp.pairwise key fun {a b} ⟨x, y, z⟩ => ⟨y, x, clash_no x y z⟩).imp fun a => a.2.2
  have hh : ∀ f c, f ≠ 10 ∧ f ≠ 0 → hit l f c = hit m f c := fun f c hf => hit_perm h6 m6 hmem hf
  refine ⟨check_iff.2 ⟨m6, fun r hr' => ?_, ?_, ?_⟩, hh⟩
  · rw [← record_congr (fun c => hh 2 c (by decide)) (fun c => hh 3 c (by decide)) (i := 0) (by simp)]
    exact hr r ((hmem r).2 hr')
  · exact hp.pairwise hs fun {a b} h s => h ⟨s.2.1, s.1, s.2.2.1.symm, s.2.2.2.symm⟩
  · rw [← base_congr fun c => hh 1 c (by decide)]
    exact hb
end Go.Proofs.YtloocceakfmnoaaGreatDoor.Cn
/- A list's records of one family, laid in order: the one that may speak of a number. -/
namespace Go.Proofs.YtloocceakfmnoaaGreatDoor.Cn

/-- Right records of one family of single step, none of which clash, by Lo. -/
def Ordered (f : Int) (s : List Rec) : Prop := (∀ r ∈ s, right r = 0 ∧ fam r.kind = f) ∧ s.Pairwise fun a b => a.hi < b.lo
/-- How many end ahead of a number. -/
def ahead (s : List Rec) (c : Int) : Nat := s.countP fun r => decide (r.hi < c)
def near (s : List Rec) (c : Int) : List Rec := (s.drop (ahead s c)).take 1
theorem step_one {r : Rec} (h : fam r.kind = 2 ∨ fam r.kind = 3) : step r = 1 ∧ r.kind ≠ 15 ∧ r.kind ≠ 4 := by
  have h4 : r.kind ≠ 4 := by
    intro e; rw [e] at h; revert h; decide
  have h5 : r.kind ≠ 15 := by
    intro e; rw [e] at h; revert h; decide
  exact ⟨by unfold step; rw [if_neg h4], h5, h4⟩
theorem speaks_one {r : Rec} (h : right r = 0) (hf : fam r.kind = 2 ∨ fam r.kind = 3) (c : Int) : speaks r c = true ↔ r.lo ≤ c ∧ c ≤ r.hi := by
  obtain ⟨h1, h2, _⟩ := step_one hf
  rw [speaks_iff h h2, inRun, h1]
  constructor
  · rintro ⟨a, b, _⟩; exact ⟨a, b⟩
  · rintro ⟨a, b⟩; exact ⟨a, b, Int.one_dvd _⟩
/-- Sorted by Lo, and none clash: each ends ahead of the next. -/
theorem ordered_of {f : Int} (hf : f = 2 ∨ f = 3) {s : List Rec} (hr : ∀ r ∈ s, right r = 0 ∧ fam r.kind = f) (hc : s.Pairwise fun a b => clash a b = false) (hs : s.Pairwise fun a b => a.lo ≤ b.lo) : Ordered f s := by
  refine ⟨hr, ?_⟩
  have h := List.pairwise_and_iff.2 ⟨hc, hs⟩
  refine h.imp_of_mem fun {a b} ha hb ⟨h1, h2⟩ => ?_
  obtain ⟨ra, fa⟩ := hr a ha
  obtain ⟨rb, fb⟩ := hr b hb
  have fa' : fam a.kind = 2 ∨ fam a.kind = 3 := by omega
  have fb' : fam b.kind = 2 ∨ fam b.kind = 3 := by omega
  obtain ⟨_, ka, _⟩ := step_one fa'
  obtain ⟨_, kb, _⟩ := step_one fb'
  obtain ⟨_, sb, _⟩ := right_span rb kb
  refine Int.not_le.1 fun hle => ?_
  have : clash a b = true := (clash_iff ra rb (by omega) ka kb).2 ⟨b.lo, (speaks_one ra fa' _).2 ⟨h2, hle⟩, (speaks_one rb fb' _).2 ⟨Int.le_refl _, sb⟩⟩
  rw [h1] at this
  cases this
theorem near_mem {s : List Rec} {c : Int} {r : Rec} (h : r ∈ near s c) : r ∈ s := List.mem_of_mem_drop (List.mem_of_mem_take h)
theorem near_in {f : Int} (hf : f = 2 ∨ f = 3) : ∀ {s : List Rec} (_ : Ordered f s) {c : Int} {r : Rec} (_ : r ∈ s) (_ : r.lo ≤ c) (_ : c ≤ r.hi), r ∈ near s c
  | [], _, _, _, h, _, _ => by cases h
  | a :: s, ho, c, r, h, h1, h2 => by
    obtain ⟨hr, hp⟩ := ho
    rw [List.pairwise_cons] at hp
    by_cases ha : a.hi < c
    · have hne : r ≠ a := by rintro rfl; omega
      have hm : r ∈ s := by
        rcases List.mem_cons.1 h with e | e
        · exact absurd e hne
        · exact e
      have ih := near_in hf (s := s) ⟨fun x hx => hr x (List.mem_cons_of_mem _ hx), hp.2⟩ hm h1 h2
      have e : ahead (a :: s) c = ahead s c + 1 := by
        unfold ahead
        rw [List.countP_cons_of_pos (by simpa using ha)]
      unfold near
      rw [e, List.drop_succ_cons]
      exact ih
    · have hz : ahead (a :: s) c = 0 := by
        unfold ahead
        rw [List.countP_eq_zero]
        intro x hx
        rcases List.mem_cons.1 hx with rfl | hx'
        · simpa using ha
        · have h3 := hp.1 x hx'
          obtain ⟨rx, fx⟩ := hr x hx
          obtain ⟨_, kx, _⟩ := step_one (r := x) (by omega)
          have := right_span rx kx
          simp; omega
      have e : r = a := by
        rcases List.mem_cons.1 h with e | e
        · exact e
        · have := hp.1 r e
          omega
      subst e
      unfold near
      rw [hz]
      simp
theorem near_right {f : Int} {s : List Rec} (ho : Ordered f s) (c : Int) : (check6 (near s c)).2 = 0 := by
  refine check6_iff.2 ⟨?_, fun r hr => (ho.1 r (near_mem hr)).1, ?_⟩
  · unfold near
    rw [List.length_take]
    omega
  · have : (near s c).length ≤ 1 := by unfold near; rw [List.length_take]; omega
    match near s c, this with
    | [], _ => exact .nil
    | [_], _ => simp
    | _ :: _ :: _, h => simp at h
theorem near_hit {f : Int} (hf : f = 2 ∨ f = 3) {l s : List Rec} (hl : (check6 l).2 = 0) (ho : Ordered f s) (hm : ∀ r, r ∈ s ↔ r ∈ l ∧ fam r.kind = f) (c : Int) : hit (near s c) f c = hit l f c := by
  have hf' : f ≠ 10 ∧ f ≠ 0 := by omega
  apply Option.ext
  intro r
  rw [hit_iff (near_right ho c) hf', hit_iff hl hf']
  constructor
  · rintro ⟨h1, h2, h3⟩
    exact ⟨((hm r).1 (near_mem h1)).1, h2, h3⟩
  · rintro ⟨h1, h2, h3⟩
    have hs := (hm r).2 ⟨h1, h2⟩
    have hr := ho.1 r hs
    have := (speaks_one hr.1 (by omega) c).1 h3
    exact ⟨near_in hf ho hs this.1 this.2, h2, h3⟩
theorem near_cls {l s : List Rec} (hl : (check6 l).2 = 0) (ho : Ordered 2 s) (hm : ∀ r, r ∈ s ↔ r ∈ l ∧ fam r.kind = 2) (c : Int) : cls (near s c) c = cls l c := by
  unfold cls
  rw [near_hit (.inl rfl) hl ho hm]
theorem near_opn {l s : List Rec} (hl : (check6 l).2 = 0) (ho : Ordered 3 s) (hm : ∀ r, r ∈ s ↔ r ∈ l ∧ fam r.kind = 3) (c : Int) : opn (near s c) c = opn l c := by
  unfold opn
  rw [near_hit (.inr rfl) hl ho hm]
theorem near_prim {l s : List Rec} (hl : (check6 l).2 = 0) (ho : Ordered 3 s) (hm : ∀ r, r ∈ s ↔ r ∈ l ∧ fam r.kind = 3) (c : Int) : prim (near s c) c = prim l c := by
  unfold prim
  rw [near_opn hl ho hm, near_hit (.inr rfl) hl ho hm]
end Go.Proofs.YtloocceakfmnoaaGreatDoor.Cn
