/- A text of small letters is what is written of its numbers, plainly. -/
import Derived.Test.YtgccindoinhphaaPfC11
namespace Go.Proofs.Ytgccindoinhphaa
open Go.RowKit

namespace Pu
def smallB (z : Int) : Prop := ¬ (65 ≤ z ∧ z ≤ 90)
theorem let1_dig {z : Int} (h : smallB z) (h0 : ¬ dig z < 0) : let1 (dig z) = z := by
  unfold smallB at h
  rcases dig_cases z with ⟨h1, h2⟩ | ⟨h1, h2⟩ | ⟨h1, h2⟩ | h1
  · rw [h2]; unfold let1; rw [if_pos (by omega)]; omega
  · omega
  · rw [h2]; unfold let1; rw [if_neg (by omega)]; omega
  · exfalso; apply h0; unfold dig; rw [if_neg (by omega), if_neg (by omega), if_neg (by omega)]; omega
theorem rdN_text (bias : Int) : ∀ (zs : List Int) (k v W v' : Int) (rest : List Int), (∀ z ∈ zs, smallB z) → 1 ≤ W → 0 ≤ v → rdN bias zs k v (capw W) = (0, v', rest) → v' ≤ 2147483647 →
    ∃ d, 0 ≤ d ∧ v' = v + d * W ∧ ∀ f : Nat, d ≤ f → zs = wrN bias f k d ++ rest := by
  intro zs
  induction zs with
  | nil => intro k v W v' rest _ _ _ h _; simp [rdN] at h
  | cons z r ih =>
    intro k v W v' rest hs hW hv h hle
    have hz := hs z (by simp)
    have ht := thr_bounds k bias
    have hdl := dig_le z
    have hcW : 1 ≤ capw W ∧ (capw W = W ∨ capw W = 2147483648) := by unfold capw; split <;> omega
    have hge := rdN_ge bias (z :: r) k v (capw W) (by omega) hv (by rw [h])
    rw [rdN] at h
    by_cases h1 : dig z < 0
    · rw [if_pos h1] at h; simp at h
    · rw [if_neg h1] at h
      by_cases h2 : dig z < thr k bias
      · rw [if_pos h2] at h
        simp only [Prod.mk.injEq, true_and] at h
        obtain ⟨h3, rfl⟩ := h
        refine ⟨dig z, by omega, ?_, fun f hf => ?_⟩
        · rcases hcW.2 with hc | hc
          · rw [← h3, hc]
          · rw [hc] at h3
            have h0 : dig z = 0 := by omega
            rw [← h3, h0]; omega
        · rw [wrN_last h2, let1_dig hz h1]; rfl
      · rw [if_neg h2, capw_mul (by omega)] at h
        have hd1 : 1 ≤ dig z := by omega
        have hge2 := rdN_ge bias r (k + 1) (v + dig z * capw W) (capw (W * (36 - thr k bias))) (by unfold capw; have := Int.mul_nonneg (show 0 ≤ W by omega) (show 0 ≤ 36 - thr k bias by omega); split <;> omega) (by have := Int.mul_nonneg (show 0 ≤ dig z by omega) (show 0 ≤ capw W by omega); omega) (by rw [h])
        rw [h] at hge2
        have hge3 : v + dig z * capw W ≤ v' := hge2
        have hcc : capw W = W := by
          rcases hcW.2 with hc | hc
          · exact hc
          · rw [hc] at hge3; omega
        rw [hcc] at h hge3
        have hW2 : 1 ≤ W * (36 - thr k bias) := by
          have := Int.mul_le_mul_of_nonneg_left (show (1 : Int) ≤ 36 - thr k bias by omega) (show 0 ≤ W by omega); omega
        have hv2 : 0 ≤ v + dig z * W := by have := Int.mul_nonneg (show 0 ≤ dig z by omega) (show 0 ≤ W by omega); omega
        obtain ⟨d, k1, k2, k3⟩ := ih (k + 1) (v + dig z * W) (W * (36 - thr k bias)) v' rest (fun y hy => hs y (by simp [hy])) hW2 hv2 h hle
        have hdm : 0 ≤ d * (36 - thr k bias) := Int.mul_nonneg k1 (by omega)
        have hdm2 : d ≤ d * (36 - thr k bias) := by have := Int.mul_le_mul_of_nonneg_left (show (1 : Int) ≤ 36 - thr k bias by omega) k1; omega
        refine ⟨dig z + d * (36 - thr k bias), by omega, ?_, fun f hf => ?_⟩
        · rw [k2, Int.add_mul, Int.mul_assoc d, Int.mul_comm (36 - thr k bias) W]; omega
        · obtain ⟨f', rfl⟩ : ∃ f', f = f' + 1 := ⟨f - 1, by omega⟩
          have hq : (dig z + d * (36 - thr k bias) - thr k bias) / (36 - thr k bias) = d := by
            rw [show dig z + d * (36 - thr k bias) - thr k bias = (dig z - thr k bias) + d * (36 - thr k bias) by omega, Int.add_mul_ediv_right _ _ (by omega), Int.ediv_eq_zero_of_lt (by omega) (by omega)]; omega
          have hm : (dig z + d * (36 - thr k bias) - thr k bias) % (36 - thr k bias) = dig z - thr k bias := by
            rw [show dig z + d * (36 - thr k bias) - thr k bias = (dig z - thr k bias) + d * (36 - thr k bias) by omega, Int.add_mul_emod_self_right, Int.emod_eq_of_lt (by omega) (by omega)]
          rw [wrN_more (by omega), hq, hm, show thr k bias + (dig z - thr k bias) = dig z by omega, let1_dig hz h1, List.cons_append, ← k3 f' (by omega)]
theorem rdN_small {bias v : Int} {zs rest : List Int} (hs : ∀ z ∈ zs, smallB z) (h : rdN bias zs 1 0 1 = (0, v, rest)) (hle : v ≤ 2147483647) : 0 ≤ v ∧ zs = wrNum v bias ++ rest := by
  obtain ⟨d, h1, h2, h3⟩ := rdN_text bias zs 1 0 1 v rest hs (by omega) (by omega) h hle
  have : d = v := by omega
  subst this
  exact ⟨h1, h3 _ (by omega)⟩

theorem cnt_find {q : Nat → Bool} : ∀ {n P : Nat}, P < cnt q n → ∃ c, c < n ∧ q c = true ∧ cnt q c = P := by
  intro n
  induction n with
  | zero => intro P h; rw [cnt_zero] at h; omega
  | succ n ih =>
    intro P h
    rw [cnt_succ] at h
    by_cases hp : P < cnt q n
    · obtain ⟨c, h1, h2, h3⟩ := ih hp
      exact ⟨c, by omega, h2, h3⟩
    · cases hq : q n with
      | false => rw [hq] at h; simp at h; omega
      | true => rw [hq, if_pos rfl] at h; exact ⟨n, by omega, hq, by omega⟩
theorem ins_inj {A B : List Int} {P : Nat} {a b : Int} (hA : P ≤ A.length) (hB : P ≤ B.length) (h : ins A P a = ins B P b) : A = B ∧ a = b := by
  unfold ins at h
  have := List.append_inj h (by rw [List.length_take, List.length_take]; omega)
  obtain ⟨h1, h2⟩ := this
  simp only [List.cons.injEq] at h2
  exact ⟨by rw [← List.take_append_drop P A, ← List.take_append_drop P B, h1, h2.2], h2.1⟩

/-- What a text that is read tells of the order in which its points come. -/
structure Tr (X : List Int) (body : List Int) (st : St) (q : Nat → Bool) (r : List Nat) : Prop where
  sel : sel X q X.length = st.xs
  nx : ∀ c ∈ r, c < X.length ∧ q c = false ∧ st.n ≤ X.getD c 0 ∧ (X.getD c 0 = st.n → st.i ≤ (cnt q c : Int)) ∧ Utf.okc (X.getD c 0)
  ord : r.Pairwise (lx X)
  all : ∀ k, k < X.length → q k = true ∨ k ∈ r
  wr : ∀ T out, Fen q T → T.length = X.length + 1 → wr2 X r T (st.xs.length : Int) st.n st.i st.bias st.first out = (out ++ body, 0)

theorem trace {X : List Int} (hl : X.length ≤ 2000) : ∀ (m : Nat) (body : List Int) (st : St), body.length ≤ m → (∀ z ∈ body, smallB z) → 0 ≤ st.n → 0 ≤ st.i → st.i ≤ st.xs.length → rdW body st = (X, 0) → ∃ q r, Tr X body st q r := by
  intro m
  induction m with
  | zero =>
    intro body st hm _ _ _ _ h
    have hb : body = [] := List.eq_nil_of_length_eq_zero (by omega)
    subst hb
    rw [rdW_nil] at h
    simp only [Prod.mk.injEq, and_true] at h
    refine ⟨fun _ => true, [], by rw [sel_all fun _ _ => rfl, h], fun c hc => (by cases hc), List.Pairwise.nil, fun _ _ => .inl rfl, fun T out _ _ => by rw [wr2, List.append_nil]⟩
  | succ m ih =>
    intro body st hm hs hn hi0 hi1 h
    by_cases hb : body = []
    · subst hb
      rw [rdW_nil] at h
      simp only [Prod.mk.injEq, and_true] at h
      refine ⟨fun _ => true, [], by rw [sel_all fun _ _ => rfl, h], fun c hc => (by cases hc), List.Pairwise.nil, fun _ _ => .inl rfl, fun T out _ _ => by rw [wr2, List.append_nil]⟩
    · rw [rdW_num hb] at h
      obtain ⟨e, d, rest, hr⟩ : ∃ e d rest, rdN st.bias body 1 0 1 = (e, d, rest) := ⟨_, _, _, rfl⟩
      rw [hr] at h
      by_cases he : e = 0
      · subst he
        by_cases hd : 2147483647 < d
        · rw [after_over hd] at h; simp at h
        · by_cases hok : Utf.okc (stepN st d)
          · rw [after_ok hd hok] at h
            obtain ⟨hd0, hbody⟩ := rdN_small hs hr (by omega)
            have hrl := rdN_len st.bias body 1 0 1 (by rw [hr])
            rw [hr] at hrl
            have hrl2 : rest.length < body.length := hrl
            have hp0 : (0 : Int) < (st.xs.length : Int) + 1 := by omega
            have hP0 : 0 ≤ stepP st d := Int.emod_nonneg _ (by omega)
            have hP1 : stepP st d < (st.xs.length : Int) + 1 := Int.emod_lt_of_pos _ hp0
            have hN0 : 0 ≤ (st.i + d) / ((st.xs.length : Int) + 1) := Int.ediv_nonneg (by omega) (by omega)
            have hNn : stepN st d = st.n + (st.i + d) / ((st.xs.length : Int) + 1) := rfl
            have hmd : ((st.xs.length : Int) + 1) * ((st.i + d) / ((st.xs.length : Int) + 1)) + stepP st d = st.i + d := Int.mul_ediv_add_emod _ _
            obtain ⟨q', r', t⟩ := ih rest (step st d) (by omega) (fun z hz => hs z (by rw [hbody]; simp [hz])) (by show 0 ≤ stepN st d; omega) (by show 0 ≤ stepP st d + 1; omega) (by show stepP st d + 1 ≤ ((ins st.xs (stepP st d).toNat (stepN st d)).length : Int); rw [ins_len]; omega) h
            obtain ⟨P, hP⟩ : ∃ P : Nat, stepP st d = (P : Int) := ⟨(stepP st d).toNat, by omega⟩
            have tsel : sel X q' X.length = ins st.xs P (stepN st d) := by
              have := t.sel
              rw [this]; show ins st.xs (stepP st d).toNat (stepN st d) = _
              rw [hP, Int.toNat_natCast]
            have hcl : cnt q' X.length = st.xs.length + 1 := by rw [← sel_len X, tsel, ins_len]
            obtain ⟨c, c1, c2, c3⟩ := cnt_find (q := q') (n := X.length) (P := P) (by omega)
            have hqx : ∀ k, (q' k && !(k == c)) = (fun k => q' k && !(k == c)) k := fun _ => rfl
            obtain ⟨q, hq⟩ : ∃ q : Nat → Bool, q = fun k => q' k && !(k == c) := ⟨_, rfl⟩
            have hqc : q c = false := by rw [hq]; simp
            have hqn : ∀ k, k ≠ c → q k = q' k := fun k hk => by rw [hq]; simp [hk]
            have hadd : ∀ k, addp q c k = q' k := fun k => by
              unfold addp
              by_cases hk : k = c
              · subst hk; simp [c2]
              · have : (k == c) = false := by simpa using hk
                rw [this, Bool.false_or, hqn k hk]
            have hcq : cnt q c = P := by rw [← c3]; exact cnt_congr (n := c) (fun k hk => hqn k (by omega)) (Nat.le_refl _)
            have hcnt : ∀ b, cnt q' b = cnt q b + if c < b then 1 else 0 := fun b => by rw [← cnt_addp hqc]; exact cnt_congr (n := b) (fun k _ => (hadd k).symm) (Nat.le_refl _)
            have hins := ins_sel (xs := X) hqc X.length c1
            rw [hcq, sel_congr (fun k _ => hadd k), tsel] at hins
            have hql : cnt q X.length = st.xs.length := by have := hcnt X.length; rw [if_pos c1] at this; omega
            obtain ⟨hsel, hXc⟩ := ins_inj (by rw [sel_len, hql]; omega) (by omega) hins
            clear hqx hq
            have hzero : stepN st d = st.n → (P : Int) = st.i + d := fun h0 => by
              have hz : (st.i + d) / ((st.xs.length : Int) + 1) = 0 := by omega
              rw [hz, Int.mul_zero, hP] at hmd; omega
            have hbeh : ∀ c' ∈ r', X.getD c' 0 = stepN st d → c < c' ∧ (P : Int) ≤ (cnt q c' : Int) := fun c' hc' he => by
              have h5 : stepP st d + 1 ≤ (cnt q' c' : Int) := (t.nx c' hc').2.2.2.1 he
              have hlt : c < c' := by
                rcases Nat.lt_or_ge c c' with h6 | h6
                · exact h6
                · have := cnt_mono (p := q') h6; omega
              have := hcnt c'
              rw [if_pos hlt] at this
              exact ⟨hlt, by omega⟩
            refine ⟨q, c :: r', hsel, fun c' hc' => ?_, List.pairwise_cons.2 ⟨fun c' hc' => ?_, t.ord⟩, fun k hk => ?_, fun T out hF hT => ?_⟩
            · rcases List.mem_cons.1 hc' with hc' | hc'
              · subst hc'
                refine ⟨c1, hqc, by rw [hXc]; omega, fun h0 => ?_, by rw [hXc]; exact hok⟩
                rw [hXc] at h0
                have := hzero h0
                rw [hcq]; omega
              · obtain ⟨k1, k2, k3, k4, k5⟩ := t.nx c' hc'
                have k3' : stepN st d ≤ X.getD c' 0 := k3
                have hne : c' ≠ c := fun e => by rw [e, c2] at k2; cases k2
                refine ⟨k1, by rw [hqn c' hne]; exact k2, by omega, fun h0 => ?_, k5⟩
                have h7 : stepN st d = st.n := by omega
                have h8 := hbeh c' hc' (by omega)
                have := hzero h7
                omega
            · have k3 : stepN st d ≤ X.getD c' 0 := (t.nx c' hc').2.2.1
              unfold lx
              rw [hXc]
              by_cases h0 : X.getD c' 0 = stepN st d
              · exact .inr ⟨h0.symm, (hbeh c' hc' h0).1⟩
              · exact .inl (by omega)
            · rcases t.all k hk with h0 | h0
              · by_cases hkc : k = c
                · exact .inr (by simp [hkc])
                · exact .inl (by rw [hqn k hkc]; exact h0)
              · exact .inr (List.mem_cons_of_mem _ h0)
            · have hah : ahead T c = (P : Int) := by rw [ahead_fen hF (by omega) (by omega), hcq]
              have hdl : dlt X c T (st.xs.length : Int) st.n st.i = d := by
                unfold dlt
                rw [hah, hXc, hNn, show st.n + (st.i + d) / ((st.xs.length : Int) + 1) - st.n = (st.i + d) / ((st.xs.length : Int) + 1) by omega, Int.mul_comm]
                rw [hP] at hmd
                generalize ((st.xs.length : Int) + 1) * ((st.i + d) / ((st.xs.length : Int) + 1)) = y at *
                omega
              have hw := t.wr (add T c) (out ++ wrNum d st.bias) (fen_congr (fun k _ => hadd k) (add_fen hF (by omega) hqc)) (by rw [add_len]; exact hT)
              rw [wr2_step (by rw [hdl]; exact hd), hdl]
              have hlen : (((step st d).xs.length : Nat) : Int) = (st.xs.length : Int) + 1 := by
                show ((ins st.xs (stepP st d).toNat (stepN st d)).length : Int) = _
                rw [ins_len]; omega
              rw [hlen] at hw
              refine Eq.trans hw ?_
              rw [hbody, List.append_assoc]
          · rw [after_bad hd hok] at h; simp at h
      · rw [after_err he] at h
        simp only [Prod.mk.injEq] at h
        exact absurd h.2 he
end Pu
end Go.Proofs.Ytgccindoinhphaa
