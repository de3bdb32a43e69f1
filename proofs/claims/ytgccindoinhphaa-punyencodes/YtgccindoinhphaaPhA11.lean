/- Punycode's numbers, written and read, plainly. -/
import Derived.Test.YtgccindoinhphaaPwF11
namespace Go.Proofs.Ytgccindoinhphaa
namespace Pu

def capw (W : Int) : Int := if 2147483648 < W then 2147483648 else W
theorem dig_let1 {c : Int} (h0 : 0 ≤ c) (h1 : c ≤ 35) : dig (let1 c) = c := by unfold dig let1; split <;> split <;> (try split) <;> (try split) <;> omega
theorem capw_mul {W u : Int} (hu : 10 ≤ u) : (if 2147483648 < capw W * u then 2147483648 else capw W * u) = capw (W * u) := by
  unfold capw
  by_cases h : 2147483648 < W
  · have h2 : 2147483648 < W * u := by
      calc 2147483648 < W := h
        _ = W * 1 := by omega
        _ ≤ W * u := Int.mul_le_mul_of_nonneg_left (by omega) (by omega)
    rw [if_pos h, if_pos h2, if_pos (by omega)]
  · rw [if_neg h]

theorem rdN_ge (bias : Int) (zs : List Int) (k v w : Int) (hw : 0 ≤ w) (hv : 0 ≤ v) : (rdN bias zs k v w).1 = 0 → v ≤ (rdN bias zs k v w).2.1 := by
  induction zs generalizing k v w with
  | nil => intro h; simp [rdN] at h
  | cons z r ih =>
    intro h
    rw [rdN] at h ⊢
    by_cases h1 : dig z < 0
    · rw [if_pos h1] at h; simp at h
    · rw [if_neg h1] at h ⊢
      have hm : 0 ≤ dig z * w := Int.mul_nonneg (by omega) hw
      by_cases h2 : dig z < thr k bias
      · rw [if_pos h2]; show v ≤ v + dig z * w; omega
      · rw [if_neg h2] at h ⊢
        have ht := thr_bounds k bias
        have hw2 : 0 ≤ w * (36 - thr k bias) := Int.mul_nonneg hw (by omega)
        have := ih (k + 1) (v + dig z * w) (if 2147483648 < w * (36 - thr k bias) then 2147483648 else w * (36 - thr k bias)) (by split <;> omega) (by omega) h
        omega

theorem rdN_wr (bias : Int) (rest : List Int) : ∀ (f : Nat) (k d v0 W : Int), 0 ≤ d → d ≤ f → 1 ≤ W → 0 ≤ v0 →
    ∃ v', rdN bias (wrN bias f k d ++ rest) k v0 (capw W) = (0, v', rest) ∧ v0 ≤ v' ∧ (v0 + d * W < 2147483648 → v' = v0 + d * W) ∧ (2147483648 ≤ v0 + d * W → 2147483648 ≤ v') := by
  intro f
  induction f with
  | zero =>
    intro k d v0 W hd hf hW hv
    have ht := thr_bounds k bias
    have h0 : d = 0 := by omega
    subst h0
    refine ⟨v0, ?_, Int.le_refl _, fun _ => by omega, fun h => by omega⟩
    rw [wrN_last (by omega)]
    show rdN bias (let1 0 :: rest) k v0 (capw W) = _
    rw [rdN_last (by rw [dig_let1 (by omega) (by omega)]; omega) (by rw [dig_let1 (by omega) (by omega)]; omega), dig_let1 (by omega) (by omega)]
    simp
  | succ f ih =>
    intro k d v0 W hd hf hW hv
    have ht := thr_bounds k bias
    have hcW : 1 ≤ capw W := by unfold capw; split <;> omega
    by_cases hlt : d < thr k bias
    · refine ⟨v0 + d * capw W, ?_, ?_, ?_, ?_⟩
      · rw [wrN_last hlt]
        show rdN bias (let1 d :: rest) k v0 (capw W) = _
        rw [rdN_last (by rw [dig_let1 hd (by omega)]; omega) (by rw [dig_let1 hd (by omega)]; exact hlt), dig_let1 hd (by omega)]
      · have := Int.mul_nonneg hd (show 0 ≤ capw W by omega); omega
      · intro h
        unfold capw
        by_cases hb : 2147483648 < W
        · have h0 : d = 0 := by
            by_cases hd1 : 1 ≤ d
            · have : W ≤ d * W := by
                calc W = 1 * W := by omega
                  _ ≤ d * W := Int.mul_le_mul_of_nonneg_right hd1 (by omega)
              omega
            · omega
          subst h0; simp
        · rw [if_neg hb]
      · intro h
        unfold capw
        by_cases hb : 2147483648 < W
        · rw [if_pos hb]
          by_cases hd1 : 1 ≤ d
          · omega
          · have h0 : d = 0 := by omega
            subst h0
            simp at h ⊢
            exact h
        · rw [if_neg hb]; exact h
    · have hm0 : 0 ≤ (d - thr k bias) % (36 - thr k bias) := Int.emod_nonneg _ (by omega)
      have hm1 : (d - thr k bias) % (36 - thr k bias) < 36 - thr k bias := Int.emod_lt_of_pos _ (by omega)
      have hq0 : 0 ≤ (d - thr k bias) / (36 - thr k bias) := Int.ediv_nonneg (by omega) (by omega)
      have hq1 : (d - thr k bias) / (36 - thr k bias) ≤ d - thr k bias := Int.ediv_le_self _ (by omega)
      have hdm := Int.mul_ediv_add_emod (d - thr k bias) (36 - thr k bias)
      have hW2 : 1 ≤ W * (36 - thr k bias) := by
        calc 1 ≤ W := hW
          _ = W * 1 := by omega
          _ ≤ W * (36 - thr k bias) := Int.mul_le_mul_of_nonneg_left (by omega) (by omega)
      generalize hc : thr k bias + (d - thr k bias) % (36 - thr k bias) = c at *
      generalize hqe : (d - thr k bias) / (36 - thr k bias) = q at *
      have hcd : d = c + (36 - thr k bias) * q := by omega
      have hcv : 0 ≤ c * capw W := Int.mul_nonneg (by omega) (by omega)
      obtain ⟨v', h1, h2, h3, h4⟩ := ih (k + 1) q (v0 + c * capw W) (W * (36 - thr k bias)) hq0 (by omega) hW2 (by omega)
      have hdW : d * W = c * W + q * (W * (36 - thr k bias)) := by
        rw [hcd, Int.add_mul, Int.mul_comm (36 - thr k bias) q, Int.mul_assoc, Int.mul_comm (36 - thr k bias) W]
      have hqW : 0 ≤ q * (W * (36 - thr k bias)) := Int.mul_nonneg hq0 (by omega)
      refine ⟨v', ?_, by omega, ?_, ?_⟩
      · rw [wrN_more hlt, hc, hqe]
        show rdN bias (let1 c :: (wrN bias f (k + 1) _ ++ rest)) k v0 (capw W) = _
        rw [rdN_more (by rw [dig_let1 (by omega) (by omega)]; omega) (by rw [dig_let1 (by omega) (by omega)]; omega), dig_let1 (by omega) (by omega), capw_mul (by omega)]
        exact h1
      · intro h
        by_cases hb : 2147483648 < W
        · have : W ≤ c * W := by
            calc W = 1 * W := by omega
              _ ≤ c * W := Int.mul_le_mul_of_nonneg_right (by omega) (by omega)
          omega
        · have hcw : capw W = W := by unfold capw; rw [if_neg hb]
          rw [hcw] at h3
          rw [h3 (by omega)]; omega
      · intro h
        by_cases hb : 2147483648 < W
        · have hcw : capw W = 2147483648 := by unfold capw; rw [if_pos hb]
          rw [hcw] at h2
          omega
        · have hcw : capw W = W := by unfold capw; rw [if_neg hb]
          rw [hcw] at h4
          exact h4 (by omega)

theorem rdN_num {d bias : Int} (rest : List Int) (h0 : 0 ≤ d) : ∃ v', rdN bias (wrNum d bias ++ rest) 1 0 1 = (0, v', rest) ∧ (d < 2147483648 → v' = d) ∧ (2147483648 ≤ d → 2147483648 ≤ v') := by
  obtain ⟨v', h1, _, h3, h4⟩ := rdN_wr bias rest d.toNat 1 d 0 1 h0 (by omega) (by omega) (by omega)
  exact ⟨v', h1, fun h => by rw [h3 (by omega)]; omega, fun h => h4 (by omega)⟩

theorem wrN_ne (bias : Int) : ∀ (f : Nat) (k v : Int), wrN bias f k v ≠ [] := by
  intro f k v
  cases f with
  | zero => simp [wrN]
  | succ f => rw [wrN]; split <;> simp
theorem wrNum_ne (d bias : Int) : wrNum d bias ≠ [] := wrN_ne _ _ _ _
theorem wrN_bytes (bias : Int) : ∀ (f : Nat) (k v : Int), 0 ≤ v → v ≤ f → ∀ z ∈ wrN bias f k v, 48 ≤ z ∧ z ≤ 122 := by
  intro f
  induction f with
  | zero =>
    intro k v h0 h1 z hz
    simp [wrN] at hz
    subst hz
    exact let1_bounds h0 (by omega)
  | succ f ih =>
    intro k v h0 h1 z hz
    have ht := thr_bounds k bias
    by_cases hlt : v < thr k bias
    · rw [wrN_last hlt] at hz
      simp at hz
      subst hz
      exact let1_bounds h0 (by omega)
    · rw [wrN_more hlt] at hz
      have hm0 : 0 ≤ (v - thr k bias) % (36 - thr k bias) := Int.emod_nonneg _ (by omega)
      have hm1 : (v - thr k bias) % (36 - thr k bias) < 36 - thr k bias := Int.emod_lt_of_pos _ (by omega)
      have hq0 : 0 ≤ (v - thr k bias) / (36 - thr k bias) := Int.ediv_nonneg (by omega) (by omega)
      have hq1 : (v - thr k bias) / (36 - thr k bias) ≤ v - thr k bias := Int.ediv_le_self _ (by omega)
      rcases List.mem_cons.1 hz with h | h
      · subst h; exact let1_bounds (by omega) (by omega)
      · exact ih _ _ hq0 (by omega) z h
theorem wrNum_bytes {d bias : Int} (h : 0 ≤ d) : ∀ z ∈ wrNum d bias, 48 ≤ z ∧ z ≤ 122 := wrN_bytes bias _ _ _ h (by omega)

theorem rdW_step {d : Int} {s : St} (rest : List Int) (h0 : 0 ≤ d) (h1 : d ≤ 2147483647) (hok : Utf.okc (stepN s d)) : rdW (wrNum d s.bias ++ rest) s = rdW rest (step s d) := by
  obtain ⟨v', h2, h3, _⟩ := rdN_num (bias := s.bias) rest h0
  rw [rdW_num (by simp [wrNum_ne]), h2, h3 (by omega)]
  exact after_ok (by omega) hok
theorem rdW_bad {d : Int} {s : St} (rest : List Int) (h0 : 0 ≤ d) (h1 : d ≤ 2147483647) (hok : ¬ Utf.okc (stepN s d)) : rdW (wrNum d s.bias ++ rest) s = ([], 31) := by
  obtain ⟨v', h2, h3, _⟩ := rdN_num (bias := s.bias) rest h0
  rw [rdW_num (by simp [wrNum_ne]), h2, h3 (by omega)]
  exact after_bad (by omega) hok
theorem rdW_over {d : Int} {s : St} (rest : List Int) (h0 : 0 ≤ d) (h1 : 2147483647 < d) : rdW (wrNum d s.bias ++ rest) s = ([], 113) := by
  obtain ⟨v', h2, _, h4⟩ := rdN_num (bias := s.bias) rest h0
  rw [rdW_num (by simp [wrNum_ne]), h2]
  exact after_over (by have := h4 (by omega); omega)

def hy (ws : List Int) : List Int := if ws.length = 0 then [] else [45]
theorem decode_hands {ws body : List Int} (h1 : ∀ z ∈ ws, 0 ≤ z ∧ z < 128) (h2 : ∀ z ∈ body, 48 ≤ z ∧ z ≤ 122) (hl : ws.length + 1 + body.length ≤ 65536) : decode (ws ++ hy ws ++ body) = rdW body (begin ws) := by
  have hb : basicB (ws ++ hy ws ++ body) = true := by
    unfold basicB
    rw [List.all_eq_true]
    intro z hz
    simp only [List.mem_append] at hz
    rcases hz with (hz | hz) | hz
    · have := h1 z hz; simpa using this.2
    · unfold hy at hz
      split at hz
      · simp at hz
      · simp at hz; subst hz; rfl
    · have := h2 z hz; simp; omega
  have hbn : ∀ j, j < body.length → body.getD j 0 ≠ 45 := fun j hj => by
    have := h2 (body.getD j 0) (by rw [List.getD, List.getElem?_eq_getElem hj]; exact List.getElem_mem hj)
    omega
  rw [decode_eq, if_neg (by unfold hy; split <;> simp <;> omega), if_neg (by rw [hb]; simp)]
  rcases Nat.eq_zero_or_pos ws.length with h0 | h0
  · have hw : ws = [] := List.eq_nil_of_length_eq_zero h0
    subst hw
    have hz : ([] : List Int) ++ hy [] ++ body = body := rfl
    have hla : lastH body 0 0 = 0 := lastH_none hbn 0 0
    rw [hz]
    unfold tail
    rw [hla, if_pos rfl]; rfl
  · have hh : hy ws = [45] := by unfold hy; rw [if_neg (by omega)]
    rw [hh]
    have hla : lastH (ws ++ [45] ++ body) 0 0 = ws.length := by
      rw [lastH_at (i := ws.length) (by simp) (by simp [List.getD]) (fun j h3 h4 => ?_)]
      · omega
      · simp at h4
        have hj : (ws ++ [45] ++ body).getD j 0 = body.getD (j - (ws.length + 1)) 0 := by
          simp only [List.getD]
          rw [List.append_assoc, List.getElem?_append_right (by omega), List.getElem?_append_right (by simp; omega)]
          simp [Nat.sub_sub]
        rw [hj]
        exact hbn _ (by omega)
    unfold tail
    rw [hla, if_neg (by omega)]
    have e1 : (ws ++ [45] ++ body).drop (ws.length + 1) = body := by
      rw [List.drop_append, List.drop_eq_nil_of_le (by simp)]
      simp
    have e2 : (ws ++ [45] ++ body).take ws.length = ws := by
      rw [List.append_assoc, List.take_append_of_le_length (Nat.le_refl _), List.take_length]
    rw [e1, e2]
end Pu
end Go.Proofs.Ytgccindoinhphaa
