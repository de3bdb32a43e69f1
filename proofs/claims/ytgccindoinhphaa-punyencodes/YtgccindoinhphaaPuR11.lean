/- Numbers read one by one, plainly: how one goes on. -/
import Derived.Test.YtgccindoinhphaaPu11
import Derived.Test.YtgccindoinhphaaPost
namespace Go.Proofs.Ytgccindoinhphaa
namespace Pu

theorem rdN_len (bias : Int) (zs : List Int) (k v w : Int) : (rdN bias zs k v w).1 = 0 → (rdN bias zs k v w).2.2.length < zs.length := by
  induction zs generalizing k v w with
  | nil => intro h; simp [rdN] at h
  | cons z r ih =>
    intro h
    rw [rdN] at h ⊢
    split
    · rename_i h1
      rw [if_pos h1] at h; simp at h
    · rename_i h1
      rw [if_neg h1] at h
      split
      · simp
      · rename_i h2
        rw [if_neg h2] at h
        have := ih _ _ _ h
        simp only [List.length_cons]; omega

theorem rdAll_fuel (f g : Nat) (zs : List Int) (s : St) (hf : zs.length ≤ f) (hg : zs.length ≤ g) : rdAll f zs s = rdAll g zs s := by
  induction f generalizing g zs s with
  | zero =>
    have h0 : zs = [] := List.eq_nil_of_length_eq_zero (by omega)
    subst h0
    cases g with
    | zero => rfl
    | succ g => rfl
  | succ f ih =>
    cases g with
    | zero =>
      have h0 : zs = [] := List.eq_nil_of_length_eq_zero (by omega)
      subst h0
      rfl
    | succ g =>
      rw [rdAll, rdAll]
      by_cases h0 : zs = []
      · rw [if_pos h0, if_pos h0]
      · rw [if_neg h0, if_neg h0]
        by_cases h1 : (rdN s.bias zs 1 0 1).1 ≠ 0
        · rw [if_pos h1, if_pos h1]
        · rw [if_neg h1, if_neg h1]
          have hl := rdN_len s.bias zs 1 0 1 (by simpa using h1)
          rw [ih g _ _ (by omega) (by omega)]

/-- All numbers of a text. -/
def rdW (zs : List Int) (s : St) : List Int × Int := rdAll zs.length zs s
/-- What comes behind one number. -/
def after (s : St) (q : Int × Int × List Int) : List Int × Int :=
  if q.1 ≠ 0 then ([], q.1) else if 2147483647 < q.2.1 then ([], 113) else if ¬ Utf.okc (stepN s q.2.1) then ([], 31) else rdW q.2.2 (step s q.2.1)

theorem rdW_nil (s : St) : rdW [] s = (s.xs, 0) := rfl
theorem rdW_num {zs : List Int} (h : zs ≠ []) (s : St) : rdW zs s = after s (rdN s.bias zs 1 0 1) := by
  unfold rdW after
  cases hl : zs.length with
  | zero => exact absurd (List.eq_nil_of_length_eq_zero hl) h
  | succ f =>
    rw [rdAll, if_neg h]
    by_cases h1 : (rdN s.bias zs 1 0 1).1 ≠ 0
    · rw [if_pos h1, if_pos h1]
    · rw [if_neg h1, if_neg h1]
      have hl2 := rdN_len s.bias zs 1 0 1 (by simpa using h1)
      by_cases h2 : 2147483647 < (rdN s.bias zs 1 0 1).2.1
      · rw [if_pos h2, if_pos h2]
      · rw [if_neg h2, if_neg h2]
        by_cases h3 : ¬ Utf.okc (stepN s (rdN s.bias zs 1 0 1).2.1)
        · rw [if_pos h3, if_pos h3]
        · rw [if_neg h3, if_neg h3]
          exact rdAll_fuel _ _ _ _ (by omega) (Nat.le_refl _)
theorem decode_eq (zs : List Int) : decode zs = if 65536 < zs.length then ([], 2) else if basicB zs = false then ([], 111) else rdW (tail zs) (begin (zs.take (lastH zs 0 0))) := by
  unfold decode
  split
  · rfl
  · split
    · rfl
    · refine rdAll_fuel _ _ _ _ ?_ (Nat.le_refl _)
      unfold tail
      split
      · exact Nat.le_refl _
      · rw [List.length_drop]; omega

theorem after_err {s : St} {e : Int} {v : Int} {r : List Int} (h : e ≠ 0) : after s (e, v, r) = ([], e) := by unfold after; rw [if_pos h]
theorem after_over {s : St} {v : Int} {r : List Int} (h : 2147483647 < v) : after s (0, v, r) = ([], 113) := by unfold after; rw [if_neg (by simp), if_pos h]
theorem after_bad {s : St} {v : Int} {r : List Int} (h : ¬ 2147483647 < v) (h2 : ¬ Utf.okc (stepN s v)) : after s (0, v, r) = ([], 31) := by unfold after; rw [if_neg (by simp), if_neg h, if_pos h2]
theorem after_ok {s : St} {v : Int} {r : List Int} (h : ¬ 2147483647 < v) (h2 : Utf.okc (stepN s v)) : after s (0, v, r) = rdW r (step s v) := by unfold after; rw [if_neg (by simp), if_neg h, if_neg (not_not_intro h2)]

theorem rdN_end (bias k v w : Int) : rdN bias [] k v w = (112, 0, []) := rfl
theorem rdN_bad {bias z k v w : Int} {r : List Int} (h : dig z < 0) : rdN bias (z :: r) k v w = (110, 0, []) := by rw [rdN, if_pos h]
theorem rdN_last {bias z k v w : Int} {r : List Int} (h : ¬ dig z < 0) (h2 : dig z < thr k bias) : rdN bias (z :: r) k v w = (0, v + dig z * w, r) := by rw [rdN, if_neg h, if_pos h2]
theorem rdN_more {bias z k v w : Int} {r : List Int} (h : ¬ dig z < 0) (h2 : ¬ dig z < thr k bias) : rdN bias (z :: r) k v w =
    rdN bias r (k + 1) (v + dig z * w) (if 2147483648 < w * (36 - thr k bias) then 2147483648 else w * (36 - thr k bias)) := by rw [rdN, if_neg h, if_neg h2]
end Pu
end Go.Proofs.Ytgccindoinhphaa
