/- The ranges that a trie tells, as a plain function: code point by code point. -/
import Derived.Test.YtehdeipeehaejaaTrA4
namespace Go.Proofs.Ytehdeipeehaejaa.Tri

theorem val_last {b : Int} {em : List Rg} {x : Rg} (h : Val b (em ++ [x])) : b ≤ lo x ∧ lo x ≤ hi x ∧ hi x ≤ 1114111 ∧ 0 ≤ vl x ∧ vl x ≤ 65535 := by
  induction em generalizing b with
  | nil => exact ⟨h.1, h.2.1, h.2.2.1, h.2.2.2.1, h.2.2.2.2.1⟩
  | cons r em ih =>
    obtain ⟨h1, h2, h3, h4, h5, h6⟩ := h
    obtain ⟨i1, i2⟩ := ih h6
    exact ⟨by omega, i2⟩
theorem val_snoc {b : Int} {l : List Rg} {n v : Int} (h : Val b l) (ha : ∀ r ∈ l, hi r < n) (hb : b ≤ n) (hn : n ≤ 1114111) (h0 : 0 ≤ v) (h1 : v ≤ 65535) : Val b (l ++ [(n, n, v)]) := by
  induction l generalizing b with
  | nil => exact ⟨hb, Int.le_refl _, hn, h0, h1, trivial⟩
  | cons r l ih =>
    obtain ⟨a1, a2, a3, a4, a5, a6⟩ := h
    have := ha r (by simp)
    exact ⟨a1, a2, a3, a4, a5, ih a6 (fun q hq => ha q (List.mem_cons_of_mem _ hq)) (by omega)⟩
theorem val_longer {b : Int} {em : List Rg} {q : Rg} {n : Int} (h : Val b (em ++ [q])) (hq : hi q ≤ n) (hn : n ≤ 1114111) : Val b (em ++ [(lo q, n, vl q)]) := by
  induction em generalizing b with
  | nil => exact ⟨h.1, by have := h.2.1; simp only [lo_mk, hi_mk]; omega, hn, h.2.2.2.1, h.2.2.2.2.1, trivial⟩
  | cons r em ih =>
    obtain ⟨a1, a2, a3, a4, a5, a6⟩ := h
    exact ⟨a1, a2, a3, a4, a5, ih a6⟩
theorem nf_longer {d : Int} {em : List Rg} {q : Rg} {n : Int} (h : NF d (em ++ [q])) : NF d (em ++ [(lo q, n, vl q)]) := by
  induction em with
  | nil => exact h
  | cons r em ih =>
    have h' := ih (NF.tail h)
    cases em with
    | nil => exact ⟨h.1, h.2.1, h'⟩
    | cons s em => exact ⟨h.1, h.2.1, h'⟩
theorem nf_snoc {d : Int} {l : List Rg} {x : Rg} (h : NF d l) (hx : vl x ≠ d) (hl : ∀ em q, l = em ++ [q] → ¬ (vl q = vl x ∧ hi q + 1 = lo x)) : NF d (l ++ [x]) := by
  induction l with
  | nil => exact hx
  | cons r l ih =>
    have h' := ih (NF.tail h) (fun em q e => hl (r :: em) q (by rw [e]; rfl))
    cases l with
    | nil => exact ⟨h, hl [] r rfl, h'⟩
    | cons s l => exact ⟨h.1, h.2.1, h'⟩
theorem get_snoc {b d c : Int} {em : List Rg} {x : Rg} (h : Val b (em ++ [x])) : get d (em ++ [x]) c = if lo x ≤ c ∧ c ≤ hi x then vl x else get d em c := by
  induction em generalizing b with
  | nil => rfl
  | cons r em ih =>
    obtain ⟨h1, h2, h3, h4, h5, h6⟩ := h
    have hge := (val_last h6).1
    show get d (r :: (em ++ [x])) c = _
    rw [get_cons, get_cons, ih h6]
    by_cases hc : lo r ≤ c ∧ c ≤ hi r
    · rw [if_pos hc, if_neg (by omega), if_pos hc]
    · rw [if_neg hc, if_neg hc]

theorem get_snoc_mk {b d c x y v : Int} {em : List Rg} (h : Val b (em ++ [(x, y, v)])) : get d (em ++ [(x, y, v)]) c = if x ≤ c ∧ c ≤ y then v else get d em c := get_snoc h

/-- What is known behind the first n code points. -/
def Told (d : Int) (f : Int → Int) (n : Nat) (l : List Rg) : Prop := Val 0 l ∧ NF d l ∧ (∀ r ∈ l, hi r < n) ∧ l.length ≤ n ∧ ∀ c, get d l c = if 0 ≤ c ∧ c < n then f c else d
theorem Told.zero (d : Int) (f : Int → Int) : Told d f 0 [] := ⟨trivial, trivial, (fun r hr => by cases hr), by simp, fun c => by rw [if_neg (by omega)]; rfl⟩
theorem Told.same {d : Int} {f : Int → Int} {n : Nat} {l : List Rg} (h : Told d f n l) (hf : f n = d) : Told d f (n + 1) l := by
  obtain ⟨h1, h2, h3, h4, h5⟩ := h
  refine ⟨h1, h2, fun r hr => by have := h3 r hr; omega, by omega, fun c => ?_⟩
  rw [h5 c]
  by_cases hc : 0 ≤ c ∧ c < (n : Int)
  · rw [if_pos hc, if_pos (by omega)]
  · rw [if_neg hc]
    by_cases hn : c = n
    · rw [if_pos (by omega), hn, hf]
    · rw [if_neg (by omega)]
theorem Told.longer {d : Int} {f : Int → Int} {n : Nat} {em : List Rg} {q : Rg} (h : Told d f n (em ++ [q])) (hn : n < 1114112) (hq : hi q = (n : Int) - 1) (hv : vl q = f n) : Told d f (n + 1) (em ++ [(lo q, (n : Int), vl q)]) := by
  obtain ⟨h1, h2, h3, h4, h5⟩ := h
  have hv1 := val_longer h1 (n := (n : Int)) (by omega) (by omega)
  obtain ⟨l1, l2, l3, _, _⟩ := val_last h1
  refine ⟨hv1, nf_longer h2, ?_, by simp at h4 ⊢; omega, fun c => ?_⟩
  · intro r hr
    rcases List.mem_append.1 hr with hr | hr
    · have := h3 r (List.mem_append_left _ hr); omega
    · simp only [List.mem_singleton] at hr; subst hr; simp only [hi_mk]; omega
  · have e1 := h5 c
    rw [get_snoc h1] at e1
    rw [get_snoc_mk hv1]
    by_cases hcn : c = n
    · rw [if_pos (by omega), if_pos (by omega), hv, hcn]
    · by_cases hcq : lo q ≤ c ∧ c ≤ hi q
      · rw [if_pos hcq, if_pos (by omega)] at e1
        rw [if_pos (by omega), if_pos (by omega), e1]
      · rw [if_neg hcq] at e1
        rw [if_neg (by omega), e1]
        by_cases hc : 0 ≤ c ∧ c < (n : Int)
        · rw [if_pos hc, if_pos (by omega)]
        · rw [if_neg hc, if_neg (by omega)]
theorem Told.more {d : Int} {f : Int → Int} {n : Nat} {l : List Rg} (h : Told d f n l) (hn : n < 1114112) (hr : 0 ≤ f n ∧ f n ≤ 65535) (hf : f n ≠ d) (hl : ∀ em q, l = em ++ [q] → ¬ (hi q = (n : Int) - 1 ∧ vl q = f n)) : Told d f (n + 1) (l ++ [((n : Int), (n : Int), f n)]) := by
  obtain ⟨h1, h2, h3, h4, h5⟩ := h
  have hv := val_snoc h1 (n := (n : Int)) (v := f n) h3 (by omega) (by omega) hr.1 hr.2
  refine ⟨hv, nf_snoc h2 hf (fun em q e hx => hl em q e ⟨by have := hx.2; simp only [lo_mk] at this; omega, hx.1⟩), ?_, by simp; omega, fun c => ?_⟩
  · intro r hr
    rcases List.mem_append.1 hr with hr | hr
    · have := h3 r hr; omega
    · simp only [List.mem_singleton] at hr; subst hr; simp only [hi_mk]; omega
  · rw [get_snoc_mk hv, h5 c]
    by_cases hcn : c = n
    · rw [if_pos (by omega), if_pos (by omega), hcn]
    · rw [if_neg (by omega)]
      by_cases hc : 0 ≤ c ∧ c < (n : Int)
      · rw [if_pos hc, if_pos (by omega)]
      · rw [if_neg hc, if_neg (by omega)]
theorem Told.end {d : Int} {rs l : List Rg} (hval : Val 0 rs) (h : Told d (get d rs) 1114112 l) : l = norm d rs := by
  obtain ⟨h1, h2, h3, h4, h5⟩ := h
  refine nf_unique l (norm d rs) 0 h1 (norm_val hval) h2 (norm_nf hval) fun c => ?_
  rw [norm_get hval, h5 c]
  by_cases hlo : c < 0
  · rw [if_neg (by omega), get_below hval hlo]
  · by_cases hhi : 1114111 < c
    · rw [if_neg (by omega), get_above hval hhi]
    · rw [if_pos (by omega)]
end Go.Proofs.Ytehdeipeehaejaa.Tri
