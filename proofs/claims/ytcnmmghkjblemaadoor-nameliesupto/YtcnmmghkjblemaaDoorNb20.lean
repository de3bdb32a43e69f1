/- Names packed and unpacked; plain. -/
import Derived.Test.YtcnmmghkjblemaaDoorNa20
namespace Go.Proofs.YtcnmmghkjblemaaDoor
namespace Na
/-- 20.2: a label that may be packed. -/
def okl (a : List Int) : Bool := decide (1 ≤ a.length) && decide (a.length ≤ 63)
def enc (l : List (List Int)) : List Int := (l.flatMap fun a => (a.length : Int) :: a) ++ [0]
def pkE (s : List Int) : Int := if (lab s).all okl = true then (if s.length ≤ 253 then 0 else 2) else 200
theorem enc_cons (a : List Int) (l : List (List Int)) : enc (a :: l) = (a.length : Int) :: (a ++ enc l) := by
  unfold enc
  simp
/-- Labels out of bytes: what is wrong, the labels, how many bytes were read. -/
def uplF : Nat → List Int → Int × List (List Int) × Nat
  | 0, _ => (10, [], 0)
  | _ + 1, [] => (10, [], 0)
  | f + 1, n :: r =>
    if n = 0 then (0, [], 1)
    else if 63 < n then (200, [], 0)
    else if r.length < n.toNat then (10, [], 0)
    else if (r.take n.toNat).any (fun x => decide (46 = x)) = true then (200, [], 0)
    else if (uplF f (r.drop n.toNat)).1 = 0 then (0, r.take n.toNat :: (uplF f (r.drop n.toNat)).2.1, (uplF f (r.drop n.toNat)).2.2 + n.toNat + 1) else ((uplF f (r.drop n.toNat)).1, [], 0)
theorem uplF_more : ∀ (f g : Nat) (b : List Int), b.length < f → b.length < g → uplF f b = uplF g b
  | 0, _, _, h, _ => absurd h (Nat.not_lt_zero _)
  | _, 0, _, _, h => absurd h (Nat.not_lt_zero _)
  | f + 1, g + 1, [], _, _ => rfl
  | f + 1, g + 1, n :: r, h1, h2 => by
    have : (r.drop n.toNat).length ≤ r.length := by rw [List.length_drop]; omega
    simp only [List.length_cons] at h1 h2
    unfold uplF
    rw [uplF_more f g (r.drop n.toNat) (by omega) (by omega)]
def upl (b : List Int) : Int × List (List Int) × Nat := uplF (b.length + 1) b
theorem upl_nil : upl [] = (10, [], 0) := rfl
theorem upl_cons (n : Int) (r : List Int) : upl (n :: r) =
    if n = 0 then (0, [], 1)
    else if 63 < n then (200, [], 0)
    else if r.length < n.toNat then (10, [], 0)
    else if (r.take n.toNat).any (fun x => decide (46 = x)) = true then (200, [], 0)
    else if (upl (r.drop n.toNat)).1 = 0 then (0, r.take n.toNat :: (upl (r.drop n.toNat)).2.1, (upl (r.drop n.toNat)).2.2 + n.toNat + 1) else ((upl (r.drop n.toNat)).1, [], 0) := by
  have e : uplF (n :: r).length (r.drop n.toNat) = upl (r.drop n.toNat) := uplF_more _ _ _ (by rw [List.length_drop, List.length_cons]; omega) (by omega)
  show uplF ((n :: r).length + 1) (n :: r) = _
  unfold uplF
  rw [e]
theorem upl_enc (l : List (List Int)) (rest : List Int) (h : ∀ a ∈ l, okl a = true ∧ ∀ x ∈ a, x ≠ 46) : upl (enc l ++ rest) = (0, l, (enc l).length) := by
  induction l with
  | nil => unfold enc; exact upl_cons 0 rest
  | cons a l ih =>
    have h1 := h a List.mem_cons_self
    have ih := ih (fun b hb => h b (List.mem_cons_of_mem _ hb))
    unfold okl at h1
    simp only [Bool.and_eq_true, decide_eq_true_eq] at h1
    obtain ⟨⟨h2, h3⟩, h4⟩ := h1
    rw [enc_cons, List.cons_append, upl_cons]
    have e0 : ((a.length : Int)).toNat = a.length := by omega
    have e1 : (a ++ enc l ++ rest).take a.length = a := by simp
    have e2 : (a ++ enc l ++ rest).drop a.length = enc l ++ rest := by simp
    have e3 : (a.any fun x => decide (46 = x)) = false := by
      rw [List.any_eq_false]
      intro x hx
      have := h4 x hx
      simp only [decide_eq_true_eq]
      omega
    simp only [e0, e1, e2, e3, ih]
    rw [if_neg (by omega), if_neg (by omega), if_neg (by simp), if_neg (by simp), if_pos trivial]
    simp only [Prod.mk.injEq, true_and]
    simp
    omega
theorem upl_backF : ∀ (k : Nat) (b : List Int), b.length < k → (∀ x ∈ b, 0 ≤ x) → ∀ l n, upl b = (0, l, n) → n ≤ b.length ∧ b.take n = enc l ∧ ∀ a ∈ l, okl a = true ∧ ∀ x ∈ a, x ≠ 46
  | 0, _, hk, _ => absurd hk (Nat.not_lt_zero _)
  | k + 1, [], _, _ => fun l n h => by rw [upl_nil] at h; simp at h
  | k + 1, n :: r, hk, hb => fun l m h => by
    have hn0 := hb n List.mem_cons_self
    simp only [List.length_cons] at hk
    have hb' : ∀ x ∈ r.drop n.toNat, 0 ≤ x := fun x hx => hb x (List.mem_cons_of_mem _ (List.mem_of_mem_drop hx))
    have ih := upl_backF k (r.drop n.toNat) (by rw [List.length_drop]; omega) hb'
    rw [upl_cons] at h
    by_cases h0 : n = 0
    · subst h0
      rw [if_pos rfl] at h
      simp only [Prod.mk.injEq, true_and] at h
      obtain ⟨rfl, rfl⟩ := h
      exact ⟨by simp, by simp [enc], fun a ha => by cases ha⟩
    · rw [if_neg h0] at h
      by_cases h1 : 63 < n
      · rw [if_pos h1] at h; simp at h
      · rw [if_neg h1] at h
        by_cases h2 : r.length < n.toNat
        · rw [if_pos h2] at h; simp at h
        · rw [if_neg h2] at h
          by_cases h3 : (r.take n.toNat).any (fun x => decide (46 = x)) = true
          · rw [if_pos h3] at h; simp at h
          · rw [if_neg h3] at h
            by_cases hq : (upl (r.drop n.toNat)).1 = 0
            · rw [if_pos hq] at h
              simp only [Prod.mk.injEq, true_and] at h
              obtain ⟨rfl, rfl⟩ := h
              obtain ⟨g1, g2, g3⟩ := ih _ _ (Prod.ext hq rfl : upl (r.drop n.toNat) = (0, (upl (r.drop n.toNat)).2.1, (upl (r.drop n.toNat)).2.2))
              generalize upl (r.drop n.toNat) = q at *
              rw [List.length_drop] at g1
              have hl : (r.take n.toNat).length = n.toNat := by rw [List.length_take]; omega
              refine ⟨by show q.2.2 + n.toNat + 1 ≤ r.length + 1; omega, ?_, ?_⟩
              · show (n :: r).take (q.2.2 + n.toNat + 1) = enc (r.take n.toNat :: q.2.1)
                rw [enc_cons, hl, ← g2, List.take_succ_cons, show ((n.toNat : Nat) : Int) = n by omega]
                congr 1
                rw [show q.2.2 + n.toNat = n.toNat + q.2.2 by omega, List.take_add]
              · intro a ha
                rcases List.mem_cons.1 ha with rfl | ha
                · refine ⟨?_, fun x hx e => h3 ?_⟩
                  · unfold okl
                    rw [hl]
                    simp only [Bool.and_eq_true, decide_eq_true_eq]
                    omega
                  · rw [List.any_eq_true]
                    exact ⟨x, hx, decide_eq_true e.symm⟩
                · exact g3 a ha
            · rw [if_neg hq] at h
              simp only [Prod.mk.injEq] at h
              exact absurd h.1 hq
theorem upl_back (b : List Int) (hb : ∀ x ∈ b, 0 ≤ x) : ∀ l n, upl b = (0, l, n) → n ≤ b.length ∧ b.take n = enc l ∧ ∀ a ∈ l, okl a = true ∧ ∀ x ∈ a, x ≠ 46 := upl_backF _ b (Nat.lt_succ_self _) hb
/-- 20.2, of the bytes from a place on: what is wrong, the text, how many bytes were read. -/
def unp (b : List Int) : Int × List Int × Nat :=
  if (upl b).1 = 0 then (if (joi (upl b).2.1).length ≤ 253 then (0, joi (upl b).2.1, (upl b).2.2) else (2, [], 0)) else ((upl b).1, [], 0)
theorem joi_len (l : List (List Int)) (h : l ≠ []) : (enc l).length = (joi l).length + 2 := by
  induction l with
  | nil => exact absurd rfl h
  | cons a r ih =>
    rw [enc_cons]
    cases r with
    | nil => simp [enc, joi]
    | cons b r =>
      have := ih (by simp)
      rw [joi_cons (by simp)]
      simp only [List.length_cons, List.length_append] at *
      omega
theorem enc_len {s : List Int} (h : pkE s = 0) : 1 ≤ (enc (lab s)).length ∧ (enc (lab s)).length ≤ 255 := by
  unfold pkE at h
  split at h
  · split at h
    · rename_i h2
      by_cases hs : lab s = []
      · rw [hs]; simp [enc]
      · have := joi_len (lab s) hs
        rw [joi_lab] at this
        omega
    · omega
  · omega
theorem lab_free (s : List Int) : ∀ a ∈ lab s, ∀ x ∈ a, x ≠ 46 := by
  unfold lab
  split
  · intro a ha; cases ha
  · exact spl_free s
/-- 20.6: there and back. -/
theorem unp_enc {s : List Int} (h : pkE s = 0) (rest : List Int) : unp (enc (lab s) ++ rest) = (0, s, (enc (lab s)).length) := by
  unfold pkE at h
  split at h
  · rename_i h1
    split at h
    · rename_i h2
      have e := upl_enc (lab s) rest (fun a ha => ⟨List.all_eq_true.1 h1 a ha, lab_free s a ha⟩)
      unfold unp
      rw [e]
      simp only [joi_lab]
      rw [if_pos trivial, if_pos h2]
    · omega
  · omega
theorem lab_joi {l : List (List Int)} (h : ∀ a ∈ l, okl a = true ∧ ∀ x ∈ a, x ≠ 46) : lab (joi l) = l := by
  cases l with
  | nil => rfl
  | cons a r =>
    have e := spl_joi (l := a :: r) (by simp) (fun b hb => (h b hb).2)
    unfold lab
    by_cases hs : joi (a :: r) = []
    · exfalso
      rw [hs] at e
      simp only [spl, List.cons.injEq] at e
      obtain ⟨rfl, rfl⟩ := e
      have := (h [] List.mem_cons_self).1
      simp [okl] at this
    · rw [if_neg hs]; exact e
theorem unp_back {b : List Int} (hb : ∀ x ∈ b, 0 ≤ x) {s : List Int} {n : Nat} (h : unp b = (0, s, n)) : pkE s = 0 ∧ enc (lab s) = b.take n ∧ n ≤ b.length ∧ 1 ≤ n := by
  unfold unp at h
  split at h
  · rename_i h1
    split at h
    · rename_i h2
      simp only [Prod.mk.injEq, true_and] at h
      obtain ⟨rfl, rfl⟩ := h
      obtain ⟨g1, g2, g3⟩ := upl_back b hb (upl b).2.1 (upl b).2.2 (Prod.ext h1 rfl)
      have e := lab_joi g3
      have hp : pkE (joi (upl b).2.1) = 0 := by
        unfold pkE
        rw [e, if_pos (List.all_eq_true.2 fun a ha => (g3 a ha).1), if_pos h2]
      have hl := enc_len hp
      rw [e] at hl ⊢
      refine ⟨hp, g2.symm, g1, ?_⟩
      have : (enc (upl b).2.1).length ≤ (upl b).2.2 := by rw [← g2, List.length_take]; omega
      omega
    · simp at h
  · rename_i h1
    simp only [Prod.mk.injEq] at h
    exact absurd h.1 h1
end Na
end Go.Proofs.YtcnmmghkjblemaaDoor
