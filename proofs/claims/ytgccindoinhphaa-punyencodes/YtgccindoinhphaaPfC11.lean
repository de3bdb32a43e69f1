/- Written and read again, plainly. -/
import Derived.Test.YtgccindoinhphaaPfB11
import Derived.Test.YtgccindoinhphaaPhA11
namespace Go.Proofs.Ytgccindoinhphaa
open Go.RowKit

namespace Pu
/-- The points at the places below n that are in q. -/
def sel (xs : List Int) (q : Nat → Bool) (n : Nat) : List Int := ((List.range n).filter q).map fun k => xs.getD k 0
theorem sel_len (xs : List Int) (q : Nat → Bool) (n : Nat) : (sel xs q n).length = cnt q n := by unfold sel cnt; rw [List.length_map]
theorem sel_succ (xs : List Int) (q : Nat → Bool) (n : Nat) : sel xs q (n + 1) = sel xs q n ++ if q n then [xs.getD n 0] else [] := by
  unfold sel; rw [List.range_succ, List.filter_append, List.map_append]
  cases h : q n <;> simp [h]
theorem sel_congr {xs : List Int} {p q : Nat → Bool} {n : Nat} (h : ∀ k, k < n → p k = q k) : sel xs p n = sel xs q n := by
  unfold sel; rw [List.filter_congr fun k hk => h k (List.mem_range.1 hk)]
theorem ins_append {A B : List Int} {k : Nat} (h : k ≤ A.length) (c : Int) : ins (A ++ B) k c = ins A k c ++ B := by
  unfold ins
  rw [List.take_append_of_le_length h, List.drop_append_of_le_length h, List.append_assoc, List.cons_append]
theorem ins_sel {xs : List Int} {q : Nat → Bool} {c : Nat} (hc : q c = false) : ∀ n, c < n → ins (sel xs q n) (cnt q c) (xs.getD c 0) = sel xs (addp q c) n := by
  intro n
  induction n with
  | zero => intro h; omega
  | succ n ih =>
    intro hn
    rw [sel_succ, sel_succ]
    by_cases h : c = n
    · subst h
      have e1 : addp q c c = true := by simp [addp]
      rw [hc, e1, if_neg (by simp), if_pos rfl, List.append_nil]
      have e2 : sel xs (addp q c) c = sel xs q c := sel_congr fun k hk => by
        have : (k == c) = false := by simp; omega
        unfold addp; rw [this, Bool.false_or]
      rw [e2]
      unfold ins
      rw [← sel_len xs q c, List.take_length, List.drop_length]
    · have e1 : addp q c n = q n := by
        have : (n == c) = false := by simp; omega
        unfold addp; rw [this, Bool.false_or]
      rw [e1, ins_append (by rw [sel_len]; exact cnt_mono (by omega)), ih (by omega)]
theorem sel_all {xs : List Int} {q : Nat → Bool} (h : ∀ k, k < xs.length → q k = true) : sel xs q xs.length = xs := by
  have : sel xs q xs.length = sel xs (fun _ => true) xs.length := sel_congr h
  rw [this]
  unfold sel
  rw [List.filter_eq_self.2 fun _ _ => rfl]
  refine List.ext_getElem (by simp) fun i h1 h2 => ?_
  simp [List.getD, h2]
theorem wr1_out (xs : List Int) : ∀ (r : List Nat) (T out : List Int), (wr1 xs r T out).2 = out ++ r.map fun k => xs.getD k 0
  | [], _, _ => by simp [wr1]
  | c :: r, T, out => by rw [wr1, wr1_out xs r]; simp

theorem okc_at {xs : List Int} (hs : allb okb xs = true) {c : Nat} (h : c < xs.length) : Utf.okc (xs.getD c 0) := by
  have := List.all_eq_true.1 hs (xs.getD c 0) (by rw [List.getD, List.getElem?_eq_getElem h]; exact List.getElem_mem h)
  exact of_decide_eq_true this
theorem at_range {xs : List Int} (hs : allb okb xs = true) {c : Nat} (h : c < xs.length) : 0 ≤ xs.getD c 0 ∧ xs.getD c 0 ≤ 1114111 :=
  okb_range hs _ (by rw [List.getD, List.getElem?_eq_getElem h]; exact List.getElem_mem h)
/-- No number is past 31 bits where the sequence has at most 1,900 points. -/
theorem Wv.small {xs : List Int} {c : Nat} {r : List Nat} {T : List Int} {q : Nat → Bool} {p n i : Int} (h : Wv xs (c :: r) T q p n i) (hs : allb okb xs = true) (hl : xs.length ≤ 1900) : dlt xs c T p n i ≤ 2147483647 := by
  obtain ⟨h1, h2, h3, _⟩ := h.nx c (by simp)
  have hz := at_range hs h1
  have hp := h.hp; have h0 := h.i0; have hn := h.n0; have hcp := h.cp; have hip := h.ip
  have hle := cnt_le q xs.length
  have hm : (xs.getD c 0 - n) * (p + 1) ≤ 1114111 * 1901 := Int.mul_le_mul (by omega) (by omega) (by omega) (by omega)
  have hsum := h.sum
  generalize (xs.getD c 0 - n) * (p + 1) = z at *
  omega
/-- What the writer writes is read as it was. -/
theorem Wv.back {xs : List Int} (hs : allb okb xs = true) (hl : xs.length ≤ 1900) : ∀ (r : List Nat) (T : List Int) (q : Nat → Bool) (p n i bias : Int) (first : Bool) (out : List Int), Wv xs r T q p n i → (∀ k, k < xs.length → q k = true ∨ k ∈ r) →
    ∃ body, wr2 xs r T p n i bias first out = (out ++ body, 0) ∧ (∀ z ∈ body, 48 ≤ z ∧ z ≤ 122) ∧ body.length ≤ 32 * r.length ∧ r.length ≤ body.length ∧ rdW body ⟨sel xs q xs.length, n, i, bias, first⟩ = (xs, 0)
  | [], T, q, p, n, i, bias, first, out, h, hall => by
    refine ⟨[], by rw [wr2, List.append_nil], fun z hz => absurd hz (by simp), by simp, by simp, ?_⟩
    rw [rdW_nil]
    show (sel xs q xs.length, (0 : Int)) = _
    rw [sel_all fun k hk => (hall k hk).resolve_right (by simp)]
  | c :: r, T, q, p, n, i, bias, first, out, h, hall => by
    obtain ⟨h1, h2, h3, _⟩ := h.nx c (by simp)
    have hd0 := h.pos
    have hd1 := h.small hs hl
    have hdiv := h.div
    have hmod := h.mod
    have hpc : p + 1 = ((sel xs q xs.length).length : Int) + 1 := by rw [sel_len, ← h.hp]
    obtain ⟨body, b1, b2, b3, b5, b4⟩ := Wv.back hs hl r (add T c) (addp q c) (p + 1) (xs.getD c 0) ((cnt q c : Int) + 1) (adapt (dlt xs c T p n i) (p + 1) first) false (out ++ wrNum (dlt xs c T p n i) bias) h.next fun k hk => by
      rcases hall k hk with hq | hq
      · exact .inl (by simp [addp, hq])
      · rcases List.mem_cons.1 hq with hq | hq
        · exact .inl (by simp [addp, hq])
        · exact .inr hq
    refine ⟨wrNum (dlt xs c T p n i) bias ++ body, ?_, ?_, ?_, ?_, ?_⟩
    · rw [wr2_step (by omega), hdiv, hmod, show n + (xs.getD c 0 - n) = xs.getD c 0 by omega, b1, List.append_assoc]
    · intro z hz
      rcases List.mem_append.1 hz with hz | hz
      · exact wrNum_bytes hd0 z hz
      · exact b2 z hz
    · have := wrNum_len (bias := bias) hd0 hd1
      simp only [List.length_append, List.length_cons]; omega
    · have := List.length_pos_iff.2 (wrNum_ne (dlt xs c T p n i) bias)
      simp only [List.length_append, List.length_cons]; omega
    · generalize dlt xs c T p n i = d at *
      have e1 : stepN ⟨sel xs q xs.length, n, i, bias, first⟩ d = xs.getD c 0 := by
        show n + (i + d) / (((sel xs q xs.length).length : Int) + 1) = _
        rw [← hpc, hdiv]; omega
      have e2 : stepP ⟨sel xs q xs.length, n, i, bias, first⟩ d = (cnt q c : Int) := by
        show (i + d) % (((sel xs q xs.length).length : Int) + 1) = _
        rw [← hpc, hmod]
      have hst := rdW_step (d := d) (s := ⟨sel xs q xs.length, n, i, bias, first⟩) body hd0 hd1 (by rw [e1]; exact okc_at hs h1)
      refine hst.trans ?_
      have e3 : step ⟨sel xs q xs.length, n, i, bias, first⟩ d = ⟨sel xs (addp q c) xs.length, xs.getD c 0, (cnt q c : Int) + 1, adapt d (p + 1) first, false⟩ := by
        unfold step
        rw [e1, e2]
        show St.mk (ins (sel xs q xs.length) _ _) _ _ (adapt d (((sel xs q xs.length).length : Int) + 1) first) false = _
        rw [← hpc, Int.toNat_natCast, ins_sel h2 _ h1]
      rw [e3]; exact b4
/-- The text of a sound sequence: its points below 80, the hyphen, the numbers; and it is read as it was. -/
theorem enc_back {xs : List Int} (hs : allb okb xs = true) (hl : xs.length ≤ 1900) : ∃ body, encode xs = (sel xs (fun k => lowq (xs.getD k 0)) xs.length ++ hy (sel xs (fun k => lowq (xs.getD k 0)) xs.length) ++ body, 0) ∧
    (∀ z ∈ body, 48 ≤ z ∧ z ≤ 122) ∧ body.length ≤ 32 * (idx xs highq).length ∧ (idx xs highq).length ≤ body.length ∧ (∀ z ∈ sel xs (fun k => lowq (xs.getD k 0)) xs.length, 0 ≤ z ∧ z < 128) ∧ rdW body (begin (sel xs (fun k => lowq (xs.getD k 0)) xs.length)) = (xs, 0) := by
  have hsel : (idx xs lowq).map (fun k => xs.getD k 0) = sel xs (fun k => lowq (xs.getD k 0)) xs.length := rfl
  have hslen : (sel xs (fun k => lowq (xs.getD k 0)) xs.length).length = (idx xs lowq).length := by rw [← hsel, List.length_map]
  have ho : (ordOf xs).length = (idx xs highq).length := (sortF_perm xs _).length_eq
  obtain ⟨body, b1, b2, b3, b5, b4⟩ := Wv.back hs hl (ordOf xs) (t1Of xs) _ _ _ _ 72 true ((wr1 xs (idx xs lowq) (List.replicate (xs.length + 1) 0) []).2 ++ if (idx xs lowq).length = 0 then [] else [45]) (begin_Wv (by omega)) (fun k hk => by
    cases hq : lowq (xs.getD k 0) with
    | true => exact .inl rfl
    | false => exact .inr ((sortF_perm xs _).symm.subset (idx_mem.2 ⟨hk, by unfold highq; rw [hq]; rfl⟩)))
  refine ⟨body, ?_, b2, by omega, by omega, fun z hz => ?_, b4⟩
  · unfold encode
    rw [if_neg (by rw [hs]; simp)]
    unfold write
    refine b1.trans ?_
    rw [wr1_out, List.nil_append, hsel]
    unfold hy; rw [hslen]
  · rw [← hsel] at hz
    obtain ⟨k, hk, rfl⟩ := List.mem_map.1 hz
    obtain ⟨k1, k2⟩ := idx_mem.1 hk
    have := at_range hs k1
    unfold lowq at k2
    exact ⟨this.1, of_decide_eq_true k2⟩
theorem back {xs : List Int} (hs : allb okb xs = true) (hl : xs.length ≤ 1900) : (encode xs).2 = 0 ∧ (encode xs).1.length ≤ 65000 ∧ (∀ z ∈ (encode xs).1, 0 ≤ z ∧ z < 128) ∧ decode (encode xs).1 = (xs, 0) := by
  obtain ⟨body, h1, h2, h3, _, h4, h5⟩ := enc_back hs hl
  have hsum := idx_sum xs
  have hslen : (sel xs (fun k => lowq (xs.getD k 0)) xs.length).length = (idx xs lowq).length := by rw [sel_len]; rfl
  rw [h1]
  have hyl : (hy (sel xs (fun k => lowq (xs.getD k 0)) xs.length)).length ≤ 1 := by unfold hy; split <;> simp
  refine ⟨rfl, ?_, fun z hz => ?_, ?_⟩
  · simp only [List.length_append]; omega
  · simp only [List.mem_append] at hz
    rcases hz with (hz | hz) | hz
    · exact h4 z hz
    · unfold hy at hz
      split at hz
      · cases hz
      · simp at hz; omega
    · have := h2 z hz; omega
  · exact (decode_hands h4 h2 (by omega)).trans h5
end Pu
end Go.Proofs.Ytgccindoinhphaa
