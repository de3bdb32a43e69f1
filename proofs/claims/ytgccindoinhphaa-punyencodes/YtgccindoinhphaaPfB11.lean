/- The writer's numbers, plainly: each from 0 on; where each puts its point. -/
import Derived.Test.YtgccindoinhphaaPfA11
import Derived.Test.YtgccindoinhphaaPsK11
import Derived.Test.YtgccindoinhphaaPwG11
namespace Go.Proofs.Ytgccindoinhphaa
open Go.RowKit

namespace Pu
theorem cnt_congr {p q : Nat → Bool} {n : Nat} (h : ∀ k, k < n → p k = q k) {b : Nat} (hb : b ≤ n) : cnt p b = cnt q b := by
  induction b with
  | zero => rfl
  | succ b ih => rw [cnt_succ, cnt_succ, ih (by omega), h b (by omega)]
theorem fen_congr {p q : Nat → Bool} {T : List Int} (h : ∀ k, k + 1 < T.length → p k = q k) (hf : Fen p T) : Fen q T := fun j h1 h2 => by
  have hn : ∀ k, k < T.length - 1 → p k = q k := fun k hk => h k (by omega)
  rw [hf j h1 h2, cnt_congr hn (by omega), cnt_congr hn (b := j - lbN 12 j) (by omega)]
theorem wr1_len (xs : List Int) : ∀ (r : List Nat) (T out : List Int), (wr1 xs r T out).1.length = T.length
  | [], _, _ => rfl
  | c :: r, T, out => by rw [wr1, wr1_len xs r, add_len]
theorem wr1_fen (xs : List Int) : ∀ (r : List Nat) (T out : List Int) (q : Nat → Bool), Fen q T → T.length ≤ 2050 → r.Nodup → (∀ c ∈ r, q c = false) → Fen (fun k => decide (k ∈ r) || q k) (wr1 xs r T out).1
  | [], T, out, q, h, _, _, _ => by rw [wr1]; exact fen_congr (fun k _ => by simp) h
  | c :: r, T, out, q, h, hl, hn, hq => by
    obtain ⟨h1, h2⟩ := List.nodup_cons.1 hn
    have hc : q c = false := hq c (by simp)
    rw [wr1]
    refine fen_congr (fun k _ => ?_) (wr1_fen xs r _ _ (addp q c) (add_fen h hl hc) (by rw [add_len]; exact hl) h2 (fun d hd => ?_))
    · unfold addp
      by_cases e1 : k = c
      · simp [e1]
      · have e2 : (k == c) = false := by simpa using e1
        rw [e2, Bool.false_or]; simp [e1]
    · unfold addp
      have hdc : d ≠ c := fun e => h1 (e ▸ hd)
      simp [hdc, hq d (List.mem_cons_of_mem _ hd)]
theorem wok_mk {xs : List Int} {c : Nat} {r : List Nat} {T : List Int} {p n i : Int} (h1 : 0 ≤ dlt xs c T p n i) (h2 : 0 ≤ n + (i + dlt xs c T p n i) / (p + 1) ∧ n + (i + dlt xs c T p n i) / (p + 1) ≤ 1114111)
    (h3 : wok xs r (add T c) (p + 1) (n + (i + dlt xs c T p n i) / (p + 1)) ((i + dlt xs c T p n i) % (p + 1) + 1) = true) : wok xs (c :: r) T p n i = true := by
  have : (0 ≤ dlt xs c T p n i ∧ (0 ≤ n + (i + dlt xs c T p n i) / (p + 1) ∧ n + (i + dlt xs c T p n i) / (p + 1) ≤ 1114111) ∧
    (2147483647 < dlt xs c T p n i ∨ wok xs r (add T c) (p + 1) (n + (i + dlt xs c T p n i) / (p + 1)) ((i + dlt xs c T p n i) % (p + 1) + 1) = true)) := ⟨h1, h2, .inr h3⟩
  simpa [wok, dlt, and_assoc] using this

/-- Where the writer stands: q laid, n the last point's number, i what comes behind it. -/
structure Wv (xs : List Int) (r : List Nat) (T : List Int) (q : Nat → Bool) (p n i : Int) : Prop where
  fen : Fen q T
  len : T.length = xs.length + 1
  le : xs.length ≤ 2000
  hp : p = (cnt q xs.length : Int)
  i0 : 0 ≤ i
  ip : i ≤ p
  n0 : 0 ≤ n
  nx : ∀ c ∈ r, c < xs.length ∧ q c = false ∧ n ≤ xs.getD c 0 ∧ (xs.getD c 0 = n → i ≤ (cnt q c : Int))
  ord : r.Pairwise (lx xs)
section
variable {xs : List Int} {c : Nat} {r : List Nat} {T : List Int} {q : Nat → Bool} {p n i : Int}
theorem Wv.ah (h : Wv xs (c :: r) T q p n i) : ahead T c = (cnt q c : Int) := by
  have h1 := (h.nx c (by simp)).1; have h2 := h.len; have h3 := h.le
  exact ahead_fen h.fen (by omega) (by omega)
theorem Wv.sum (h : Wv xs (c :: r) T q p n i) : i + dlt xs c T p n i = (xs.getD c 0 - n) * (p + 1) + (cnt q c : Int) := by
  unfold dlt; rw [h.ah]; omega
theorem Wv.cp (h : Wv xs (c :: r) T q p n i) : (cnt q c : Int) ≤ p := by
  have h1 := (h.nx c (by simp)).1
  have := cnt_mono (p := q) (a := c) (b := xs.length) (by omega)
  rw [h.hp]; omega
theorem Wv.div (h : Wv xs (c :: r) T q p n i) : (i + dlt xs c T p n i) / (p + 1) = xs.getD c 0 - n := by
  have h1 := h.cp; have h2 := h.i0; have h3 := h.ip
  rw [h.sum, Int.add_comm, Int.add_mul_ediv_right _ _ (by omega), Int.ediv_eq_zero_of_lt (by omega) (by omega)]; omega
theorem Wv.mod (h : Wv xs (c :: r) T q p n i) : (i + dlt xs c T p n i) % (p + 1) = (cnt q c : Int) := by
  have h1 := h.cp; have h2 := h.i0; have h3 := h.ip
  rw [h.sum, Int.add_comm, Int.add_mul_emod_self_right, Int.emod_eq_of_lt (by omega) (by omega)]
theorem Wv.pos (h : Wv xs (c :: r) T q p n i) : 0 ≤ dlt xs c T p n i := by
  obtain ⟨_, _, h1, h2⟩ := h.nx c (by simp)
  have h3 := h.ip; have h4 := h.i0
  have hs := h.sum
  by_cases he : xs.getD c 0 = n
  · have := h2 he
    rw [he, Int.sub_self, Int.zero_mul] at hs; omega
  · have := Int.mul_le_mul_of_nonneg_right (show (1 : Int) ≤ xs.getD c 0 - n by omega) (show (0 : Int) ≤ p + 1 by omega)
    generalize (xs.getD c 0 - n) * (p + 1) = z at *
    omega
theorem Wv.next (h : Wv xs (c :: r) T q p n i) : Wv xs r (add T c) (addp q c) (p + 1) (xs.getD c 0) ((cnt q c : Int) + 1) := by
  obtain ⟨h1, h2, h3, h4⟩ := h.nx c (by simp)
  obtain ⟨o1, o2⟩ := List.pairwise_cons.1 h.ord
  have hl := h.len; have hle := h.le; have hcp := h.cp; have hn0 := h.n0
  refine ⟨add_fen h.fen (by omega) h2, by rw [add_len]; exact hl, hle, ?_, by omega, by omega, by omega, fun d hd => ?_, o2⟩
  · rw [h.hp, cnt_addp h2, if_pos h1]; omega
  · obtain ⟨k1, k2, k3, k4⟩ := h.nx d (List.mem_cons_of_mem _ hd)
    have hx := o1 d hd
    have hdc : d ≠ c := fun e => by subst e; unfold lx at hx; omega
    refine ⟨k1, by unfold addp; simp [hdc, k2], by unfold lx at hx; omega, fun he => ?_⟩
    have hcd : c < d := by unfold lx at hx; omega
    have := cnt_mono (p := q) (a := c) (b := d) (by omega)
    rw [cnt_addp h2, if_pos hcd]; omega
end
theorem Wv.wok {xs : List Int} (hx : ∀ z ∈ xs, 0 ≤ z ∧ z ≤ 1114111) : ∀ (r : List Nat) (T : List Int) (q : Nat → Bool) (p n i : Int), Wv xs r T q p n i → wok xs r T p n i = true
  | [], _, _, _, _, _, _ => rfl
  | c :: r, T, q, p, n, i, h => by
    have h1 := (h.nx c (by simp)).1
    have hz := hx (xs.getD c 0) (by rw [List.getD, List.getElem?_eq_getElem h1]; exact List.getElem_mem h1)
    refine wok_mk h.pos ?_ ?_
    · rw [h.div]; omega
    · rw [h.div, h.mod, show n + (xs.getD c 0 - n) = xs.getD c 0 by omega]
      exact Wv.wok hx r _ _ _ _ _ h.next
theorem idx_mem {xs : List Int} {f : Int → Bool} {k : Nat} : k ∈ idx xs f ↔ k < xs.length ∧ f (xs.getD k 0) = true := by unfold idx; simp
theorem idx_inc (xs : List Int) (f : Int → Bool) : (idx xs f).Pairwise (· < ·) := List.Pairwise.filter _ List.pairwise_lt_range
theorem filt_len {α : Type} (l : List α) (f : α → Bool) : (l.filter f).length + (l.filter fun a => !f a).length = l.length := by
  induction l with
  | nil => rfl
  | cons a l ih => cases h : f a <;> simp [h] <;> omega
theorem idx_sum (xs : List Int) : (idx xs lowq).length + (idx xs highq).length = xs.length := by
  have := filt_len (List.range xs.length) fun k => lowq (xs.getD k 0)
  rw [List.length_range] at this
  exact this
theorem begin_Wv {xs : List Int} (hl : xs.length ≤ 2000) : Wv xs (ordOf xs) (t1Of xs) (fun k => lowq (xs.getD k 0)) ((idx xs lowq).length : Int) 128 0 := by
  have hlen : (t1Of xs).length = xs.length + 1 := by unfold t1Of; rw [wr1_len, List.length_replicate]
  refine ⟨?_, hlen, hl, rfl, Int.le_refl _, by omega, by omega, fun c hc => ?_, sortF_lx (idx_inc _ _)⟩
  · refine fen_congr (fun k hk => ?_) (wr1_fen xs (idx xs lowq) _ [] (fun _ => false) (fen_zero _) (by rw [List.length_replicate]; omega) (inc_nodup (idx_inc _ _)) fun _ _ => rfl)
    rw [hlen] at hk
    rw [Bool.or_false]
    have := @idx_mem xs lowq k
    cases hh : lowq (xs.getD k 0) <;> simp only [hh, decide_eq_true_eq, decide_eq_false_iff_not] at * <;> simp [this] <;> omega
  · have := idx_mem.1 ((sortF_perm xs _).subset hc)
    have h2 : lowq (xs.getD c 0) = false := by have := this.2; unfold highq at this; simpa using this
    refine ⟨this.1, h2, ?_, fun _ => by omega⟩
    unfold lowq at h2
    have := of_decide_eq_false h2; omega
theorem fine_all {xs : List Int} (hl : xs.length ≤ 2000) (hs : allb okb xs = true) : fine xs := by
  have hb := begin_Wv hl
  refine ⟨fun a ha => (hb.nx a ha).1, ?_, hb.wok (okb_range hs) _ _ _ _ _ _⟩
  have h1 := idx_sum xs
  have h2 := (sortF_perm xs (idx xs highq)).length_eq
  unfold ordOf; omega
end Pu

theorem encode_all (v : Value) (xs : List Int) (w : World) (hv : Sk .i32 w v xs) (hl : xs.length ≤ 2000) : Calls Try.prog 10 #[v] w (WrP w (Pu.encode xs)) := by
  have := Pu.idx_sum xs
  exact encode_any 100000 sortC v xs w hv hl (by omega) (Pu.fine_all hl)
end Go.Proofs.Ytgccindoinhphaa
