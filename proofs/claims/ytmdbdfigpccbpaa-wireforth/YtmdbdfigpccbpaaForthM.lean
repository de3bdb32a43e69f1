/- What is read is written just so: plain mathematics. -/
import Derived.Test.YtmdbdfigpccbpaaBackM
namespace Go.Proofs.Ytmdbdfigpccbpaa

theorem ub_num (ys : List Int) (i : Nat) (hi : i ≤ 8) (hb : Byt ys) (h : (Ref.num i ys).2 = 0) :
    i < (Ref.num i ys).1 ∧ Ref.ub (8 - i) (Ref.val (ys.take ((Ref.num i ys).1 - i))) = ys.take ((Ref.num i ys).1 - i) ∧ (0 < i → 1 ≤ Ref.val (ys.take ((Ref.num i ys).1 - i))) := by
  induction ys generalizing i with
  | nil => simp [Ref.num] at h
  | cons c r ih =>
    have hc := hb c (by simp)
    have hr : Byt r := fun z hz => hb z (by simp [hz])
    by_cases h128 : 128 ≤ c
    · by_cases h9 : i + 1 = 9
      · simp [Ref.num, h128, h9] at h
      · have e : Ref.num i (c :: r) = Ref.num (i + 1) r := by simp only [Ref.num]; rw [if_pos h128, if_neg h9]
        rw [e] at h ⊢
        obtain ⟨h1, h2, h3⟩ := ih (i + 1) (by omega) hr h
        have h3' := h3 (by omega)
        generalize (Ref.num (i + 1) r).1 = m at *
        have e2 : (c :: r).take (m - i) = c :: r.take (m - (i + 1)) := by
          rw [show m - i = (m - (i + 1)) + 1 by omega, List.take_succ_cons]
        rw [e2]
        simp only [Ref.val]
        generalize hv : Ref.val (r.take (m - (i + 1))) = v at *
        refine ⟨by omega, ?_, fun _ => by omega⟩
        rw [show 8 - i = (8 - (i + 1)) + 1 by omega, ub_step _ _ (by omega)]
        rw [show (c % 128 + 128 * v) / 128 = v by omega, h2, show (c % 128 + 128 * v) % 128 + 128 = c by omega]
    · by_cases hf : c = 0 ∧ 0 < i
      · simp [Ref.num, hf] at h
      · have e : Ref.num i (c :: r) = (i + 1, 0) := by simp only [Ref.num]; rw [if_neg h128, if_neg hf]
        rw [e]
        simp only [Nat.add_sub_cancel_left, List.take_succ_cons, List.take_zero, Ref.val]
        refine ⟨by omega, ?_, fun _ => by omega⟩
        rw [ub_stop _ _ (by omega)]
        congr 1
        omega

/-- What ReadUint reads is written just so. -/
theorem rd_forth (zs : List Int) (at_ : Int) (hb : Byt zs) (h : (Ref.rd zs at_).2.2 = 0) :
    Ref.uint (Ref.rd zs at_).1 = (zs.drop at_.toNat).take ((Ref.rd zs at_).2.1 - at_).toNat := by
  have hok := rd_ok zs at_ h
  unfold Ref.rd at h hok ⊢
  by_cases hbad : at_ < 0 ∨ (zs.length : Int) < at_
  · rw [if_pos hbad] at h; simp at h
  · rw [if_neg hbad] at h hok ⊢
    by_cases h2 : (Ref.num 0 (zs.drop at_.toNat)).2 = 0
    · rw [if_pos h2] at hok ⊢
      have hu := ub_num (zs.drop at_.toNat) 0 (by omega) (fun z hz => hb z (List.mem_of_mem_drop hz)) h2
      simp only [Nat.sub_zero] at hu
      simp only at hok ⊢
      rw [show (at_ + ((Ref.num 0 (zs.drop at_.toNat)).1 : Int) - at_).toNat = (Ref.num 0 (zs.drop at_.toNat)).1 by omega]
      unfold Ref.uint
      rw [if_neg (by omega)]
      exact hu.2.1
    · rw [if_neg h2] at h
      exact absurd h h2

theorem take_drop_add (zs : List Int) (a p q : Nat) (h1 : a ≤ p) (h2 : p ≤ q) : (zs.drop a).take (q - a) = (zs.drop a).take (p - a) ++ (zs.drop p).take (q - p) := by
  have e : zs.drop p = (zs.drop a).drop (p - a) := by rw [List.drop_drop]; congr 1; omega
  rw [e, ← List.take_add]
  congr 1
  omega

/-- What ReadText reads is written just so. -/
theorem rt_forth (zs : List Int) (at_ most : Int) (hb : Byt zs) (h : (Ref.rt zs at_ most).2.2 = 0) :
    0 ≤ at_ ∧ at_ < (Ref.rt zs at_ most).2.1 ∧ (Ref.rt zs at_ most).2.1 ≤ zs.length ∧
    Ref.uint ((Ref.rt zs at_ most).1.length) ++ (Ref.rt zs at_ most).1 = (zs.drop at_.toNat).take ((Ref.rt zs at_ most).2.1 - at_).toNat := by
  unfold Ref.rt at h ⊢
  by_cases hm : most < 0
  · rw [if_pos hm] at h; simp at h
  rw [if_neg hm] at h ⊢
  by_cases he : (Ref.rd zs at_).2.2 ≠ 0
  · rw [if_pos he] at h; exact absurd h he
  rw [if_neg he] at h ⊢
  have he' : (Ref.rd zs at_).2.2 = 0 := by simpa using he
  have hok := rd_ok zs at_ he'
  have hf := rd_forth zs at_ hb he'
  generalize Ref.rd zs at_ = q at *
  by_cases h3 : most < q.1
  · rw [if_pos h3] at h; simp at h
  rw [if_neg h3] at h ⊢
  by_cases h4 : (zs.length : Int) - q.2.1 < q.1
  · rw [if_pos h4] at h; simp at h
  rw [if_neg h4] at h ⊢
  simp only
  have hl : ((zs.drop q.2.1.toNat).take q.1.toNat).length = q.1.toNat := by simp; omega
  refine ⟨by omega, by omega, by omega, ?_⟩
  rw [hl, show ((q.1.toNat : Nat) : Int) = q.1 by omega, hf]
  have := take_drop_add zs at_.toNat q.2.1.toNat (q.2.1 + q.1).toNat (by omega) (by omega)
  rw [show (q.2.1 + q.1 - at_).toNat = (q.2.1 + q.1).toNat - at_.toNat by omega, this, show (q.2.1 - at_).toNat = q.2.1.toNat - at_.toNat by omega, show (q.2.1 + q.1).toNat - q.2.1.toNat = q.1.toNat by omega]
end Go.Proofs.Ytmdbdfigpccbpaa
