/- When runs meet; slices.ContainsFunc over runs. -/
import Derived.Test.YtlmcmlbmnnjjpaaGreatDoorTbQ7
import Derived.Test.YtlmcmlbmnnjjpaaGreatDoorGc8
namespace Go.Proofs.YtlmcmlbmnnjjpaaGreatDoor
open Go.RowKit

structure Run where
  lo : Int
  hi : Int
  s : Int
def Run.ok (x : Run) : Prop := RunOk x.lo x.hi x.s
def Run.val (x : Run) : Value := runV x.lo x.hi x.s
def Run.none : Run := ⟨0, 0, 0⟩
def Run.meets (x y : Run) : Bool := meetsB x.lo x.hi x.s y.lo y.hi y.s
theorem mA_iff (s hi : Int) (hs : 0 ≤ s) (p : Int → Bool) : ∀ (n : Nat) (c : Int), mA s hi p n c = true ↔ ∃ k : Nat, k < n ∧ c + k * s ≤ hi ∧ p (c + k * s) = true
  | 0, c => by simp [mA]
  | n + 1, c => by
    rw [mA]
    have e : ∀ k : Nat, c + ((k + 1 : Nat) : Int) * s = c + s + k * s := fun k => by push_cast; rw [Int.add_mul]; omega
    split
    · next h =>
      constructor
      · intro h; cases h
      · rintro ⟨k, _, h2, _⟩
        have := Int.mul_nonneg (show (0 : Int) ≤ k by omega) hs
        omega
    · next h =>
      split
      · next hp => exact ⟨fun _ => ⟨0, by omega, by simp; omega, by simpa using hp⟩, fun _ => rfl⟩
      · next hp =>
        rw [mA_iff s hi hs p n]
        constructor
        · rintro ⟨k, h1, h2, h3⟩
          exact ⟨k + 1, by omega, by rw [e]; exact h2, by rw [e]; exact h3⟩
        · rintro ⟨k, h1, h2, h3⟩
          cases k with
          | zero => exact absurd (by simpa using h3) hp
          | succ k => rw [e] at h2 h3; exact ⟨k, by omega, h2, h3⟩
theorem from_run {lo hi s c c0 : Int} (h : RunOk lo hi s) (hc : c0 = fromI lo s c) : lo ≤ c0 ∧ c ≤ c0 ∧ s ∣ c0 - lo ∧ ∀ x, lo ≤ x → c ≤ x → s ∣ x - lo → c0 ≤ x := by
  obtain ⟨_, _, _, s0, _⟩ := h
  unfold fromI at hc
  split at hc
  · subst hc; exact ⟨by omega, by assumption, by simp, fun x a _ _ => a⟩
  · next hle =>
    have e := Int.emod_add_mul_ediv (c - lo) s
    have m0 := Int.emod_nonneg (c - lo) (show s ≠ 0 by omega)
    have m1 := Int.emod_lt_of_pos (c - lo) (show 0 < s by omega)
    by_cases hz : (c - lo) % s = 0
    · have hz2 : (s - (c - lo) % s) % s = 0 := by rw [hz]; simp
      rw [hz2] at hc
      subst hc
      refine ⟨by omega, by omega, ?_, fun x _ b _ => by omega⟩
      rw [show c + 0 - lo = c - lo by omega]
      exact Int.dvd_of_emod_eq_zero hz
    · have hz2 : (s - (c - lo) % s) % s = s - (c - lo) % s := Int.emod_eq_of_lt (by omega) (by omega)
      rw [hz2] at hc
      subst hc
      have hd : s ∣ c + (s - (c - lo) % s) - lo := by
        rw [show c + (s - (c - lo) % s) - lo = s * ((c - lo) / s) + s * 1 by omega, ← Int.mul_add]
        exact Int.dvd_mul_right _ _
      refine ⟨by omega, by omega, hd, fun x a b d => ?_⟩
      obtain ⟨j, hj⟩ := Int.dvd_sub hd d
      rcases Int.lt_or_le 0 j with h' | h'
      · have : s * 1 ≤ s * j := Int.mul_le_mul_of_nonneg_left (by omega) (by omega)
        omega
      · have := Int.mul_nonpos_of_nonneg_of_nonpos (show 0 ≤ s by omega) h'
        omega
theorem meets_iff {x y : Run} (hx : x.ok) (hy : y.ok) : x.meets y = true ↔ ∃ c, Cn.inRun x.lo x.hi x.s c ∧ Cn.inRun y.lo y.hi y.s c := by
  have key : ∀ {a b : Run}, a.ok → b.ok → (mA a.s a.hi (hasB b.lo b.hi b.s) b.s.toNat (fromI a.lo a.s b.lo) = true ↔ ∃ c, Cn.inRun a.lo a.hi a.s c ∧ Cn.inRun b.lo b.hi b.s c) := by
    intro a b ha hb
    obtain ⟨f1, f2, f3, f4⟩ := from_run (c := b.lo) ha rfl
    obtain ⟨a0, a1, a2, a3, a4⟩ := ha
    obtain ⟨b0, b1, b2, b3, b4⟩ := hb
    rw [mA_iff a.s a.hi (by omega)]
    generalize fromI a.lo a.s b.lo = c0 at *
    rw [Cn.run_meet (N := b.s.toNat) (c0 := c0) (by omega) (by omega) (by omega) f1 f2 f3 f4]
    constructor
    · rintro ⟨k, h1, h2, h3⟩
      unfold hasB at h3
      obtain ⟨_, _, _, g4, _, g6⟩ := of_decide_eq_true h3
      exact ⟨k, h1, h2, g4, Int.dvd_of_emod_eq_zero g6⟩
    · rintro ⟨k, h1, h2, h3, h4⟩
      have := Int.mul_nonneg (show (0 : Int) ≤ k by omega) (show 0 ≤ a.s by omega)
      exact ⟨k, h1, h2, decide_eq_true ⟨by omega, by omega, by omega, h3, by omega, Int.emod_eq_zero_of_dvd h4⟩⟩
  unfold Run.meets meetsB
  split
  · next h =>
    constructor
    · intro h; cases h
    · rintro ⟨c, ⟨c1, c2, _⟩, c3, c4, _⟩; omega
  · split
    · rw [key hy hx]
      exact ⟨fun ⟨c, a, b⟩ => ⟨c, b, a⟩, fun ⟨c, a, b⟩ => ⟨c, b, a⟩⟩
    · exact key hx hy
/-- The run of a record. -/
def runR (r : Rec) : Run := ⟨r.lo, r.hi, stepP r⟩
theorem runR_ok {r : Rec} (h : Cn.right r = 0) (hk : r.kind ≠ 15) : (runR r).ok := by
  have h1 := Cn.right_span h hk
  have h2 := Cn.right_step h
  have : stepP r = Cn.step r := by
    unfold stepP Cn.step at *
    split
    · next h4 => rw [if_pos h4] at h2; omega
    · rfl
  exact ⟨h1.1, h1.2.1, h1.2.2, by show 1 ≤ stepP r; omega, by show stepP r ≤ 64; omega⟩
theorem stepP_eq {r : Rec} (h : Cn.right r = 0) : stepP r = Cn.step r := by
  have h2 := Cn.right_step h
  unfold stepP Cn.step at *
  split
  · next h4 => rw [if_pos h4] at h2; omega
  · rfl
theorem clash_meets {a b : Rec} (ha : Cn.right a = 0) (hb : Cn.right b = 0) (hf : Cn.fam a.kind = Cn.fam b.kind) (hk : a.kind ≠ 15) (hk' : b.kind ≠ 15) : Cn.clash a b = (runR b).meets (runR a) := by
  rw [Bool.eq_iff_iff, Cn.clash_iff ha hb hf hk hk', meets_iff (runR_ok hb hk') (runR_ok ha hk)]
  constructor
  · rintro ⟨c, h1, h2⟩
    refine ⟨c, ?_, ?_⟩
    · have := (Cn.speaks_iff hb hk' c).1 h2
      rw [← stepP_eq hb] at this
      exact this
    · have := (Cn.speaks_iff ha hk c).1 h1
      rw [← stepP_eq ha] at this
      exact this
  · rintro ⟨c, h1, h2⟩
    refine ⟨c, (Cn.speaks_iff ha hk c).2 ?_, (Cn.speaks_iff hb hk' c).2 ?_⟩
    · rw [← stepP_eq ha]; exact h2
    · rw [← stepP_eq hb]; exact h1
end Go.Proofs.YtlmcmlbmnnjjpaaGreatDoor
