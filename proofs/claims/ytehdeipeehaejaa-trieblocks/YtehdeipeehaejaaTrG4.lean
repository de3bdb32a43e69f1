/- The contracts of Same. -/
import Derived.Test.YtehdeipeehaejaaTrF4
namespace Go.Proofs.Ytehdeipeehaejaa
open Go.RowKit

namespace Tri
theorem get_of {d : Int} {rs ms : List Rg} (h1 : Val 0 rs) (h2 : Val 0 ms) (hi : idx (get d rs) = idx (get d ms)) (hb : bls (get d rs) = bls (get d ms)) (c : Int) : get d rs c = get d ms c := by
  by_cases hlo : c < 0
  · rw [get_below h1 hlo, get_below h2 hlo]
  · by_cases hhi : 1114111 < c
    · rw [get_above h1 hhi, get_above h2 hhi]
    · obtain ⟨n, rfl⟩ : ∃ n : Nat, c = (n : Int) := ⟨c.toNat, by omega⟩
      have e1 := (bls_idx (get d rs) (n / 64) (by omega)).1
      have e2 := (bls_idx (get d ms) (n / 64) (by omega)).1
      rw [hi, hb, e2] at e1
      have b1 := blk_at (get d rs) (n / 64) (n % 64) (by omega)
      have b2 := blk_at (get d ms) (n / 64) (n % 64) (by omega)
      rw [show 64 * (n / 64) + n % 64 = n by omega] at b1 b2
      rw [← b1, ← b2, e1]
theorem same_iff {d o : Int} {rs ms : List Rg} (h1 : Val 0 rs) (h2 : Val 0 ms) : (d = o ∧ norm d rs = norm o ms) ↔ (d = o ∧ idx (get d rs) = idx (get o ms) ∧ bls (get d rs) = bls (get o ms)) := by
  constructor
  · rintro ⟨rfl, h⟩
    have hg := (norm_eq h1 h2).2 h
    exact ⟨rfl, idx_congr hg, bls_congr hg⟩
  · rintro ⟨rfl, hi, hb⟩
    exact ⟨rfl, (norm_eq h1 h2).1 (get_of h1 h2 hi hb)⟩
end Tri
theorem map_nat_inj {a b : List Nat} (h : (a.map fun n : Nat => (n : Int)) = b.map fun n : Nat => (n : Int)) : a = b := List.map_inj_right (fun x y e => by omega) |>.1 h
theorem t4_val {w : World} {B : Nat} {t : Value} {rs : List Tri.Rg} {d : Int} (h : T4 w B t rs d) : Tri.Val 0 rs := h.1
theorem t4_d {w : World} {B : Nat} {t : Value} {rs : List Tri.Rg} {d : Int} (h : T4 w B t rs d) : 0 ≤ d ∧ d ≤ 65535 := h.2.1

def SameDraws (w : World) (b : Bool) (e : Ending) (w' : World) : Prop := e = .returned (.bool b) ∧ ∃ m, w' = w.drewN m
theorem SameDraws.tells {w w' : World} {b : Bool} {e : Ending} (h : SameDraws w b e w') : Tells4 w b e w' := ⟨h.1, drewB4 h.2⟩

theorem sameNil4 (t : Value) (rs : List Tri.Rg) (d : Int) (w : World) (h : ∃ B, T4 w B t rs d) : Calls Try.prog 22 #[t, .pointer none] w (Tells4 w false) := by
  obtain ⟨B, h⟩ := h
  obtain ⟨g, iv, bv, rfl, c0, c1, c2, _, _⟩ := h.parts
  clear h
  go_enter Try.func22, Try.ntmps22
  go_wp2
  go_quiet (fail)
  go_wp2
  go_ret
  exact ⟨rfl, below_drewN (Below.refl _ _) nq⟩

set_option maxHeartbeats 2000000 in
theorem same4 (t u : Value) (rs ms : List Tri.Rg) (d o : Int) (w : World) (h : ∃ B, T4 w B t rs d) (k : ∃ B, T4 w B u ms o) : Calls Try.prog 22 #[t, u] w (Tells4 w (decide (d = o ∧ Tri.norm d rs = Tri.norm o ms))) := by
  obtain ⟨B, h⟩ := h
  obtain ⟨B', k⟩ := k
  have HI := Tri.same_iff (d := d) (o := o) (t4_val h) (t4_val k)
  obtain ⟨d1, d2⟩ := t4_d h
  obtain ⟨o1, o2⟩ := t4_d k
  obtain ⟨g, iv, bv, rfl, c0, c1, c2, hi, hb⟩ := h.parts
  obtain ⟨g', iu, bu, rfl, k0, k1, k2, ki, kb⟩ := k.parts
  have l1 := Tri.bls_len (Tri.get d rs)
  have l2 := Tri.bls_len (Tri.get o ms)
  have HE1 := fun n => equal16 iv iu _ _ (w.drewN n) (hi.below (below_drewN (Below.refl _ _) n)) (ki.below (below_drewN (Below.refl _ _) n))
  have HE2 := fun n => equalB bv bu _ _ (w.drewN n) (hb.below (below_drewN (Below.refl _ _) n)) (kb.below (below_drewN (Below.refl _ _) n)) (by omega) (by omega)
  have hdec : ∀ b : Bool, (b = true ↔ (d = o ∧ Tri.idx (Tri.get d rs) = Tri.idx (Tri.get o ms) ∧ Tri.bls (Tri.get d rs) = Tri.bls (Tri.get o ms))) → decide (d = o ∧ Tri.norm d rs = Tri.norm o ms) = b := by
    intro b hb
    cases b with
    | true => exact decide_eq_true (HI.2 (hb.1 rfl))
    | false => exact decide_eq_false (fun hx => by have := hb.2 (HI.1 hx); cases this)
  clear HI h k hi hb ki kb l1 l2
  by_cases hdo : d = o
  · by_cases he1 : Tri.idx (Tri.get d rs) = Tri.idx (Tri.get o ms)
    · by_cases he2 : Tri.bls (Tri.get d rs) = Tri.bls (Tri.get o ms)
      · rw [hdec true ⟨fun _ => ⟨hdo, he1, he2⟩, fun _ => rfl⟩]
        rw [he1] at HE1
        rw [he2] at HE2
        rw [decide_eq_true rfl] at HE1 HE2
        clear hdec he1 he2
        subst hdo
        have HX1 := fun n => hide (HE1 n)
        have HX2 := fun n => hide (HE2 n)
        clear HE1 HE2
        go_enter Try.func22, Try.ntmps22
        go_wp2
        go_quiet (first
          | (go_at_call 27; exact Calls.quiet_of (unhide (HX1 _)))
          | (go_at_call 28; exact Calls.quiet_of (unhide (HX2 _))))
        go_wp2
        go_ret
        exact ⟨rfl, below_drewN (Below.refl _ _) nq⟩
      · rw [hdec false ⟨fun h => (by cases h), fun h => absurd h.2.2 he2⟩]
        rw [he1] at HE1
        rw [decide_eq_true rfl] at HE1
        rw [decide_eq_false he2] at HE2
        clear hdec he1 he2
        subst hdo
        have HX1 := fun n => hide (HE1 n)
        have HX2 := fun n => hide (HE2 n)
        clear HE1 HE2
        go_enter Try.func22, Try.ntmps22
        go_wp2
        go_quiet (first
          | (go_at_call 27; exact Calls.quiet_of (unhide (HX1 _)))
          | (go_at_call 28; exact Calls.quiet_of (unhide (HX2 _))))
        go_wp2
        go_ret
        exact ⟨rfl, below_drewN (Below.refl _ _) nq⟩
    · rw [hdec false ⟨fun h => (by cases h), fun h => absurd h.2.1 he1⟩]
      rw [decide_eq_false (fun h => he1 (map_nat_inj h))] at HE1
      clear hdec he1 HE2
      subst hdo
      have HX1 := fun n => hide (HE1 n)
      clear HE1
      go_enter Try.func22, Try.ntmps22
      go_wp2
      go_quiet (first | (go_at_call 27; exact Calls.quiet_of (unhide (HX1 _))))
      go_wp2
      go_ret
      exact ⟨rfl, below_drewN (Below.refl _ _) nq⟩
  · rw [hdec false ⟨fun h => (by cases h), fun h => absurd h.1 hdo⟩]
    have hdo' : (d == o) = false := beq_eq_false_iff_ne.2 hdo
    clear hdec HE1 HE2
    go_enter Try.func22, Try.ntmps22
    go_wp2
    go_quiet (fail)
    go_wp2
    go_ret
    exact ⟨rfl, below_drewN (Below.refl _ _) nq⟩
end Go.Proofs.Ytehdeipeehaejaa
