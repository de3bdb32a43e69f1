/- Parts of a slice of ranges; the contract of reaching. -/
import Derived.Test.YtehdeipeehaejaaTrA4
namespace Go.Proofs.Ytehdeipeehaejaa
open Go.RowKit

theorem Sz.cut {sz len l h m : Nat} {w : World} {ao : Option Addr} {cap : Nat} {us : List Value} (hs : Sz sz w (.slice ao len cap) len us) (h1 : l ≤ h) (h2 : h ≤ len) (h3 : h ≤ m) (h4 : m ≤ cap) :
    Sz sz w (sliced ao l h m sz) (h - l) ((us.drop (l * sz)).take ((h - l) * sz)) := by
  obtain ⟨b1, b2, b3⟩ := hs
  have e1 : (h - l) * sz + l * sz = h * sz := by rw [← Nat.add_mul]; congr 1; omega
  have e2 : h * sz ≤ len * sz := Nat.mul_le_mul_right _ h2
  refine ⟨by simp; omega, by omega, ?_⟩
  rcases b3 with ⟨rfl, ao', cap', hv, hm, hnil⟩ | ⟨b, off, cap', hv, hl, hm, hc⟩
  · simp only [Value.slice.injEq] at hv
    obtain ⟨rfl, _, rfl⟩ := hv
    refine .inl ⟨by omega, (if m = l then ao else ao.map (·.add (l * sz))), m - l, ?_, by omega, fun hn => ?_⟩
    · have : h - l = 0 := by omega
      simp only [sliced, this]
    · split at hn
      · omega
      · have := hnil (by simpa using hn)
        omega
  · simp only [Value.slice.injEq] at hv
    obtain ⟨rfl, _, rfl⟩ := hv
    by_cases he : h = l
    · refine .inl ⟨by omega, (if m = l then some ⟨b, off, none⟩ else (some ⟨b, off, none⟩ : Option Addr).map (·.add (l * sz))), m - l, ?_, by omega, fun hn => ?_⟩
      · have : h - l = 0 := by omega
        simp only [sliced, this]
      · split at hn <;> simp at hn
    · refine .inr ⟨b, off + l * sz, m - l, ?_, by omega, by omega, fun i hi => ?_⟩
      · have : ¬ m = l := by omega
        simp only [sliced, this, if_false, Option.map_some, addr_add]
      · rw [Nat.add_assoc, hc (l * sz + i) (by omega)]
        simp [List.getD, List.getElem?_take_of_lt hi, List.getElem?_drop]

theorem rcells_drop (rs : List Tri.Rg) (k : Nat) : (rcells rs).drop (k * 3) = rcells (rs.drop k) := by
  induction k generalizing rs with
  | zero => simp
  | succ k ih =>
    cases rs with
    | nil => simp [rcells]
    | cons r rs =>
      have : (k + 1) * 3 = 3 + k * 3 := by omega
      simp only [rcells, List.drop_succ_cons]
      rw [this, ← List.drop_drop, ← ih rs]
      rfl
theorem Sr.cut {w : World} {ao : Option Addr} {len cap l h m : Nat} {rs : List Tri.Rg} (hs : Sr w (.slice ao len cap) rs) (hl : len = rs.length) (h1 : l ≤ h) (h2 : h ≤ len) (h3 : h ≤ m) (h4 : m ≤ cap) :
    Sr w (sliced ao l h m 3) ((rs.drop l).take (h - l)) := by
  subst hl
  have := hs.2.cut h1 h2 h3 h4
  rw [rcells_drop, rcells_take] at this
  have e : ((rs.drop l).take (h - l)).length = h - l := by simp; omega
  refine ⟨fun r hr => hs.1 r (List.mem_of_mem_drop (List.mem_of_mem_take hr)), ?_⟩
  rw [e]; exact this

namespace Tri
/-- What the first ones say not, the others say. -/
theorem get_drop {d c : Int} {rs : List Rg} (k : Nat) (h : ∀ j, j < k → j < rs.length → hi (rs.getD j (0, 0, 0)) < c) : get d (rs.drop k) c = get d rs c := by
  induction k generalizing rs with
  | zero => rw [List.drop_zero]
  | succ k ih =>
    cases rs with
    | nil => rfl
    | cons r rs =>
      have h0 := h 0 (by omega) (by simp)
      simp only [List.getD_cons_zero] at h0
      rw [List.drop_succ_cons, get_cons, if_neg (by omega)]
      refine ih fun j hj hl => ?_
      have := h (j + 1) (by omega) (by simpa using hl)
      simpa using this
theorem val_drop {b : Int} {rs : List Rg} (h : Val b rs) (k : Nat) : Val b (rs.drop k) := by
  induction k generalizing rs b with
  | zero => simpa using h
  | succ k ih =>
    cases rs with
    | nil => trivial
    | cons r rs =>
      obtain ⟨h1, h2, h3, h4, h5, h6⟩ := h
      rw [List.drop_succ_cons]
      exact (ih h6).mono (by omega)
end Tri

/-- What a slice of the first world holds, in a later one. -/
def ReachPost (w0 w : World) (rs : List Tri.Rg) (lo : Int) (e : Ending) (w' : World) : Prop :=
  w' = w ∧ ∃ v' k, e = .returned v' ∧ Sr w0 v' (rs.drop k) ∧ k ≤ rs.length ∧ ∀ j, j < k → Tri.hi (rs.getD j (0, 0, 0)) < lo

set_option maxHeartbeats 400000 in
theorem reaching4 (v : Value) (rs : List Tri.Rg) (lo : Int) (w0 w : World) (hv : Sr w0 v rs) (hbw : Below w0.heap.size w0 w) (hlo : Fi lo) :
    Calls Try.prog 31 #[v, .int .i64 lo] w (ReachPost w0 w rs lo) := by
  obtain ⟨l1, l2⟩ := hlo
  have hlen := hv.len
  have HB := hide hbw
  clear hbw
  have HP : Hid (∀ u k, Sr w0 u (rs.drop k) → k ≤ rs.length → (∀ j, j < k → Tri.hi (rs.getD j (0, 0, 0)) < lo) → ReachPost w0 w rs lo (.returned u) w) := fun u k h1 h2 h3 => ⟨rfl, u, k, rfl, h1, h2, h3⟩
  go_enter Try.func31, Try.ntmps31
  go_wp2
  go_loop [0] (fun u => ∃ k : Nat, Sr w0 u (rs.drop k) ∧ k ≤ rs.length ∧ ∀ j, j < k → Tri.hi (rs.getD j (0, 0, 0)) < lo) (fun u => match u with | .slice _ n _ => n | _ => 0)
  case atStart => exact ⟨0, by simpa using hv, by omega, fun j hj => by omega⟩
  case round =>
    clear hv
    obtain ⟨k, hs, hk, hall⟩ := hrel
    have HR := hide ((unhide HP) _ k hs hk hall)
    have hsl : (rs.drop k).length = rs.length - k := List.length_drop
    rcases Nat.eq_zero_or_pos (rs.drop k).length with h0 | h0
    · obtain ⟨ao, cap, rfl, c1, c2⟩ := hs.shape
      rw [h0] at HR c1 ⊢
      clear hs hall HP
      go_wp2
      go_ret
      exact unhide HR
    · have hfit := hs.1.at 0
      have hs2 := hide hs
      obtain ⟨b, off, cap, rfl, c1, c2, hcl⟩ := hs.place h0
      obtain ⟨x0, x1, x2⟩ := hcl 0 h0
      rw [← (unhide HB).cell (lt_of_cell? x1)] at x1
      simp only [Nat.zero_mul, Nat.add_zero] at x0 x1 x2
      have hcut := (unhide hs2).cut rfl (l := 1) (h := (rs.drop k).length) (m := cap) (by omega) (by omega) (by omega) (by omega)
      have e1 : (((rs.drop k).drop 1).take ((rs.drop k).length - 1)) = rs.drop (k + 1) := by
        rw [List.drop_drop, List.take_of_length_le (by simp; omega)]
      have e2 : (rs.drop k).getD 0 (0, 0, 0) = rs.getD k (0, 0, 0) := by simp [List.getD, List.getElem?_drop]
      rw [e1] at hcut
      rw [e2] at x1 hfit
      have HA : Hid (Tri.hi (rs.getD k (0, 0, 0)) < lo → ∀ j, j < k + 1 → Tri.hi (rs.getD j (0, 0, 0)) < lo) := by
        intro hx j hj
        by_cases h : j = k
        · subst h; exact hx
        · exact hall j (by omega)
      obtain ⟨_, ⟨f1, f2⟩, _⟩ := hfit
      have hn1 : 1 ≤ (rs.drop k).length := h0
      have hkl : k < rs.length := by omega
      have HC := hide hcut
      clear hs hs2 hcl hall hcut x0 x2 e1 e2 hsl
      generalize Tri.hi (rs.getD k (0, 0, 0)) = h at *
      generalize (rs.drop k).length = n at *
      by_cases a : h < lo
      · have HA2 := hide ((unhide HA) a)
        clear HA HR
        go_wp2
        go_round
        case rel => exact ⟨k + 1, unhide HC, by omega, unhide HA2⟩
        case measure => simp; omega
      · clear HA HP
        go_wp2
        go_ret
        exact unhide HR
end Go.Proofs.Ytehdeipeehaejaa
