/- What a mix comes to in the ledger. -/
import Derived.Test.YtlmcmlbmnnjjpaaGreatDoorTbW7
import Derived.Lib.MinMaxS
namespace Go.Proofs.YtlmcmlbmnnjjpaaGreatDoor
open Go.RowKit
open Go.Lib (minS maxS run_min_strs run_max_strs)

theorem ba_inj {a b : ByteArray} (h : a.data.toList = b.data.toList) : a = b := by
  cases a; cases b
  simp_all
theorem kp_two (a b : ByteArray) : (minS a b = a ∧ maxS a b = b) ∨ (minS a b = b ∧ maxS a b = a) := by
  unfold minS maxS
  by_cases h : a.data.toList < b.data.toList
  · rw [if_pos (.inl h), if_pos h]; exact .inl ⟨rfl, rfl⟩
  · by_cases h2 : a.data.toList = b.data.toList
    · rw [if_pos (.inr h2), if_neg h]; exact .inl ⟨rfl, ba_inj h2⟩
    · rw [if_neg (fun e => e.elim h h2), if_neg h]; exact .inr ⟨rfl, rfl⟩
theorem kp_symm (a b : ByteArray) : minS a b = minS b a ∧ maxS a b = maxS b a := by
  unfold minS maxS
  by_cases h : a.data.toList < b.data.toList
  · have h2 : ¬ b.data.toList < a.data.toList := fun e => List.lt_irrefl _ (List.lt_trans h e)
    have h3 : ¬ b.data.toList = a.data.toList := fun e => by rw [e] at h; exact List.lt_irrefl _ h
    rw [if_pos (.inl h), if_pos h, if_neg (fun e => e.elim h2 h3), if_neg h2]; exact ⟨rfl, rfl⟩
  · by_cases h2 : a.data.toList = b.data.toList
    · obtain rfl := ba_inj h2; exact ⟨rfl, rfl⟩
    · have h3 : b.data.toList < a.data.toList := by
        rcases Std.le_total (a := a.data.toList) (b := b.data.toList) with hh | hh
        · exact absurd (Std.lt_of_le_of_ne hh h2) h
        · exact Std.lt_of_le_of_ne hh (fun e => h2 e.symm)
      rw [if_neg (fun e => e.elim h h2), if_neg h, if_pos (.inl h3), if_pos h3]; exact ⟨rfl, rfl⟩
theorem kp_iff (a b a' b' : ByteArray) : (minS a b = minS a' b' ∧ maxS a b = maxS a' b') ↔ ((a = a' ∧ b = b') ∨ (a = b' ∧ b = a')) := by
  constructor
  · rintro ⟨h1, h2⟩
    rcases kp_two a b with ⟨x, y⟩ | ⟨x, y⟩ <;> rcases kp_two a' b' with ⟨x', y'⟩ | ⟨x', y'⟩ <;> rw [x, x'] at h1 <;> rw [y, y'] at h2
    · exact .inl ⟨h1, h2⟩
    · exact .inr ⟨h1, h2⟩
    · exact .inr ⟨h2, h1⟩
    · exact .inl ⟨h2, h1⟩
  · rintro (⟨rfl, rfl⟩ | ⟨rfl, rfl⟩)
    · exact ⟨rfl, rfl⟩
    · exact kp_symm a b
def TwM (w : World) (B L rr : Nat) (fs : Nat → List Run) (c : ByteArray → ByteArray → Int) (a b : ByteArray) (e : Ending) (w' : World) : Prop := e = .returned (.bool (decide (0 < c (minS a b) (maxS a b)))) ∧ (∃ vs', LG w' B L rr vs' fs (incr c (minS a b) (maxS a b))) ∧ Below B w w'
theorem sh_min {a b : ByteArray} (ha : Sh a) (hb : Sh b) : Sh (minS a b) ∧ Sh (maxS a b) := by
  rcases kp_two a b with ⟨x, y⟩ | ⟨x, y⟩ <;> rw [x, y]
  · exact ⟨ha, hb⟩
  · exact ⟨hb, ha⟩
set_option maxRecDepth 20000 in
set_option maxHeartbeats 4000000 in
theorem twiceMix_any (r : Rec) (vt : Value) (w : World) (B L rr : Nat) (vs : Nat → Value) (fs : Nat → List Run) (c : ByteArray → ByteArray → Int)
    (hlg : LG w B L rr vs fs c) (hBw : B ≤ w.heap.size) (h15 : r.kind = 15) (ha : Sh r.name) (hb : Sh r.other) (hc : ∀ x y, 0 ≤ c x y ∧ c x y ≤ 100000) : Calls Tryz.prog 49 #[.pointer (some ⟨L, 0, none⟩), recV r vt] w (TwM w B L rr fs c r.name r.other) := by
  unfold recV
  rw [h15]
  obtain ⟨s1, s2⟩ := sh_min ha hb
  generalize r.n = n
  generalize r.lo = lo
  generalize r.hi = hi
  generalize r.name = nm at *
  generalize r.other = ot at *
  generalize r.wt = wt
  have hb0 : Below w.heap.size w (w.alloc (.cells #[.int .i64 15, .int .i64 lo, .int .i64 hi, .int .i64 n, vt, .string nm, .string ot, .float .f64 wt] 55)) := (Below.refl _ _).alloc (Nat.le_refl _) _
  have hlg1 := hlg.on hb0
  have K := hide (mixed_any L rr (minS nm ot) (maxS nm ot) c _ hlg1.mcell hlg1.lr hlg1.map s1 s2 (hc _ _))
  have HM : Hid (∀ W, MAt W rr (incr c (minS nm ot) (maxS nm ot)) → But rr (w.alloc (.cells #[.int .i64 15, .int .i64 lo, .int .i64 hi, .int .i64 n, vt, .string nm, .string ot, .float .f64 wt] 55)) W → TwM w B L rr fs c nm ot (.returned (.bool (decide (0 < c (minS nm ot) (maxS nm ot))))) W) := fun W m b => ⟨rfl, ⟨vs, hlg1.mixed m b⟩, (hb0.mono hBw).trans (b.below B hlg.br)⟩
  have e1 := fun W ts t => run_min_strs (P := Tryz.prog) W ts t nm ot
  have e2 := fun W ts t => run_max_strs (P := Tryz.prog) W ts t nm ot
  clear hlg hlg1 hc s1 s2 ha hb
  go_enter Tryz.func49, Tryz.ntmps49
  go_wp2_with fail
  refine (unhide K).mono ?_
  rintro e w1 ⟨rfl, m1, b1⟩
  have HF := hide ((unhide HM) w1 m1 b1)
  clear K HM m1 b1
  go_wp2
  go_ret
  exact unhide HF
end Go.Proofs.YtlmcmlbmnnjjpaaGreatDoor
