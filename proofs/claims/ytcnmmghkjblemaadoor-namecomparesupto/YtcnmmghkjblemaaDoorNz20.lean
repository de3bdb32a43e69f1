/- NameCompares: any two texts, held against the document's answer. -/
import Derived.Test.YtcnmmghkjblemaaDoorNx20
namespace Go.Proofs.YtcnmmghkjblemaaDoor
open Go.RowKit

set_option maxRecDepth 20000 in
set_option maxHeartbeats 4000000 in
/-- NameCompares. -/
theorem compares_law20 (a b : ByteArray) (w : World) (hg : Gl20 w) (ha : a.size ≤ 1000000000) (hb : b.size ≤ 1000000000) : Calls Tryd.prog 4 #[.string a, .string b] w (Tells w true) := by
  have HG := hide hg
  have HB : Hid (Below w.heap.size w w) := Below.refl _ _
  have H1 := hide (parK20 ha)
  have H2 : Hid (∀ W, Calls Tryd.prog 19 #[.string a] W (fun e w' => e = .returned (.tuple #[.string (strOfNums (Na.par (nums a))), .bool (decide (nums a ≠ []))]) ∧ Below W.heap.size W w')) := fun W => by
    refine (refParent20 a W ha).mono ?_
    rintro e w1 ⟨t, rfl, ht, hb⟩
    rw [← ht, str_nums20]
    refine ⟨?_, hb⟩
    have : decide (0 < a.size) = decide (nums a ≠ []) := decide_eq_decide.2 ⟨fun h e => by have := nums_length a; rw [e] at this; simp at this; omega, fun h => by
      rcases Nat.eq_zero_or_pos a.size with h0 | h0
      · exact absurd (List.eq_nil_of_length_eq_zero (by rw [nums_length]; exact h0)) h
      · exact h0⟩
    rw [this]
  have H3 := hide (cmpK20 (a := a) (b := b) (by omega) (by omega))
  have H4 : Hid (∀ W, Calls Tryd.prog 21 #[.string a, .string b] W (IntN20 W (Na.cmp (nums a) (nums b)))) := fun W => refCompare20 a b W ha hb
  have H5 := hide (belK20 (a := a) (b := b) (by omega) (by omega))
  have H6 := hide (fun W => refBelow20 a b W ha hb)
  clear hg ha hb
  generalize decide (nums a ≠ []) = r at *
  generalize Na.bel (nums a) (nums b) = l at *
  generalize strOfNums (Na.par (nums a)) = p at *
  generalize Na.cmp (nums a) (nums b) = n at *
  go_enter Tryd.func4, Tryd.ntmps4
  go_wp2_with fail
  refine (unhide H1 _ ((unhide HG).on (unhide HB))).mono ?_
  rintro e wn ⟨rfl, dn⟩; replace HB := hide (bthen (unhide HB) (drewB dn)); clear dn
  go_wp2_with fail
  refine (unhide H2 _).mono ?_
  rintro e wn ⟨rfl, bn⟩; replace HB := hide (bthen (unhide HB) bn); clear bn
  go_wp2_with fail
  refine (told20 _ ((unhide HG).on (unhide HB))).mono ?_
  rintro e wn ⟨rfl, bn⟩; replace HB := hide (bthen (unhide HB) bn); clear bn
  go_wp2_with fail
  refine (unhide H3 _).mono ?_
  rintro e wn ⟨rfl, dn⟩; replace HB := hide (bthen (unhide HB) (drewB dn)); clear dn
  go_wp2_with fail
  refine (unhide H4 _).mono ?_
  rintro e wn ⟨rfl, bn⟩; replace HB := hide (bthen (unhide HB) bn); clear bn
  go_wp2_with fail
  refine (unhide H5 _).mono ?_
  rintro e wn ⟨rfl, dn⟩; replace HB := hide (bthen (unhide HB) (drewB dn)); clear dn
  go_wp2_with fail
  refine (unhide H6 _).mono ?_
  rintro e wn ⟨rfl, bn⟩; replace HB := hide (bthen (unhide HB) bn); clear bn
  clear H1 H2 H3 H4 H5 H6
  go_wp2
  go_ret
  exact ⟨by simp, unhide HB⟩
end Go.Proofs.YtcnmmghkjblemaaDoor
