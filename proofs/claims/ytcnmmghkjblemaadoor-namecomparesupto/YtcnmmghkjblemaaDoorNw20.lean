/- NameOrder: of any three names: one order. -/
import Derived.Test.YtcnmmghkjblemaaDoorNv20
namespace Go.Proofs.YtcnmmghkjblemaaDoor
open Go.RowKit

def CmpK20 (a b : ByteArray) (n : Int) : Prop := ∀ W, Calls Tryd.prog 20 #[.string a, .string b] W (IntD20 W n)
def BelK20 (a b : ByteArray) (r : Bool) : Prop := ∀ W, Calls Tryd.prog 22 #[.string a, .string b] W (Draws W r)
theorem cmpK20 {a b : ByteArray} (ha : a.size ≤ 9223372036854775807) (hb : b.size ≤ 9223372036854775807) : CmpK20 a b (Na.cmp (nums a) (nums b)) := fun W => compare20 lixC20 a b W ha hb
theorem belK20 {a b : ByteArray} (ha : a.size ≤ 9223372036854775807) (hb : b.size ≤ 9223372036854775807) : BelK20 a b (Na.bel (nums a) (nums b)) := fun W => below20 lixC20 a b W ha hb
set_option maxRecDepth 20000 in
set_option maxHeartbeats 8000000 in
theorem order_ne20 {a b c : ByteArray} {x y z : Int} (w : World) (hg : Gl20 w) (KAB : CmpK20 a b x) (KBC : CmpK20 b c y) (KAC : CmpK20 a c z) (KBA : CmpK20 b a (-x)) (KAA : CmpK20 a a 0)
    (hx : x = -1 ∨ x = 1) (hy : y = -1 ∨ y = 0 ∨ y = 1) (hz : z = -1 ∨ z = 0 ∨ z = 1) (h1 : x < 0 → y ≤ 0 → z < 0) : Calls Tryd.prog 7 #[.string a, .string b, .string c] w (Tells w true) := by
  have HG := hide hg
  have H1 := hide KAB; have H2 := hide KBC; have H3 := hide KAC; have H4 := hide KBA; have H5 := hide KAA
  clear hg KAB KBC KAC KBA KAA
  rcases hx with rfl | rfl <;> rcases hy with rfl | rfl | rfl <;> rcases hz with rfl | rfl | rfl <;> first | (exfalso; omega) | skip
  all_goals
    clear h1
    go_enter Tryd.func7, Tryd.ntmps7
    go_wp2_with fail
    refine (unhide H1 _).mono ?_
    rintro e1 w1 ⟨rfl, d1⟩
    go_wp2_with fail
    refine (unhide H2 _).mono ?_
    rintro e2 w2 ⟨rfl, d2⟩
    go_wp2_with fail
    refine (unhide H3 _).mono ?_
    rintro e3 w3 ⟨rfl, d3⟩
    have B3 := hide (bthen (drewB d1) (bthen (drewB d2) (drewB d3)))
    have KT := hide (told20 w3 ((unhide HG).on (unhide B3)))
    clear d1 d2 d3 H1 H2 H3 HG
    go_wp2_with fail
    refine (unhide KT).mono ?_
    rintro e4 w4 ⟨rfl, b4⟩
    clear KT
    go_wp2_with fail
    refine (unhide H4 _).mono ?_
    rintro e5 w5 ⟨rfl, d5⟩
    clear H4
    go_wp2_with fail
    refine (unhide H5 _).mono ?_
    rintro e6 w6 ⟨rfl, d6⟩
    have B6 := hide (bthen (unhide B3) (bthen b4 (bthen (drewB d5) (drewB d6))))
    clear H5 d5 d6 b4 B3
    go_wp2
    go_ret
    exact ⟨rfl, unhide B6⟩
set_option maxRecDepth 20000 in
set_option maxHeartbeats 8000000 in
theorem order_eq20 {a b c : ByteArray} {y : Int} (w : World) (hg : Gl20 w) (KAB : CmpK20 a b 0) (KBC : CmpK20 b c y) (KAC : CmpK20 a c y) (KBA : CmpK20 b a 0) (KAA : CmpK20 a a 0) (KCA : CmpK20 c a (-y)) (KCB : CmpK20 c b (-y))
    (PAB : BelK20 a b true) (PBA : BelK20 b a true) (hy : y = -1 ∨ y = 0 ∨ y = 1) : Calls Tryd.prog 7 #[.string a, .string b, .string c] w (Tells w true) := by
  have HG := hide hg
  have H1 := hide KAB; have H2 := hide KBC; have H3 := hide KAC; have H4 := hide KBA; have H5 := hide KAA; have H6 := hide KCA; have H7 := hide KCB; have H8 := hide PAB; have H9 := hide PBA
  clear hg KAB KBC KAC KBA KAA KCA KCB PAB PBA
  rcases hy with rfl | rfl | rfl
  all_goals
    go_enter Tryd.func7, Tryd.ntmps7
    go_wp2_with fail
    refine (unhide H1 _).mono ?_
    rintro e1 w1 ⟨rfl, d1⟩
    go_wp2_with fail
    refine (unhide H2 _).mono ?_
    rintro e2 w2 ⟨rfl, d2⟩
    go_wp2_with fail
    refine (unhide H3 _).mono ?_
    rintro e3 w3 ⟨rfl, d3⟩
    have B3 := hide (bthen (drewB d1) (bthen (drewB d2) (drewB d3)))
    have KT := hide (told20 w3 ((unhide HG).on (unhide B3)))
    clear d1 d2 d3 H1 H2 H3 HG
    go_wp2_with fail
    refine (unhide KT).mono ?_
    rintro e4 w4 ⟨rfl, b4⟩
    clear KT
    go_wp2_with fail
    refine (unhide H4 _).mono ?_
    rintro e5 w5 ⟨rfl, d5⟩
    clear H4
    go_wp2_with fail
    refine (unhide H5 _).mono ?_
    rintro e6 w6 ⟨rfl, d6⟩
    have B6 := hide (bthen (unhide B3) (bthen b4 (bthen (drewB d5) (drewB d6))))
    clear H5 d5 d6 b4 B3
    go_wp2_with fail
    refine (unhide H6 _).mono ?_
    rintro e7 w7 ⟨rfl, d7⟩
    clear H6
    go_wp2_with fail
    refine (unhide H7 _).mono ?_
    rintro e8 w8 ⟨rfl, d8⟩
    clear H7
    go_wp2_with fail
    refine (unhide H8 _).mono ?_
    rintro e9 w9 ⟨rfl, d9⟩
    clear H8
    go_wp2_with fail
    refine (unhide H9 _).mono ?_
    rintro e0 w0 ⟨rfl, d0⟩
    have B9 := hide (bthen (unhide B6) (bthen (drewB d7) (bthen (drewB d8) (bthen (drewB d9) (drewB d0)))))
    clear H9 d7 d8 d9 d0 B6
    go_wp2
    go_ret
    exact ⟨rfl, unhide B9⟩
/-- NameOrder. -/
theorem order_law20 (a b c : ByteArray) (w : World) (hg : Gl20 w) (ha : a.size ≤ maxLen) (hb : b.size ≤ maxLen) (hc : c.size ≤ maxLen) : Calls Tryd.prog 7 #[.string a, .string b, .string c] w (Tells w true) := by
  unfold maxLen at ha hb hc
  have k1 := cmpK20 ha hb
  have k2 := cmpK20 hb hc
  have k3 := cmpK20 ha hc
  have k4 := cmpK20 hb ha
  have k5 := cmpK20 ha ha
  rw [Na.cmp_neg (nums a) (nums b)] at k4
  rw [Na.cmp_self] at k5
  by_cases hx : Na.cmp (nums a) (nums b) = 0
  · have k6 := cmpK20 hc ha
    have k7 := cmpK20 hc hb
    rw [Na.cmp_neg (nums a) (nums c)] at k6
    rw [Na.cmp_neg (nums b) (nums c)] at k7
    have e : Na.cmp (nums a) (nums c) = Na.cmp (nums b) (nums c) := Na.cmpL_ord.eqv _ _ _ hx
    rw [e] at k3 k6
    rw [hx] at k1 k4
    have p1 := belK20 ha hb
    have p2 := belK20 hb ha
    rw [Na.bel_eq hx] at p1
    rw [Na.bel_eq2 hx] at p2
    exact order_eq20 w hg k1 k2 k3 k4 k5 k6 k7 p1 p2 (Na.cmp_rng _ _)
  · exact order_ne20 w hg k1 k2 k3 k4 k5 (by rcases Na.cmp_rng (nums a) (nums b) with h | h | h <;> omega) (Na.cmp_rng _ _) (Na.cmp_rng _ _) (fun h1 h2 => Na.cmp_lt h1 h2)
end Go.Proofs.YtcnmmghkjblemaaDoor
