/- NameLies: what is Below a name lies together, right behind it; a name's Parent is before it. -/
import Derived.Test.YtcnmmghkjblemaaDoorNw20
namespace Go.Proofs.YtcnmmghkjblemaaDoor
open Go.RowKit

def ParK20 (a p : ByteArray) (r : Bool) : Prop := ∀ W, Gl20 W → Calls Tryd.prog 18 #[.string a] W (fun e w' => e = .returned (.tuple #[.string p, .bool r]) ∧ ∃ m, w' = W.drewN m)
theorem parK20 {a : ByteArray} (ha : a.size ≤ 1000000000) : ParK20 a (strOfNums (Na.par (nums a))) (decide (nums a ≠ [])) := fun W hg => by
  refine (parent20 cutC20 a W ha hg).mono ?_
  rintro e w1 ⟨t, rfl, ht, hd⟩
  rw [← ht, str_nums20]
  exact ⟨rfl, hd⟩
def LabK20 (a : ByteArray) (L : Nat) : Prop := ∀ W, Gl20 W → Calls Tryd.prog 14 #[.string a] W (fun e w' => ∃ ao cap, e = .returned (.slice ao L cap) ∧ Below W.heap.size W w')
theorem labK20 {a : ByteArray} (ha : a.size ≤ 1000000000) : LabK20 a (Na.lab (nums a)).length := fun W hg => by
  refine (labels20 spltC20 a W ha hg).mono ?_
  rintro e w1 ⟨v, rfl, o, hb⟩
  obtain ⟨ao, cap, rfl, _, _⟩ := txt_cells20 o.sv
  exact ⟨ao, cap, rfl, hb⟩
theorem Na.par_byt {l : List Int} (h : Byt l) : Byt (Na.par l) := by
  have : ∀ (X : List (List Int)), (∀ a ∈ X, Byt a) → Byt (Na.joi X) := by
    intro X
    induction X with
    | nil => intro _ z hz; cases hz
    | cons x r ih =>
      intro hX
      cases r with
      | nil => exact hX x List.mem_cons_self
      | cons y r =>
        intro z hz
        rw [Na.joi_cons (by simp)] at hz
        rcases List.mem_append.1 hz with hz | hz
        · exact hX x List.mem_cons_self z hz
        · rcases List.mem_cons.1 hz with rfl | hz
          · omega
          · exact ih (fun a ha => hX a (List.mem_cons_of_mem _ ha)) z hz
  unfold Na.par
  refine this _ fun a ha => ?_
  have hm := List.mem_of_mem_tail ha
  unfold Na.lab at hm
  split at hm
  · cases hm
  · exact fun z hz => h z ((Na.spl_mem l a hm).1 z hz)
set_option maxRecDepth 20000 in
set_option maxHeartbeats 16000000 in
theorem lies_walk0_20 {a b c d p : ByteArray} {x y cp : Int} {ad cd bd ca ba r ap : Bool} {L : Nat} (w : World) (hg : Gl20 w) (KAB : CmpK20 a b x) (KBC : CmpK20 b c y) (KPA : CmpK20 p a cp) (PAD : BelK20 a d ad) (PCD : BelK20 c d cd) (PBD : BelK20 b d bd) (PCA : BelK20 c a ca) (PBA : BelK20 b a ba)
    (PA0 : BelK20 a ⟨#[]⟩ true) (PAA : BelK20 a a true) (PAP : BelK20 a p ap) (KP : ParK20 a p r) (KL : LabK20 a L)
    (hP : ¬ x ≤ 0 ∨ (x ≤ 0 ∧ ¬ y ≤ 0) ∨ (x ≤ 0 ∧ y ≤ 0 ∧ (ad = false ∨ (ad = true ∧ cd = false) ∨ (ad = true ∧ cd = true ∧ bd = true)) ∧ (ca = false ∨ (ca = true ∧ ba = true))))
    (hR : r = false ∧ a.toList.isEmpty = true) : Calls Tryd.prog 8 #[.string a, .string b, .string c, .string d] w (Tells w true) := by
  have HG := hide hg
  have HB : Hid (Below w.heap.size w w) := Below.refl _ _
  have H1 := hide KAB; have H2 := hide KBC; have H3 := hide KPA; have H4 := hide PAD; have H5 := hide PCD; have H6 := hide PBD; have H7 := hide PCA; have H8 := hide PBA; have H9 := hide PA0; have H10 := hide PAA; have H11 := hide PAP; have H12 := hide KP; have H13 := hide KL
  clear hg KAB KBC KPA PAD PCD PBD PCA PBA PA0 PAA PAP KP KL
  obtain ⟨rfl, ha⟩ := hR
  rcases hP with hx | ⟨hx, hy⟩ | ⟨hx, hy, rfl | ⟨rfl, rfl⟩ | ⟨rfl, rfl, rfl⟩, rfl | ⟨rfl, rfl⟩⟩
  · go_enter Tryd.func8, Tryd.ntmps8
    go_wp2_with fail
    refine (unhide H1 _).mono ?_
    rintro e wn ⟨rfl, dn⟩
    replace HB := hide (bthen (unhide HB) (drewB dn))
    clear dn
    go_wp2_with fail
    refine (unhide H12 _ ((unhide HG).on (unhide HB))).mono ?_
    rintro e wn ⟨rfl, dn⟩
    replace HB := hide (bthen (unhide HB) (drewB dn))
    clear dn
    go_wp2_with fail
    refine (unhide H9 _).mono ?_
    rintro e wn ⟨rfl, dn⟩
    replace HB := hide (bthen (unhide HB) (drewB dn))
    clear dn
    go_wp2_with fail
    refine (unhide H10 _).mono ?_
    rintro e wn ⟨rfl, dn⟩
    replace HB := hide (bthen (unhide HB) (drewB dn))
    clear dn
    go_wp2_with fail
    refine (told20 _ ((unhide HG).on (unhide HB))).mono ?_
    rintro e wn ⟨rfl, bn⟩
    replace HB := hide (bthen (unhide HB) bn)
    clear bn
    go_wp2
    go_ret
    exact ⟨rfl, unhide HB⟩
  · go_enter Tryd.func8, Tryd.ntmps8
    go_wp2_with fail
    refine (unhide H1 _).mono ?_
    rintro e wn ⟨rfl, dn⟩
    replace HB := hide (bthen (unhide HB) (drewB dn))
    clear dn
    go_wp2_with fail
    refine (unhide H2 _).mono ?_
    rintro e wn ⟨rfl, dn⟩
    replace HB := hide (bthen (unhide HB) (drewB dn))
    clear dn
    go_wp2_with fail
    refine (unhide H12 _ ((unhide HG).on (unhide HB))).mono ?_
    rintro e wn ⟨rfl, dn⟩
    replace HB := hide (bthen (unhide HB) (drewB dn))
    clear dn
    go_wp2_with fail
    refine (unhide H9 _).mono ?_
    rintro e wn ⟨rfl, dn⟩
    replace HB := hide (bthen (unhide HB) (drewB dn))
    clear dn
    go_wp2_with fail
    refine (unhide H10 _).mono ?_
    rintro e wn ⟨rfl, dn⟩
    replace HB := hide (bthen (unhide HB) (drewB dn))
    clear dn
    go_wp2_with fail
    refine (told20 _ ((unhide HG).on (unhide HB))).mono ?_
    rintro e wn ⟨rfl, bn⟩
    replace HB := hide (bthen (unhide HB) bn)
    clear bn
    go_wp2
    go_ret
    exact ⟨rfl, unhide HB⟩
  · go_enter Tryd.func8, Tryd.ntmps8
    go_wp2_with fail
    refine (unhide H1 _).mono ?_
    rintro e wn ⟨rfl, dn⟩
    replace HB := hide (bthen (unhide HB) (drewB dn))
    clear dn
    go_wp2_with fail
    refine (unhide H2 _).mono ?_
    rintro e wn ⟨rfl, dn⟩
    replace HB := hide (bthen (unhide HB) (drewB dn))
    clear dn
    go_wp2_with fail
    refine (unhide H4 _).mono ?_
    rintro e wn ⟨rfl, dn⟩
    replace HB := hide (bthen (unhide HB) (drewB dn))
    clear dn
    go_wp2_with fail
    refine (unhide H7 _).mono ?_
    rintro e wn ⟨rfl, dn⟩
    replace HB := hide (bthen (unhide HB) (drewB dn))
    clear dn
    go_wp2_with fail
    refine (unhide H12 _ ((unhide HG).on (unhide HB))).mono ?_
    rintro e wn ⟨rfl, dn⟩
    replace HB := hide (bthen (unhide HB) (drewB dn))
    clear dn
    go_wp2_with fail
    refine (unhide H9 _).mono ?_
    rintro e wn ⟨rfl, dn⟩
    replace HB := hide (bthen (unhide HB) (drewB dn))
    clear dn
    go_wp2_with fail
    refine (unhide H10 _).mono ?_
    rintro e wn ⟨rfl, dn⟩
    replace HB := hide (bthen (unhide HB) (drewB dn))
    clear dn
    go_wp2_with fail
    refine (told20 _ ((unhide HG).on (unhide HB))).mono ?_
    rintro e wn ⟨rfl, bn⟩
    replace HB := hide (bthen (unhide HB) bn)
    clear bn
    go_wp2
    go_ret
    exact ⟨rfl, unhide HB⟩
  · go_enter Tryd.func8, Tryd.ntmps8
    go_wp2_with fail
    refine (unhide H1 _).mono ?_
    rintro e wn ⟨rfl, dn⟩
    replace HB := hide (bthen (unhide HB) (drewB dn))
    clear dn
    go_wp2_with fail
    refine (unhide H2 _).mono ?_
    rintro e wn ⟨rfl, dn⟩
    replace HB := hide (bthen (unhide HB) (drewB dn))
    clear dn
    go_wp2_with fail
    refine (unhide H4 _).mono ?_
    rintro e wn ⟨rfl, dn⟩
    replace HB := hide (bthen (unhide HB) (drewB dn))
    clear dn
    go_wp2_with fail
    refine (unhide H7 _).mono ?_
    rintro e wn ⟨rfl, dn⟩
    replace HB := hide (bthen (unhide HB) (drewB dn))
    clear dn
    go_wp2_with fail
    refine (unhide H8 _).mono ?_
    rintro e wn ⟨rfl, dn⟩
    replace HB := hide (bthen (unhide HB) (drewB dn))
    clear dn
    go_wp2_with fail
    refine (unhide H12 _ ((unhide HG).on (unhide HB))).mono ?_
    rintro e wn ⟨rfl, dn⟩
    replace HB := hide (bthen (unhide HB) (drewB dn))
    clear dn
    go_wp2_with fail
    refine (unhide H9 _).mono ?_
    rintro e wn ⟨rfl, dn⟩
    replace HB := hide (bthen (unhide HB) (drewB dn))
    clear dn
    go_wp2_with fail
    refine (unhide H10 _).mono ?_
    rintro e wn ⟨rfl, dn⟩
    replace HB := hide (bthen (unhide HB) (drewB dn))
    clear dn
    go_wp2_with fail
    refine (told20 _ ((unhide HG).on (unhide HB))).mono ?_
    rintro e wn ⟨rfl, bn⟩
    replace HB := hide (bthen (unhide HB) bn)
    clear bn
    go_wp2
    go_ret
    exact ⟨rfl, unhide HB⟩
  · go_enter Tryd.func8, Tryd.ntmps8
    go_wp2_with fail
    refine (unhide H1 _).mono ?_
    rintro e wn ⟨rfl, dn⟩
    replace HB := hide (bthen (unhide HB) (drewB dn))
    clear dn
    go_wp2_with fail
    refine (unhide H2 _).mono ?_
    rintro e wn ⟨rfl, dn⟩
    replace HB := hide (bthen (unhide HB) (drewB dn))
    clear dn
    go_wp2_with fail
    refine (unhide H4 _).mono ?_
    rintro e wn ⟨rfl, dn⟩
    replace HB := hide (bthen (unhide HB) (drewB dn))
    clear dn
    go_wp2_with fail
    refine (unhide H5 _).mono ?_
    rintro e wn ⟨rfl, dn⟩
    replace HB := hide (bthen (unhide HB) (drewB dn))
    clear dn
    go_wp2_with fail
    refine (unhide H7 _).mono ?_
    rintro e wn ⟨rfl, dn⟩
    replace HB := hide (bthen (unhide HB) (drewB dn))
    clear dn
    go_wp2_with fail
    refine (unhide H12 _ ((unhide HG).on (unhide HB))).mono ?_
    rintro e wn ⟨rfl, dn⟩
    replace HB := hide (bthen (unhide HB) (drewB dn))
    clear dn
    go_wp2_with fail
    refine (unhide H9 _).mono ?_
    rintro e wn ⟨rfl, dn⟩
    replace HB := hide (bthen (unhide HB) (drewB dn))
    clear dn
    go_wp2_with fail
    refine (unhide H10 _).mono ?_
    rintro e wn ⟨rfl, dn⟩
    replace HB := hide (bthen (unhide HB) (drewB dn))
    clear dn
    go_wp2_with fail
    refine (told20 _ ((unhide HG).on (unhide HB))).mono ?_
    rintro e wn ⟨rfl, bn⟩
    replace HB := hide (bthen (unhide HB) bn)
    clear bn
    go_wp2
    go_ret
    exact ⟨rfl, unhide HB⟩
  · go_enter Tryd.func8, Tryd.ntmps8
    go_wp2_with fail
    refine (unhide H1 _).mono ?_
    rintro e wn ⟨rfl, dn⟩
    replace HB := hide (bthen (unhide HB) (drewB dn))
    clear dn
    go_wp2_with fail
    refine (unhide H2 _).mono ?_
    rintro e wn ⟨rfl, dn⟩
    replace HB := hide (bthen (unhide HB) (drewB dn))
    clear dn
    go_wp2_with fail
    refine (unhide H4 _).mono ?_
    rintro e wn ⟨rfl, dn⟩
    replace HB := hide (bthen (unhide HB) (drewB dn))
    clear dn
    go_wp2_with fail
    refine (unhide H5 _).mono ?_
    rintro e wn ⟨rfl, dn⟩
    replace HB := hide (bthen (unhide HB) (drewB dn))
    clear dn
    go_wp2_with fail
    refine (unhide H7 _).mono ?_
    rintro e wn ⟨rfl, dn⟩
    replace HB := hide (bthen (unhide HB) (drewB dn))
    clear dn
    go_wp2_with fail
    refine (unhide H8 _).mono ?_
    rintro e wn ⟨rfl, dn⟩
    replace HB := hide (bthen (unhide HB) (drewB dn))
    clear dn
    go_wp2_with fail
    refine (unhide H12 _ ((unhide HG).on (unhide HB))).mono ?_
    rintro e wn ⟨rfl, dn⟩
    replace HB := hide (bthen (unhide HB) (drewB dn))
    clear dn
    go_wp2_with fail
    refine (unhide H9 _).mono ?_
    rintro e wn ⟨rfl, dn⟩
    replace HB := hide (bthen (unhide HB) (drewB dn))
    clear dn
    go_wp2_with fail
    refine (unhide H10 _).mono ?_
    rintro e wn ⟨rfl, dn⟩
    replace HB := hide (bthen (unhide HB) (drewB dn))
    clear dn
    go_wp2_with fail
    refine (told20 _ ((unhide HG).on (unhide HB))).mono ?_
    rintro e wn ⟨rfl, bn⟩
    replace HB := hide (bthen (unhide HB) bn)
    clear bn
    go_wp2
    go_ret
    exact ⟨rfl, unhide HB⟩
  · go_enter Tryd.func8, Tryd.ntmps8
    go_wp2_with fail
    refine (unhide H1 _).mono ?_
    rintro e wn ⟨rfl, dn⟩
    replace HB := hide (bthen (unhide HB) (drewB dn))
    clear dn
    go_wp2_with fail
    refine (unhide H2 _).mono ?_
    rintro e wn ⟨rfl, dn⟩
    replace HB := hide (bthen (unhide HB) (drewB dn))
    clear dn
    go_wp2_with fail
    refine (unhide H4 _).mono ?_
    rintro e wn ⟨rfl, dn⟩
    replace HB := hide (bthen (unhide HB) (drewB dn))
    clear dn
    go_wp2_with fail
    refine (unhide H5 _).mono ?_
    rintro e wn ⟨rfl, dn⟩
    replace HB := hide (bthen (unhide HB) (drewB dn))
    clear dn
    go_wp2_with fail
    refine (unhide H6 _).mono ?_
    rintro e wn ⟨rfl, dn⟩
    replace HB := hide (bthen (unhide HB) (drewB dn))
    clear dn
    go_wp2_with fail
    refine (unhide H7 _).mono ?_
    rintro e wn ⟨rfl, dn⟩
    replace HB := hide (bthen (unhide HB) (drewB dn))
    clear dn
    go_wp2_with fail
    refine (unhide H12 _ ((unhide HG).on (unhide HB))).mono ?_
    rintro e wn ⟨rfl, dn⟩
    replace HB := hide (bthen (unhide HB) (drewB dn))
    clear dn
    go_wp2_with fail
    refine (unhide H9 _).mono ?_
    rintro e wn ⟨rfl, dn⟩
    replace HB := hide (bthen (unhide HB) (drewB dn))
    clear dn
    go_wp2_with fail
    refine (unhide H10 _).mono ?_
    rintro e wn ⟨rfl, dn⟩
    replace HB := hide (bthen (unhide HB) (drewB dn))
    clear dn
    go_wp2_with fail
    refine (told20 _ ((unhide HG).on (unhide HB))).mono ?_
    rintro e wn ⟨rfl, bn⟩
    replace HB := hide (bthen (unhide HB) bn)
    clear bn
    go_wp2
    go_ret
    exact ⟨rfl, unhide HB⟩
  · go_enter Tryd.func8, Tryd.ntmps8
    go_wp2_with fail
    refine (unhide H1 _).mono ?_
    rintro e wn ⟨rfl, dn⟩
    replace HB := hide (bthen (unhide HB) (drewB dn))
    clear dn
    go_wp2_with fail
    refine (unhide H2 _).mono ?_
    rintro e wn ⟨rfl, dn⟩
    replace HB := hide (bthen (unhide HB) (drewB dn))
    clear dn
    go_wp2_with fail
    refine (unhide H4 _).mono ?_
    rintro e wn ⟨rfl, dn⟩
    replace HB := hide (bthen (unhide HB) (drewB dn))
    clear dn
    go_wp2_with fail
    refine (unhide H5 _).mono ?_
    rintro e wn ⟨rfl, dn⟩
    replace HB := hide (bthen (unhide HB) (drewB dn))
    clear dn
    go_wp2_with fail
    refine (unhide H6 _).mono ?_
    rintro e wn ⟨rfl, dn⟩
    replace HB := hide (bthen (unhide HB) (drewB dn))
    clear dn
    go_wp2_with fail
    refine (unhide H7 _).mono ?_
    rintro e wn ⟨rfl, dn⟩
    replace HB := hide (bthen (unhide HB) (drewB dn))
    clear dn
    go_wp2_with fail
    refine (unhide H8 _).mono ?_
    rintro e wn ⟨rfl, dn⟩
    replace HB := hide (bthen (unhide HB) (drewB dn))
    clear dn
    go_wp2_with fail
    refine (unhide H12 _ ((unhide HG).on (unhide HB))).mono ?_
    rintro e wn ⟨rfl, dn⟩
    replace HB := hide (bthen (unhide HB) (drewB dn))
    clear dn
    go_wp2_with fail
    refine (unhide H9 _).mono ?_
    rintro e wn ⟨rfl, dn⟩
    replace HB := hide (bthen (unhide HB) (drewB dn))
    clear dn
    go_wp2_with fail
    refine (unhide H10 _).mono ?_
    rintro e wn ⟨rfl, dn⟩
    replace HB := hide (bthen (unhide HB) (drewB dn))
    clear dn
    go_wp2_with fail
    refine (told20 _ ((unhide HG).on (unhide HB))).mono ?_
    rintro e wn ⟨rfl, bn⟩
    replace HB := hide (bthen (unhide HB) bn)
    clear bn
    go_wp2
    go_ret
    exact ⟨rfl, unhide HB⟩
set_option maxRecDepth 20000 in
set_option maxHeartbeats 16000000 in
theorem lies_walk1_20 {a b c d p : ByteArray} {x y cp : Int} {ad cd bd ca ba r ap : Bool} {L : Nat} (w : World) (hg : Gl20 w) (KAB : CmpK20 a b x) (KBC : CmpK20 b c y) (KPA : CmpK20 p a cp) (PAD : BelK20 a d ad) (PCD : BelK20 c d cd) (PBD : BelK20 b d bd) (PCA : BelK20 c a ca) (PBA : BelK20 b a ba)
    (PA0 : BelK20 a ⟨#[]⟩ true) (PAA : BelK20 a a true) (PAP : BelK20 a p ap) (KP : ParK20 a p r) (KL : LabK20 a L)
    (hP : ¬ x ≤ 0 ∨ (x ≤ 0 ∧ ¬ y ≤ 0) ∨ (x ≤ 0 ∧ y ≤ 0 ∧ (ad = false ∨ (ad = true ∧ cd = false) ∨ (ad = true ∧ cd = true ∧ bd = true)) ∧ (ca = false ∨ (ca = true ∧ ba = true))))
    (hR : r = true ∧ a.toList.isEmpty = false ∧ p.toList.isEmpty = true ∧ L = 2) : Calls Tryd.prog 8 #[.string a, .string b, .string c, .string d] w (Tells w true) := by
  have HG := hide hg
  have HB : Hid (Below w.heap.size w w) := Below.refl _ _
  have H1 := hide KAB; have H2 := hide KBC; have H3 := hide KPA; have H4 := hide PAD; have H5 := hide PCD; have H6 := hide PBD; have H7 := hide PCA; have H8 := hide PBA; have H9 := hide PA0; have H10 := hide PAA; have H11 := hide PAP; have H12 := hide KP; have H13 := hide KL
  clear hg KAB KBC KPA PAD PCD PBD PCA PBA PA0 PAA PAP KP KL
  obtain ⟨rfl, ha, hp, rfl⟩ := hR
  rcases hP with hx | ⟨hx, hy⟩ | ⟨hx, hy, rfl | ⟨rfl, rfl⟩ | ⟨rfl, rfl, rfl⟩, rfl | ⟨rfl, rfl⟩⟩
  · go_enter Tryd.func8, Tryd.ntmps8
    go_wp2_with fail
    refine (unhide H1 _).mono ?_
    rintro e wn ⟨rfl, dn⟩
    replace HB := hide (bthen (unhide HB) (drewB dn))
    clear dn
    go_wp2_with fail
    refine (unhide H12 _ ((unhide HG).on (unhide HB))).mono ?_
    rintro e wn ⟨rfl, dn⟩
    replace HB := hide (bthen (unhide HB) (drewB dn))
    clear dn
    go_wp2_with fail
    refine (unhide H9 _).mono ?_
    rintro e wn ⟨rfl, dn⟩
    replace HB := hide (bthen (unhide HB) (drewB dn))
    clear dn
    go_wp2_with fail
    refine (unhide H10 _).mono ?_
    rintro e wn ⟨rfl, dn⟩
    replace HB := hide (bthen (unhide HB) (drewB dn))
    clear dn
    go_wp2_with fail
    refine (told20 _ ((unhide HG).on (unhide HB))).mono ?_
    rintro e wn ⟨rfl, bn⟩
    replace HB := hide (bthen (unhide HB) bn)
    clear bn
    go_wp2_with fail
    refine (unhide H13 _ ((unhide HG).on (unhide HB))).mono ?_
    rintro e wn ⟨ao, cap, rfl, bn⟩
    replace HB := hide (bthen (unhide HB) bn)
    clear bn
    go_wp2
    go_ret
    exact ⟨rfl, unhide HB⟩
  · go_enter Tryd.func8, Tryd.ntmps8
    go_wp2_with fail
    refine (unhide H1 _).mono ?_
    rintro e wn ⟨rfl, dn⟩
    replace HB := hide (bthen (unhide HB) (drewB dn))
    clear dn
    go_wp2_with fail
    refine (unhide H2 _).mono ?_
    rintro e wn ⟨rfl, dn⟩
    replace HB := hide (bthen (unhide HB) (drewB dn))
    clear dn
    go_wp2_with fail
    refine (unhide H12 _ ((unhide HG).on (unhide HB))).mono ?_
    rintro e wn ⟨rfl, dn⟩
    replace HB := hide (bthen (unhide HB) (drewB dn))
    clear dn
    go_wp2_with fail
    refine (unhide H9 _).mono ?_
    rintro e wn ⟨rfl, dn⟩
    replace HB := hide (bthen (unhide HB) (drewB dn))
    clear dn
    go_wp2_with fail
    refine (unhide H10 _).mono ?_
    rintro e wn ⟨rfl, dn⟩
    replace HB := hide (bthen (unhide HB) (drewB dn))
    clear dn
    go_wp2_with fail
    refine (told20 _ ((unhide HG).on (unhide HB))).mono ?_
    rintro e wn ⟨rfl, bn⟩
    replace HB := hide (bthen (unhide HB) bn)
    clear bn
    go_wp2_with fail
    refine (unhide H13 _ ((unhide HG).on (unhide HB))).mono ?_
    rintro e wn ⟨ao, cap, rfl, bn⟩
    replace HB := hide (bthen (unhide HB) bn)
    clear bn
    go_wp2
    go_ret
    exact ⟨rfl, unhide HB⟩
  · go_enter Tryd.func8, Tryd.ntmps8
    go_wp2_with fail
    refine (unhide H1 _).mono ?_
    rintro e wn ⟨rfl, dn⟩
    replace HB := hide (bthen (unhide HB) (drewB dn))
    clear dn
    go_wp2_with fail
    refine (unhide H2 _).mono ?_
    rintro e wn ⟨rfl, dn⟩
    replace HB := hide (bthen (unhide HB) (drewB dn))
    clear dn
    go_wp2_with fail
    refine (unhide H4 _).mono ?_
    rintro e wn ⟨rfl, dn⟩
    replace HB := hide (bthen (unhide HB) (drewB dn))
    clear dn
    go_wp2_with fail
    refine (unhide H7 _).mono ?_
    rintro e wn ⟨rfl, dn⟩
    replace HB := hide (bthen (unhide HB) (drewB dn))
    clear dn
    go_wp2_with fail
    refine (unhide H12 _ ((unhide HG).on (unhide HB))).mono ?_
    rintro e wn ⟨rfl, dn⟩
    replace HB := hide (bthen (unhide HB) (drewB dn))
    clear dn
    go_wp2_with fail
    refine (unhide H9 _).mono ?_
    rintro e wn ⟨rfl, dn⟩
    replace HB := hide (bthen (unhide HB) (drewB dn))
    clear dn
    go_wp2_with fail
    refine (unhide H10 _).mono ?_
    rintro e wn ⟨rfl, dn⟩
    replace HB := hide (bthen (unhide HB) (drewB dn))
    clear dn
    go_wp2_with fail
    refine (told20 _ ((unhide HG).on (unhide HB))).mono ?_
    rintro e wn ⟨rfl, bn⟩
    replace HB := hide (bthen (unhide HB) bn)
    clear bn
    go_wp2_with fail
    refine (unhide H13 _ ((unhide HG).on (unhide HB))).mono ?_
    rintro e wn ⟨ao, cap, rfl, bn⟩
    replace HB := hide (bthen (unhide HB) bn)
    clear bn
    go_wp2
    go_ret
    exact ⟨rfl, unhide HB⟩
  · go_enter Tryd.func8, Tryd.ntmps8
    go_wp2_with fail
    refine (unhide H1 _).mono ?_
    rintro e wn ⟨rfl, dn⟩
    replace HB := hide (bthen (unhide HB) (drewB dn))
    clear dn
    go_wp2_with fail
    refine (unhide H2 _).mono ?_
    rintro e wn ⟨rfl, dn⟩
    replace HB := hide (bthen (unhide HB) (drewB dn))
    clear dn
    go_wp2_with fail
    refine (unhide H4 _).mono ?_
    rintro e wn ⟨rfl, dn⟩
    replace HB := hide (bthen (unhide HB) (drewB dn))
    clear dn
    go_wp2_with fail
    refine (unhide H7 _).mono ?_
    rintro e wn ⟨rfl, dn⟩
    replace HB := hide (bthen (unhide HB) (drewB dn))
    clear dn
    go_wp2_with fail
    refine (unhide H8 _).mono ?_
    rintro e wn ⟨rfl, dn⟩
    replace HB := hide (bthen (unhide HB) (drewB dn))
    clear dn
    go_wp2_with fail
    refine (unhide H12 _ ((unhide HG).on (unhide HB))).mono ?_
    rintro e wn ⟨rfl, dn⟩
    replace HB := hide (bthen (unhide HB) (drewB dn))
    clear dn
    go_wp2_with fail
    refine (unhide H9 _).mono ?_
    rintro e wn ⟨rfl, dn⟩
    replace HB := hide (bthen (unhide HB) (drewB dn))
    clear dn
    go_wp2_with fail
    refine (unhide H10 _).mono ?_
    rintro e wn ⟨rfl, dn⟩
    replace HB := hide (bthen (unhide HB) (drewB dn))
    clear dn
    go_wp2_with fail
    refine (told20 _ ((unhide HG).on (unhide HB))).mono ?_
    rintro e wn ⟨rfl, bn⟩
    replace HB := hide (bthen (unhide HB) bn)
    clear bn
    go_wp2_with fail
    refine (unhide H13 _ ((unhide HG).on (unhide HB))).mono ?_
    rintro e wn ⟨ao, cap, rfl, bn⟩
    replace HB := hide (bthen (unhide HB) bn)
    clear bn
    go_wp2
    go_ret
    exact ⟨rfl, unhide HB⟩
  · go_enter Tryd.func8, Tryd.ntmps8
    go_wp2_with fail
    refine (unhide H1 _).mono ?_
    rintro e wn ⟨rfl, dn⟩
    replace HB := hide (bthen (unhide HB) (drewB dn))
    clear dn
    go_wp2_with fail
    refine (unhide H2 _).mono ?_
    rintro e wn ⟨rfl, dn⟩
    replace HB := hide (bthen (unhide HB) (drewB dn))
    clear dn
    go_wp2_with fail
    refine (unhide H4 _).mono ?_
    rintro e wn ⟨rfl, dn⟩
    replace HB := hide (bthen (unhide HB) (drewB dn))
    clear dn
    go_wp2_with fail
    refine (unhide H5 _).mono ?_
    rintro e wn ⟨rfl, dn⟩
    replace HB := hide (bthen (unhide HB) (drewB dn))
    clear dn
    go_wp2_with fail
    refine (unhide H7 _).mono ?_
    rintro e wn ⟨rfl, dn⟩
    replace HB := hide (bthen (unhide HB) (drewB dn))
    clear dn
    go_wp2_with fail
    refine (unhide H12 _ ((unhide HG).on (unhide HB))).mono ?_
    rintro e wn ⟨rfl, dn⟩
    replace HB := hide (bthen (unhide HB) (drewB dn))
    clear dn
    go_wp2_with fail
    refine (unhide H9 _).mono ?_
    rintro e wn ⟨rfl, dn⟩
    replace HB := hide (bthen (unhide HB) (drewB dn))
    clear dn
    go_wp2_with fail
    refine (unhide H10 _).mono ?_
    rintro e wn ⟨rfl, dn⟩
    replace HB := hide (bthen (unhide HB) (drewB dn))
    clear dn
    go_wp2_with fail
    refine (told20 _ ((unhide HG).on (unhide HB))).mono ?_
    rintro e wn ⟨rfl, bn⟩
    replace HB := hide (bthen (unhide HB) bn)
    clear bn
    go_wp2_with fail
    refine (unhide H13 _ ((unhide HG).on (unhide HB))).mono ?_
    rintro e wn ⟨ao, cap, rfl, bn⟩
    replace HB := hide (bthen (unhide HB) bn)
    clear bn
    go_wp2
    go_ret
    exact ⟨rfl, unhide HB⟩
  · go_enter Tryd.func8, Tryd.ntmps8
    go_wp2_with fail
    refine (unhide H1 _).mono ?_
    rintro e wn ⟨rfl, dn⟩
    replace HB := hide (bthen (unhide HB) (drewB dn))
    clear dn
    go_wp2_with fail
    refine (unhide H2 _).mono ?_
    rintro e wn ⟨rfl, dn⟩
    replace HB := hide (bthen (unhide HB) (drewB dn))
    clear dn
    go_wp2_with fail
    refine (unhide H4 _).mono ?_
    rintro e wn ⟨rfl, dn⟩
    replace HB := hide (bthen (unhide HB) (drewB dn))
    clear dn
    go_wp2_with fail
    refine (unhide H5 _).mono ?_
    rintro e wn ⟨rfl, dn⟩
    replace HB := hide (bthen (unhide HB) (drewB dn))
    clear dn
    go_wp2_with fail
    refine (unhide H7 _).mono ?_
    rintro e wn ⟨rfl, dn⟩
    replace HB := hide (bthen (unhide HB) (drewB dn))
    clear dn
    go_wp2_with fail
    refine (unhide H8 _).mono ?_
    rintro e wn ⟨rfl, dn⟩
    replace HB := hide (bthen (unhide HB) (drewB dn))
    clear dn
    go_wp2_with fail
    refine (unhide H12 _ ((unhide HG).on (unhide HB))).mono ?_
    rintro e wn ⟨rfl, dn⟩
    replace HB := hide (bthen (unhide HB) (drewB dn))
    clear dn
    go_wp2_with fail
    refine (unhide H9 _).mono ?_
    rintro e wn ⟨rfl, dn⟩
    replace HB := hide (bthen (unhide HB) (drewB dn))
    clear dn
    go_wp2_with fail
    refine (unhide H10 _).mono ?_
    rintro e wn ⟨rfl, dn⟩
    replace HB := hide (bthen (unhide HB) (drewB dn))
    clear dn
    go_wp2_with fail
    refine (told20 _ ((unhide HG).on (unhide HB))).mono ?_
    rintro e wn ⟨rfl, bn⟩
    replace HB := hide (bthen (unhide HB) bn)
    clear bn
    go_wp2_with fail
    refine (unhide H13 _ ((unhide HG).on (unhide HB))).mono ?_
    rintro e wn ⟨ao, cap, rfl, bn⟩
    replace HB := hide (bthen (unhide HB) bn)
    clear bn
    go_wp2
    go_ret
    exact ⟨rfl, unhide HB⟩
  · go_enter Tryd.func8, Tryd.ntmps8
    go_wp2_with fail
    refine (unhide H1 _).mono ?_
    rintro e wn ⟨rfl, dn⟩
    replace HB := hide (bthen (unhide HB) (drewB dn))
    clear dn
    go_wp2_with fail
    refine (unhide H2 _).mono ?_
    rintro e wn ⟨rfl, dn⟩
    replace HB := hide (bthen (unhide HB) (drewB dn))
    clear dn
    go_wp2_with fail
    refine (unhide H4 _).mono ?_
    rintro e wn ⟨rfl, dn⟩
    replace HB := hide (bthen (unhide HB) (drewB dn))
    clear dn
    go_wp2_with fail
    refine (unhide H5 _).mono ?_
    rintro e wn ⟨rfl, dn⟩
    replace HB := hide (bthen (unhide HB) (drewB dn))
    clear dn
    go_wp2_with fail
    refine (unhide H6 _).mono ?_
    rintro e wn ⟨rfl, dn⟩
    replace HB := hide (bthen (unhide HB) (drewB dn))
    clear dn
    go_wp2_with fail
    refine (unhide H7 _).mono ?_
    rintro e wn ⟨rfl, dn⟩
    replace HB := hide (bthen (unhide HB) (drewB dn))
    clear dn
    go_wp2_with fail
    refine (unhide H12 _ ((unhide HG).on (unhide HB))).mono ?_
    rintro e wn ⟨rfl, dn⟩
    replace HB := hide (bthen (unhide HB) (drewB dn))
    clear dn
    go_wp2_with fail
    refine (unhide H9 _).mono ?_
    rintro e wn ⟨rfl, dn⟩
    replace HB := hide (bthen (unhide HB) (drewB dn))
    clear dn
    go_wp2_with fail
    refine (unhide H10 _).mono ?_
    rintro e wn ⟨rfl, dn⟩
    replace HB := hide (bthen (unhide HB) (drewB dn))
    clear dn
    go_wp2_with fail
    refine (told20 _ ((unhide HG).on (unhide HB))).mono ?_
    rintro e wn ⟨rfl, bn⟩
    replace HB := hide (bthen (unhide HB) bn)
    clear bn
    go_wp2_with fail
    refine (unhide H13 _ ((unhide HG).on (unhide HB))).mono ?_
    rintro e wn ⟨ao, cap, rfl, bn⟩
    replace HB := hide (bthen (unhide HB) bn)
    clear bn
    go_wp2
    go_ret
    exact ⟨rfl, unhide HB⟩
  · go_enter Tryd.func8, Tryd.ntmps8
    go_wp2_with fail
    refine (unhide H1 _).mono ?_
    rintro e wn ⟨rfl, dn⟩
    replace HB := hide (bthen (unhide HB) (drewB dn))
    clear dn
    go_wp2_with fail
    refine (unhide H2 _).mono ?_
    rintro e wn ⟨rfl, dn⟩
    replace HB := hide (bthen (unhide HB) (drewB dn))
    clear dn
    go_wp2_with fail
    refine (unhide H4 _).mono ?_
    rintro e wn ⟨rfl, dn⟩
    replace HB := hide (bthen (unhide HB) (drewB dn))
    clear dn
    go_wp2_with fail
    refine (unhide H5 _).mono ?_
    rintro e wn ⟨rfl, dn⟩
    replace HB := hide (bthen (unhide HB) (drewB dn))
    clear dn
    go_wp2_with fail
    refine (unhide H6 _).mono ?_
    rintro e wn ⟨rfl, dn⟩
    replace HB := hide (bthen (unhide HB) (drewB dn))
    clear dn
    go_wp2_with fail
    refine (unhide H7 _).mono ?_
    rintro e wn ⟨rfl, dn⟩
    replace HB := hide (bthen (unhide HB) (drewB dn))
    clear dn
    go_wp2_with fail
    refine (unhide H8 _).mono ?_
    rintro e wn ⟨rfl, dn⟩
    replace HB := hide (bthen (unhide HB) (drewB dn))
    clear dn
    go_wp2_with fail
    refine (unhide H12 _ ((unhide HG).on (unhide HB))).mono ?_
    rintro e wn ⟨rfl, dn⟩
    replace HB := hide (bthen (unhide HB) (drewB dn))
    clear dn
    go_wp2_with fail
    refine (unhide H9 _).mono ?_
    rintro e wn ⟨rfl, dn⟩
    replace HB := hide (bthen (unhide HB) (drewB dn))
    clear dn
    go_wp2_with fail
    refine (unhide H10 _).mono ?_
    rintro e wn ⟨rfl, dn⟩
    replace HB := hide (bthen (unhide HB) (drewB dn))
    clear dn
    go_wp2_with fail
    refine (told20 _ ((unhide HG).on (unhide HB))).mono ?_
    rintro e wn ⟨rfl, bn⟩
    replace HB := hide (bthen (unhide HB) bn)
    clear bn
    go_wp2_with fail
    refine (unhide H13 _ ((unhide HG).on (unhide HB))).mono ?_
    rintro e wn ⟨ao, cap, rfl, bn⟩
    replace HB := hide (bthen (unhide HB) bn)
    clear bn
    go_wp2
    go_ret
    exact ⟨rfl, unhide HB⟩
set_option maxRecDepth 20000 in
set_option maxHeartbeats 16000000 in
theorem lies_walk2_20 {a b c d p : ByteArray} {x y cp : Int} {ad cd bd ca ba r ap : Bool} {L : Nat} (w : World) (hg : Gl20 w) (KAB : CmpK20 a b x) (KBC : CmpK20 b c y) (KPA : CmpK20 p a cp) (PAD : BelK20 a d ad) (PCD : BelK20 c d cd) (PBD : BelK20 b d bd) (PCA : BelK20 c a ca) (PBA : BelK20 b a ba)
    (PA0 : BelK20 a ⟨#[]⟩ true) (PAA : BelK20 a a true) (PAP : BelK20 a p ap) (KP : ParK20 a p r) (KL : LabK20 a L)
    (hP : ¬ x ≤ 0 ∨ (x ≤ 0 ∧ ¬ y ≤ 0) ∨ (x ≤ 0 ∧ y ≤ 0 ∧ (ad = false ∨ (ad = true ∧ cd = false) ∨ (ad = true ∧ cd = true ∧ bd = true)) ∧ (ca = false ∨ (ca = true ∧ ba = true))))
    (hR : r = true ∧ a.toList.isEmpty = false ∧ cp = -1 ∧ ap = true ∧ p.toList.isEmpty = true ∧ ((L : Int) == 2) = false) : Calls Tryd.prog 8 #[.string a, .string b, .string c, .string d] w (Tells w true) := by
  have HG := hide hg
  have HB : Hid (Below w.heap.size w w) := Below.refl _ _
  have H1 := hide KAB; have H2 := hide KBC; have H3 := hide KPA; have H4 := hide PAD; have H5 := hide PCD; have H6 := hide PBD; have H7 := hide PCA; have H8 := hide PBA; have H9 := hide PA0; have H10 := hide PAA; have H11 := hide PAP; have H12 := hide KP; have H13 := hide KL
  clear hg KAB KBC KPA PAD PCD PBD PCA PBA PA0 PAA PAP KP KL
  obtain ⟨rfl, ha, rfl, rfl, hp, hL⟩ := hR
  rcases hP with hx | ⟨hx, hy⟩ | ⟨hx, hy, rfl | ⟨rfl, rfl⟩ | ⟨rfl, rfl, rfl⟩, rfl | ⟨rfl, rfl⟩⟩
  · go_enter Tryd.func8, Tryd.ntmps8
    go_wp2_with fail
    refine (unhide H1 _).mono ?_
    rintro e wn ⟨rfl, dn⟩
    replace HB := hide (bthen (unhide HB) (drewB dn))
    clear dn
    go_wp2_with fail
    refine (unhide H12 _ ((unhide HG).on (unhide HB))).mono ?_
    rintro e wn ⟨rfl, dn⟩
    replace HB := hide (bthen (unhide HB) (drewB dn))
    clear dn
    go_wp2_with fail
    refine (unhide H9 _).mono ?_
    rintro e wn ⟨rfl, dn⟩
    replace HB := hide (bthen (unhide HB) (drewB dn))
    clear dn
    go_wp2_with fail
    refine (unhide H10 _).mono ?_
    rintro e wn ⟨rfl, dn⟩
    replace HB := hide (bthen (unhide HB) (drewB dn))
    clear dn
    go_wp2_with fail
    refine (told20 _ ((unhide HG).on (unhide HB))).mono ?_
    rintro e wn ⟨rfl, bn⟩
    replace HB := hide (bthen (unhide HB) bn)
    clear bn
    go_wp2_with fail
    refine (unhide H13 _ ((unhide HG).on (unhide HB))).mono ?_
    rintro e wn ⟨ao, cap, rfl, bn⟩
    replace HB := hide (bthen (unhide HB) bn)
    clear bn
    go_wp2_with fail
    refine (unhide H3 _).mono ?_
    rintro e wn ⟨rfl, dn⟩
    replace HB := hide (bthen (unhide HB) (drewB dn))
    clear dn
    go_wp2_with fail
    refine (unhide H11 _).mono ?_
    rintro e wn ⟨rfl, dn⟩
    replace HB := hide (bthen (unhide HB) (drewB dn))
    clear dn
    go_wp2
    go_ret
    exact ⟨rfl, unhide HB⟩
  · go_enter Tryd.func8, Tryd.ntmps8
    go_wp2_with fail
    refine (unhide H1 _).mono ?_
    rintro e wn ⟨rfl, dn⟩
    replace HB := hide (bthen (unhide HB) (drewB dn))
    clear dn
    go_wp2_with fail
    refine (unhide H2 _).mono ?_
    rintro e wn ⟨rfl, dn⟩
    replace HB := hide (bthen (unhide HB) (drewB dn))
    clear dn
    go_wp2_with fail
    refine (unhide H12 _ ((unhide HG).on (unhide HB))).mono ?_
    rintro e wn ⟨rfl, dn⟩
    replace HB := hide (bthen (unhide HB) (drewB dn))
    clear dn
    go_wp2_with fail
    refine (unhide H9 _).mono ?_
    rintro e wn ⟨rfl, dn⟩
    replace HB := hide (bthen (unhide HB) (drewB dn))
    clear dn
    go_wp2_with fail
    refine (unhide H10 _).mono ?_
    rintro e wn ⟨rfl, dn⟩
    replace HB := hide (bthen (unhide HB) (drewB dn))
    clear dn
    go_wp2_with fail
    refine (told20 _ ((unhide HG).on (unhide HB))).mono ?_
    rintro e wn ⟨rfl, bn⟩
    replace HB := hide (bthen (unhide HB) bn)
    clear bn
    go_wp2_with fail
    refine (unhide H13 _ ((unhide HG).on (unhide HB))).mono ?_
    rintro e wn ⟨ao, cap, rfl, bn⟩
    replace HB := hide (bthen (unhide HB) bn)
    clear bn
    go_wp2_with fail
    refine (unhide H3 _).mono ?_
    rintro e wn ⟨rfl, dn⟩
    replace HB := hide (bthen (unhide HB) (drewB dn))
    clear dn
    go_wp2_with fail
    refine (unhide H11 _).mono ?_
    rintro e wn ⟨rfl, dn⟩
    replace HB := hide (bthen (unhide HB) (drewB dn))
    clear dn
    go_wp2
    go_ret
    exact ⟨rfl, unhide HB⟩
  · go_enter Tryd.func8, Tryd.ntmps8
    go_wp2_with fail
    refine (unhide H1 _).mono ?_
    rintro e wn ⟨rfl, dn⟩
    replace HB := hide (bthen (unhide HB) (drewB dn))
    clear dn
    go_wp2_with fail
    refine (unhide H2 _).mono ?_
    rintro e wn ⟨rfl, dn⟩
    replace HB := hide (bthen (unhide HB) (drewB dn))
    clear dn
    go_wp2_with fail
    refine (unhide H4 _).mono ?_
    rintro e wn ⟨rfl, dn⟩
    replace HB := hide (bthen (unhide HB) (drewB dn))
    clear dn
    go_wp2_with fail
    refine (unhide H7 _).mono ?_
    rintro e wn ⟨rfl, dn⟩
    replace HB := hide (bthen (unhide HB) (drewB dn))
    clear dn
    go_wp2_with fail
    refine (unhide H12 _ ((unhide HG).on (unhide HB))).mono ?_
    rintro e wn ⟨rfl, dn⟩
    replace HB := hide (bthen (unhide HB) (drewB dn))
    clear dn
    go_wp2_with fail
    refine (unhide H9 _).mono ?_
    rintro e wn ⟨rfl, dn⟩
    replace HB := hide (bthen (unhide HB) (drewB dn))
    clear dn
    go_wp2_with fail
    refine (unhide H10 _).mono ?_
    rintro e wn ⟨rfl, dn⟩
    replace HB := hide (bthen (unhide HB) (drewB dn))
    clear dn
    go_wp2_with fail
    refine (told20 _ ((unhide HG).on (unhide HB))).mono ?_
    rintro e wn ⟨rfl, bn⟩
    replace HB := hide (bthen (unhide HB) bn)
    clear bn
    go_wp2_with fail
    refine (unhide H13 _ ((unhide HG).on (unhide HB))).mono ?_
    rintro e wn ⟨ao, cap, rfl, bn⟩
    replace HB := hide (bthen (unhide HB) bn)
    clear bn
    go_wp2_with fail
    refine (unhide H3 _).mono ?_
    rintro e wn ⟨rfl, dn⟩
    replace HB := hide (bthen (unhide HB) (drewB dn))
    clear dn
    go_wp2_with fail
    refine (unhide H11 _).mono ?_
    rintro e wn ⟨rfl, dn⟩
    replace HB := hide (bthen (unhide HB) (drewB dn))
    clear dn
    go_wp2
    go_ret
    exact ⟨rfl, unhide HB⟩
  · go_enter Tryd.func8, Tryd.ntmps8
    go_wp2_with fail
    refine (unhide H1 _).mono ?_
    rintro e wn ⟨rfl, dn⟩
    replace HB := hide (bthen (unhide HB) (drewB dn))
    clear dn
    go_wp2_with fail
    refine (unhide H2 _).mono ?_
    rintro e wn ⟨rfl, dn⟩
    replace HB := hide (bthen (unhide HB) (drewB dn))
    clear dn
    go_wp2_with fail
    refine (unhide H4 _).mono ?_
    rintro e wn ⟨rfl, dn⟩
    replace HB := hide (bthen (unhide HB) (drewB dn))
    clear dn
    go_wp2_with fail
    refine (unhide H7 _).mono ?_
    rintro e wn ⟨rfl, dn⟩
    replace HB := hide (bthen (unhide HB) (drewB dn))
    clear dn
    go_wp2_with fail
    refine (unhide H8 _).mono ?_
    rintro e wn ⟨rfl, dn⟩
    replace HB := hide (bthen (unhide HB) (drewB dn))
    clear dn
    go_wp2_with fail
    refine (unhide H12 _ ((unhide HG).on (unhide HB))).mono ?_
    rintro e wn ⟨rfl, dn⟩
    replace HB := hide (bthen (unhide HB) (drewB dn))
    clear dn
    go_wp2_with fail
    refine (unhide H9 _).mono ?_
    rintro e wn ⟨rfl, dn⟩
    replace HB := hide (bthen (unhide HB) (drewB dn))
    clear dn
    go_wp2_with fail
    refine (unhide H10 _).mono ?_
    rintro e wn ⟨rfl, dn⟩
    replace HB := hide (bthen (unhide HB) (drewB dn))
    clear dn
    go_wp2_with fail
    refine (told20 _ ((unhide HG).on (unhide HB))).mono ?_
    rintro e wn ⟨rfl, bn⟩
    replace HB := hide (bthen (unhide HB) bn)
    clear bn
    go_wp2_with fail
    refine (unhide H13 _ ((unhide HG).on (unhide HB))).mono ?_
    rintro e wn ⟨ao, cap, rfl, bn⟩
    replace HB := hide (bthen (unhide HB) bn)
    clear bn
    go_wp2_with fail
    refine (unhide H3 _).mono ?_
    rintro e wn ⟨rfl, dn⟩
    replace HB := hide (bthen (unhide HB) (drewB dn))
    clear dn
    go_wp2_with fail
    refine (unhide H11 _).mono ?_
    rintro e wn ⟨rfl, dn⟩
    replace HB := hide (bthen (unhide HB) (drewB dn))
    clear dn
    go_wp2
    go_ret
    exact ⟨rfl, unhide HB⟩
  · go_enter Tryd.func8, Tryd.ntmps8
    go_wp2_with fail
    refine (unhide H1 _).mono ?_
    rintro e wn ⟨rfl, dn⟩
    replace HB := hide (bthen (unhide HB) (drewB dn))
    clear dn
    go_wp2_with fail
    refine (unhide H2 _).mono ?_
    rintro e wn ⟨rfl, dn⟩
    replace HB := hide (bthen (unhide HB) (drewB dn))
    clear dn
    go_wp2_with fail
    refine (unhide H4 _).mono ?_
    rintro e wn ⟨rfl, dn⟩
    replace HB := hide (bthen (unhide HB) (drewB dn))
    clear dn
    go_wp2_with fail
    refine (unhide H5 _).mono ?_
    rintro e wn ⟨rfl, dn⟩
    replace HB := hide (bthen (unhide HB) (drewB dn))
    clear dn
    go_wp2_with fail
    refine (unhide H7 _).mono ?_
    rintro e wn ⟨rfl, dn⟩
    replace HB := hide (bthen (unhide HB) (drewB dn))
    clear dn
    go_wp2_with fail
    refine (unhide H12 _ ((unhide HG).on (unhide HB))).mono ?_
    rintro e wn ⟨rfl, dn⟩
    replace HB := hide (bthen (unhide HB) (drewB dn))
    clear dn
    go_wp2_with fail
    refine (unhide H9 _).mono ?_
    rintro e wn ⟨rfl, dn⟩
    replace HB := hide (bthen (unhide HB) (drewB dn))
    clear dn
    go_wp2_with fail
    refine (unhide H10 _).mono ?_
    rintro e wn ⟨rfl, dn⟩
    replace HB := hide (bthen (unhide HB) (drewB dn))
    clear dn
    go_wp2_with fail
    refine (told20 _ ((unhide HG).on (unhide HB))).mono ?_
    rintro e wn ⟨rfl, bn⟩
    replace HB := hide (bthen (unhide HB) bn)
    clear bn
    go_wp2_with fail
    refine (unhide H13 _ ((unhide HG).on (unhide HB))).mono ?_
    rintro e wn ⟨ao, cap, rfl, bn⟩
    replace HB := hide (bthen (unhide HB) bn)
    clear bn
    go_wp2_with fail
    refine (unhide H3 _).mono ?_
    rintro e wn ⟨rfl, dn⟩
    replace HB := hide (bthen (unhide HB) (drewB dn))
    clear dn
    go_wp2_with fail
    refine (unhide H11 _).mono ?_
    rintro e wn ⟨rfl, dn⟩
    replace HB := hide (bthen (unhide HB) (drewB dn))
    clear dn
    go_wp2
    go_ret
    exact ⟨rfl, unhide HB⟩
  · go_enter Tryd.func8, Tryd.ntmps8
    go_wp2_with fail
    refine (unhide H1 _).mono ?_
    rintro e wn ⟨rfl, dn⟩
    replace HB := hide (bthen (unhide HB) (drewB dn))
    clear dn
    go_wp2_with fail
    refine (unhide H2 _).mono ?_
    rintro e wn ⟨rfl, dn⟩
    replace HB := hide (bthen (unhide HB) (drewB dn))
    clear dn
    go_wp2_with fail
    refine (unhide H4 _).mono ?_
    rintro e wn ⟨rfl, dn⟩
    replace HB := hide (bthen (unhide HB) (drewB dn))
    clear dn
    go_wp2_with fail
    refine (unhide H5 _).mono ?_
    rintro e wn ⟨rfl, dn⟩
    replace HB := hide (bthen (unhide HB) (drewB dn))
    clear dn
    go_wp2_with fail
    refine (unhide H7 _).mono ?_
    rintro e wn ⟨rfl, dn⟩
    replace HB := hide (bthen (unhide HB) (drewB dn))
    clear dn
    go_wp2_with fail
    refine (unhide H8 _).mono ?_
    rintro e wn ⟨rfl, dn⟩
    replace HB := hide (bthen (unhide HB) (drewB dn))
    clear dn
    go_wp2_with fail
    refine (unhide H12 _ ((unhide HG).on (unhide HB))).mono ?_
    rintro e wn ⟨rfl, dn⟩
    replace HB := hide (bthen (unhide HB) (drewB dn))
    clear dn
    go_wp2_with fail
    refine (unhide H9 _).mono ?_
    rintro e wn ⟨rfl, dn⟩
    replace HB := hide (bthen (unhide HB) (drewB dn))
    clear dn
    go_wp2_with fail
    refine (unhide H10 _).mono ?_
    rintro e wn ⟨rfl, dn⟩
    replace HB := hide (bthen (unhide HB) (drewB dn))
    clear dn
    go_wp2_with fail
    refine (told20 _ ((unhide HG).on (unhide HB))).mono ?_
    rintro e wn ⟨rfl, bn⟩
    replace HB := hide (bthen (unhide HB) bn)
    clear bn
    go_wp2_with fail
    refine (unhide H13 _ ((unhide HG).on (unhide HB))).mono ?_
    rintro e wn ⟨ao, cap, rfl, bn⟩
    replace HB := hide (bthen (unhide HB) bn)
    clear bn
    go_wp2_with fail
    refine (unhide H3 _).mono ?_
    rintro e wn ⟨rfl, dn⟩
    replace HB := hide (bthen (unhide HB) (drewB dn))
    clear dn
    go_wp2_with fail
    refine (unhide H11 _).mono ?_
    rintro e wn ⟨rfl, dn⟩
    replace HB := hide (bthen (unhide HB) (drewB dn))
    clear dn
    go_wp2
    go_ret
    exact ⟨rfl, unhide HB⟩
  · go_enter Tryd.func8, Tryd.ntmps8
    go_wp2_with fail
    refine (unhide H1 _).mono ?_
    rintro e wn ⟨rfl, dn⟩
    replace HB := hide (bthen (unhide HB) (drewB dn))
    clear dn
    go_wp2_with fail
    refine (unhide H2 _).mono ?_
    rintro e wn ⟨rfl, dn⟩
    replace HB := hide (bthen (unhide HB) (drewB dn))
    clear dn
    go_wp2_with fail
    refine (unhide H4 _).mono ?_
    rintro e wn ⟨rfl, dn⟩
    replace HB := hide (bthen (unhide HB) (drewB dn))
    clear dn
    go_wp2_with fail
    refine (unhide H5 _).mono ?_
    rintro e wn ⟨rfl, dn⟩
    replace HB := hide (bthen (unhide HB) (drewB dn))
    clear dn
    go_wp2_with fail
    refine (unhide H6 _).mono ?_
    rintro e wn ⟨rfl, dn⟩
    replace HB := hide (bthen (unhide HB) (drewB dn))
    clear dn
    go_wp2_with fail
    refine (unhide H7 _).mono ?_
    rintro e wn ⟨rfl, dn⟩
    replace HB := hide (bthen (unhide HB) (drewB dn))
    clear dn
    go_wp2_with fail
    refine (unhide H12 _ ((unhide HG).on (unhide HB))).mono ?_
    rintro e wn ⟨rfl, dn⟩
    replace HB := hide (bthen (unhide HB) (drewB dn))
    clear dn
    go_wp2_with fail
    refine (unhide H9 _).mono ?_
    rintro e wn ⟨rfl, dn⟩
    replace HB := hide (bthen (unhide HB) (drewB dn))
    clear dn
    go_wp2_with fail
    refine (unhide H10 _).mono ?_
    rintro e wn ⟨rfl, dn⟩
    replace HB := hide (bthen (unhide HB) (drewB dn))
    clear dn
    go_wp2_with fail
    refine (told20 _ ((unhide HG).on (unhide HB))).mono ?_
    rintro e wn ⟨rfl, bn⟩
    replace HB := hide (bthen (unhide HB) bn)
    clear bn
    go_wp2_with fail
    refine (unhide H13 _ ((unhide HG).on (unhide HB))).mono ?_
    rintro e wn ⟨ao, cap, rfl, bn⟩
    replace HB := hide (bthen (unhide HB) bn)
    clear bn
    go_wp2_with fail
    refine (unhide H3 _).mono ?_
    rintro e wn ⟨rfl, dn⟩
    replace HB := hide (bthen (unhide HB) (drewB dn))
    clear dn
    go_wp2_with fail
    refine (unhide H11 _).mono ?_
    rintro e wn ⟨rfl, dn⟩
    replace HB := hide (bthen (unhide HB) (drewB dn))
    clear dn
    go_wp2
    go_ret
    exact ⟨rfl, unhide HB⟩
  · go_enter Tryd.func8, Tryd.ntmps8
    go_wp2_with fail
    refine (unhide H1 _).mono ?_
    rintro e wn ⟨rfl, dn⟩
    replace HB := hide (bthen (unhide HB) (drewB dn))
    clear dn
    go_wp2_with fail
    refine (unhide H2 _).mono ?_
    rintro e wn ⟨rfl, dn⟩
    replace HB := hide (bthen (unhide HB) (drewB dn))
    clear dn
    go_wp2_with fail
    refine (unhide H4 _).mono ?_
    rintro e wn ⟨rfl, dn⟩
    replace HB := hide (bthen (unhide HB) (drewB dn))
    clear dn
    go_wp2_with fail
    refine (unhide H5 _).mono ?_
    rintro e wn ⟨rfl, dn⟩
    replace HB := hide (bthen (unhide HB) (drewB dn))
    clear dn
    go_wp2_with fail
    refine (unhide H6 _).mono ?_
    rintro e wn ⟨rfl, dn⟩
    replace HB := hide (bthen (unhide HB) (drewB dn))
    clear dn
    go_wp2_with fail
    refine (unhide H7 _).mono ?_
    rintro e wn ⟨rfl, dn⟩
    replace HB := hide (bthen (unhide HB) (drewB dn))
    clear dn
    go_wp2_with fail
    refine (unhide H8 _).mono ?_
    rintro e wn ⟨rfl, dn⟩
    replace HB := hide (bthen (unhide HB) (drewB dn))
    clear dn
    go_wp2_with fail
    refine (unhide H12 _ ((unhide HG).on (unhide HB))).mono ?_
    rintro e wn ⟨rfl, dn⟩
    replace HB := hide (bthen (unhide HB) (drewB dn))
    clear dn
    go_wp2_with fail
    refine (unhide H9 _).mono ?_
    rintro e wn ⟨rfl, dn⟩
    replace HB := hide (bthen (unhide HB) (drewB dn))
    clear dn
    go_wp2_with fail
    refine (unhide H10 _).mono ?_
    rintro e wn ⟨rfl, dn⟩
    replace HB := hide (bthen (unhide HB) (drewB dn))
    clear dn
    go_wp2_with fail
    refine (told20 _ ((unhide HG).on (unhide HB))).mono ?_
    rintro e wn ⟨rfl, bn⟩
    replace HB := hide (bthen (unhide HB) bn)
    clear bn
    go_wp2_with fail
    refine (unhide H13 _ ((unhide HG).on (unhide HB))).mono ?_
    rintro e wn ⟨ao, cap, rfl, bn⟩
    replace HB := hide (bthen (unhide HB) bn)
    clear bn
    go_wp2_with fail
    refine (unhide H3 _).mono ?_
    rintro e wn ⟨rfl, dn⟩
    replace HB := hide (bthen (unhide HB) (drewB dn))
    clear dn
    go_wp2_with fail
    refine (unhide H11 _).mono ?_
    rintro e wn ⟨rfl, dn⟩
    replace HB := hide (bthen (unhide HB) (drewB dn))
    clear dn
    go_wp2
    go_ret
    exact ⟨rfl, unhide HB⟩
set_option maxRecDepth 20000 in
set_option maxHeartbeats 16000000 in
theorem lies_walk3_20 {a b c d p : ByteArray} {x y cp : Int} {ad cd bd ca ba r ap : Bool} {L : Nat} (w : World) (hg : Gl20 w) (KAB : CmpK20 a b x) (KBC : CmpK20 b c y) (KPA : CmpK20 p a cp) (PAD : BelK20 a d ad) (PCD : BelK20 c d cd) (PBD : BelK20 b d bd) (PCA : BelK20 c a ca) (PBA : BelK20 b a ba)
    (PA0 : BelK20 a ⟨#[]⟩ true) (PAA : BelK20 a a true) (PAP : BelK20 a p ap) (KP : ParK20 a p r) (KL : LabK20 a L)
    (hP : ¬ x ≤ 0 ∨ (x ≤ 0 ∧ ¬ y ≤ 0) ∨ (x ≤ 0 ∧ y ≤ 0 ∧ (ad = false ∨ (ad = true ∧ cd = false) ∨ (ad = true ∧ cd = true ∧ bd = true)) ∧ (ca = false ∨ (ca = true ∧ ba = true))))
    (hR : r = true ∧ a.toList.isEmpty = false ∧ cp = -1 ∧ ap = true ∧ p.toList.isEmpty = false) : Calls Tryd.prog 8 #[.string a, .string b, .string c, .string d] w (Tells w true) := by
  have HG := hide hg
  have HB : Hid (Below w.heap.size w w) := Below.refl _ _
  have H1 := hide KAB; have H2 := hide KBC; have H3 := hide KPA; have H4 := hide PAD; have H5 := hide PCD; have H6 := hide PBD; have H7 := hide PCA; have H8 := hide PBA; have H9 := hide PA0; have H10 := hide PAA; have H11 := hide PAP; have H12 := hide KP; have H13 := hide KL
  clear hg KAB KBC KPA PAD PCD PBD PCA PBA PA0 PAA PAP KP KL
  obtain ⟨rfl, ha, rfl, rfl, hp⟩ := hR
  rcases hP with hx | ⟨hx, hy⟩ | ⟨hx, hy, rfl | ⟨rfl, rfl⟩ | ⟨rfl, rfl, rfl⟩, rfl | ⟨rfl, rfl⟩⟩
  · go_enter Tryd.func8, Tryd.ntmps8
    go_wp2_with fail
    refine (unhide H1 _).mono ?_
    rintro e wn ⟨rfl, dn⟩
    replace HB := hide (bthen (unhide HB) (drewB dn))
    clear dn
    go_wp2_with fail
    refine (unhide H12 _ ((unhide HG).on (unhide HB))).mono ?_
    rintro e wn ⟨rfl, dn⟩
    replace HB := hide (bthen (unhide HB) (drewB dn))
    clear dn
    go_wp2_with fail
    refine (unhide H9 _).mono ?_
    rintro e wn ⟨rfl, dn⟩
    replace HB := hide (bthen (unhide HB) (drewB dn))
    clear dn
    go_wp2_with fail
    refine (unhide H10 _).mono ?_
    rintro e wn ⟨rfl, dn⟩
    replace HB := hide (bthen (unhide HB) (drewB dn))
    clear dn
    go_wp2_with fail
    refine (told20 _ ((unhide HG).on (unhide HB))).mono ?_
    rintro e wn ⟨rfl, bn⟩
    replace HB := hide (bthen (unhide HB) bn)
    clear bn
    go_wp2_with fail
    refine (unhide H3 _).mono ?_
    rintro e wn ⟨rfl, dn⟩
    replace HB := hide (bthen (unhide HB) (drewB dn))
    clear dn
    go_wp2_with fail
    refine (unhide H11 _).mono ?_
    rintro e wn ⟨rfl, dn⟩
    replace HB := hide (bthen (unhide HB) (drewB dn))
    clear dn
    go_wp2
    go_ret
    exact ⟨rfl, unhide HB⟩
  · go_enter Tryd.func8, Tryd.ntmps8
    go_wp2_with fail
    refine (unhide H1 _).mono ?_
    rintro e wn ⟨rfl, dn⟩
    replace HB := hide (bthen (unhide HB) (drewB dn))
    clear dn
    go_wp2_with fail
    refine (unhide H2 _).mono ?_
    rintro e wn ⟨rfl, dn⟩
    replace HB := hide (bthen (unhide HB) (drewB dn))
    clear dn
    go_wp2_with fail
    refine (unhide H12 _ ((unhide HG).on (unhide HB))).mono ?_
    rintro e wn ⟨rfl, dn⟩
    replace HB := hide (bthen (unhide HB) (drewB dn))
    clear dn
    go_wp2_with fail
    refine (unhide H9 _).mono ?_
    rintro e wn ⟨rfl, dn⟩
    replace HB := hide (bthen (unhide HB) (drewB dn))
    clear dn
    go_wp2_with fail
    refine (unhide H10 _).mono ?_
    rintro e wn ⟨rfl, dn⟩
    replace HB := hide (bthen (unhide HB) (drewB dn))
    clear dn
    go_wp2_with fail
    refine (told20 _ ((unhide HG).on (unhide HB))).mono ?_
    rintro e wn ⟨rfl, bn⟩
    replace HB := hide (bthen (unhide HB) bn)
    clear bn
    go_wp2_with fail
    refine (unhide H3 _).mono ?_
    rintro e wn ⟨rfl, dn⟩
    replace HB := hide (bthen (unhide HB) (drewB dn))
    clear dn
    go_wp2_with fail
    refine (unhide H11 _).mono ?_
    rintro e wn ⟨rfl, dn⟩
    replace HB := hide (bthen (unhide HB) (drewB dn))
    clear dn
    go_wp2
    go_ret
    exact ⟨rfl, unhide HB⟩
  · go_enter Tryd.func8, Tryd.ntmps8
    go_wp2_with fail
    refine (unhide H1 _).mono ?_
    rintro e wn ⟨rfl, dn⟩
    replace HB := hide (bthen (unhide HB) (drewB dn))
    clear dn
    go_wp2_with fail
    refine (unhide H2 _).mono ?_
    rintro e wn ⟨rfl, dn⟩
    replace HB := hide (bthen (unhide HB) (drewB dn))
    clear dn
    go_wp2_with fail
    refine (unhide H4 _).mono ?_
    rintro e wn ⟨rfl, dn⟩
    replace HB := hide (bthen (unhide HB) (drewB dn))
    clear dn
    go_wp2_with fail
    refine (unhide H7 _).mono ?_
    rintro e wn ⟨rfl, dn⟩
    replace HB := hide (bthen (unhide HB) (drewB dn))
    clear dn
    go_wp2_with fail
    refine (unhide H12 _ ((unhide HG).on (unhide HB))).mono ?_
    rintro e wn ⟨rfl, dn⟩
    replace HB := hide (bthen (unhide HB) (drewB dn))
    clear dn
    go_wp2_with fail
    refine (unhide H9 _).mono ?_
    rintro e wn ⟨rfl, dn⟩
    replace HB := hide (bthen (unhide HB) (drewB dn))
    clear dn
    go_wp2_with fail
    refine (unhide H10 _).mono ?_
    rintro e wn ⟨rfl, dn⟩
    replace HB := hide (bthen (unhide HB) (drewB dn))
    clear dn
    go_wp2_with fail
    refine (told20 _ ((unhide HG).on (unhide HB))).mono ?_
    rintro e wn ⟨rfl, bn⟩
    replace HB := hide (bthen (unhide HB) bn)
    clear bn
    go_wp2_with fail
    refine (unhide H3 _).mono ?_
    rintro e wn ⟨rfl, dn⟩
    replace HB := hide (bthen (unhide HB) (drewB dn))
    clear dn
    go_wp2_with fail
    refine (unhide H11 _).mono ?_
    rintro e wn ⟨rfl, dn⟩
    replace HB := hide (bthen (unhide HB) (drewB dn))
    clear dn
    go_wp2
    go_ret
    exact ⟨rfl, unhide HB⟩
  · go_enter Tryd.func8, Tryd.ntmps8
    go_wp2_with fail
    refine (unhide H1 _).mono ?_
    rintro e wn ⟨rfl, dn⟩
    replace HB := hide (bthen (unhide HB) (drewB dn))
    clear dn
    go_wp2_with fail
    refine (unhide H2 _).mono ?_
    rintro e wn ⟨rfl, dn⟩
    replace HB := hide (bthen (unhide HB) (drewB dn))
    clear dn
    go_wp2_with fail
    refine (unhide H4 _).mono ?_
    rintro e wn ⟨rfl, dn⟩
    replace HB := hide (bthen (unhide HB) (drewB dn))
    clear dn
    go_wp2_with fail
    refine (unhide H7 _).mono ?_
    rintro e wn ⟨rfl, dn⟩
    replace HB := hide (bthen (unhide HB) (drewB dn))
    clear dn
    go_wp2_with fail
    refine (unhide H8 _).mono ?_
    rintro e wn ⟨rfl, dn⟩
    replace HB := hide (bthen (unhide HB) (drewB dn))
    clear dn
    go_wp2_with fail
    refine (unhide H12 _ ((unhide HG).on (unhide HB))).mono ?_
    rintro e wn ⟨rfl, dn⟩
    replace HB := hide (bthen (unhide HB) (drewB dn))
    clear dn
    go_wp2_with fail
    refine (unhide H9 _).mono ?_
    rintro e wn ⟨rfl, dn⟩
    replace HB := hide (bthen (unhide HB) (drewB dn))
    clear dn
    go_wp2_with fail
    refine (unhide H10 _).mono ?_
    rintro e wn ⟨rfl, dn⟩
    replace HB := hide (bthen (unhide HB) (drewB dn))
    clear dn
    go_wp2_with fail
    refine (told20 _ ((unhide HG).on (unhide HB))).mono ?_
    rintro e wn ⟨rfl, bn⟩
    replace HB := hide (bthen (unhide HB) bn)
    clear bn
    go_wp2_with fail
    refine (unhide H3 _).mono ?_
    rintro e wn ⟨rfl, dn⟩
    replace HB := hide (bthen (unhide HB) (drewB dn))
    clear dn
    go_wp2_with fail
    refine (unhide H11 _).mono ?_
    rintro e wn ⟨rfl, dn⟩
    replace HB := hide (bthen (unhide HB) (drewB dn))
    clear dn
    go_wp2
    go_ret
    exact ⟨rfl, unhide HB⟩
  · go_enter Tryd.func8, Tryd.ntmps8
    go_wp2_with fail
    refine (unhide H1 _).mono ?_
    rintro e wn ⟨rfl, dn⟩
    replace HB := hide (bthen (unhide HB) (drewB dn))
    clear dn
    go_wp2_with fail
    refine (unhide H2 _).mono ?_
    rintro e wn ⟨rfl, dn⟩
    replace HB := hide (bthen (unhide HB) (drewB dn))
    clear dn
    go_wp2_with fail
    refine (unhide H4 _).mono ?_
    rintro e wn ⟨rfl, dn⟩
    replace HB := hide (bthen (unhide HB) (drewB dn))
    clear dn
    go_wp2_with fail
    refine (unhide H5 _).mono ?_
    rintro e wn ⟨rfl, dn⟩
    replace HB := hide (bthen (unhide HB) (drewB dn))
    clear dn
    go_wp2_with fail
    refine (unhide H7 _).mono ?_
    rintro e wn ⟨rfl, dn⟩
    replace HB := hide (bthen (unhide HB) (drewB dn))
    clear dn
    go_wp2_with fail
    refine (unhide H12 _ ((unhide HG).on (unhide HB))).mono ?_
    rintro e wn ⟨rfl, dn⟩
    replace HB := hide (bthen (unhide HB) (drewB dn))
    clear dn
    go_wp2_with fail
    refine (unhide H9 _).mono ?_
    rintro e wn ⟨rfl, dn⟩
    replace HB := hide (bthen (unhide HB) (drewB dn))
    clear dn
    go_wp2_with fail
    refine (unhide H10 _).mono ?_
    rintro e wn ⟨rfl, dn⟩
    replace HB := hide (bthen (unhide HB) (drewB dn))
    clear dn
    go_wp2_with fail
    refine (told20 _ ((unhide HG).on (unhide HB))).mono ?_
    rintro e wn ⟨rfl, bn⟩
    replace HB := hide (bthen (unhide HB) bn)
    clear bn
    go_wp2_with fail
    refine (unhide H3 _).mono ?_
    rintro e wn ⟨rfl, dn⟩
    replace HB := hide (bthen (unhide HB) (drewB dn))
    clear dn
    go_wp2_with fail
    refine (unhide H11 _).mono ?_
    rintro e wn ⟨rfl, dn⟩
    replace HB := hide (bthen (unhide HB) (drewB dn))
    clear dn
    go_wp2
    go_ret
    exact ⟨rfl, unhide HB⟩
  · go_enter Tryd.func8, Tryd.ntmps8
    go_wp2_with fail
    refine (unhide H1 _).mono ?_
    rintro e wn ⟨rfl, dn⟩
    replace HB := hide (bthen (unhide HB) (drewB dn))
    clear dn
    go_wp2_with fail
    refine (unhide H2 _).mono ?_
    rintro e wn ⟨rfl, dn⟩
    replace HB := hide (bthen (unhide HB) (drewB dn))
    clear dn
    go_wp2_with fail
    refine (unhide H4 _).mono ?_
    rintro e wn ⟨rfl, dn⟩
    replace HB := hide (bthen (unhide HB) (drewB dn))
    clear dn
    go_wp2_with fail
    refine (unhide H5 _).mono ?_
    rintro e wn ⟨rfl, dn⟩
    replace HB := hide (bthen (unhide HB) (drewB dn))
    clear dn
    go_wp2_with fail
    refine (unhide H7 _).mono ?_
    rintro e wn ⟨rfl, dn⟩
    replace HB := hide (bthen (unhide HB) (drewB dn))
    clear dn
    go_wp2_with fail
    refine (unhide H8 _).mono ?_
    rintro e wn ⟨rfl, dn⟩
    replace HB := hide (bthen (unhide HB) (drewB dn))
    clear dn
    go_wp2_with fail
    refine (unhide H12 _ ((unhide HG).on (unhide HB))).mono ?_
    rintro e wn ⟨rfl, dn⟩
    replace HB := hide (bthen (unhide HB) (drewB dn))
    clear dn
    go_wp2_with fail
    refine (unhide H9 _).mono ?_
    rintro e wn ⟨rfl, dn⟩
    replace HB := hide (bthen (unhide HB) (drewB dn))
    clear dn
    go_wp2_with fail
    refine (unhide H10 _).mono ?_
    rintro e wn ⟨rfl, dn⟩
    replace HB := hide (bthen (unhide HB) (drewB dn))
    clear dn
    go_wp2_with fail
    refine (told20 _ ((unhide HG).on (unhide HB))).mono ?_
    rintro e wn ⟨rfl, bn⟩
    replace HB := hide (bthen (unhide HB) bn)
    clear bn
    go_wp2_with fail
    refine (unhide H3 _).mono ?_
    rintro e wn ⟨rfl, dn⟩
    replace HB := hide (bthen (unhide HB) (drewB dn))
    clear dn
    go_wp2_with fail
    refine (unhide H11 _).mono ?_
    rintro e wn ⟨rfl, dn⟩
    replace HB := hide (bthen (unhide HB) (drewB dn))
    clear dn
    go_wp2
    go_ret
    exact ⟨rfl, unhide HB⟩
  · go_enter Tryd.func8, Tryd.ntmps8
    go_wp2_with fail
    refine (unhide H1 _).mono ?_
    rintro e wn ⟨rfl, dn⟩
    replace HB := hide (bthen (unhide HB) (drewB dn))
    clear dn
    go_wp2_with fail
    refine (unhide H2 _).mono ?_
    rintro e wn ⟨rfl, dn⟩
    replace HB := hide (bthen (unhide HB) (drewB dn))
    clear dn
    go_wp2_with fail
    refine (unhide H4 _).mono ?_
    rintro e wn ⟨rfl, dn⟩
    replace HB := hide (bthen (unhide HB) (drewB dn))
    clear dn
    go_wp2_with fail
    refine (unhide H5 _).mono ?_
    rintro e wn ⟨rfl, dn⟩
    replace HB := hide (bthen (unhide HB) (drewB dn))
    clear dn
    go_wp2_with fail
    refine (unhide H6 _).mono ?_
    rintro e wn ⟨rfl, dn⟩
    replace HB := hide (bthen (unhide HB) (drewB dn))
    clear dn
    go_wp2_with fail
    refine (unhide H7 _).mono ?_
    rintro e wn ⟨rfl, dn⟩
    replace HB := hide (bthen (unhide HB) (drewB dn))
    clear dn
    go_wp2_with fail
    refine (unhide H12 _ ((unhide HG).on (unhide HB))).mono ?_
    rintro e wn ⟨rfl, dn⟩
    replace HB := hide (bthen (unhide HB) (drewB dn))
    clear dn
    go_wp2_with fail
    refine (unhide H9 _).mono ?_
    rintro e wn ⟨rfl, dn⟩
    replace HB := hide (bthen (unhide HB) (drewB dn))
    clear dn
    go_wp2_with fail
    refine (unhide H10 _).mono ?_
    rintro e wn ⟨rfl, dn⟩
    replace HB := hide (bthen (unhide HB) (drewB dn))
    clear dn
    go_wp2_with fail
    refine (told20 _ ((unhide HG).on (unhide HB))).mono ?_
    rintro e wn ⟨rfl, bn⟩
    replace HB := hide (bthen (unhide HB) bn)
    clear bn
    go_wp2_with fail
    refine (unhide H3 _).mono ?_
    rintro e wn ⟨rfl, dn⟩
    replace HB := hide (bthen (unhide HB) (drewB dn))
    clear dn
    go_wp2_with fail
    refine (unhide H11 _).mono ?_
    rintro e wn ⟨rfl, dn⟩
    replace HB := hide (bthen (unhide HB) (drewB dn))
    clear dn
    go_wp2
    go_ret
    exact ⟨rfl, unhide HB⟩
  · go_enter Tryd.func8, Tryd.ntmps8
    go_wp2_with fail
    refine (unhide H1 _).mono ?_
    rintro e wn ⟨rfl, dn⟩
    replace HB := hide (bthen (unhide HB) (drewB dn))
    clear dn
    go_wp2_with fail
    refine (unhide H2 _).mono ?_
    rintro e wn ⟨rfl, dn⟩
    replace HB := hide (bthen (unhide HB) (drewB dn))
    clear dn
    go_wp2_with fail
    refine (unhide H4 _).mono ?_
    rintro e wn ⟨rfl, dn⟩
    replace HB := hide (bthen (unhide HB) (drewB dn))
    clear dn
    go_wp2_with fail
    refine (unhide H5 _).mono ?_
    rintro e wn ⟨rfl, dn⟩
    replace HB := hide (bthen (unhide HB) (drewB dn))
    clear dn
    go_wp2_with fail
    refine (unhide H6 _).mono ?_
    rintro e wn ⟨rfl, dn⟩
    replace HB := hide (bthen (unhide HB) (drewB dn))
    clear dn
    go_wp2_with fail
    refine (unhide H7 _).mono ?_
    rintro e wn ⟨rfl, dn⟩
    replace HB := hide (bthen (unhide HB) (drewB dn))
    clear dn
    go_wp2_with fail
    refine (unhide H8 _).mono ?_
    rintro e wn ⟨rfl, dn⟩
    replace HB := hide (bthen (unhide HB) (drewB dn))
    clear dn
    go_wp2_with fail
    refine (unhide H12 _ ((unhide HG).on (unhide HB))).mono ?_
    rintro e wn ⟨rfl, dn⟩
    replace HB := hide (bthen (unhide HB) (drewB dn))
    clear dn
    go_wp2_with fail
    refine (unhide H9 _).mono ?_
    rintro e wn ⟨rfl, dn⟩
    replace HB := hide (bthen (unhide HB) (drewB dn))
    clear dn
    go_wp2_with fail
    refine (unhide H10 _).mono ?_
    rintro e wn ⟨rfl, dn⟩
    replace HB := hide (bthen (unhide HB) (drewB dn))
    clear dn
    go_wp2_with fail
    refine (told20 _ ((unhide HG).on (unhide HB))).mono ?_
    rintro e wn ⟨rfl, bn⟩
    replace HB := hide (bthen (unhide HB) bn)
    clear bn
    go_wp2_with fail
    refine (unhide H3 _).mono ?_
    rintro e wn ⟨rfl, dn⟩
    replace HB := hide (bthen (unhide HB) (drewB dn))
    clear dn
    go_wp2_with fail
    refine (unhide H11 _).mono ?_
    rintro e wn ⟨rfl, dn⟩
    replace HB := hide (bthen (unhide HB) (drewB dn))
    clear dn
    go_wp2
    go_ret
    exact ⟨rfl, unhide HB⟩
theorem empty_iff20 (s : ByteArray) : s.toList.isEmpty = decide (nums s = []) := by
  have := ne_str20 s
  by_cases h : nums s = []
  · rw [decide_eq_false (by simpa using h)] at this
    rw [decide_eq_true h]; simpa using this
  · rw [decide_eq_true h] at this
    rw [decide_eq_false h]; simpa using this
/-- NameLies. -/
theorem lies_law20 (a b c d : ByteArray) (w : World) (hg : Gl20 w) (ha : a.size ≤ 1000000000) (hb : b.size ≤ 1000000000) (hc : c.size ≤ 1000000000) (hd : d.size ≤ 1000000000) : Calls Tryd.prog 8 #[.string a, .string b, .string c, .string d] w (Tells w true) := by
  have hpb := Na.par_byt (nums_byt a)
  have hpn : nums (strOfNums (Na.par (nums a))) = Na.par (nums a) := nums_str20 hpb
  have hps : (strOfNums (Na.par (nums a))).size ≤ 1000000000 := by
    have := Na.par_len (nums a)
    rw [nums_length] at this
    rw [strOf_size20]; omega
  have k1 := cmpK20 (a := a) (b := b) (by omega) (by omega)
  have k2 := cmpK20 (a := b) (b := c) (by omega) (by omega)
  have k3 := cmpK20 (a := strOfNums (Na.par (nums a))) (b := a) (by omega) (by omega)
  have p1 := belK20 (a := a) (b := d) (by omega) (by omega)
  have p2 := belK20 (a := c) (b := d) (by omega) (by omega)
  have p3 := belK20 (a := b) (b := d) (by omega) (by omega)
  have p4 := belK20 (a := c) (b := a) (by omega) (by omega)
  have p5 := belK20 (a := b) (b := a) (by omega) (by omega)
  have p6 := belK20 (a := a) (b := ⟨#[]⟩) (by omega) (by decide)
  have p7 := belK20 (a := a) (b := a) (by omega) (by omega)
  have p8 := belK20 (a := a) (b := strOfNums (Na.par (nums a))) (by omega) (by omega)
  rw [show nums ⟨#[]⟩ = [] from rfl, Na.bel_root] at p6
  rw [Na.bel_self] at p7
  rw [hpn] at k3 p8
  have hP : ¬ Na.cmp (nums a) (nums b) ≤ 0 ∨ (Na.cmp (nums a) (nums b) ≤ 0 ∧ ¬ Na.cmp (nums b) (nums c) ≤ 0) ∨ (Na.cmp (nums a) (nums b) ≤ 0 ∧ Na.cmp (nums b) (nums c) ≤ 0 ∧ (Na.bel (nums a) (nums d) = false ∨ (Na.bel (nums a) (nums d) = true ∧ Na.bel (nums c) (nums d) = false) ∨ (Na.bel (nums a) (nums d) = true ∧ Na.bel (nums c) (nums d) = true ∧ Na.bel (nums b) (nums d) = true)) ∧ (Na.bel (nums c) (nums a) = false ∨ (Na.bel (nums c) (nums a) = true ∧ Na.bel (nums b) (nums a) = true))) := by
    by_cases hx : Na.cmp (nums a) (nums b) ≤ 0
    · by_cases hy : Na.cmp (nums b) (nums c) ≤ 0
      · refine .inr (.inr ⟨hx, hy, ?_, ?_⟩)
        · cases h1 : Na.bel (nums a) (nums d) with
          | false => exact .inl rfl
          | true =>
            cases h2 : Na.bel (nums c) (nums d) with
            | false => exact .inr (.inl ⟨rfl, rfl⟩)
            | true => exact .inr (.inr ⟨rfl, rfl, Na.bel_mid hx hy h1 h2⟩)
        · cases h1 : Na.bel (nums c) (nums a) with
          | false => exact .inl rfl
          | true => exact .inr ⟨rfl, Na.bel_mid hx hy (Na.bel_self _) h1⟩
      · exact .inr (.inl ⟨hx, hy⟩)
    · exact .inl hx
  have e1 := empty_iff20 a
  have e2 := empty_iff20 (strOfNums (Na.par (nums a)))
  rw [hpn] at e2
  by_cases h0 : nums a = []
  · exact lies_walk0_20 w hg k1 k2 k3 p1 p2 p3 p4 p5 p6 p7 p8 (parK20 ha) (labK20 ha) hP ⟨decide_eq_false (by simpa using h0), by rw [e1, decide_eq_true h0]⟩
  · have r1 : decide (nums a ≠ []) = true := decide_eq_true h0
    have r2 : a.toList.isEmpty = false := by rw [e1, decide_eq_false h0]
    by_cases h5 : Na.par (nums a) = [] ∧ (Na.lab (nums a)).length = 2
    · exact lies_walk1_20 w hg k1 k2 k3 p1 p2 p3 p4 p5 p6 p7 p8 (parK20 ha) (labK20 ha) hP ⟨r1, r2, by rw [e2, decide_eq_true h5.1], h5.2⟩
    · rcases Na.up_any h0 with h | ⟨h1, h2⟩
      · exact absurd h h5
      · have r3 : Na.cmp (Na.par (nums a)) (nums a) = -1 := by rcases Na.cmp_rng (Na.par (nums a)) (nums a) with h | h | h <;> omega
        by_cases h3 : Na.par (nums a) = []
        · exact lies_walk2_20 w hg k1 k2 k3 p1 p2 p3 p4 p5 p6 p7 p8 (parK20 ha) (labK20 ha) hP ⟨r1, r2, r3, h2, by rw [e2, decide_eq_true h3], by rw [beq_eq_false_iff_ne]; exact fun h => h5 ⟨h3, by omega⟩⟩
        · exact lies_walk3_20 w hg k1 k2 k3 p1 p2 p3 p4 p5 p6 p7 p8 (parK20 ha) (labK20 ha) hP ⟨r1, r2, r3, h2, by rw [e2, decide_eq_false h3]⟩
end Go.Proofs.YtcnmmghkjblemaaDoor
