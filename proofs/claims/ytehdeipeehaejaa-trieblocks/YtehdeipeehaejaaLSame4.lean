/- The law TrieSame, out of the contracts. (By program: gensame4.py.) -/
import Derived.Test.YtehdeipeehaejaaCon4
namespace Go.Proofs.Ytehdeipeehaejaa
open Go.RowKit

theorem take_short {α : Type} (l : List α) : (l.take 200).length ≤ 200 := by rw [List.length_take]; omega

set_option maxHeartbeats 1000000 in
theorem trieSame_any {T : World → Value → List Tri.Rg → Int → Prop} (C : TrieC T) (vl vm : Value) (rs ms : List Tri.Rg) (d o : Int) (w : World) (hl : Sr w vl rs) (hm : Sr w vm ms) (hd : Fi d) (ho : Fi o) :
    Calls Try.prog 5 #[vl, .int .i64 d, vm, .int .i64 o] w (Tells4 w true) := by
  have HT := fun w => hide (told4_any C w)
  have HB := @C.below
  have F1 := hide (few_any vl rs w hl)
  have hms := hide hm
  have hx := take_short rs
  have hy := take_short ms
  have hd' := hide hd
  have ho' := hide ho
  obtain ⟨hd1, hd2⟩ := hd
  obtain ⟨ho1, ho2⟩ := ho
  clear hm hl
  generalize rs.take 200 = xs at *
  go_enter Try.func5, Try.ntmps5
  go_wp2_with fail
  refine (unhide F1).mono ?_
  rintro e w1 ⟨g1, c1, vx, B1, rfl, _, _, _, ox, _, _, hb1⟩
  have F2 := hide (few_any vm ms w1 ((unhide hms).below hb1))
  generalize ms.take 200 = ys at *
  clear F1 hms
  go_wp2_with fail
  refine (unhide F2).mono ?_
  rintro e w2 ⟨g2, c2, vy, B2, rfl, _, _, _, oy, _, _, hb2⟩
  have ox := ox.below hb2
  have hb02 := bthen hb1 hb2
  have B1 := hide (C.build vx xs d w2 ox.sr (by omega) (unhide hd'))
  clear F2 hb1 hb2
  go_wp2_with fail
  refine (unhide B1).mono ?_
  rintro e w3 ⟨hb3, hcase1⟩
  have ox := ox.below hb3
  have oy := oy.below hb3
  have hb03 := bthen hb02 hb3
  have B2 := hide (C.build vy ys o w3 oy.sr (by omega) (unhide ho'))
  clear B1 hb3 hb02
  rcases hcase1 with ⟨k1, a1, rfl, t1⟩ | ⟨k1, rfl⟩
  · have k1 := hide k1
    go_wp2_with fail
    refine (unhide B2).mono ?_
    rintro e w4 ⟨hb4, hcase2⟩
    have ox := ox.below hb4
    have oy := oy.below hb4
    have t1 := HB t1 hb4
    have hb04 := bthen hb03 hb4
    clear B2 hb4 hb03
    rcases hcase2 with ⟨k2, a2, rfl, t2⟩ | ⟨k2, rfl⟩
    · have k2 := hide k2
      go_wp2_with fail
      refine (unhide (HT _)).mono ?_
      rintro e w5 ⟨rfl, hb5⟩
      have ox := ox.below hb5
      have oy := oy.below hb5
      have t1 := HB t1 hb5
      have t2 := HB t2 hb5
      have hb05 := bthen hb04 hb5
      clear HT hb5 hb04
      by_cases hdo : d = o
      · subst hdo
        have e1 : (d == d) = true := by simp
        have R1 := hide (refRanges_any vx xs d w5 ox.sr (Tri.check_ok.1 (unhide k1)).1 (by omega) (unhide hd'))
        clear k1
        go_wp2_with fail
        refine (unhide R1).mono ?_
        rintro e w6 ⟨v6, rfl, o6, hb6⟩
        have oy := oy.below hb6
        have t1 := HB t1 hb6
        have t2 := HB t2 hb6
        have hb06 := bthen hb05 hb6
        have R2 := hide (refRanges_any vy ys d w6 oy.sr (Tri.check_ok.1 (unhide k2)).1 (by omega) (unhide hd'))
        clear R1 hb6 hb05 k2
        go_wp2_with fail
        refine (unhide R2).mono ?_
        rintro e w7 ⟨v7, rfl, o7, hb7⟩
        have o6 := o6.below hb7
        have t1 := HB t1 hb7
        have t2 := HB t2 hb7
        have hb07 := bthen hb06 hb7
        have R3 := hide (refSameR_any v6 v7 _ _ w7 o6.sr o7.sr)
        clear R2 hb7 hb06
        go_wp2_with fail
        refine (unhide R3).mono ?_
        rintro e w8 ⟨rfl, hb8⟩
        have t1 := HB t1 hb8
        have t2 := HB t2 hb8
        have hbW := bthen hb07 hb8
        clear R3 hb8 hb07 o6 o7 ox oy
        have K1 := hide (C.same _ _ xs ys d d w8 t1 t2)
        have K2 := fun w (t1 : T w (.pointer (some a1)) xs d) (t2 : T w (.pointer (some a2)) ys d) => hide (C.same _ _ ys xs d d w t2 t1)
        have K3 := fun w (t1 : T w (.pointer (some a1)) xs d) => hide (C.same _ _ xs xs d d w t1 t1)
        have K4 := fun w (t1 : T w (.pointer (some a1)) xs d) => hide (C.sameNil _ xs d w t1)
        have hsw : decide (d = d ∧ Tri.norm d ys = Tri.norm d xs) = decide (d = d ∧ Tri.norm d xs = Tri.norm d ys) := decide_eq_decide.2 ⟨fun h => ⟨h.1.symm, h.2.symm⟩, fun h => ⟨h.1.symm, h.2.symm⟩⟩
        rw [hsw] at K2
        clear hsw
        simp only [and_self, decide_true] at K3
        have hwd : decide (d = d ∧ Tri.norm d xs = Tri.norm d ys) = decide (Tri.norm d xs = Tri.norm d ys) := by simp
        rw [hwd] at K1 K2
        clear hwd
        generalize decide (Tri.norm d xs = Tri.norm d ys) = bw at *
        go_wp2_with fail
        refine (unhide K1).mono ?_
        rintro e q1 ⟨rfl, r1⟩
        have t1 := HB t1 r1
        have t2 := HB t2 r1
        have hbW := hbW.trans (r1.mono hbW.size)
        have K2 := K2 _ t1 t2
        clear K1 r1
        go_wp2_with fail
        refine (unhide K2).mono ?_
        rintro e q2 ⟨rfl, r2⟩
        have t1 := HB t1 r2
        have hbW := hbW.trans (r2.mono hbW.size)
        have K3 := K3 _ t1
        clear K2 r2
        go_wp2_with fail
        refine (unhide K3).mono ?_
        rintro e q3 ⟨rfl, r3⟩
        have t1 := HB t1 r3
        have hbW := hbW.trans (r3.mono hbW.size)
        have K4 := K4 _ t1
        clear K3 r3
        go_wp2_with fail
        refine (unhide K4).mono ?_
        rintro e q4 ⟨rfl, r4⟩
        have hbW := hbW.trans (r4.mono hbW.size)
        clear K4 r4 t1 t2
        go_wp2
        go_ret
        exact ⟨rfl, hbW⟩
      · have e1 : (d == o) = false := by simp [hdo]
        have hbW := hb05
        have HDO := hide hdo
        clear hb05 ox oy k1 k2 hdo
        have K1 := hide (C.same _ _ xs ys d o w5 t1 t2)
        have K2 := fun w (t1 : T w (.pointer (some a1)) xs d) (t2 : T w (.pointer (some a2)) ys o) => hide (C.same _ _ ys xs o d w t2 t1)
        have K3 := fun w (t1 : T w (.pointer (some a1)) xs d) => hide (C.same _ _ xs xs d d w t1 t1)
        have K4 := fun w (t1 : T w (.pointer (some a1)) xs d) => hide (C.sameNil _ xs d w t1)
        have hsw : decide (o = d ∧ Tri.norm o ys = Tri.norm d xs) = decide (d = o ∧ Tri.norm d xs = Tri.norm o ys) := decide_eq_decide.2 ⟨fun h => ⟨h.1.symm, h.2.symm⟩, fun h => ⟨h.1.symm, h.2.symm⟩⟩
        rw [hsw] at K2
        clear hsw
        simp only [and_self, decide_true] at K3
        have hwd : decide (d = o ∧ Tri.norm d xs = Tri.norm o ys) = false := by simp [unhide HDO]
        rw [hwd] at K1 K2
        clear hwd
        go_wp2_with fail
        refine (unhide K1).mono ?_
        rintro e q1 ⟨rfl, r1⟩
        have t1 := HB t1 r1
        have t2 := HB t2 r1
        have hbW := hbW.trans (r1.mono hbW.size)
        have K2 := K2 _ t1 t2
        clear K1 r1
        go_wp2_with fail
        refine (unhide K2).mono ?_
        rintro e q2 ⟨rfl, r2⟩
        have t1 := HB t1 r2
        have hbW := hbW.trans (r2.mono hbW.size)
        have K3 := K3 _ t1
        clear K2 r2
        go_wp2_with fail
        refine (unhide K3).mono ?_
        rintro e q3 ⟨rfl, r3⟩
        have t1 := HB t1 r3
        have hbW := hbW.trans (r3.mono hbW.size)
        have K4 := K4 _ t1
        clear K3 r3
        go_wp2_with fail
        refine (unhide K4).mono ?_
        rintro e q4 ⟨rfl, r4⟩
        have hbW := hbW.trans (r4.mono hbW.size)
        clear K4 r4 t1 t2
        go_wp2
        go_ret
        exact ⟨rfl, hbW⟩
    · have z2 : ((Tri.check o ys).2 == 0) = false := beq_eq_false_iff_ne.2 k2
      have z3 : ((Tri.check o ys).2 != 0) = true := by simp [k2]
      clear ox oy t1
      generalize (Tri.check o ys).1 = c1 at *
      generalize (Tri.check o ys).2 = c2 at *
      go_wp2_with fail
      refine (unhide (HT _)).mono ?_
      rintro e w5 ⟨rfl, hb5⟩
      have hb05 := bthen hb04 hb5
      clear HT hb5 hb04 k2
      go_wp2
      go_ret
      exact ⟨rfl, hb05⟩
  · have y2 : ((Tri.check d xs).2 == 0) = false := beq_eq_false_iff_ne.2 k1
    have y3 : ((Tri.check d xs).2 != 0) = true := by simp [k1]
    generalize (Tri.check d xs).1 = b1 at *
    generalize (Tri.check d xs).2 = b2 at *
    go_wp2_with fail
    refine (unhide B2).mono ?_
    rintro e w4 ⟨hb4, hcase2⟩
    have hb04 := bthen hb03 hb4
    clear B2 hb4 hb03 ox oy k1
    rcases hcase2 with ⟨k2, a2, rfl, t2⟩ | ⟨k2, rfl⟩
    · clear t2
      go_wp2_with fail
      refine (unhide (HT _)).mono ?_
      rintro e w5 ⟨rfl, hb5⟩
      have hb05 := bthen hb04 hb5
      clear HT hb5 hb04 k2
      go_wp2
      go_ret
      exact ⟨rfl, hb05⟩
    · have z2 : ((Tri.check o ys).2 == 0) = false := beq_eq_false_iff_ne.2 k2
      generalize (Tri.check o ys).1 = c1 at *
      generalize (Tri.check o ys).2 = c2 at *
      go_wp2_with fail
      refine (unhide (HT _)).mono ?_
      rintro e w5 ⟨rfl, hb5⟩
      have hb05 := bthen hb04 hb5
      clear HT hb5 hb04 k2
      go_wp2
      go_ret
      exact ⟨rfl, hb05⟩
end Go.Proofs.Ytehdeipeehaejaa
