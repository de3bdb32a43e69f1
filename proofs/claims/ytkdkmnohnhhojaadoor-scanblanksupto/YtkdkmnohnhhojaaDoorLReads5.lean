/- The walk of ScanReads, out of what scan's calls are asked. -/
import Derived.Test.YtkdkmnohnhhojaaDoorCon5
namespace Go.Proofs.YtkdkmnohnhhojaaDoor
open Go.RowKit

theorem bool_beq (b : Bool) : (b == b) = true := beq_self_eq_true _
theorem int_beq (b : Int) : (b == b) = true := beq_self_eq_true _

set_option maxHeartbeats 2000000 in
theorem reads_any (HL : LinesC) (HW : WordsC) (HC : CodeC) (HS : SpanC) (HO : WholeC) (HN : NameC) (HP : PCodeC) (s : ByteArray) (w : World) (hg : Glob w) (hs : s.size ≤ 1000000000) :
    Calls Tryd.prog 4 #[.string s] w (Tells w true) := by
  have KT := hide (told_any HL HW HS HO HN HP)
  have K1 := hide (fun w hg => HC s w hg hs)
  have R1 := hide (fun w => refCode_any s w (by omega))
  have K2 := hide (fun w hg => HS s w hg hs)
  have R2 := hide (fun w => refSpan_any s w (by omega))
  have K3 := hide (fun w hg => HO s w hg hs)
  have R3 := hide (fun w => refWhole_any s w (by omega))
  have K4 := hide (fun w hg => HN s w hg hs)
  have R4 := hide (fun w => refName_any s w)
  clear HL HW HC HS HO HN HP
  generalize Scn.told (Scn.code (nums s)) = r1 at *
  generalize Scn.span (nums s) = r2 at *
  generalize Scn.told (Scn.whole (nums s)) = r3 at *
  generalize Scn.name (nums s) = r4 at *
  obtain ⟨c, ok⟩ := r1
  obtain ⟨n, is⟩ := r3
  have q1 := int_beq c
  have q2 := bool_beq ok
  have q3 := int_beq n
  have q4 := bool_beq is
  have q5 := bool_beq r4
  go_enter Tryd.func4, Tryd.ntmps4
  go_wp2_with fail
  refine ((unhide K1) w hg).mono ?_
  rintro e1 w1 ⟨rfl, hb1⟩
  have g1 := hg.on hb1
  clear K1
  go_wp2_with fail
  refine ((unhide R1) w1).mono ?_
  rintro e2 w2 ⟨rfl, hw2⟩
  subst w2
  clear R1
  go_wp2_with fail
  refine ((unhide KT) w1 g1).mono ?_
  rintro e3 w3 ⟨rfl, hb3⟩
  have g3 := g1.on hb3
  clear KT
  go_wp2_with fail
  refine ((unhide K2) w3 g3).mono ?_
  rintro e4 w4 ⟨rfl, hb4⟩
  have g4 := g3.on hb4
  clear K2 q1 q2
  go_wp2_with fail
  refine ((unhide R2) w4).mono ?_
  rintro e5 w5 ⟨rfl, hw5⟩
  subst w5
  clear R2
  generalize (r2.map (·.1)).getD 0 = a
  generalize (r2.map (·.2)).getD 0 = b
  generalize r2.isSome = oo
  have q6 := int_beq a
  have q7 := int_beq b
  have q8 := bool_beq oo
  go_wp2_with fail
  refine ((unhide K3) w4 g4).mono ?_
  rintro e6 w6 ⟨rfl, hb6⟩
  have g6 := g4.on hb6
  clear K3 q6 q7 q8
  go_wp2_with fail
  refine ((unhide R3) w6).mono ?_
  rintro e7 w7 ⟨rfl, hw7⟩
  subst w7
  clear R3
  go_wp2_with fail
  refine ((unhide K4) w6 g6).mono ?_
  rintro e8 w8 ⟨rfl, hb8⟩
  clear K4
  go_wp2_with fail
  refine ((unhide R4) w8).mono ?_
  rintro e9 w9 ⟨rfl, hw9⟩
  subst w9
  clear R4
  have HF : Tells w true (.returned (.bool true)) w8 := ⟨rfl, bthen (bthen (bthen (bthen hb1 hb3) hb4) hb6) hb8⟩
  go_wp2
  go_ret
  exact HF
end Go.Proofs.YtkdkmnohnhhojaaDoor
