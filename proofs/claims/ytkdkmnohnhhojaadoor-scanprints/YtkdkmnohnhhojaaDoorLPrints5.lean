/- The walk of ScanPrints, out of what scan's calls are asked. -/
import Derived.Test.YtkdkmnohnhhojaaDoorLReads5
namespace Go.Proofs.YtkdkmnohnhhojaaDoor
open Go.RowKit

theorem str_same {a b : ByteArray} {zs : List Int} (h : nums a = zs) (k : nums b = zs) : b = a := nums_inj (k.trans h.symm)

set_option maxHeartbeats 2000000 in
theorem prints_any (HL : LinesC) (HW : WordsC) (HS : SpanC) (HO : WholeC) (HN : NameC) (HP : PCodeC) (HPS : PSpanC) (HPW : PWholeC) (lo hi n : Int) (w : World) (hg : Glob w)
    (h1 : -2147483648 ≤ lo ∧ lo ≤ 2147483647) (h2 : -2147483648 ≤ hi ∧ hi ≤ 2147483647) (h3 : -9223372036854775808 ≤ n ∧ n ≤ 9223372036854775807) :
    Calls Tryd.prog 5 #[.int .i32 lo, .int .i32 hi, .int .i64 n] w (Tells w true) := by
  have KT := hide (told_any HL HW HS HO HN HP)
  have K1 := hide (fun w hg => HP lo w hg h1)
  have R1 := hide (fun w => refPrintCode_any lo w h1)
  have K2 := hide (fun w hg => HPS lo hi w hg h1 h2)
  have R2 := hide (fun w => refPrintSpan_any lo hi w h1 h2)
  have K3 := hide (fun w hg => HPW n w hg h3)
  have R3 := hide (fun w => refPrintWhole_any n w h3)
  clear HL HW HS HO HN HP HPS HPW
  go_enter Tryd.func5, Tryd.ntmps5
  go_wp2_with fail
  refine ((unhide KT) w hg).mono ?_
  rintro e0 w0 ⟨rfl, hb0⟩
  have g0 := hg.on hb0
  clear KT
  go_wp2_with fail
  refine ((unhide K1) w0 g0).mono ?_
  rintro e1 w1 ⟨t1, ht1, rfl, hb1⟩
  have g1 := g0.on hb1
  clear K1
  go_wp2_with fail
  refine ((unhide R1) w1).mono ?_
  rintro e2 w2 ⟨t2, ht2, rfl, hw2⟩
  subst w2
  obtain rfl := str_same ht1 ht2
  have q1 := self_beq t2
  clear R1 ht1 ht2
  go_wp2_with fail
  refine ((unhide K2) w1 g1).mono ?_
  rintro e3 w3 ⟨t3, ht3, rfl, hb3⟩
  have g3 := g1.on hb3
  clear K2 q1
  go_wp2_with fail
  refine ((unhide R2) w3).mono ?_
  rintro e4 w4 ⟨t4, ht4, rfl, hw4⟩
  subst w4
  obtain rfl := str_same ht3 ht4
  have q2 := self_beq t4
  clear R2 ht3 ht4
  go_wp2_with fail
  refine ((unhide K3) w3 g3).mono ?_
  rintro e5 w5 ⟨t5, ht5, rfl, hb5⟩
  clear K3 q2
  go_wp2_with fail
  refine ((unhide R3) w5).mono ?_
  rintro e6 w6 ⟨t6, ht6, rfl, hb6⟩
  obtain rfl := str_same ht5 ht6
  have q3 := self_beq t6
  clear R3 ht5 ht6
  have HF : Tells w true (.returned (.bool true)) w6 := ⟨rfl, bthen (bthen (bthen (bthen hb0 hb1) hb3) hb5) hb6⟩
  go_wp2
  go_ret
  exact HF
end Go.Proofs.YtkdkmnohnhhojaaDoor
