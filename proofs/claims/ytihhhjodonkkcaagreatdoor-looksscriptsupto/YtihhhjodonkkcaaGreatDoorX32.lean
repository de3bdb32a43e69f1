/- Rwe7 -/
import Derived.Test.YtihhhjodonkkcaaGreatDoorX15
import Derived.Deep.DeepCutAuto
import Derived.Laws.BitsLemmas
namespace Go.Proofs.YtihhhjodonkkcaaGreatDoor
open Go.RowKit
set_option maxRecDepth 8000 in
set_option maxHeartbeats 4000000 in
theorem rw_none kd lo hi n ao tl tc nm ot wt w (hk:I64 kd) (hf:Cn.fam kd=0):Calls Tryz.prog 63 #[.agg #[.int .i64 kd,.int .i64 lo,.int .i64 hi,.int .i64 n,.slice ao tl tc,.string nm,.string ot,.float .f64 wt]] w (IntB w 60):=by
 obtain ⟨W0,hW0,hbx,hb0⟩:=box_one w kd lo hi n (.slice ao tl tc) nm ot wt
 obtain ⟨x0,x1,x2,x3,x4,x5,x6,x7⟩:=hbx
 have HB:=Hd hb0
 have KF:=Hd (refFamily_any kd W0 hk)
 rw [hf] at KF
 go_enter Tryz.func63,Tryz.ntmps63
 go_wp2_with fail
 refine (Uh KF).mono ?_
 rintro e W0 ⟨rfl,rfl⟩
 go_wp2
 go_ret
 exact ⟨rfl,Uh HB⟩
set_option maxRecDepth 8000 in
set_option maxHeartbeats 8000000 in
theorem rw_15 lo hi n ao tl tc nm ot wt w (hlo:I64 lo) (hhi:I64 hi) b1 nb ob wb (KB:Hid (∀ W,Below w.heap.size w W→Calls Tryz.prog 102 #[.agg #[.int .i64 15,.int .i64 lo,.int .i64 hi,.int .i64 n,.slice ao tl tc,.string nm,.string ot,.float .f64 wt],.bool false,.bool false,.bool true,.bool true,.bool true] W (BoolB W b1))) (KN:Hid (∀ W,Calls Tryz.prog 103 #[.string nm] W fun e w'=>e=.returned (.bool nb)∧w'=W)) (KO:Hid (∀ W,Calls Tryz.prog 103 #[.string ot] W fun e w'=>e=.returned (.bool ob)∧w'=W)) (KW:Hid (∀ W,Calls Tryz.prog 104 #[.float .f64 wt] W fun e w'=>e=.returned (.bool wb)∧w'=W)):Calls Tryz.prog 63 #[.agg #[.int .i64 15,.int .i64 lo,.int .i64 hi,.int .i64 n,.slice ao tl tc,.string nm,.string ot,.float .f64 wt]] w (IntB w (ansG (decide (lo=0) && decide (hi=0) && b1 && nb && ob && decide (nm≠ot) && wb))):=by
 obtain ⟨W0,hW0,hbx,hb0⟩:=box_one w 15 lo hi n (.slice ao tl tc) nm ot wt
 have HBX:=Hd hbx
 obtain ⟨x0,x1,x2,x3,x4,x5,x6,x7⟩:=hbx
 have HB:=Hd hb0
 have KF:=Hd (refFamily_any 15 W0 ⟨by omega,by omega⟩)
 rw [show Cn.fam 15=10 by decide] at KF
 obtain ⟨e1,he1⟩:∃ e1,decide (lo=0)=e1:=⟨_,rfl⟩
 obtain ⟨e2,he2⟩:∃ e2,decide (hi=0)=e2:=⟨_,rfl⟩
 obtain ⟨e3,he3⟩:∃ e3,decide (nm≠ot)=e3:=⟨_,rfl⟩
 rw [he1,he2,he3]
 have E3:Hid (((nm.toList==ot.toList)=!e3)):=by
  show (nm.toList==ot.toList)=!e3
  rw [← he3,bytes_beq]
  by_cases h:nm=ot <;> simp [h]
 obtain ⟨p1,p2⟩:=hlo
 obtain ⟨p3,p4⟩:=hhi
 by_cases c1:lo=0
 ·rw [decide_eq_true c1] at he1
  subst he1 c1
  by_cases c2:hi=0
  ·rw [decide_eq_true c2] at he2
   subst he2 c2
   go_enter Tryz.func63,Tryz.ntmps63
   go_wp2_with fail
   refine (Uh KF).mono ?_
   rintro e W0 ⟨rfl,rfl⟩
   go_wp2_with fail
   refine ((Uh KB) _ (Uh HB)).mono ?_
   rintro e w2 ⟨rfl,hb2⟩
   obtain ⟨y0,y1,y2,y3,y4,y5,y6,y7⟩:=(Uh HBX).keep hb2
   have HB2:=Hd (bthen (Uh HB) hb2)
   cases b1 with
   | false =>
    go_wp2
    go_ret
    exact ⟨rfl,Uh HB2⟩
   | true =>
    go_wp2_with fail
    refine ((Uh KN) _).mono ?_
    rintro e w3 ⟨rfl,rfl⟩
    cases nb with
    | false =>
     go_wp2
     go_ret
     exact ⟨rfl,Uh HB2⟩
    | true =>
     go_wp2_with fail
     refine ((Uh KO) _).mono ?_
     rintro e w4 ⟨rfl,rfl⟩
     cases ob with
     | false =>
      go_wp2
      go_ret
      exact ⟨rfl,Uh HB2⟩
     | true =>
      have E4:=Uh E3
      cases e3 with
      | false =>
       go_wp2
       go_ret
       exact ⟨rfl,Uh HB2⟩
      | true =>
       go_wp2_with fail
       refine ((Uh KW) _).mono ?_
       rintro e w5 ⟨rfl,rfl⟩
       cases wb with
       | false =>
        go_wp2
        go_ret
        exact ⟨rfl,Uh HB2⟩
       | true =>
        go_wp2
        go_ret
        exact ⟨rfl,Uh HB2⟩
  ·rw [decide_eq_false c2] at he2
   subst he2
   have d2:(hi==0)=false:=beq_eq_false_iff_ne.2 c2
   go_enter Tryz.func63,Tryz.ntmps63
   go_wp2_with fail
   refine (Uh KF).mono ?_
   rintro e W0 ⟨rfl,rfl⟩
   go_wp2
   go_ret
   exact ⟨rfl,Uh HB⟩
 ·rw [decide_eq_false c1] at he1
  subst he1
  have d1:(lo==0)=false:=beq_eq_false_iff_ne.2 c1
  go_enter Tryz.func63,Tryz.ntmps63
  go_wp2_with fail
  refine (Uh KF).mono ?_
  rintro e W0 ⟨rfl,rfl⟩
  go_wp2
  go_ret
  exact ⟨rfl,Uh HB⟩
end Go.Proofs.YtihhhjodonkkcaaGreatDoor
