/- Rwe7 -/
import Derived.Test.YtkglkajjofidoaaGreatDoorV21
import Derived.Deep.DeepCutAuto
import Derived.Laws.BitsLemmas
set_option maxHeartbeats 8000000
set_option maxRecDepth 8000
namespace Go.Proofs.YtkglkajjofidoaaGreatDoor
open Go.Proofs.Tryz
open Go.RowKit
theorem z0s (kd lo hi n:Int) (ao:Option Addr) (tl tc:Nat) (nm ot:ByteArray) (wt:Nat) (w:World) (hk:I64 kd) (hf:Cn.fam kd=0):Calls prog 60 #[.agg #[.int .i64 kd,.int .i64 lo,.int .i64 hi,.int .i64 n,.slice ao tl tc,.string nm,.string ot,.float .f64 wt]] w (IntB w 60):=by
 obtain ⟨W0,ai,af,ab⟩:=x0I w kd lo hi n (.slice ao tl tc) nm ot wt;obtain ⟨x0,x1,x2,x3,x4,x5,x6,x7⟩:=af;have HB:=O ab;have KF:=O (x0l kd W0 hk);rw [hf] at KF;clear ab hf;go_enter func60,ntmps60;go_wp2_with fail;refine (V KF).mono ?_;rintro e W0 ⟨rfl,rfl⟩;clear KF;go_wp2;go_ret;exact ⟨rfl,V HB⟩
theorem rw_15 (lo hi n:Int) (ao:Option Addr) (tl tc:Nat) (nm ot:ByteArray) (wt:Nat) (w:World) (ak:I64 lo) (aj:I64 hi) (b1 nb ob wb:Bool) (KB:Hid (∀ W,Bw w W->Calls prog 97 #[.agg #[.int .i64 15,.int .i64 lo,.int .i64 hi,.int .i64 n,.slice ao tl tc,.string nm,.string ot,.float .f64 wt],.bool false,.bool false,.bool true,.bool true,.bool true] W (x0d W b1))) (KN:Hid (∀ W,Calls prog 98 #[.string nm] W fun e w'=>e=.returned (.bool nb)/\w'=W)) (KO:Hid (∀ W,Calls prog 98 #[.string ot] W fun e w'=>e=.returned (.bool ob)/\w'=W)) (KW:Hid (∀ W,Calls prog 99 #[.float .f64 wt] W fun e w'=>e=.returned (.bool wb)/\w'=W)):Calls prog 60 #[.agg #[.int .i64 15,.int .i64 lo,.int .i64 hi,.int .i64 n,.slice ao tl tc,.string nm,.string ot,.float .f64 wt]] w (IntB w (ansG (decide (lo=0) && decide (hi=0) && b1 && nb && ob && decide (nm≠ot) && wb))):=by
 obtain ⟨W0,ai,af,ab⟩:=x0I w 15 lo hi n (.slice ao tl tc) nm ot wt;have ae:=O af;obtain ⟨x0,x1,x2,x3,x4,x5,x6,x7⟩:=af;have HB:=O ab;have KF:=O (x0l 15 W0 ⟨by omega,by omega⟩);rw [show Cn.fam 15=10 by decide] at KF;obtain ⟨e1,ac⟩:∃ e1,decide (lo=0)=e1:=⟨_,rfl⟩;obtain ⟨e2,ad⟩:∃ e2,decide (hi=0)=e2:=⟨_,rfl⟩;obtain ⟨e3,ah⟩:∃ e3,decide (nm≠ot)=e3:=⟨_,rfl⟩;rw [ac,ad,ah]
 have E3:Hid (((nm.toList==ot.toList)=!e3)):=by
  show (nm.toList==ot.toList)=!e3;rw [<- ah,bytes_beq];by_cases h:nm=ot <;> simp [h]
 obtain ⟨p1,p2⟩:=ak;obtain ⟨p3,p4⟩:=aj;clear ab ah;by_cases c1:lo=0
 ·rw [d0t c1] at ac;subst ac c1;by_cases c2:hi=0
  ·rw [d0t c2] at ad;subst ad c2;go_enter func60,ntmps60;go_wp2_with fail;refine (V KF).mono ?_;rintro e W0 ⟨rfl,rfl⟩;clear KF;go_wp2_with fail;refine (V KB _ (V HB)).mono ?_;rintro e w2 ⟨rfl,ag⟩;obtain ⟨y0,y1,y2,y3,y4,y5,y6,y7⟩:=(V ae).keep ag;have aa:=O (x0b (V HB) ag);clear KB ae HB ag x0 x1 x2 x3 x4 x5 x6 x7
   cases b1 with
   | false =>
    clear KN KO KW E3;go_wp2;go_ret;exact ⟨rfl,V aa⟩
   | true =>
    go_wp2_with fail;refine (V KN _).mono ?_;rintro e w3 ⟨rfl,rfl⟩;clear KN
    cases nb with
    | false =>
     clear KO KW E3;go_wp2;go_ret;exact ⟨rfl,V aa⟩
    | true =>
     go_wp2_with fail;refine (V KO _).mono ?_;rintro e w4 ⟨rfl,rfl⟩;clear KO
     cases ob with
     | false =>
      clear KW E3;go_wp2;go_ret;exact ⟨rfl,V aa⟩
     | true =>
      have E4:=V E3;clear E3
      cases e3 with
      | false =>
       clear KW;go_wp2;go_ret;exact ⟨rfl,V aa⟩
      | true =>
       go_wp2_with fail;refine (V KW _).mono ?_;rintro e w5 ⟨rfl,rfl⟩;clear KW
       cases wb with
       | false =>
        go_wp2;go_ret;exact ⟨rfl,V aa⟩
       | true =>
        go_wp2;go_ret;exact ⟨rfl,V aa⟩
  ·rw [d0f c2] at ad;subst ad;have d2:(hi==0)=false:=b0f c2;clear KB KN KO KW E3 ae;go_enter func60,ntmps60;go_wp2_with fail;refine (V KF).mono ?_;rintro e W0 ⟨rfl,rfl⟩;clear KF;go_wp2;go_ret;exact ⟨rfl,V HB⟩
 ·rw [d0f c1] at ac;subst ac;have d1:(lo==0)=false:=b0f c1;clear KB KN KO KW E3 ae;go_enter func60,ntmps60;go_wp2_with fail;refine (V KF).mono ?_;rintro e W0 ⟨rfl,rfl⟩;clear KF;go_wp2;go_ret;exact ⟨rfl,V HB⟩
