/- Ov12 -/
import Derived.Test.YteccdnacpmbfcaaGreatDoorYS5
namespace Go.Proofs.YteccdnacpmbfcaaGreatDoor
open Go.RowKit
open Ti
set_option maxRecDepth 8000 in
set_option maxHeartbeats 8000000 in
theorem same_law12 (v:Value) (rs0:List Rec) (xv:Value) (xs:List Int) (yv:Value) (ys:List Int) (w:World) (hg:Glob w) (hv:Rcs w v rs0) (hx:Sk .i32 w xv xs) (hy:Sk .i32 w yv ys):Calls Tryz.prog 5 #[v,xv,yv] w (Tells w true):=by
 have K1:=Hd (made_any v rs0 w hg hv)
 have hfit:∀ r∈rs0.take 150,RecFit r:=fun r hr=>hv.2.1 r (List.mem_of_mem_take hr)
 have hrl:(rs0.take 150).length≤150:=by rw [List.length_take]; omega
 have HFIT:=Hd hfit
 clear hfit
 obtain ⟨ao,cap,rfl,_,hcap⟩:=hv.shape
 have HX:=Hd hx
 have HY:=Hd hy
 obtain ⟨xo,xcap,hxe,hxc1,hxc2⟩:=hx.shape
 subst hxe
 obtain ⟨yo,ycap,hye,hyc1,hyc2⟩:=hy.shape
 subst hye
 have HG:=Hd hg
 clear hg hv hx hy
 generalize rs0.take 150=rs at *
 generalize rs0.length=L at *
 go_enter Tryz.func5,Tryz.ntmps5
 go_wp2_with fail
 refine (Uh K1).mono ?_
 rintro e1 w1 ⟨b1,h1⟩
 have HB1:=Hd b1
 clear K1 b1
 rcases h1 with ⟨hne,rfl⟩ | ⟨h0,p,v2,ps2,rfl,hD,r2,p2⟩
 ·have K2:=Hd (told_any12 w1 ((Uh HG).on (Uh HB1)))
  clear hne
  go_wp2_with fail
  refine (Uh K2).mono ?_
  rintro e2 w2 ⟨rfl,b2⟩
  have HB2:=Hd (bthen (Uh HB1) b2)
  clear K2 b2
  go_wp2
  go_ret
  exact ⟨rfl,Uh HB2⟩
 ·have R2:=rcs_new r2 p2 (by omega) (Uh HFIT)
  obtain ⟨a2,cp2,hv2,_,hcp2⟩:=R2.shape
  have HT1:=Hd R2
  subst hv2
  have H0:=Hd h0
  have HD1:=Hd hD
  have HG1:=Hd ((Uh HG).on (Uh HB1))
  have HY1:=Hd ((Uh HY).below (Uh HB1))
  have hXl:(xs.take 100).length≤100:=List.length_take_le _ _
  have hYl:(ys.take 100).length≤100:=List.length_take_le _ _
  have K3:=Hd (few_new12 _ xs 100 w1 ((Uh HX).below (Uh HB1)) (by omega))
  clear hD r2 p2 R2 h0 HX HY HG HFIT
  generalize xs.take 100=X at *
  go_wp2_with fail
  refine (Uh K3).mono ?_
  rintro e2 w2 ⟨v3,rfl,ok2,b2⟩
  have HD2:=Hd ((Uh HD1).below b2)
  have HG2:=Hd ((Uh HG1).on b2)
  have HT2:=Hd ((Uh HT1).below b2)
  have HX2:=Hd ok2.sk
  have HW2:=Hd (bthen (Uh HB1) b2)
  have K4:=Hd (few_new12 _ ys 100 w2 ((Uh HY1).below b2) (by omega))
  obtain ⟨a3,c3,hv3,_,_⟩:=ok2.sk.shape
  subst hv3
  clear K3 ok2 b2 HD1 HG1 HT1 HY1 HB1
  generalize ys.take 100=Y at *
  go_wp2_with fail
  refine (Uh K4).mono ?_
  rintro e3 w3 ⟨v4,rfl,ok3,b3⟩
  have HD3:=Hd ((Uh HD2).below b3)
  have HG3:=Hd ((Uh HG2).on b3)
  have HT3:=Hd ((Uh HT2).below b3)
  have HX3:=Hd ((Uh HX2).below b3)
  have HY3:=Hd ok3.sk
  have HW3:=Hd (bthen (Uh HW2) b3)
  have K5:=Hd (sameO_any12 _ _ X Y w3 (Uh HG3) (Uh HD3) (Uh H0) (Uh HX3) ok3.sk (by omega) (by omega))
  obtain ⟨a4,c4,hv4,_,_⟩:=ok3.sk.shape
  subst hv4
  clear K4 ok3 b3 HD2 HG2 HT2 HX2 HW2
  go_wp2_with fail
  refine (Uh K5).mono ?_
  rintro e4 w4 ⟨rfl,b4⟩
  have HD4:=Hd ((Uh HD3).below b4)
  have HG4:=Hd ((Uh HG3).on b4)
  have HT4:=Hd ((Uh HT3).below b4)
  have HX4:=Hd ((Uh HX3).below b4)
  have HY4:=Hd ((Uh HY3).below b4)
  have HW4:=Hd (bthen (Uh HW3) b4)
  have K6:=Hd (sameO_any12 _ _ Y X w4 (Uh HG4) (Uh HD4) (Uh H0) (Uh HY4) (Uh HX4) (by omega) (by omega))
  rw [show decide (Cn.nfd rs Y=Cn.nfd rs X)=decide (Cn.nfd rs X=Cn.nfd rs Y) from decide_eq_decide.2 eq_comm] at K6
  clear K5 b4 HD3 HG3 HT3 HX3 HY3 HW3
  go_wp2_with fail
  refine (Uh K6).mono ?_
  rintro e5 w5 ⟨rfl,b5⟩
  have HT5:=Hd ((Uh HT4).below b5)
  have HX5:=Hd ((Uh HX4).below b5)
  have HY5:=Hd ((Uh HY4).below b5)
  have HW5:=Hd (bthen (Uh HW4) b5)
  have K7:=Hd (sameO_nil12 w5 a3 a4 X.length Y.length c3 c4)
  clear K6 b5 HD4 HG4 HT4 HX4 HY4 HW4
  go_wp2_with fail
  refine (Uh K7).mono ?_
  rintro e6 w6 ⟨rfl,b6⟩
  have HW6:=Hd (bthen (Uh HW5) b6)
  have K8:=Hd (refSame12 _ _ _ X Y w6 ((Uh HT5).below b6) (Uh H0) ((Uh HX5).below b6) ((Uh HY5).below b6) (by omega) (by omega))
  clear K7 b6 HT5 HX5 HY5 HW5
  generalize decide (Cn.nfd rs X=Cn.nfd rs Y)=bb at *
  go_wp2_with fail
  refine (Uh K8).mono ?_
  rintro e7 w7 ⟨rfl,b7⟩
  have HW7:=Hd (bthen (Uh HW6) b7)
  clear K8 b7 HW6
  have hbb:(bb==bb)=true:=by simp
  go_wp2
  go_ret
  exact ⟨rfl,Uh HW7⟩
end Go.Proofs.YteccdnacpmbfcaaGreatDoor
