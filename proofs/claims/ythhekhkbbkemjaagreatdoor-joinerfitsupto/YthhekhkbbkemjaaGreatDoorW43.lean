/- Jh16 -/
import Derived.Test.YthhekhkbbkemjaaGreatDoorW42
namespace Go.Proofs.YthhekhkbbkemjaaGreatDoor
open Go.RowKit
open Ti
structure Jo16 (w:World) (p:Nat) (tv xv:Value) (cl j:Int→Int) (X:List Int):Prop where
 pf:∀ W,Below w.heap.size w W→∀ i,(-9223372036854775808≤i∧i≤9223372036854775807)→Calls Tryz.prog 9 #[.pointer (some ⟨p,0,none⟩),xv,.int .i64 i] W (Tells W (Jn.fiti cl j X i))
 rf:∀ W,Below w.heap.size w W→∀ i,(-9223372036854775808≤i∧i≤9223372036854775807)→Calls Tryz.prog 10 #[tv,xv,.int .i64 i] W (Tells W (Jn.fiti cl j X i))
 pc:∀ W,Below w.heap.size w W→Calls Tryz.prog 11 #[.pointer (some ⟨p,0,none⟩),xv] W (IntT16 W (Jn.chk cl j X))
 rc:∀ W,Below w.heap.size w W→Calls Tryz.prog 12 #[tv,xv] W (IntT16 W (Jn.chk cl j X))
theorem jo16 {B p:Nat} {rs:List Rec} {w:World} {ta:Option Addr} {tl tc:Nat} {xv:Value} {X:List Int} (hD:DataAt w B p rs) (hR:Rcs w (.slice ta tl tc) rs) (h6:(Cn.check6 rs).2=0) (hx:Sk .i32 w xv X):Jo16 w p (.slice ta tl tc) xv (Cn.vget rs 2) (Cn.vget rs 5) X :=
 ⟨fun _ hW i hi=>fits_any16 (classC16 (hD.below hW) h6) (joinC16 (hD.below hW) h6) (hx.below hW) i hi,fun W hW i hi=>refFits_any16 ta tl tc W (rclassC16 (hR.below hW) h6) (rjoinC16 (hR.below hW) h6) (hx.below hW) i hi,fun _ hW=>check_any16 (classC16 (hD.below hW) h6) (joinC16 (hD.below hW) h6) (hx.below hW),fun W hW=>refCheck_any16 ta tl tc W (rclassC16 (hR.below hW) h6) (rjoinC16 (hR.below hW) h6) (hx.below hW)⟩
set_option maxRecDepth 20000 in
set_option maxHeartbeats 8000000 in
theorem fits_law16 (v:Value) (rs0:List Rec) (xv:Value) (xs:List Int) (i:Int) (w:World) (hg:Glob w) (hv:Rcs w v rs0) (hx:Sk .i32 w xv xs) (hi:-9223372036854775808≤i∧i≤9223372036854775807):Calls Tryz.prog 3 #[v,xv,.int .i64 i] w (Tells w true):=by
 have K1:=Hd (made_any v rs0 w hg hv)
 have hfit:∀ r∈rs0.take 150,RecFit r:=fun r hr=>hv.2.1 r (List.mem_of_mem_take hr)
 have hrl:(rs0.take 150).length≤150:=by rw [List.length_take]; omega
 have HFIT:=Hd hfit
 clear hfit
 obtain ⟨ao,cap,rfl,_,hcap⟩:=hv.shape
 have HX:=Hd hx
 obtain ⟨xo,xcap,hxe,hxc1,hxc2⟩:=hx.shape
 subst hxe
 have HG:=Hd hg
 have HI:=Hd hi
 clear hg hv hx hi
 generalize rs0.take 150=rs at *
 generalize rs0.length=L at *
 go_enter Tryz.func3,Tryz.ntmps3
 go_wp2_with fail
 refine (Uh K1).mono ?_
 rintro e1 w1 ⟨b1,h1⟩
 have HB1:=Hd b1
 clear K1 b1
 rcases h1 with ⟨hne,rfl⟩ | ⟨h0,p,v2,ps2,rfl,hD,r2,p2⟩
 ·have K2:=Hd (told_any16 w1 ((Uh HG).on (Uh HB1)))
  clear hne
  go_wp2_with fail
  refine (Uh K2).mono ?_
  rintro e2 w2 ⟨rfl,b2⟩
  have HB2:=Hd (bthen (Uh HB1) b2)
  clear K2 b2
  go_wp2
  go_ret
  exact ⟨rfl,Uh HB2⟩
 ·have h6:=(Cn.check_iff.1 h0).1
  have R2:=rcs_new r2 p2 (by omega) (Uh HFIT)
  obtain ⟨a2,cp2,hv2,_,hcp2⟩:=R2.shape
  subst hv2
  have H6:=Hd h6
  have HD1:=Hd hD
  have HR1:=Hd R2
  have hXl:(xs.take 100).length≤100:=List.length_take_le _ _
  have K3:=Hd (few_any16 _ xs 100 w1 ((Uh HX).below (Uh HB1)) (by omega))
  clear hD r2 p2 R2 h6 h0 HX HG HFIT
  generalize xs.take 100=X at *
  go_wp2_with fail
  refine (Uh K3).mono ?_
  rintro e2 w2 ⟨v3,rfl,ok2,b2⟩
  obtain ⟨a3,c3,hv3,hc31,hc32⟩:=ok2.sk.shape
  subst hv3
  have J:=Hd (jo16 ((Uh HD1).below b2) ((Uh HR1).below b2) (Uh H6) ok2.sk)
  have HN:=Hd (fun W (hW:Below w2.heap.size w2 W)=>fits_nil16 _ X W (ok2.sk.below hW))
  have HB2:=Hd (bthen (Uh HB1) b2)
  clear K3 ok2 b2 HD1 HB1 HR1 H6
  generalize Cn.vget rs 2=cl at *
  generalize Cn.vget rs 5=j at *
  go_wp2
  go_loopw [11] (fun jv wr=>∃ k:Nat,jv=.int .i64 ((k:Int) - 1)∧k≤X.length+2∧Below w2.heap.size w2 wr) (fun jv _=>X.length+2 - (intOf jv+1).toNat)
  case atStart=>exact ⟨0,rfl,by omega,Below.refl _ _⟩
  case round =>
   obtain ⟨k,rfl,hk,hb⟩:=hrel
   by_cases hlt:((k:Int) - 1≤X.length)
   ·have K4:=Hd ((Uh J).pf wr hb ((k:Int) - 1) ⟨by omega,by omega⟩)
    have K5:Hid (∀ W,Below wr.heap.size wr W→Calls Tryz.prog 10 #[.slice a2 rs.length cp2,.slice a3 X.length c3,.int .i64 ((k:Int) - 1)] W (Tells W (Jn.fiti cl j X ((k:Int) - 1)))):=fun W hW=>(Uh J).rf W (bthen hb hW) _ ⟨by omega,by omega⟩
    have HB:=Hd hb
    have hw1:IntKind.i64.wrap ((k:Int) - 1+1)=(k:Int) - 1+1:=by rw [IntKind.wrap_i64]; omega
    clear hb
    generalize Jn.fiti cl j X ((k:Int) - 1)=bb at *
    have hbb:(bb != bb)=false:=by simp
    go_wp2_with fail
    refine (Uh K4).mono ?_
    rintro e3 w3 ⟨rfl,b3⟩
    have K6:=Hd ((Uh K5) w3 b3)
    have HB3:=Hd (bthen (Uh HB) b3)
    clear K4 K5 b3 HB
    go_wp2_with fail
    refine (Uh K6).mono ?_
    rintro e4 w4 ⟨rfl,b4⟩
    have HB4:=Hd (bthen (Uh HB3) b4)
    clear K6 b4 HB3
    go_wp2
    go_roundw
    case rel=>exact ⟨k+1,by first | rfl | (congr 1; omega),by omega,Uh HB4⟩
    case measure=>simp only [intOf]; omega
   ·have HB:=Hd hb
    have K4:=Hd ((Uh J).pf wr hb i (Uh HI))
    have hgt:¬ ((k:Int) - 1≤X.length):=hlt
    clear hb hlt
    go_wp2_with fail
    refine (Uh K4).mono ?_
    rintro e3 w3 ⟨rfl,b3⟩
    have HB3:=Hd (bthen (Uh HB) b3)
    have K5:=Hd ((Uh J).rf w3 (Uh HB3) i (Uh HI))
    clear K4 b3 HB
    generalize Jn.fiti cl j X i=bb at *
    have hbb:(bb==bb)=true:=by simp
    go_wp2_with fail
    refine (Uh K5).mono ?_
    rintro e4 w4 ⟨rfl,b4⟩
    have HB4:=Hd (bthen (Uh HB3) b4)
    have K6:=Hd ((Uh J).pc w4 (Uh HB4))
    clear K5 b4 HB3
    go_wp2_with fail
    refine (Uh K6).mono ?_
    rintro e5 w5 ⟨rfl,b5⟩
    have HB5:=Hd (bthen (Uh HB4) b5)
    have K7:=Hd ((Uh J).rc w5 (Uh HB5))
    clear K6 b5 HB4 hbb
    generalize Jn.chk cl j X=ck at *
    have hck:(ck==ck)=true:=by simp
    go_wp2_with fail
    refine (Uh K7).mono ?_
    rintro e6 w6 ⟨rfl,b6⟩
    have HB6:=Hd (bthen (Uh HB5) b6)
    have K8:=Hd ((Uh HN) w6 (Uh HB6))
    clear K7 b6 HB5
    go_wp2_with fail
    refine (Uh K8).mono ?_
    rintro e7 w7 ⟨rfl,b7⟩
    have HB7:=Hd (bthen (Uh HB6) b7)
    have K9:=Hd (check_none16 w7)
    clear K8 b7 HB6
    go_wp2_with fail
    refine (Uh K9).mono ?_
    rintro e8 w8 ⟨rfl,b8⟩
    have HB8:=Hd (bthen (Uh HB2) (bthen (Uh HB7) b8))
    clear K9 b8 HB7
    go_wp2
    go_ret
    exact ⟨rfl,Uh HB8⟩
end Go.Proofs.YthhekhkbbkemjaaGreatDoor
