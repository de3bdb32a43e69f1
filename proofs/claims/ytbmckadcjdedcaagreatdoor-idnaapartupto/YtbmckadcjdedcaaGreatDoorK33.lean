/- Lemmas. -/
import Derived.Test.YtbmckadcjdedcaaGreatDoorK18
import Derived.Deep.DeepCutAuto
import Derived.Laws.BitsLemmas
set_option maxHeartbeats 8000000
set_option maxRecDepth 8000
namespace Go.Proofs.YtbmckadcjdedcaaGreatDoor
open Go.Proofs.Tryz
open Go.RowKit
section
variable{p:Prop}
theorem V5A(h:p:=by
 go_wp2
 go_meet
 case rel=>exact I3i):p:=h
end
theorem z9y kd lo hi n(B:kd=6\/kd=9) ao tl tc nm ot wt w(m:I64 lo)(l:I64 hi)(hn:I64 n) okb oneb res(y:Hid (okb=decide (0<=lo/\lo<=hi/\hi<=1114111)))(ae:Hid (okb=true->oneb=(decide (lo=hi)&&Cn.scalar lo)))(f:Bool->Bool->Bool->Bool->Bool->Bool)(v:Hid (∀W f1 S g j p,Bw w W->Calls prog 113 #[.agg #[.int .i64 kd,.int .i64 lo,.int .i64 hi,.int .i64 n,.slice ao tl tc,.string nm,.string ot,.float .f64 wt],.bool f1,.bool S,.bool g,.bool j,.bool p] W (x0c W (f f1 S g j p)))) rq6(Z:Hid (rq6=true->1<=n/\n<=254))(C:Hid (rq6=false->n<1\/254<n)) rq9(A:Hid (rq9=true->0<=n/\n<=10))(ab:Hid (rq9=false->n<0\/10<n))(H:Hid (kd=6->res=ansG (okb&&(f true false false false false&&rq6))))(I:Hid (kd=9->res=ansG (okb&&(f true false false false false&&rq9)))):Calls prog 70 #[.agg #[.int .i64 kd,.int .i64 lo,.int .i64 hi,.int .i64 n,.slice ao tl tc,.string nm,.string ot,.float .f64 wt]] w (IntB w res):=by
 obtain⟨G,hG⟩:∃G:Bool->Prop,∀M,G M↔(okb=true->M=oneb):=⟨_,fun _=>Iff.rfl⟩;have N:Hid (0<=lo->lo<=hi->hi<=1114111->true=okb):=fun c1 U s=>s6D;have R:Hid (¬(0<=lo/\lo<=hi/\hi<=1114111)->false=okb):=fun c=>U1n
 have u:Hid (lo=hi->G (Cn.scalar (wrap32 (bits BinOp.and IntKind.i64 lo 2097151)))):=fun J=>(hG _).2 fun h=>by
  have h1:=o0d ((V y).symm.trans h);rw[V ae h,x1f h1.1 f6J,d0t J,Bool.true_and]
 have d:Hid (¬lo=hi->G false):=fun J=>(hG _).2 fun h=>(by rw[V ae h,d0f J,Bool.false_and]);have Q:Hid (∀M,G M->okb=true->M=oneb):=fun M=>(hG M).1;clear y ae hG;obtain⟨W0,k,D,af⟩:=x0O w kd lo hi n (.slice ao tl tc) nm ot wt;have Y:=O D;obtain⟨x0,x1,X,x3,x4,x5,x6,x7⟩:=D;have t:=O af;have E:I64 kd:=U7I;have b:(kd==15)=false:=U0M;have q:=O (x0l kd W0 E);have ag:(Cn.fam kd==0)=false:=U0M;replace B:=O B;generalize Cn.fam kd=fm at *;have T:Hid (∀c W,Calls prog 116 #[.int .i32 (wrap32 c)] W fun e w'=>e=.returned (.bool (Cn.scalar (wrap32 c)))/\w'=W):=fun c W=>x0z _ W (x0R c);obtain⟨p1,p2⟩:=m;obtain⟨p3,p4⟩:=l;clear af E;go_enter func70,ntmps70;go_upto_region 7 with(refine(V q).mono ?_;rintro e W0 ⟨rfl,rfl⟩);clear q;go_cut[3] (fun sv z=>z=W0/\sv=.bool okb)
 case first =>
  clear v Z C A ab H I T Y u d Q;by_cases c1:0<=lo
  ·by_cases U:lo<=hi
   ·by_cases s:hi<=1114111
    ·have x:=O (V N c1 U s);clear N R;exact V5A
    ·have x:=O (V R fun h=>s h.2.2);clear N R;exact V5A
   ·have x:=O (V R fun h=>U h.2.1);clear N R;exact V5A
  ·have x:=O (V R fun h=>c1 h.1);clear N R;exact V5A
 case rest =>
  obtain⟨rfl,rfl⟩:=hcut;clear N R;go_upto_region 8 with fail;go_cut[4] (fun sv z=>z=wc/\∃M:Bool,sv=.bool M/\G M)
  case first =>
   clear v Z C A ab H I Y Q;by_cases J:lo=hi
   ·have r:=O (V u J);subst J;have o:=O (V T (bits BinOp.and IntKind.i64 lo 2097151));generalize Cn.scalar (wrap32 (bits BinOp.and IntKind.i64 lo 2097151))=sb at *;clear u d T;go_wp2_with fail;refine(V o _).mono ?_;rintro e w1 ⟨rfl,rfl⟩;clear o;go_wp2
    go_meet
    case rel=>exact⟨f5Y,sb,rfl,V r⟩
   ·have r:=O (V d J);clear u d T;go_wp2
    go_meet
    case rel=>exact⟨f5Y,false,rfl,V r⟩
  case rest =>
   obtain⟨rfl,M,rfl,P⟩:=hcut;have L:=O (V Q M P);clear u d Q P T b ag;rcases V B with rfl | rfl
   ·have a:=V H rfl;subst a;have K:=O (fun W h=>V v W true false false false false h);generalize f true false false false false=b1 at *;clear v B H I A ab
    cases okb with
    | false =>
     clear K Z C L Y;exact w4J
    | true =>
     obtain rfl:=V L rfl;clear L;go_wp2_with fail;refine c1m (V K _ (V t)) fun w2 F=>?_;obtain⟨y0,y1,y2,y3,y4,y5,y6,y7⟩:=(V Y).keep F;have i:=O (x0b (V t) F);clear K Y t F x0 x1 X x3 x4 x5 x6 x7
     cases b1 with
     | false =>
      clear Z C;exact V4H
     | true =>
      obtain⟨n1,n2⟩:=hn
      cases rq6 with
      | true =>
       obtain⟨c1,U⟩:=V Z rfl;clear Z C;exact V4H
      | false =>
       have c0:=V C rfl;clear Z C;rcases c0 with c0 | c0
       ·have d1:decide (1<=n)=false:=d0f f6J;exact V4H
       ·have c1:1<=n:=f6J;have d2:decide (n<=254)=false:=d0f f6J;exact V4H
   ·have a:=V I rfl;subst a;have K:=O (fun W h=>V v W true false false false false h);generalize f true false false false false=b1 at *;clear v B H I Z C
    cases okb with
    | false =>
     clear K A ab L Y;exact w4J
    | true =>
     obtain rfl:=V L rfl;clear L;go_wp2_with fail;refine c1m (V K _ (V t)) fun w2 F=>?_;obtain⟨y0,y1,y2,y3,y4,y5,y6,y7⟩:=(V Y).keep F;have i:=O (x0b (V t) F);clear K Y t F x0 x1 X x3 x4 x5 x6 x7
     cases b1 with
     | false =>
      clear A ab;exact V4H
     | true =>
      obtain⟨n1,n2⟩:=hn
      cases rq9 with
      | true =>
       obtain⟨c1,U⟩:=V A rfl;clear A ab;exact V4H
      | false =>
       have c0:=V ab rfl;clear A ab;rcases c0 with c0 | c0
       ·have d1:decide (0<=n)=false:=d0f f6J;exact V4H
       ·have c1:0<=n:=f6J;have d2:decide (n<=10)=false:=d0f f6J;exact V4H
