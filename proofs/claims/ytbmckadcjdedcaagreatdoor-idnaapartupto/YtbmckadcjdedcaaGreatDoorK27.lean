/- Lemmas. -/
import Derived.Test.YtbmckadcjdedcaaGreatDoorK18
import Derived.Deep.DeepCutAuto
import Derived.Laws.BitsLemmas
set_option maxHeartbeats 8000000
set_option maxRecDepth 8000
namespace Go.Proofs.YtbmckadcjdedcaaGreatDoor
open Go.Proofs.Tryz
open Go.RowKit
section
variable{p:Prop}
theorem v6r(h:p:=by
 clear N R;go_wp2
 go_meet
 case rel=>exact I3i):p:=h
theorem f8C(h:p:=by
 cases okb with
 | false =>
  clear K L Y;exact w4P
 | true =>
  obtain rfl:=V L rfl;clear L;go_wp2_with fail;refine c1m (V K _ (V t)) fun w2 F=>?_;obtain⟨y0,y1,y2,y3,y4,y5,y6,y7⟩:=(V Y).keep F;have i:=O (x0b (V t) F);clear K Y t F x0 x1 X x3 x4 x5 x6 x7
  cases b1 with
  | false =>exact V4H
  | true =>exact V4H):p:=h
theorem r6R(h:p:=by
 clear u d T;go_wp2
 go_meet
 case rel=>exact⟨f5Y,false,rfl,V r⟩):p:=h
theorem F7o(h:p:=by
 go_wp2
 go_meet
 case rel=>exact⟨f5Z,sb,rfl,V r⟩):p:=h
theorem m5Z(h:p:=by
 subst a;have K:=O (fun W h=>V v W false false false false false h);generalize f false false false false false=b1 at *;clear v B o Z
 exact f8C):p:=h
theorem U0N(h:p:=by rcases B with rfl | rfl<;>rfl):p:=h
theorem U0O(h:p:=by rcases B with rfl | rfl<;>rfl):p:=h
end
theorem z9u kd lo hi n(B:kd=1\/kd=2) ao tl tc nm ot wt w(m:I64 lo)(l:I64 hi) okb oneb res(y:Hid (okb=decide (0<=lo/\lo<=hi/\hi<=1114111)))(I:Hid (okb=true->oneb=(decide (lo=hi)&&Cn.scalar lo)))(f:Bool->Bool->Bool->Bool->Bool->Bool)(v:Hid (∀W f1 S g j p,Bw w W->Calls prog 113 #[.agg #[.int .i64 kd,.int .i64 lo,.int .i64 hi,.int .i64 n,.slice ao tl tc,.string nm,.string ot,.float .f64 wt],.bool f1,.bool S,.bool g,.bool j,.bool p] W (x0c W (f f1 S g j p))))(o:Hid (kd=1->res=ansG (okb&&(f false false false false false))))(Z:Hid (kd=2->res=ansG (okb&&(f false false false false false)))):Calls prog 70 #[.agg #[.int .i64 kd,.int .i64 lo,.int .i64 hi,.int .i64 n,.slice ao tl tc,.string nm,.string ot,.float .f64 wt]] w (IntB w res):=by
 obtain⟨G,hG⟩:∃G:Bool->Prop,∀M,G M↔(okb=true->M=oneb):=⟨_,fun _=>Iff.rfl⟩;have N:Hid (0<=lo->lo<=hi->hi<=1114111->true=okb):=fun C U s=>(by rw[V y,d0t ⟨C,U,s⟩]);have R:Hid (¬(0<=lo/\lo<=hi/\hi<=1114111)->false=okb):=fun c=>U1n
 have u:Hid (lo=hi->G (Cn.scalar (wrap32 (bits BinOp.and IntKind.i64 lo 2097151)))):=fun J=>(hG _).2 fun h=>by
  have h1:=o0d ((V y).symm.trans h);rw[V I h,x1f h1.1 f6J,d0t J,Bool.true_and]
 have d:Hid (¬lo=hi->G false):=fun J=>(hG _).2 fun h=>g2F;have Q:Hid (∀M,G M->okb=true->M=oneb):=fun M=>(hG M).1;clear y I hG;obtain⟨H,k,D,A⟩:=x0O w kd lo hi n (.slice ao tl tc) nm ot wt;have Y:=O D;obtain⟨x0,x1,X,x3,x4,x5,x6,x7⟩:=D;have t:=O A;have E:I64 kd:=U7I;have b:(kd==15)=false:=U0O;have q:=O (x0l kd H E);have ab:(Cn.fam kd==0)=false:=U0O;replace B:=O B;generalize Cn.fam kd=fm at *;have T:Hid (∀c W,Calls prog 116 #[.int .i32 (wrap32 c)] W fun e w'=>e=.returned (.bool (Cn.scalar (wrap32 c)))/\w'=W):=fun c W=>x0z _ W (x0R c);obtain⟨p1,p2⟩:=m;obtain⟨p3,p4⟩:=l;clear A E;go_enter func70,ntmps70;go_upto_region 7 with(refine(V q).mono ?_;rintro e H ⟨rfl,rfl⟩);clear q;go_cut[3] (fun sv z=>z=H/\sv=.bool okb)
 case first =>
  clear v o Z T Y u d Q;by_cases C:0<=lo
  ·by_cases U:lo<=hi
   ·by_cases s:hi<=1114111
    ·have x:=O (V N C U s);exact v6r
    ·have x:=O (V R fun h=>s h.2.2);exact v6r
   ·have x:=O (V R fun h=>U h.2.1);exact v6r
  ·have x:=O (V R fun h=>C h.1);exact v6r
 case rest =>
  obtain⟨rfl,rfl⟩:=hcut;clear N R;go_upto_region 8 with fail;go_cut[4] (fun sv z=>z=wc/\∃M:Bool,sv=.bool M/\G M)
  case first =>
   clear v o Z Y Q;by_cases J:lo=hi
   ·have r:=O (V u J);subst J;have K1:=O (V T (bits BinOp.and IntKind.i64 lo 2097151));generalize Cn.scalar (wrap32 (bits BinOp.and IntKind.i64 lo 2097151))=sb at *;clear u d T;go_wp2_with fail;refine(V K1 _).mono ?_;rintro e w1 ⟨rfl,rfl⟩;clear K1;exact F7o
   ·have r:=O (V d J);exact r6R
  case rest =>
   obtain⟨rfl,M,rfl,P⟩:=hcut;have L:=O (V Q M P);clear u d Q P T b ab;rcases V B with rfl | rfl
   ·have a:=V o rfl;exact m5Z
   ·have a:=V Z rfl;exact m5Z
theorem z9v kd lo hi n(B:kd=11\/kd=3) ao tl tc nm ot wt w(m:I64 lo)(l:I64 hi) okb oneb res(y:Hid (okb=decide (0<=lo/\lo<=hi/\hi<=1114111)))(ab:Hid (okb=true->oneb=(decide (lo=hi)&&Cn.scalar lo)))(f:Bool->Bool->Bool->Bool->Bool->Bool)(v:Hid (∀W f1 S g j p,Bw w W->Calls prog 113 #[.agg #[.int .i64 kd,.int .i64 lo,.int .i64 hi,.int .i64 n,.slice ao tl tc,.string nm,.string ot,.float .f64 wt],.bool f1,.bool S,.bool g,.bool j,.bool p] W (x0c W (f f1 S g j p)))) l1(A:Hid (∀W,Bw w W->Calls prog 117 #[.slice ao tl tc,.int .i64 1,.int .i64 24] W fun e w'=>e=.returned (.bool l1)/\w'=W))(C:Hid (kd=11->res=ansG (okb&&(f false false false false false))))(I:Hid (kd=3->res=ansG (okb&&(f false true false false false&&l1)))):Calls prog 70 #[.agg #[.int .i64 kd,.int .i64 lo,.int .i64 hi,.int .i64 n,.slice ao tl tc,.string nm,.string ot,.float .f64 wt]] w (IntB w res):=by
 obtain⟨G,hG⟩:∃G:Bool->Prop,∀M,G M↔(okb=true->M=oneb):=⟨_,fun _=>Iff.rfl⟩;have N:Hid (0<=lo->lo<=hi->hi<=1114111->true=okb):=fun c1 U s=>s6D;have R:Hid (¬(0<=lo/\lo<=hi/\hi<=1114111)->false=okb):=fun c=>U1n
 have u:Hid (lo=hi->G (Cn.scalar (wrap32 (bits BinOp.and IntKind.i64 lo 2097151)))):=fun J=>(hG _).2 fun h=>by
  have Z:=o0d ((V y).symm.trans h);rw[V ab h,x1f Z.1 f6J,d0t J,Bool.true_and]
 have d:Hid (¬lo=hi->G false):=fun J=>(hG _).2 fun h=>(by rw[V ab h,d0f J,Bool.false_and]);have Q:Hid (∀M,G M->okb=true->M=oneb):=fun M=>(hG M).1;clear y ab hG;obtain⟨H,k,D,ae⟩:=x0O w kd lo hi n (.slice ao tl tc) nm ot wt;have Y:=O D;obtain⟨x0,x1,X,x3,x4,x5,x6,x7⟩:=D;have t:=O ae;have E:I64 kd:=U7J;have b:(kd==15)=false:=U0N;have q:=O (x0l kd H E);have af:(Cn.fam kd==0)=false:=U0N;replace B:=O B;generalize Cn.fam kd=fm at *;have T:Hid (∀c W,Calls prog 116 #[.int .i32 (wrap32 c)] W fun e w'=>e=.returned (.bool (Cn.scalar (wrap32 c)))/\w'=W):=fun c W=>x0z _ W (x0R c);obtain⟨p1,p2⟩:=m;obtain⟨p3,p4⟩:=l;clear ae E;go_enter func70,ntmps70;go_upto_region 7 with(refine(V q).mono ?_;rintro e H ⟨rfl,rfl⟩);clear q;go_cut[3] (fun sv z=>z=H/\sv=.bool okb)
 case first =>
  clear v A C I T Y u d Q;by_cases c1:0<=lo
  ·by_cases U:lo<=hi
   ·by_cases s:hi<=1114111
    ·have x:=O (V N c1 U s);exact v6r
    ·have x:=O (V R fun h=>s h.2.2);exact v6r
   ·have x:=O (V R fun h=>U h.2.1);exact v6r
  ·have x:=O (V R fun h=>c1 h.1);exact v6r
 case rest =>
  obtain⟨rfl,rfl⟩:=hcut;clear N R;go_upto_region 8 with fail;go_cut[4] (fun sv z=>z=wc/\∃M:Bool,sv=.bool M/\G M)
  case first =>
   clear v A C I Y Q;by_cases J:lo=hi
   ·have r:=O (V u J);subst J;have o:=O (V T (bits BinOp.and IntKind.i64 lo 2097151));generalize Cn.scalar (wrap32 (bits BinOp.and IntKind.i64 lo 2097151))=sb at *;clear u d T;go_wp2_with fail;refine(V o _).mono ?_;rintro e w1 ⟨rfl,rfl⟩;clear o;exact F7o
   ·have r:=O (V d J);exact r6R
  case rest =>
   obtain⟨rfl,M,rfl,P⟩:=hcut;have L:=O (V Q M P);clear u d Q P T b af;rcases V B with rfl | rfl
   ·have a:=V C rfl;subst a;have K:=O (fun W h=>V v W false false false false false h);generalize f false false false false false=b1 at *;clear v B C I A
    exact f8C
   ·have a:=V I rfl;subst a;have K:=O (fun W h=>V v W false true false false false h);generalize f false true false false false=b1 at *;clear v B C I
    cases okb with
    | false =>
     clear K A L Y;exact w4P
    | true =>
     obtain rfl:=V L rfl;clear L;exact F5a
