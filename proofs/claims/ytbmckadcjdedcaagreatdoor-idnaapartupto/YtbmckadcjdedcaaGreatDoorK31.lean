/- Lemmas. -/
import Derived.Test.YtbmckadcjdedcaaGreatDoorK18
import Derived.Deep.DeepCutAuto
import Derived.Laws.BitsLemmas
set_option maxHeartbeats 8000000
set_option maxRecDepth 8000
namespace Go.Proofs.YtbmckadcjdedcaaGreatDoor
open Go.Proofs.Tryz
open Go.RowKit
section
variable{p:Prop}
theorem g0E(h:p:=by
 by_cases c1:0<=lo
 ·by_cases U:lo<=hi
  ·by_cases s:hi<=1114111
   ·have x:=O (V N c1 U s);exact u4x
   ·have x:=O (V R fun h=>s h.2.2);exact u4x
  ·have x:=O (V R fun h=>U h.2.1);exact u4x
 ·have x:=O (V R fun h=>c1 h.1);exact u4x):p:=h
theorem v4c(h:p:=by
 by_cases J:lo=hi
 ·have r:=O (V u J);subst J;have o:=O (V T (bits BinOp.and IntKind.i64 lo 2097151));generalize Cn.scalar (wrap32 (bits BinOp.and IntKind.i64 lo 2097151))=sb at *;clear u d T;go_wp2_with fail;refine(V o _).mono ?_;rintro e w1 ⟨rfl,rfl⟩;clear o;go_wp2
  go_meet
  case rel=>exact⟨f5W,sb,rfl,V r⟩
 ·have r:=O (V d J);clear u d T;go_wp2
  go_meet
  case rel=>exact⟨f5W,false,rfl,V r⟩):p:=h
theorem u4x(h:p:=by
 clear N R;go_wp2
 go_meet
 case rel=>exact I3i):p:=h
theorem V4I(h:p:=by go_wp2;go_ret;exact⟨rfl,V i⟩):p:=h
theorem V4J(h:p:=by go_wp2;go_ret;exact⟨rfl,V i⟩):p:=h
end
theorem rwg_g kd lo hi n(B:kd=10) ao tl tc nm ot wt w(m:I64 lo)(l:I64 hi)(hn:I64 n) okb oneb res(y:Hid (okb=decide (0<=lo/\lo<=hi/\hi<=1114111)))(I:Hid (okb=true->oneb=(decide (lo=hi)&&Cn.scalar lo)))(f:Bool->Bool->Bool->Bool->Bool->Bool)(v:Hid (∀W f1 S g j p,Bw w W->Calls prog 113 #[.agg #[.int .i64 kd,.int .i64 lo,.int .i64 hi,.int .i64 n,.slice ao tl tc,.string nm,.string ot,.float .f64 wt],.bool f1,.bool S,.bool g,.bool j,.bool p] W (x0c W (f f1 S g j p)))) rq10(A:Hid (rq10=true->0<=n/\n<=5))(C:Hid (rq10=false->n<0\/5<n))(ab:Hid (kd=10->res=ansG (okb&&(f true false false false false&&rq10)))):Calls prog 70 #[.agg #[.int .i64 kd,.int .i64 lo,.int .i64 hi,.int .i64 n,.slice ao tl tc,.string nm,.string ot,.float .f64 wt]] w (IntB w res):=by
 obtain⟨G,hG⟩:∃G:Bool->Prop,∀M,G M↔(okb=true->M=oneb):=⟨_,fun _=>Iff.rfl⟩;have N:Hid (0<=lo->lo<=hi->hi<=1114111->true=okb):=fun c1 U s=>s6D;have R:Hid (¬(0<=lo/\lo<=hi/\hi<=1114111)->false=okb):=fun c=>U1n
 have u:Hid (lo=hi->G (Cn.scalar (wrap32 (bits BinOp.and IntKind.i64 lo 2097151)))):=fun J=>(hG _).2 fun h=>G9F
 have d:Hid (¬lo=hi->G false):=fun J=>(hG _).2 fun h=>g2F;have Q:Hid (∀M,G M->okb=true->M=oneb):=fun M=>(hG M).1;clear y I hG;obtain⟨H,k,D,ae⟩:=x0O w kd lo hi n (.slice ao tl tc) nm ot wt;have Y:=O D;obtain⟨x0,x1,X,x3,x4,x5,x6,x7⟩:=D;have t:=O ae;have E:I64 kd:=E8r;have b:(kd==15)=false:=t5g;have q:=O (x0l kd H E);have af:(Cn.fam kd==0)=false:=t5g;replace B:=O B;generalize Cn.fam kd=fm at *;have T:Hid (∀c W,Calls prog 116 #[.int .i32 (wrap32 c)] W fun e w'=>e=.returned (.bool (Cn.scalar (wrap32 c)))/\w'=W):=fun c W=>x0z _ W (x0R c);obtain⟨p1,p2⟩:=m;obtain⟨p3,p4⟩:=l;clear ae E;go_enter func70,ntmps70;go_upto_region 7 with(refine(V q).mono ?_;rintro e H ⟨rfl,rfl⟩);clear q;go_cut[3] (fun sv z=>z=H/\sv=.bool okb)
 case first =>
  clear v A C ab T Y u d Q;exact g0E
 case rest =>
  obtain⟨rfl,rfl⟩:=hcut;clear N R;go_upto_region 8 with fail;go_cut[4] (fun sv z=>z=wc/\∃M:Bool,sv=.bool M/\G M)
  case first =>
   clear v A C ab Y Q;exact v4c
  case rest =>
   obtain⟨rfl,M,rfl,P⟩:=hcut;have L:=O (V Q M P);clear u d Q P T b af;rcases V B with rfl
   ·have a:=V ab rfl;subst a;have K:=O (fun W h=>V v W true false false false false h);generalize f true false false false false=b1 at *;clear v B ab
    cases okb with
    | false =>
     clear K A C L Y;exact w4J
    | true =>
     obtain rfl:=V L rfl;clear L;go_wp2_with fail;refine c1m (V K _ (V t)) fun w2 F=>?_;obtain⟨y0,y1,y2,y3,y4,y5,y6,y7⟩:=(V Y).keep F;have i:=O (x0b (V t) F);clear K Y t F x0 x1 X x3 x4 x5 x6 x7
     cases b1 with
     | false =>
      clear A C;exact V4I
     | true =>
      obtain⟨n1,n2⟩:=hn
      cases rq10 with
      | true =>
       obtain⟨c1,U⟩:=V A rfl;clear A C;exact V4I
      | false =>
       have c0:=V C rfl;clear A C;rcases c0 with c0 | c0
       ·have d1:decide (0<=n)=false:=d0f f6J;exact V4I
       ·have c1:0<=n:=f6J;have d2:decide (n<=5)=false:=d0f f6J;exact V4I
theorem z9z kd lo hi n(B:kd=12\/kd=14) ao tl tc nm ot wt w(m:I64 lo)(l:I64 hi) okb oneb res(y:Hid (okb=decide (0<=lo/\lo<=hi/\hi<=1114111)))(I:Hid (okb=true->oneb=(decide (lo=hi)&&Cn.scalar lo)))(f:Bool->Bool->Bool->Bool->Bool->Bool)(v:Hid (∀W f1 S g j p,Bw w W->Calls prog 113 #[.agg #[.int .i64 kd,.int .i64 lo,.int .i64 hi,.int .i64 n,.slice ao tl tc,.string nm,.string ot,.float .f64 wt],.bool f1,.bool S,.bool g,.bool j,.bool p] W (x0c W (f f1 S g j p)))) nb(KN:Hid (∀W,Calls prog 114 #[.string nm] W fun e w'=>e=.returned (.bool nb)/\w'=W)) wb(KW:Hid (∀W,Calls prog 115 #[.float .f64 wt] W fun e w'=>e=.returned (.bool wb)/\w'=W))(A:Hid (kd=12->res=ansG (okb&&(f false false true false false&&nb))))(C:Hid (kd=14->res=ansG (okb&&(f false false false false true&&wb)))):Calls prog 70 #[.agg #[.int .i64 kd,.int .i64 lo,.int .i64 hi,.int .i64 n,.slice ao tl tc,.string nm,.string ot,.float .f64 wt]] w (IntB w res):=by
 obtain⟨G,hG⟩:∃G:Bool->Prop,∀M,G M↔(okb=true->M=oneb):=⟨_,fun _=>Iff.rfl⟩;have N:Hid (0<=lo->lo<=hi->hi<=1114111->true=okb):=fun c1 U s=>s6D;have R:Hid (¬(0<=lo/\lo<=hi/\hi<=1114111)->false=okb):=fun c=>U1n
 have u:Hid (lo=hi->G (Cn.scalar (wrap32 (bits BinOp.and IntKind.i64 lo 2097151)))):=fun J=>(hG _).2 fun h=>G9F
 have d:Hid (¬lo=hi->G false):=fun J=>(hG _).2 fun h=>g2F;have Q:Hid (∀M,G M->okb=true->M=oneb):=fun M=>(hG M).1;clear y I hG;obtain⟨H,k,D,ab⟩:=x0O w kd lo hi n (.slice ao tl tc) nm ot wt;have Y:=O D;obtain⟨x0,x1,X,x3,x4,x5,x6,x7⟩:=D;have t:=O ab;have E:I64 kd:=U7I;have b:(kd==15)=false:=U0M;have q:=O (x0l kd H E);have ae:(Cn.fam kd==0)=false:=U0M;replace B:=O B;generalize Cn.fam kd=fm at *;have T:Hid (∀c W,Calls prog 116 #[.int .i32 (wrap32 c)] W fun e w'=>e=.returned (.bool (Cn.scalar (wrap32 c)))/\w'=W):=fun c W=>x0z _ W (x0R c);obtain⟨p1,p2⟩:=m;obtain⟨p3,p4⟩:=l;clear ab E;go_enter func70,ntmps70;go_upto_region 7 with(refine(V q).mono ?_;rintro e H ⟨rfl,rfl⟩);clear q;go_cut[3] (fun sv z=>z=H/\sv=.bool okb)
 case first =>
  clear v KN KW A C T Y u d Q;exact g0E
 case rest =>
  obtain⟨rfl,rfl⟩:=hcut;clear N R;go_upto_region 8 with fail;go_cut[4] (fun sv z=>z=wc/\∃M:Bool,sv=.bool M/\G M)
  case first =>
   clear v KN KW A C Y Q;exact v4c
  case rest =>
   obtain⟨rfl,M,rfl,P⟩:=hcut;have L:=O (V Q M P);clear u d Q P T b ae;rcases V B with rfl | rfl
   ·have a:=V A rfl;subst a;have K:=O (fun W h=>V v W false false true false false h);generalize f false false true false false=b1 at *;clear v B A C KW
    cases okb with
    | false =>
     clear K KN L Y;exact w4J
    | true =>
     obtain rfl:=V L rfl;clear L;go_wp2_with fail;refine c1m (V K _ (V t)) fun w2 F=>?_;obtain⟨y0,y1,y2,y3,y4,y5,y6,y7⟩:=(V Y).keep F;have i:=O (x0b (V t) F);clear K Y t F x0 x1 X x3 x4 x5 x6 x7
     cases b1 with
     | false =>
      clear KN;exact V4J
     | true =>
      go_wp2_with fail;refine(V KN _).mono ?_;rintro e w3 ⟨rfl,rfl⟩;clear KN
      cases nb with
      | false =>exact V4J
      | true =>exact V4J
   ·have a:=V C rfl;subst a;have K:=O (fun W h=>V v W false false false false true h);generalize f false false false false true=b1 at *;clear v B A C KN
    cases okb with
    | false =>
     clear K KW L Y;exact w4J
    | true =>
     obtain rfl:=V L rfl;clear L;go_wp2_with fail;refine c1m (V K _ (V t)) fun w2 F=>?_;obtain⟨y0,y1,y2,y3,y4,y5,y6,y7⟩:=(V Y).keep F;have i:=O (x0b (V t) F);clear K Y t F x0 x1 X x3 x4 x5 x6 x7
     cases b1 with
     | false =>
      clear KW;exact V4J
     | true =>
      go_wp2_with fail;refine(V KW _).mono ?_;rintro e w3 ⟨rfl,rfl⟩;clear KW
      cases wb with
      | false =>exact V4J
      | true =>exact V4J
