/- Rwf7 -/
import Derived.Test.YtbmckadcjdedcaaGreatDoorD18
import Derived.Deep.DeepCutAuto
import Derived.Laws.BitsLemmas
set_option maxHeartbeats 8000000
set_option maxRecDepth 8000
namespace Go.Proofs.YtbmckadcjdedcaaGreatDoor
open Go.Proofs.Tryz
open Go.RowKit
section
variable{p:Prop}
theorem F3V(h:p:=by
 clear k v;go_wp2
 go_meet
 case rel=>exact m7Z):p:=h
end
theorem z8P(J lo hi n:Int)(A:J=6\/J=9)(ao:Option Addr)(f q:Nat)(Z ot:ByteArray)(wt:Nat)(w:World)(a:I64 lo)(p:I64 hi)(hn:I64 n)(okb L:Bool)(t:Int)(y:Hid (okb=decide (0<=lo/\lo<=hi/\hi<=1114111)))(Q:Hid (okb=true->L=(decide (lo=hi)&&Cn.scalar lo)))(bq:Bool->Bool->Bool->Bool->Bool->Bool)(Y:Hid (∀W f1 f2 u f4 f5,Bw w W->Calls prog 113 #[.agg #[.int .i64 J,.int .i64 lo,.int .i64 hi,.int .i64 n,.slice ao f q,.string Z,.string ot,.float .f64 wt],.bool f1,.bool f2,.bool u,.bool f4,.bool f5] W (x0c W (bq f1 f2 u f4 f5))))(ag:Bool)(B:Hid (ag=true->1<=n/\n<=254))(D:Hid (ag=false->n<1\/254<n))(M:Bool)(C:Hid (M=true->0<=n/\n<=10))(E:Hid (M=false->n<0\/10<n))(ae:Hid (J=6->t=ansG (okb&&(bq true false false false false&&ag))))(af:Hid (J=9->t=ansG (okb&&(bq true false false false false&&M)))):Calls prog 70 #[.agg #[.int .i64 J,.int .i64 lo,.int .i64 hi,.int .i64 n,.slice ao f q,.string Z,.string ot,.float .f64 wt]] w (IntB w t):=by
 obtain⟨G,m⟩:∃G:Bool->Prop,∀H,G H↔(okb=true->H=L):=⟨_,fun _=>Iff.rfl⟩;have k:Hid (0<=lo->lo<=hi->hi<=1114111->true=okb):=fun o z s=>n2Y;have v:Hid (¬(0<=lo/\lo<=hi/\hi<=1114111)->false=okb):=fun c=>U1m
 have R:Hid (lo=hi->G (Cn.scalar (wrap32 (bits BinOp.and IntKind.i64 lo 2097151)))):=fun K=>(m _).2 fun h=>I6P
 have S:Hid (¬lo=hi->G false):=fun K=>(m _).2 fun h=>s0e;have H5:Hid (∀H,G H->okb=true->H=L):=fun H=>(m H).1;clear y Q m;obtain⟨l,P,T,U⟩:=x0L w J lo hi n (.slice ao f q) Z ot wt;have ab:=O T;obtain⟨x0,x1,x2,x3,x4,x5,x6,x7⟩:=T;have HB:=O U;have ai:I64 J:=G9c;have b:(J==15)=false:=n3U;have KF:=O (x0l J l ai);have aj:(Cn.fam J==0)=false:=n3U;replace A:=O A;generalize Cn.fam J=fm at *;have X:Hid (∀c W,Calls prog 116 #[.int .i32 (wrap32 c)] W fun e w'=>e=.returned (.bool (Cn.scalar (wrap32 c)))/\w'=W):=fun c W=>x0z _ W (x0O c);obtain⟨p1,p2⟩:=a;obtain⟨p3,p4⟩:=p;clear U ai;go_enter func70,ntmps70;go_upto_region 7 with(refine(V KF).mono ?_;rintro e l ⟨rfl,rfl⟩);clear KF;go_cut[3] (fun sv wx=>wx=l/\sv=.bool okb)
 case first =>
  clear Y B D C E ae af X ab R S H5;by_cases o:0<=lo
  ·by_cases z:lo<=hi
   ·by_cases s:hi<=1114111
    ·have x:=O (V k o z s);exact F3V
    ·have x:=O (V v fun h=>s h.2.2);exact F3V
   ·have x:=O (V v fun h=>z h.2.1);exact F3V
  ·have x:=O (V v fun h=>o h.1);exact F3V
 case rest =>
  obtain⟨rfl,rfl⟩:=hcut;clear k v;go_upto_region 8 with fail;go_cut[4] (fun sv wx=>wx=wc/\∃H:Bool,sv=.bool H/\G H)
  case first =>
   clear Y B D C E ae af ab H5;by_cases K:lo=hi
   ·have j:=O (V R K);subst K;have i:=O (V X (bits BinOp.and IntKind.i64 lo 2097151));generalize Cn.scalar (wrap32 (bits BinOp.and IntKind.i64 lo 2097151))=sb at *;clear R S X;go_wp2_with fail;refine(V i _).mono ?_;rintro e w1 ⟨rfl,rfl⟩;clear i;go_wp2
    go_meet
    case rel=>exact⟨f6c,sb,rfl,V j⟩
   ·have j:=O (V S K);clear R S X;go_wp2
    go_meet
    case rel=>exact E5z
  case rest =>
   obtain⟨rfl,H,rfl,r⟩:=hcut;have N:=O (V H5 H r);clear R S H5 r X b aj;rcases V A with rfl | rfl
   ·have g:=V ae rfl;subst g;have I:=O (fun W h=>V Y W true false false false false h);generalize bq true false false false false=b1 at *;clear Y A ae af C E
    cases okb with
    | false =>
     clear I B D N ab;exact m2q
    | true =>
     obtain rfl:=V N rfl;clear N;go_wp2_with fail;refine c1m (V I _ (V HB)) fun w2 F=>?_;obtain⟨y0,y1,y2,y3,y4,y5,y6,y7⟩:=(V ab).keep F;have d:=O (x0b (V HB) F);clear I ab HB F x0 x1 x2 x3 x4 x5 x6 x7
     cases b1 with
     | false =>
      clear B D;exact p1o
     | true =>
      obtain⟨n1,n2⟩:=hn
      cases ag with
      | true =>
       obtain⟨o,z⟩:=V B rfl;clear B D;exact p1o
      | false =>
       have c0:=V D rfl;clear B D;rcases c0 with c0 | c0
       ·have d1:decide (1<=n)=false:=d0f f6J;exact p1o
       ·have o:1<=n:=f6J;have d2:decide (n<=254)=false:=d0f f6J;exact p1o
   ·have g:=V af rfl;subst g;have I:=O (fun W h=>V Y W true false false false false h);generalize bq true false false false false=b1 at *;clear Y A ae af B D
    cases okb with
    | false =>
     clear I C E N ab;exact m2q
    | true =>
     obtain rfl:=V N rfl;clear N;go_wp2_with fail;refine c1m (V I _ (V HB)) fun w2 F=>?_;obtain⟨y0,y1,y2,y3,y4,y5,y6,y7⟩:=(V ab).keep F;have d:=O (x0b (V HB) F);clear I ab HB F x0 x1 x2 x3 x4 x5 x6 x7
     cases b1 with
     | false =>
      clear C E;exact p1o
     | true =>
      obtain⟨n1,n2⟩:=hn
      cases M with
      | true =>
       obtain⟨o,z⟩:=V C rfl;clear C E;exact p1o
      | false =>
       have c0:=V E rfl;clear C E;rcases c0 with c0 | c0
       ·have d1:decide (0<=n)=false:=d0f f6J;exact p1o
       ·have o:0<=n:=f6J;have d2:decide (n<=10)=false:=d0f f6J;exact p1o
