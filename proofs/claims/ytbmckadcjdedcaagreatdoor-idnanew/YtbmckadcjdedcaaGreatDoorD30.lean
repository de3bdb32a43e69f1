/- Rwc7 -/
import Derived.Test.YtbmckadcjdedcaaGreatDoorD18
import Derived.Deep.DeepCutAuto
import Derived.Laws.BitsLemmas
set_option maxHeartbeats 8000000
set_option maxRecDepth 8000
namespace Go.Proofs.YtbmckadcjdedcaaGreatDoor
open Go.Proofs.Tryz
open Go.RowKit
section
variable{p:Prop}
theorem p1n(h:p:=by go_wp2;go_ret;exact⟨rfl,V d⟩):p:=h
theorem S9y(h:p:=by
 clear k v;go_wp2
 go_meet
 case rel=>exact⟨by first| rfl | exact ab,congrArg Value.bool (V x)⟩):p:=h
end
theorem rwg_e(J lo hi n:Int)(A:J=4)(ao:Option Addr)(f q:Nat)(Z M:ByteArray)(wt:Nat)(w:World)(aj:I64 lo)(p:I64 hi)(hn:I64 n)(okb L:Bool)(t:Int)(y:Hid (okb=decide (0<=lo/\lo<=hi/\hi<=1114111)))(Q:Hid (okb=true->L=(decide (lo=hi)&&Cn.scalar lo)))(bq:Bool->Bool->Bool->Bool->Bool->Bool)(Y:Hid (∀W f1 f2 f3 f4 f5,Bw w W->Calls prog 113 #[.agg #[.int .i64 J,.int .i64 lo,.int .i64 hi,.int .i64 n,.slice ao f q,.string Z,.string M,.float .f64 wt],.bool f1,.bool f2,.bool f3,.bool f4,.bool f5] W (x0c W (bq f1 f2 f3 f4 f5))))(l4:Bool)(D:Hid (∀W,Bw w W->Calls prog 117 #[.slice ao f q,.int .i64 1,.int .i64 1] W fun e w'=>e=.returned (.bool l4)/\w'=W))(a:Int)(HA:Hid (l4=true->Rune a/\∃b off,ao=some ⟨b,off,none⟩/\f=1/\f<=q/\∀W,Bw w W->W.cell? ⟨b,off,none⟩=some (.int .i32 a)))(sq:Bool)(R:Hid (sq=true->a+hi-lo<=1114111/\(a+hi-lo<55296\/57343<a)))(P:Hid (sq=false->1114111<a+hi-lo\/(55296<=a+hi-lo/\a<=57343)))(F:Bool)(u:Hid (F=true->1<=n/\n<=64))(B:Hid (F=false->n<1\/64<n))(E:Hid (J=4->t=ansG (okb&&(bq true true false false false&&F&&l4&&sq)))):Calls prog 70 #[.agg #[.int .i64 J,.int .i64 lo,.int .i64 hi,.int .i64 n,.slice ao f q,.string Z,.string M,.float .f64 wt]] w (IntB w t):=by
 obtain⟨G,m⟩:∃G:Bool->Prop,∀H,G H↔(okb=true->H=L):=⟨_,fun _=>Iff.rfl⟩;have k:Hid (0<=lo->lo<=hi->hi<=1114111->true=okb):=fun o z s=>n2X;have v:Hid (¬(0<=lo/\lo<=hi/\hi<=1114111)->false=okb):=fun c=>U1m
 have H3:Hid (lo=hi->G (Cn.scalar (wrap32 (bits BinOp.and IntKind.i64 lo 2097151)))):=fun K=>(m _).2 fun h=>I6P
 have S:Hid (¬lo=hi->G false):=fun K=>(m _).2 fun h=>s0d;have H5:Hid (∀H,G H->okb=true->H=L):=fun H=>(m H).1;have H6:Hid (okb=true->0<=lo/\lo<=hi/\hi<=1114111):=fun h=>o0d ((V y).symm.trans h);clear y Q m;obtain⟨l,ab,T,U⟩:=x0L w J lo hi n (.slice ao f q) Z M wt;have C:=O T;obtain⟨x0,x1,x2,x3,x4,x5,x6,x7⟩:=T;have HB:=O U;have ag:I64 J:=i7Y;have af:(J==15)=false:=M0Y;have KF:=O (x0l J l ag);have ai:(Cn.fam J==0)=false:=M0Y;replace A:=O A;generalize Cn.fam J=fm at *;have KV:Hid (∀c W,Calls prog 116 #[.int .i32 (wrap32 c)] W fun e w'=>e=.returned (.bool (Cn.scalar (wrap32 c)))/\w'=W):=fun c W=>x0z _ W (x0O c);obtain⟨p1,p2⟩:=aj;obtain⟨p3,p4⟩:=p;clear U ag;go_enter func70,ntmps70;go_upto_region 7 with(refine(V KF).mono ?_;rintro e l ⟨rfl,rfl⟩);clear KF;go_cut[3] (fun sv wx=>wx=l/\sv=.bool okb)
 case first =>
  clear Y D HA u B R P E KV C H3 S H5;by_cases o:0<=lo
  ·by_cases z:lo<=hi
   ·by_cases s:hi<=1114111
    ·have x:=O (V k o z s);exact S9y
    ·have x:=O (V v fun h=>s h.2.2);exact S9y
   ·have x:=O (V v fun h=>z h.2.1);exact S9y
  ·have x:=O (V v fun h=>o h.1);exact S9y
 case rest =>
  obtain⟨rfl,rfl⟩:=hcut;clear k v;go_upto_region 8 with fail;go_cut[4] (fun sv wx=>wx=wc/\∃H:Bool,sv=.bool H/\G H)
  case first =>
   clear Y D HA u B R P E C H5;by_cases K:lo=hi
   ·have j:=O (V H3 K);subst K;have i:=O (V KV (bits BinOp.and IntKind.i64 lo 2097151));generalize Cn.scalar (wrap32 (bits BinOp.and IntKind.i64 lo 2097151))=sb at *;clear H3 S KV;go_wp2_with fail;refine(V i _).mono ?_;rintro e w1 ⟨rfl,rfl⟩;clear i;go_wp2
    go_meet
    case rel=>exact⟨f5X,sb,rfl,V j⟩
   ·have j:=O (V S K);clear H3 S KV;go_wp2
    go_meet
    case rel=>exact⟨f5X,false,rfl,V j⟩
  case rest =>
   obtain⟨rfl,H,rfl,r⟩:=hcut;have N:=O (V H5 H r);clear H3 S H5 r KV af ai;rcases V A with rfl
   ·have HR:=V E rfl;subst HR;have I:=O (fun W h=>V Y W true true false false false h);generalize bq true true false false false=b1 at *;clear Y A E
    cases okb with
    | false =>
     clear I D HA u B R P N C H6;exact m2q
    | true =>
     obtain rfl:=V N rfl;clear N;obtain⟨o1,o2,o3⟩:=V H6 rfl;clear H6;go_wp2_with fail;refine c1m (V I _ (V HB)) fun w2 ae=>?_;obtain⟨y0,y1,y2,y3,y4,y5,y6,y7⟩:=(V C).keep ae;have d:=O (x0b (V HB) ae);clear I C HB ae x0 x1 x2 x3 x4 x5 x6 x7
     cases b1 with
     | false =>
      clear D HA u B R P;exact p1n
     | true =>
      obtain⟨n1,n2⟩:=hn
      cases F with
      | true =>
       obtain⟨o,z⟩:=V u rfl;clear u B;go_wp2_with fail;refine(V D _ (V d)).mono ?_;rintro e w3 ⟨rfl,rfl⟩;clear D
       cases l4 with
       | false =>
        clear HA R P;exact p1n
       | true =>
        obtain⟨⟨a1,a2⟩,b,off,rfl,rfl,am,X⟩:=V HA rfl;have hz:=X _ (V d);clear HA X
        cases sq with
        | true =>
         obtain⟨g,d2⟩:=V R rfl;clear R P;rcases d2 with d2 | d2
         ·skip;exact p1n
         ·have d4:decide (a+hi-lo<55296)=false:=d0f f6J;exact p1n
        | false =>
         have d0:=V P rfl;clear R P;by_cases g:a+hi-lo<=1114111
         ·have d2:decide (a+hi-lo<55296)=false:=d0f f6J;have d3:decide (57343<a)=false:=d0f f6J;clear d0;exact p1n
         ·have d2:decide (a+hi-lo<=1114111)=false:=d0f g;clear d0;exact p1n
      | false =>
       have c0:=V B rfl;clear u B D HA R P;rcases c0 with c0 | c0
       ·have g:decide (1<=n)=false:=d0f f6J;exact p1n
       ·have o:1<=n:=f6J;have d2:decide (n<=64)=false:=d0f f6J;exact p1n
