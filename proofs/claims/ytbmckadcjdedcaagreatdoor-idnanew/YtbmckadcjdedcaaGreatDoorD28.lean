/- Rwb7 -/
import Derived.Test.YtbmckadcjdedcaaGreatDoorD18
import Derived.Deep.DeepCutAuto
import Derived.Laws.BitsLemmas
set_option maxHeartbeats 8000000
set_option maxRecDepth 8000
namespace Go.Proofs.YtbmckadcjdedcaaGreatDoor
open Go.Proofs.Tryz
open Go.RowKit
section
variable{p:Prop}
theorem f1N(h:p:=by
 go_meet
 case rel=>exact m7Z):p:=h
theorem r3m(h:p:=by
 clear k v;go_wp2
 exact f1N):p:=h
end
theorem z8N(J lo hi n:Int)(A:J=5\/J=13)(ao:Option Addr)(f q:Nat)(nm M:ByteArray)(wt:Nat)(w:World)(a:I64 lo)(p:I64 hi)(okb L:Bool)(t:Int)(y:Hid (okb=decide (0<=lo/\lo<=hi/\hi<=1114111)))(Q:Hid (okb=true->L=(decide (lo=hi)&&Cn.scalar lo)))(bq:Bool->Bool->Bool->Bool->Bool->Bool)(Y:Hid (∀W f1 f2 u f4 f5,Bw w W->Calls prog 113 #[.agg #[.int .i64 J,.int .i64 lo,.int .i64 hi,.int .i64 n,.slice ao f q,.string nm,.string M,.float .f64 wt],.bool f1,.bool f2,.bool u,.bool f4,.bool f5] W (x0c W (bq f1 f2 u f4 f5))))(Z:Bool)(D:Hid (∀W,Bw w W->Calls prog 117 #[.slice ao f q,.int .i64 0,.int .i64 24] W fun e w'=>e=.returned (.bool Z)/\w'=W))(l1:Bool)(B:Hid (∀W,Bw w W->Calls prog 117 #[.slice ao f q,.int .i64 1,.int .i64 24] W fun e w'=>e=.returned (.bool l1)/\w'=W))(E:Hid (J=5->t=ansG (okb&&(L&&bq false true false false false&&Z))))(ab:Hid (J=13->t=ansG (okb&&(L&&bq false true false false false&&l1)))):Calls prog 70 #[.agg #[.int .i64 J,.int .i64 lo,.int .i64 hi,.int .i64 n,.slice ao f q,.string nm,.string M,.float .f64 wt]] w (IntB w t):=by
 obtain⟨G,m⟩:∃G:Bool->Prop,∀H,G H↔(okb=true->H=L):=⟨_,fun _=>Iff.rfl⟩;have k:Hid (0<=lo->lo<=hi->hi<=1114111->true=okb):=fun o z s=>n2Y;have v:Hid (¬(0<=lo/\lo<=hi/\hi<=1114111)->false=okb):=fun c=>U1m
 have R:Hid (lo=hi->G (Cn.scalar (wrap32 (bits BinOp.and IntKind.i64 lo 2097151)))):=fun K=>(m _).2 fun h=>I6P
 have S:Hid (¬lo=hi->G false):=fun K=>(m _).2 fun h=>s0e;have H5:Hid (∀H,G H->okb=true->H=L):=fun H=>(m H).1;clear y Q m;obtain⟨l,P,T,U⟩:=x0L w J lo hi n (.slice ao f q) nm M wt;have C:=O T;obtain⟨x0,x1,x2,x3,x4,x5,x6,x7⟩:=T;have HB:=O U;have ae:I64 J:=G9n;have b:(J==15)=false:=n3U;have KF:=O (x0l J l ae);have af:(Cn.fam J==0)=false:=n3U;replace A:=O A;generalize Cn.fam J=fm at *;have X:Hid (∀c W,Calls prog 116 #[.int .i32 (wrap32 c)] W fun e w'=>e=.returned (.bool (Cn.scalar (wrap32 c)))/\w'=W):=fun c W=>x0z _ W (x0O c);obtain⟨p1,p2⟩:=a;obtain⟨p3,p4⟩:=p;clear U ae;go_enter func70,ntmps70;go_upto_region 7 with(refine(V KF).mono ?_;rintro e l ⟨rfl,rfl⟩);clear KF;go_cut[3] (fun sv wx=>wx=l/\sv=.bool okb)
 case first =>
  clear Y D B E ab X C R S H5;by_cases o:0<=lo
  ·by_cases z:lo<=hi
   ·by_cases s:hi<=1114111
    ·have x:=O (V k o z s);exact r3m
    ·have x:=O (V v fun h=>s h.2.2);exact r3m
   ·have x:=O (V v fun h=>z h.2.1);exact r3m
  ·have x:=O (V v fun h=>o h.1);exact r3m
 case rest =>
  obtain⟨rfl,rfl⟩:=hcut;clear k v;go_upto_region 8 with fail;go_cut[4] (fun sv wx=>wx=wc/\∃H:Bool,sv=.bool H/\G H)
  case first =>
   clear Y D B E ab C H5;by_cases K:lo=hi
   ·have j:=O (V R K);subst K;have i:=O (V X (bits BinOp.and IntKind.i64 lo 2097151));generalize Cn.scalar (wrap32 (bits BinOp.and IntKind.i64 lo 2097151))=sb at *;clear R S X;go_wp2_with fail;refine(V i _).mono ?_;rintro e w1 ⟨rfl,rfl⟩;clear i;go_wp2
    go_meet
    case rel=>exact⟨f6c,sb,rfl,V j⟩
   ·have j:=O (V S K);clear R S X;go_wp2
    go_meet
    case rel=>exact E5z
  case rest =>
   obtain⟨rfl,H,rfl,r⟩:=hcut;have N:=O (V H5 H r);clear R S H5 r X b af;rcases V A with rfl | rfl
   ·have g:=V E rfl;subst g;have I:=O (fun W h=>V Y W false true false false false h);generalize bq false true false false false=b1 at *;clear Y A E ab B
    cases okb with
    | false =>
     clear I D N C;exact m2q
    | true =>
     obtain rfl:=V N rfl;clear N
     cases H with
     | false =>
      clear I D C;exact m2q
     | true =>
      go_wp2_with fail;refine c1m (V I _ (V HB)) fun w2 F=>?_;obtain⟨y0,y1,y2,y3,y4,y5,y6,y7⟩:=(V C).keep F;have d:=O (x0b (V HB) F);clear I C HB F x0 x1 x2 x3 x4 x5 x6 x7
      cases b1 with
      | false =>
       clear D;exact p1o
      | true =>
       go_wp2_with fail;refine(V D _ (V d)).mono ?_;rintro e w3 ⟨rfl,rfl⟩;clear D
       cases Z with
       | false =>exact p1o
       | true =>exact p1o
   ·have g:=V ab rfl;subst g;have I:=O (fun W h=>V Y W false true false false false h);generalize bq false true false false false=b1 at *;clear Y A E ab D
    cases okb with
    | false =>
     clear I B N C;exact m2q
    | true =>
     obtain rfl:=V N rfl;clear N
     cases H with
     | false =>
      clear I B C;exact m2q
     | true =>exact m8G
