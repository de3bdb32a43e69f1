/- Rwa7 -/
import Derived.Test.YtbmckadcjdedcaaGreatDoorD18
import Derived.Deep.DeepCutAuto
import Derived.Laws.BitsLemmas
set_option maxHeartbeats 8000000
set_option maxRecDepth 8000
namespace Go.Proofs.YtbmckadcjdedcaaGreatDoor
open Go.Proofs.Tryz
open Go.RowKit
section
variable{p:Prop}
theorem U2E(h:p:=by
 by_cases z:lo<=hi
 ·by_cases s:hi<=1114111
  ·have x:=O (V k o z s);clear k v;exact G4I
  ·have x:=O (V v fun h=>s h.2.2);clear k v;exact G4I
 ·have x:=O (V v fun h=>z h.2.1);clear k v;exact G4I):p:=h
theorem G4I(h:p:=by
 go_wp2
 go_meet
 case rel=>exact m8a):p:=h
theorem r7s(h:p:=by
 have j:=O (V S K);clear R S X;go_wp2
 go_meet
 case rel=>exact E5z):p:=h
theorem t1i(h:p:=by
 subst g;have I:=O (fun W h=>V Y W false false false false false h);generalize E false false false false false=b1 at *;clear Y A i ab
 cases okb with
 | false =>
  clear I N C;go_wp2;go_ret;exact⟨rfl,V B⟩
 | true =>
  obtain rfl:=V N rfl;clear N;go_wp2_with fail;refine c1m (V I _ (V B)) fun w2 F=>?_;obtain⟨y0,y1,y2,y3,y4,y5,y6,y7⟩:=(V C).keep F;have d:=O (x0b (V B) F);clear I C B F x0 x1 x2 x3 x4 x5 x6 x7
  exact E3i):p:=h
theorem t0b(h:p:=by
 go_wp2
 go_meet
 case rel=>exact⟨by first| rfl | trivial,sb,rfl,V j⟩):p:=h
theorem m3Y(h:p:=by
 by_cases o:0<=lo
 ·exact U2E
 ·have x:=O (V v fun h=>o h.1);clear k v;go_wp2
  go_meet
  case rel=>exact⟨V5R,congrArg Value.bool (V x)⟩):p:=h
theorem I6Q(h:p:=by have h1:=o0d ((V y).symm.trans h);rw[V Q h,x1e h1.1 f6J,d0t K,Bool.true_and]):p:=h
theorem E3i(h:p:=by
 cases b1 with
 | false =>exact p1o
 | true =>exact p1o):p:=h
end
theorem z8L(J lo hi n:Int)(A:J=1\/J=2)(ao:Option Addr)(f q:Nat)(Z M:ByteArray)(wt:Nat)(w:World)(a:I64 lo)(p:I64 hi)(okb L:Bool)(t:Int)(y:Hid (okb=decide (0<=lo/\lo<=hi/\hi<=1114111)))(Q:Hid (okb=true->L=(decide (lo=hi)&&Cn.scalar lo)))(E:Bool->Bool->Bool->Bool->Bool->Bool)(Y:Hid (∀W f1 f2 u f4 f5,Bw w W->Calls prog 113 #[.agg #[.int .i64 J,.int .i64 lo,.int .i64 hi,.int .i64 n,.slice ao f q,.string Z,.string M,.float .f64 wt],.bool f1,.bool f2,.bool u,.bool f4,.bool f5] W (x0c W (E f1 f2 u f4 f5))))(i:Hid (J=1->t=ansG (okb&&(E false false false false false))))(ab:Hid (J=2->t=ansG (okb&&(E false false false false false)))):Calls prog 70 #[.agg #[.int .i64 J,.int .i64 lo,.int .i64 hi,.int .i64 n,.slice ao f q,.string Z,.string M,.float .f64 wt]] w (IntB w t):=by
 obtain⟨G,m⟩:∃G:Bool->Prop,∀H,G H↔(okb=true->H=L):=⟨_,fun _=>Iff.rfl⟩;have k:Hid (0<=lo->lo<=hi->hi<=1114111->true=okb):=fun o z s=>n2Y;have v:Hid (¬(0<=lo/\lo<=hi/\hi<=1114111)->false=okb):=fun c=>by rw[V y,d0f c]
 have R:Hid (lo=hi->G (Cn.scalar (wrap32 (bits BinOp.and IntKind.i64 lo 2097151)))):=fun K=>(m _).2 fun h=>I6Q
 have S:Hid (¬lo=hi->G false):=fun K=>(m _).2 fun h=>s0e;have H5:Hid (∀H,G H->okb=true->H=L):=fun H=>(m H).1;clear y Q m;obtain⟨l,P,T,U⟩:=x0L w J lo hi n (.slice ao f q) Z M wt;have C:=O T;obtain⟨x0,x1,x2,x3,x4,x5,x6,x7⟩:=T;have B:=O U;have ae:I64 J:=G9c;have b:(J==15)=false:=n3U;have D:=O (x0l J l ae);have af:(Cn.fam J==0)=false:=n3U;replace A:=O A;generalize Cn.fam J=fm at *;have X:Hid (∀c W,Calls prog 116 #[.int .i32 (wrap32 c)] W fun e w'=>e=.returned (.bool (Cn.scalar (wrap32 c)))/\w'=W):=fun c W=>x0z _ W (x0O c);obtain⟨p1,p2⟩:=a;obtain⟨p3,p4⟩:=p;clear U ae;go_enter func70,ntmps70;go_upto_region 7 with(refine(V D).mono ?_;rintro e l ⟨rfl,rfl⟩);clear D;go_cut[3] (fun sv wx=>wx=l/\sv=.bool okb)
 case first =>
  clear Y i ab X C R S H5;exact m3Y
 case rest =>
  obtain⟨rfl,rfl⟩:=hcut;clear k v;go_upto_region 8 with fail;go_cut[4] (fun sv wx=>wx=wc/\∃H:Bool,sv=.bool H/\G H)
  case first =>
   clear Y i ab C H5;by_cases K:lo=hi
   ·have j:=O (V R K);subst K;have K1:=O (V X (bits BinOp.and IntKind.i64 lo 2097151));generalize Cn.scalar (wrap32 (bits BinOp.and IntKind.i64 lo 2097151))=sb at *;clear R S X;go_wp2_with fail;refine(V K1 _).mono ?_;rintro e w1 ⟨rfl,rfl⟩;clear K1;exact t0b
   ·exact r7s
  case rest =>
   obtain⟨rfl,H,rfl,r⟩:=hcut;have N:=O (V H5 H r);clear R S H5 r X b af;rcases V A with rfl | rfl
   ·have g:=V i rfl;exact t1i
   ·have g:=V ab rfl;exact t1i
theorem z8M(J lo hi n:Int)(A:J=11\/J=3)(ao:Option Addr)(f q:Nat)(Z ot:ByteArray)(wt:Nat)(w:World)(a:I64 lo)(p:I64 hi)(okb L:Bool)(t:Int)(y:Hid (okb=decide (0<=lo/\lo<=hi/\hi<=1114111)))(Q:Hid (okb=true->L=(decide (lo=hi)&&Cn.scalar lo)))(E:Bool->Bool->Bool->Bool->Bool->Bool)(Y:Hid (∀W f1 f2 u f4 f5,Bw w W->Calls prog 113 #[.agg #[.int .i64 J,.int .i64 lo,.int .i64 hi,.int .i64 n,.slice ao f q,.string Z,.string ot,.float .f64 wt],.bool f1,.bool f2,.bool u,.bool f4,.bool f5] W (x0c W (E f1 f2 u f4 f5))))(l1:Bool)(B:Hid (∀W,Bw w W->Calls prog 117 #[.slice ao f q,.int .i64 1,.int .i64 24] W fun e w'=>e=.returned (.bool l1)/\w'=W))(ab:Hid (J=11->t=ansG (okb&&(E false false false false false))))(M:Hid (J=3->t=ansG (okb&&(E false true false false false&&l1)))):Calls prog 70 #[.agg #[.int .i64 J,.int .i64 lo,.int .i64 hi,.int .i64 n,.slice ao f q,.string Z,.string ot,.float .f64 wt]] w (IntB w t):=by
 obtain⟨G,m⟩:∃G:Bool->Prop,∀H,G H↔(okb=true->H=L):=⟨_,fun _=>Iff.rfl⟩;have k:Hid (0<=lo->lo<=hi->hi<=1114111->true=okb):=fun o z s=>n2Y;have v:Hid (¬(0<=lo/\lo<=hi/\hi<=1114111)->false=okb):=fun c=>by rw[V y,d0f c]
 have R:Hid (lo=hi->G (Cn.scalar (wrap32 (bits BinOp.and IntKind.i64 lo 2097151)))):=fun K=>(m _).2 fun h=>I6Q
 have S:Hid (¬lo=hi->G false):=fun K=>(m _).2 fun h=>s0e;have H5:Hid (∀H,G H->okb=true->H=L):=fun H=>(m H).1;clear y Q m;obtain⟨l,P,T,U⟩:=x0L w J lo hi n (.slice ao f q) Z ot wt;have C:=O T;obtain⟨x0,x1,x2,x3,x4,x5,x6,x7⟩:=T;have HB:=O U;have ae:I64 J:=G9n;have b:(J==15)=false:=n3U;have D:=O (x0l J l ae);have af:(Cn.fam J==0)=false:=n3U;replace A:=O A;generalize Cn.fam J=fm at *;have X:Hid (∀c W,Calls prog 116 #[.int .i32 (wrap32 c)] W fun e w'=>e=.returned (.bool (Cn.scalar (wrap32 c)))/\w'=W):=fun c W=>x0z _ W (x0O c);obtain⟨p1,p2⟩:=a;obtain⟨p3,p4⟩:=p;clear U ae;go_enter func70,ntmps70;go_upto_region 7 with(refine(V D).mono ?_;rintro e l ⟨rfl,rfl⟩);clear D;go_cut[3] (fun sv wx=>wx=l/\sv=.bool okb)
 case first =>
  clear Y B ab M X C R S H5;exact m3Y
 case rest =>
  obtain⟨rfl,rfl⟩:=hcut;clear k v;go_upto_region 8 with fail;go_cut[4] (fun sv wx=>wx=wc/\∃H:Bool,sv=.bool H/\G H)
  case first =>
   clear Y B ab M C H5;by_cases K:lo=hi
   ·have j:=O (V R K);subst K;have i:=O (V X (bits BinOp.and IntKind.i64 lo 2097151));generalize Cn.scalar (wrap32 (bits BinOp.and IntKind.i64 lo 2097151))=sb at *;clear R S X;go_wp2_with fail;refine(V i _).mono ?_;rintro e w1 ⟨rfl,rfl⟩;clear i;exact t0b
   ·exact r7s
  case rest =>
   obtain⟨rfl,H,rfl,r⟩:=hcut;have N:=O (V H5 H r);clear R S H5 r X b af;rcases V A with rfl | rfl
   ·have g:=V ab rfl;subst g;have I:=O (fun W h=>V Y W false false false false false h);generalize E false false false false false=b1 at *;clear Y A ab M B
    cases okb with
    | false =>
     clear I N C;exact m2q
    | true =>
     obtain rfl:=V N rfl;clear N;go_wp2_with fail;refine c1m (V I _ (V HB)) fun w2 F=>?_;obtain⟨y0,y1,y2,y3,y4,y5,y6,y7⟩:=(V C).keep F;have d:=O (x0b (V HB) F);clear I C HB F x0 x1 x2 x3 x4 x5 x6 x7
     exact E3i
   ·have g:=V M rfl;subst g;have I:=O (fun W h=>V Y W false true false false false h);generalize E false true false false false=b1 at *;clear Y A ab M
    cases okb with
    | false =>
     clear I B N C;exact m2q
    | true =>
     obtain rfl:=V N rfl;clear N;exact m8G
