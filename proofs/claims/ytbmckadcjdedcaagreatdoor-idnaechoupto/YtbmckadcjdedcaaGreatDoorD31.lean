/- Rwd7 -/
import Derived.Test.YtbmckadcjdedcaaGreatDoorD18
import Derived.Deep.DeepCutAuto
import Derived.Laws.BitsLemmas
set_option maxHeartbeats 8000000
set_option maxRecDepth 8000
namespace Go.Proofs.YtbmckadcjdedcaaGreatDoor
open Go.Proofs.Tryz
open Go.RowKit
section
variable{p:Prop}
theorem s4F(h:p:=by
 by_cases o:0<=lo
 ·by_cases z:lo<=hi
  ·by_cases s:hi<=1114111
   ·have x:=O (V k o z s);exact F3W
   ·have x:=O (V v fun h=>s h.2.2);exact F3W
  ·have x:=O (V v fun h=>z h.2.1);exact F3W
 ·have x:=O (V v fun h=>o h.1);exact F3W):p:=h
theorem E5J(h:p:=by
 by_cases K:lo=hi
 ·have j:=O (V R K);subst K;have i:=O (V X (bits BinOp.and IntKind.i64 lo 2097151));generalize Cn.scalar (wrap32 (bits BinOp.and IntKind.i64 lo 2097151))=sb at *;clear R S X;go_wp2_with fail;refine(V i _).mono ?_;rintro e w1 ⟨rfl,rfl⟩;clear i;go_wp2
  go_meet
  case rel=>exact⟨f5Y,sb,rfl,V j⟩
 ·have j:=O (V S K);clear R S X;go_wp2
  go_meet
  case rel=>exact⟨f5Y,false,rfl,V j⟩):p:=h
theorem F3W(h:p:=by
 clear k v;go_wp2
 go_meet
 case rel=>exact m8a):p:=h
theorem f5Y(h:p:=by first| rfl | trivial):p:=h
theorem p1p(h:p:=by go_wp2;go_ret;exact⟨rfl,V d⟩):p:=h
theorem p1q(h:p:=by go_wp2;go_ret;exact⟨rfl,V d⟩):p:=h
end
theorem rwg_g(kd lo hi n:Int)(A:kd=10)(ao:Option Addr)(f q:Nat)(Z M:ByteArray)(wt:Nat)(w:World)(a:I64 lo)(p:I64 hi)(hn:I64 n)(okb L:Bool)(t:Int)(y:Hid (okb=decide (0<=lo/\lo<=hi/\hi<=1114111)))(Q:Hid (okb=true->L=(decide (lo=hi)&&Cn.scalar lo)))(E:Bool->Bool->Bool->Bool->Bool->Bool)(Y:Hid (∀W f1 f2 u f4 f5,Bw w W->Calls prog 113 #[.agg #[.int .i64 kd,.int .i64 lo,.int .i64 hi,.int .i64 n,.slice ao f q,.string Z,.string M,.float .f64 wt],.bool f1,.bool f2,.bool u,.bool f4,.bool f5] W (x0c W (E f1 f2 u f4 f5))))(J:Bool)(B:Hid (J=true->0<=n/\n<=5))(C:Hid (J=false->n<0\/5<n))(F:Hid (kd=10->t=ansG (okb&&(E true false false false false&&J)))):Calls prog 70 #[.agg #[.int .i64 kd,.int .i64 lo,.int .i64 hi,.int .i64 n,.slice ao f q,.string Z,.string M,.float .f64 wt]] w (IntB w t):=by
 obtain⟨G,m⟩:∃G:Bool->Prop,∀H,G H↔(okb=true->H=L):=⟨_,fun _=>Iff.rfl⟩;have k:Hid (0<=lo->lo<=hi->hi<=1114111->true=okb):=fun o z s=>n2X;have v:Hid (¬(0<=lo/\lo<=hi/\hi<=1114111)->false=okb):=fun c=>U1m
 have R:Hid (lo=hi->G (Cn.scalar (wrap32 (bits BinOp.and IntKind.i64 lo 2097151)))):=fun K=>(m _).2 fun h=>I6P
 have S:Hid (¬lo=hi->G false):=fun K=>(m _).2 fun h=>s0d;have H5:Hid (∀H,G H->okb=true->H=L):=fun H=>(m H).1;clear y Q m;obtain⟨l,P,T,U⟩:=x0L w kd lo hi n (.slice ao f q) Z M wt;have ab:=O T;obtain⟨x0,x1,x2,x3,x4,x5,x6,x7⟩:=T;have HB:=O U;have af:I64 kd:=i7Y;have b:(kd==15)=false:=M0Y;have D:=O (x0l kd l af);have ag:(Cn.fam kd==0)=false:=M0Y;replace A:=O A;generalize Cn.fam kd=fm at *;have X:Hid (∀c W,Calls prog 116 #[.int .i32 (wrap32 c)] W fun e w'=>e=.returned (.bool (Cn.scalar (wrap32 c)))/\w'=W):=fun c W=>x0z _ W (x0O c);obtain⟨p1,p2⟩:=a;obtain⟨p3,p4⟩:=p;clear U af;go_enter func70,ntmps70;go_upto_region 7 with(refine(V D).mono ?_;rintro e l ⟨rfl,rfl⟩);clear D;go_cut[3] (fun sv wx=>wx=l/\sv=.bool okb)
 case first =>
  clear Y B C F X ab R S H5;exact s4F
 case rest =>
  obtain⟨rfl,rfl⟩:=hcut;clear k v;go_upto_region 8 with fail;go_cut[4] (fun sv wx=>wx=wc/\∃H:Bool,sv=.bool H/\G H)
  case first =>
   clear Y B C F ab H5;exact E5J
  case rest =>
   obtain⟨rfl,H,rfl,r⟩:=hcut;have N:=O (V H5 H r);clear R S H5 r X b ag;rcases V A with rfl
   ·have g:=V F rfl;subst g;have I:=O (fun W h=>V Y W true false false false false h);generalize E true false false false false=b1 at *;clear Y A F
    cases okb with
    | false =>
     clear I B C N ab;exact m2q
    | true =>
     obtain rfl:=V N rfl;clear N;go_wp2_with fail;refine c1m (V I _ (V HB)) fun w2 ae=>?_;obtain⟨y0,y1,y2,y3,y4,y5,y6,y7⟩:=(V ab).keep ae;have d:=O (x0b (V HB) ae);clear I ab HB ae x0 x1 x2 x3 x4 x5 x6 x7
     cases b1 with
     | false =>
      clear B C;exact p1p
     | true =>
      obtain⟨n1,n2⟩:=hn
      cases J with
      | true =>
       obtain⟨o,z⟩:=V B rfl;clear B C;exact p1p
      | false =>
       have c0:=V C rfl;clear B C;rcases c0 with c0 | c0
       ·have d1:decide (0<=n)=false:=d0f f6J;exact p1p
       ·have o:0<=n:=f6J;have d2:decide (n<=5)=false:=d0f f6J;exact p1p
theorem z8Q(J lo hi n:Int)(A:J=12\/J=14)(ao:Option Addr)(f q:Nat)(Z M:ByteArray)(wt:Nat)(w:World)(a:I64 lo)(p:I64 hi)(okb L:Bool)(t:Int)(y:Hid (okb=decide (0<=lo/\lo<=hi/\hi<=1114111)))(Q:Hid (okb=true->L=(decide (lo=hi)&&Cn.scalar lo)))(E:Bool->Bool->Bool->Bool->Bool->Bool)(Y:Hid (∀W f1 f2 u f4 f5,Bw w W->Calls prog 113 #[.agg #[.int .i64 J,.int .i64 lo,.int .i64 hi,.int .i64 n,.slice ao f q,.string Z,.string M,.float .f64 wt],.bool f1,.bool f2,.bool u,.bool f4,.bool f5] W (x0c W (E f1 f2 u f4 f5))))(nb:Bool)(KN:Hid (∀W,Calls prog 114 #[.string Z] W fun e w'=>e=.returned (.bool nb)/\w'=W))(wb:Bool)(KW:Hid (∀W,Calls prog 115 #[.float .f64 wt] W fun e w'=>e=.returned (.bool wb)/\w'=W))(B:Hid (J=12->t=ansG (okb&&(E false false true false false&&nb))))(ab:Hid (J=14->t=ansG (okb&&(E false false false false true&&wb)))):Calls prog 70 #[.agg #[.int .i64 J,.int .i64 lo,.int .i64 hi,.int .i64 n,.slice ao f q,.string Z,.string M,.float .f64 wt]] w (IntB w t):=by
 obtain⟨G,m⟩:∃G:Bool->Prop,∀H,G H↔(okb=true->H=L):=⟨_,fun _=>Iff.rfl⟩;have k:Hid (0<=lo->lo<=hi->hi<=1114111->true=okb):=fun o z s=>n2X;have v:Hid (¬(0<=lo/\lo<=hi/\hi<=1114111)->false=okb):=fun c=>U1m
 have R:Hid (lo=hi->G (Cn.scalar (wrap32 (bits BinOp.and IntKind.i64 lo 2097151)))):=fun K=>(m _).2 fun h=>I6P
 have S:Hid (¬lo=hi->G false):=fun K=>(m _).2 fun h=>s0e;have H5:Hid (∀H,G H->okb=true->H=L):=fun H=>(m H).1;clear y Q m;obtain⟨l,P,T,U⟩:=x0L w J lo hi n (.slice ao f q) Z M wt;have C:=O T;obtain⟨x0,x1,x2,x3,x4,x5,x6,x7⟩:=T;have HB:=O U;have ae:I64 J:=G9c;have b:(J==15)=false:=n3U;have D:=O (x0l J l ae);have af:(Cn.fam J==0)=false:=n3U;replace A:=O A;generalize Cn.fam J=fm at *;have X:Hid (∀c W,Calls prog 116 #[.int .i32 (wrap32 c)] W fun e w'=>e=.returned (.bool (Cn.scalar (wrap32 c)))/\w'=W):=fun c W=>x0z _ W (x0O c);obtain⟨p1,p2⟩:=a;obtain⟨p3,p4⟩:=p;clear U ae;go_enter func70,ntmps70;go_upto_region 7 with(refine(V D).mono ?_;rintro e l ⟨rfl,rfl⟩);clear D;go_cut[3] (fun sv wx=>wx=l/\sv=.bool okb)
 case first =>
  clear Y KN KW B ab X C R S H5;exact s4F
 case rest =>
  obtain⟨rfl,rfl⟩:=hcut;clear k v;go_upto_region 8 with fail;go_cut[4] (fun sv wx=>wx=wc/\∃H:Bool,sv=.bool H/\G H)
  case first =>
   clear Y KN KW B ab C H5;exact E5J
  case rest =>
   obtain⟨rfl,H,rfl,r⟩:=hcut;have N:=O (V H5 H r);clear R S H5 r X b af;rcases V A with rfl | rfl
   ·have g:=V B rfl;subst g;have I:=O (fun W h=>V Y W false false true false false h);generalize E false false true false false=b1 at *;clear Y A B ab KW
    cases okb with
    | false =>
     clear I KN N C;exact m2q
    | true =>
     obtain rfl:=V N rfl;clear N;go_wp2_with fail;refine c1m (V I _ (V HB)) fun w2 F=>?_;obtain⟨y0,y1,y2,y3,y4,y5,y6,y7⟩:=(V C).keep F;have d:=O (x0b (V HB) F);clear I C HB F x0 x1 x2 x3 x4 x5 x6 x7
     cases b1 with
     | false =>
      clear KN;exact p1q
     | true =>
      go_wp2_with fail;refine(V KN _).mono ?_;rintro e w3 ⟨rfl,rfl⟩;clear KN
      cases nb with
      | false =>exact p1q
      | true =>exact p1q
   ·have g:=V ab rfl;subst g;have I:=O (fun W h=>V Y W false false false false true h);generalize E false false false false true=b1 at *;clear Y A B ab KN
    cases okb with
    | false =>
     clear I KW N C;exact m2q
    | true =>
     obtain rfl:=V N rfl;clear N;go_wp2_with fail;refine c1m (V I _ (V HB)) fun w2 F=>?_;obtain⟨y0,y1,y2,y3,y4,y5,y6,y7⟩:=(V C).keep F;have d:=O (x0b (V HB) F);clear I C HB F x0 x1 x2 x3 x4 x5 x6 x7
     cases b1 with
     | false =>
      clear KW;exact p1q
     | true =>
      go_wp2_with fail;refine(V KW _).mono ?_;rintro e w3 ⟨rfl,rfl⟩;clear KW
      cases wb with
      | false =>exact p1q
      | true =>exact p1q
