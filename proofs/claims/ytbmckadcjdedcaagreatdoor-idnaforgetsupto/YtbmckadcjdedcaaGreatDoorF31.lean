import Derived.Test.YtbmckadcjdedcaaGreatDoorF18
import Derived.Deep.DeepCutAuto
import Derived.Laws.BitsLemmas
set_option maxHeartbeats 8000000
set_option maxRecDepth 8000
namespace Go.Proofs.YtbmckadcjdedcaaGreatDoor
open Go.Proofs.Tryz
open Go.RowKit
section
variable{p:Prop}
theorem G9F(h:p:=by
 clear N R;go_wp2
 go_meet
 case rel=>exact S5A):p:=h
theorem n1O(h:p:=by
 by_cases J:lo=hi
 ·have r:=O (V H3 J);subst J;have H:=O (V s (bits BinOp.and IntKind.i64 lo 2097151));generalize Cn.scalar (wrap32 (bits BinOp.and IntKind.i64 lo 2097151))=sb at *;clear H3 S s;go_wp2_with fail;refine(V H _).mono ?_;rintro e w1 ⟨rfl,rfl⟩;clear H;go_wp2
  go_meet
  case rel=>exact⟨f5X,sb,rfl,V r⟩
 ·have r:=O (V S J);clear H3 S s;go_wp2
  go_meet
  case rel=>exact⟨f5X,false,rfl,V r⟩):p:=h
end
theorem rwg_g kd lo hi n(C:kd=10) ao tl tc nm ot wt w(m:I64 lo)(E:I64 hi)(hn:I64 n) okb oneb res(X:Hid (okb=decide (0<=lo/\lo<=hi/\hi<=1114111)))(Q:Hid (okb=true->oneb=(decide (lo=hi)&&Cn.scalar lo)))(l:Bool->Bool->Bool->Bool->Bool->Bool)(v:Hid (∀W y z f3 f4 p,Bw w W->Calls prog 113 #[.agg #[.int .i64 kd,.int .i64 lo,.int .i64 hi,.int .i64 n,.slice ao tl tc,.string nm,.string ot,.float .f64 wt],.bool y,.bool z,.bool f3,.bool f4,.bool p] W (x0c W (l y z f3 f4 p)))) rq10(A:Hid (rq10=true->0<=n/\n<=5))(D:Hid (rq10=false->n<0\/5<n))(F:Hid (kd=10->res=ansG (okb&&(l true false false false false&&rq10)))):Calls prog 70 #[.agg #[.int .i64 kd,.int .i64 lo,.int .i64 hi,.int .i64 n,.slice ao tl tc,.string nm,.string ot,.float .f64 wt]] w (IntB w res):=by
 obtain⟨G,T⟩:∃G:Bool->Prop,∀M,G M↔(okb=true->M=oneb):=⟨_,fun _=>Iff.rfl⟩;have N:Hid (0<=lo->lo<=hi->hi<=1114111->true=okb):=fun j K q=>U0g;have R:Hid (¬(0<=lo/\lo<=hi/\hi<=1114111)->false=okb):=fun c=>W3x
 have H3:Hid (lo=hi->G (Cn.scalar (wrap32 (bits BinOp.and IntKind.i64 lo 2097151)))):=fun J=>(T _).2 fun h=>F5r
 have S:Hid (¬lo=hi->G false):=fun J=>(T _).2 fun h=>W6G;have Z:Hid (∀M,G M->okb=true->M=oneb):=fun M=>(T M).1;clear X Q T;obtain⟨U,k,af,ae⟩:=x0L w kd lo hi n (.slice ao tl tc) nm ot wt;have Y:=O af;obtain⟨x,u,x2,x3,g,x5,x6,x7⟩:=af;have B:=O ae;have d:I64 kd:=u9x;have b:(kd==15)=false:=v4X;have o:=O (x0l kd U d);have t:(Cn.fam kd==0)=false:=v4X;replace C:=O C;generalize Cn.fam kd=fm at *;have s:Hid (∀c W,Calls prog 116 #[.int .i32 (wrap32 c)] W fun e w'=>e=.returned (.bool (Cn.scalar (wrap32 c)))/\w'=W):=fun c W=>x0A _ W (x0P c);obtain⟨p1,p2⟩:=m;obtain⟨p3,p4⟩:=E;clear ae d;go_enter func70,ntmps70;go_upto_region 7 with(refine(V o).mono ?_;rintro e U ⟨rfl,rfl⟩);clear o;go_cut[3] (fun sv wx=>wx=U/\sv=.bool okb)
 case first =>
  clear v A D F s Y H3 S Z;by_cases j:0<=lo
  ·by_cases K:lo<=hi
   ·by_cases q:hi<=1114111
    ·have L:=O (V N j K q);exact G9F
    ·have L:=O (V R fun h=>q h.2.2);exact G9F
   ·have L:=O (V R fun h=>K h.2.1);exact G9F
  ·have L:=O (V R fun h=>j h.1);exact G9F
 case rest =>
  obtain⟨rfl,rfl⟩:=hcut;clear N R;go_upto_region 8 with fail;go_cut[4] (fun sv wx=>wx=wc/\∃M:Bool,sv=.bool M/\G M)
  case first =>
   clear v A D F Y Z;exact n1O
  case rest =>
   obtain⟨rfl,M,rfl,f⟩:=hcut;have P:=O (V Z M f);clear H3 S Z f s b t;rcases V C with rfl
   ·have a:=V F rfl;subst a;have I:=O (fun W h=>V v W true false false false false h);generalize l true false false false false=b1 at *;clear v C F
    cases okb with
    | false =>
     clear I A D P Y;exact r0r
    | true =>
     obtain rfl:=V P rfl;clear P;go_wp2_with fail;refine c1m (V I _ (V B)) fun w2 ab=>?_;obtain⟨y0,y1,y2,y3,y4,y5,y6,y7⟩:=(V Y).keep ab;have i:=O (x0b (V B) ab);clear I Y B ab x u x2 x3 g x5 x6 x7
     cases b1 with
     | false =>
      clear A D;exact V4J
     | true =>
      obtain⟨n1,n2⟩:=hn
      cases rq10 with
      | true =>
       obtain⟨j,K⟩:=V A rfl;clear A D;exact V4J
      | false =>
       have c0:=V D rfl;clear A D;rcases c0 with c0|c0
       ·have d1:decide (0<=n)=false:=d0f f6J;exact V4J
       ·have j:0<=n:=f6J;have d2:decide (n<=5)=false:=d0f f6J;exact V4J
theorem z9z kd lo hi n(C:kd=12\/kd=14) ao tl tc nm ot wt w(m:I64 lo)(E:I64 hi) okb oneb res(X:Hid (okb=decide (0<=lo/\lo<=hi/\hi<=1114111)))(Q:Hid (okb=true->oneb=(decide (lo=hi)&&Cn.scalar lo)))(l:Bool->Bool->Bool->Bool->Bool->Bool)(v:Hid (∀W y z f3 f4 p,Bw w W->Calls prog 113 #[.agg #[.int .i64 kd,.int .i64 lo,.int .i64 hi,.int .i64 n,.slice ao tl tc,.string nm,.string ot,.float .f64 wt],.bool y,.bool z,.bool f3,.bool f4,.bool p] W (x0c W (l y z f3 f4 p)))) nb(KN:Hid (∀W,Calls prog 114 #[.string nm] W fun e w'=>e=.returned (.bool nb)/\w'=W)) wb(q:Hid (∀W,Calls prog 115 #[.float .f64 wt] W fun e w'=>e=.returned (.bool wb)/\w'=W))(A:Hid (kd=12->res=ansG (okb&&(l false false true false false&&nb))))(D:Hid (kd=14->res=ansG (okb&&(l false false false false true&&wb)))):Calls prog 70 #[.agg #[.int .i64 kd,.int .i64 lo,.int .i64 hi,.int .i64 n,.slice ao tl tc,.string nm,.string ot,.float .f64 wt]] w (IntB w res):=by
 obtain⟨G,T⟩:∃G:Bool->Prop,∀M,G M↔(okb=true->M=oneb):=⟨_,fun _=>Iff.rfl⟩;have N:Hid (0<=lo->lo<=hi->hi<=1114111->true=okb):=fun j K c3=>(by rw[V X,d0t ⟨j,K,c3⟩]);have R:Hid (¬(0<=lo/\lo<=hi/\hi<=1114111)->false=okb):=fun c=>W3x
 have H3:Hid (lo=hi->G (Cn.scalar (wrap32 (bits BinOp.and IntKind.i64 lo 2097151)))):=fun J=>(T _).2 fun h=>F5r
 have S:Hid (¬lo=hi->G false):=fun J=>(T _).2 fun h=>W6H;have Z:Hid (∀M,G M->okb=true->M=oneb):=fun M=>(T M).1;clear X Q T;obtain⟨U,k,ae,ab⟩:=x0L w kd lo hi n (.slice ao tl tc) nm ot wt;have Y:=O ae;obtain⟨x,u,x2,x3,g,x5,x6,x7⟩:=ae;have B:=O ab;have d:I64 kd:=w6Y;have b:(kd==15)=false:=u2A;have o:=O (x0l kd U d);have t:(Cn.fam kd==0)=false:=u2A;replace C:=O C;generalize Cn.fam kd=fm at *;have s:Hid (∀c W,Calls prog 116 #[.int .i32 (wrap32 c)] W fun e w'=>e=.returned (.bool (Cn.scalar (wrap32 c)))/\w'=W):=fun c W=>x0A _ W (x0P c);obtain⟨p1,p2⟩:=m;obtain⟨p3,p4⟩:=E;clear ab d;go_enter func70,ntmps70;go_upto_region 7 with(refine(V o).mono ?_;rintro e U ⟨rfl,rfl⟩);clear o;go_cut[3] (fun sv wx=>wx=U/\sv=.bool okb)
 case first =>
  clear v KN q A D s Y H3 S Z;by_cases j:0<=lo
  ·by_cases K:lo<=hi
   ·by_cases c3:hi<=1114111
    ·have L:=O (V N j K c3);exact G9F
    ·have L:=O (V R fun h=>c3 h.2.2);exact G9F
   ·have L:=O (V R fun h=>K h.2.1);exact G9F
  ·have L:=O (V R fun h=>j h.1);exact G9F
 case rest =>
  obtain⟨rfl,rfl⟩:=hcut;clear N R;go_upto_region 8 with fail;go_cut[4] (fun sv wx=>wx=wc/\∃M:Bool,sv=.bool M/\G M)
  case first =>
   clear v KN q A D Y Z;exact n1O
  case rest =>
   obtain⟨rfl,M,rfl,f⟩:=hcut;have P:=O (V Z M f);clear H3 S Z f s b t;rcases V C with rfl|rfl
   ·have a:=V A rfl;subst a;have I:=O (fun W h=>V v W false false true false false h);generalize l false false true false false=b1 at *;clear v C A D q
    cases okb with
    | false =>
     clear I KN P Y;exact r0r
    | true =>
     obtain rfl:=V P rfl;clear P;go_wp2_with fail;refine c1m (V I _ (V B)) fun w2 F=>?_;obtain⟨y0,y1,y2,y3,y4,y5,y6,y7⟩:=(V Y).keep F;have i:=O (x0b (V B) F);clear I Y B F x u x2 x3 g x5 x6 x7
     cases b1 with
     | false =>
      clear KN;exact V4J
     | true =>
      go_wp2_with fail;refine(V KN _).mono ?_;rintro e w3 ⟨rfl,rfl⟩;clear KN
      cases nb with
      | false =>exact V4J
      | true =>exact V4J
   ·have a:=V D rfl;subst a;have I:=O (fun W h=>V v W false false false false true h);generalize l false false false false true=b1 at *;clear v C A D KN
    cases okb with
    | false =>
     clear I q P Y;exact r0r
    | true =>
     obtain rfl:=V P rfl;clear P;go_wp2_with fail;refine c1m (V I _ (V B)) fun w2 F=>?_;obtain⟨y0,y1,y2,y3,y4,y5,y6,y7⟩:=(V Y).keep F;have i:=O (x0b (V B) F);clear I Y B F x u x2 x3 g x5 x6 x7
     cases b1 with
     | false =>
      clear q;exact V4J
     | true =>
      go_wp2_with fail;refine(V q _).mono ?_;rintro e w3 ⟨rfl,rfl⟩;clear q
      cases wb with
      | false =>exact V4J
      | true =>exact V4J
