import Derived.Test.YtbmckadcjdedcaaGreatDoorF18
import Derived.Deep.DeepCutAuto
import Derived.Laws.BitsLemmas
set_option maxHeartbeats 8000000
set_option maxRecDepth 8000
namespace Go.Proofs.YtbmckadcjdedcaaGreatDoor
open Go.Proofs.Tryz
open Go.RowKit
section
variable{p:Prop}
theorem w4f(h:p:=by
 go_wp2
 go_meet
 case rel=>exact S5A):p:=h
theorem I9e(h:p:=by
 have r:=O (V H3 J);subst J;have H:=O (V s (bits BinOp.and IntKind.i64 lo 2097151));generalize Cn.scalar (wrap32 (bits BinOp.and IntKind.i64 lo 2097151))=sb at *;clear H3 S s;go_wp2_with fail;refine(V H _).mono ?_;rintro e w1 ⟨rfl,rfl⟩;clear H;go_wp2
 go_meet
 case rel=>exact⟨f5X,sb,rfl,V r⟩):p:=h
theorem v0F(h:p:=by
 subst a;have I:=O (fun W h=>V v W false false false false false h);generalize l false false false false false=b1 at *;clear v C K u
 cases okb with
 | false =>
  clear I P Y;go_wp2;go_ret;exact⟨rfl,V B⟩
 | true =>
  obtain rfl:=V P rfl;clear P;go_wp2_with fail;refine c1m (V I _ (V B)) fun w2 F=>?_;obtain⟨y0,y1,y2,y3,y4,y5,y6,y7⟩:=(V Y).keep F;have i:=O (x0b (V B) F);clear I Y B F x x1 x2 x3 g x5 x6 x7
  cases b1 with
  | false =>exact V4J
  | true =>exact V4J):p:=h
theorem f6n(h:p:=by
 have r:=O (V S J);clear H3 S s;go_wp2
 go_meet
 case rel=>exact⟨f5Z,false,rfl,V r⟩):p:=h
theorem V4K(h:p:=by go_wp2;go_ret;exact⟨rfl,V i⟩):p:=h
theorem u5g(h:p:=by clear N R;exact w4f):p:=h
end
theorem z9u kd lo hi n(C:kd=1\/kd=2) ao tl tc nm ot wt w(m:I64 lo)(E:I64 hi) okb oneb res(X:Hid (okb=decide (0<=lo/\lo<=hi/\hi<=1114111)))(Q:Hid (okb=true->oneb=(decide (lo=hi)&&Cn.scalar lo)))(l:Bool->Bool->Bool->Bool->Bool->Bool)(v:Hid (∀W y z f3 f4 p,Bw w W->Calls prog 113 #[.agg #[.int .i64 kd,.int .i64 lo,.int .i64 hi,.int .i64 n,.slice ao tl tc,.string nm,.string ot,.float .f64 wt],.bool y,.bool z,.bool f3,.bool f4,.bool p] W (x0c W (l y z f3 f4 p))))(K:Hid (kd=1->res=ansG (okb&&(l false false false false false))))(u:Hid (kd=2->res=ansG (okb&&(l false false false false false)))):Calls prog 70 #[.agg #[.int .i64 kd,.int .i64 lo,.int .i64 hi,.int .i64 n,.slice ao tl tc,.string nm,.string ot,.float .f64 wt]] w (IntB w res):=by
 obtain⟨G,T⟩:∃G:Bool->Prop,∀M,G M↔(okb=true->M=oneb):=⟨_,fun _=>Iff.rfl⟩;have N:Hid (0<=lo->lo<=hi->hi<=1114111->true=okb):=fun j c2 q=>(by rw[V X,d0t ⟨j,c2,q⟩]);have R:Hid (¬(0<=lo/\lo<=hi/\hi<=1114111)->false=okb):=fun c=>W3x
 have H3:Hid (lo=hi->G (Cn.scalar (wrap32 (bits BinOp.and IntKind.i64 lo 2097151)))):=fun J=>(T _).2 fun h=>F5r
 have S:Hid (¬lo=hi->G false):=fun J=>(T _).2 fun h=>W6H;have Z:Hid (∀M,G M->okb=true->M=oneb):=fun M=>(T M).1;clear X Q T;obtain⟨U,k,D,A⟩:=x0L w kd lo hi n (.slice ao tl tc) nm ot wt;have Y:=O D;obtain⟨x,x1,x2,x3,g,x5,x6,x7⟩:=D;have B:=O A;have d:I64 kd:=w6Y;have b:(kd==15)=false:=u2A;have o:=O (x0l kd U d);have t:(Cn.fam kd==0)=false:=u2A;replace C:=O C;generalize Cn.fam kd=fm at *;have s:Hid (∀c W,Calls prog 116 #[.int .i32 (wrap32 c)] W fun e w'=>e=.returned (.bool (Cn.scalar (wrap32 c)))/\w'=W):=fun c W=>x0A _ W (x0P c);obtain⟨p1,p2⟩:=m;obtain⟨p3,p4⟩:=E;clear A d;go_enter func70,ntmps70;go_upto_region 7 with(refine(V o).mono ?_;rintro e U ⟨rfl,rfl⟩);clear o;go_cut[3] (fun sv wx=>wx=U/\sv=.bool okb)
 case first =>
  clear v K u s Y H3 S Z;by_cases j:0<=lo
  ·by_cases c2:lo<=hi
   ·by_cases q:hi<=1114111
    ·have L:=O (V N j c2 q);exact u5g
    ·have L:=O (V R fun h=>q h.2.2);exact u5g
   ·have L:=O (V R fun h=>c2 h.2.1);exact u5g
  ·have L:=O (V R fun h=>j h.1);exact u5g
 case rest =>
  obtain⟨rfl,rfl⟩:=hcut;clear N R;go_upto_region 8 with fail;go_cut[4] (fun sv wx=>wx=wc/\∃M:Bool,sv=.bool M/\G M)
  case first =>
   clear v K u Y Z;by_cases J:lo=hi
   ·exact I9e
   ·exact f6n
  case rest =>
   obtain⟨rfl,M,rfl,f⟩:=hcut;have P:=O (V Z M f);clear H3 S Z f s b t;rcases V C with rfl|rfl
   ·have a:=V K rfl;exact v0F
   ·have a:=V u rfl;exact v0F
theorem z9v kd lo hi n(C:kd=11\/kd=3) ao tl tc nm ot wt w(m:I64 lo)(E:I64 hi) okb oneb res(X:Hid (okb=decide (0<=lo/\lo<=hi/\hi<=1114111)))(Q:Hid (okb=true->oneb=(decide (lo=hi)&&Cn.scalar lo)))(l:Bool->Bool->Bool->Bool->Bool->Bool)(v:Hid (∀W y z f3 f4 p,Bw w W->Calls prog 113 #[.agg #[.int .i64 kd,.int .i64 lo,.int .i64 hi,.int .i64 n,.slice ao tl tc,.string nm,.string ot,.float .f64 wt],.bool y,.bool z,.bool f3,.bool f4,.bool p] W (x0c W (l y z f3 f4 p)))) l1(A:Hid (∀W,Bw w W->Calls prog 117 #[.slice ao tl tc,.int .i64 1,.int .i64 24] W fun e w'=>e=.returned (.bool l1)/\w'=W))(D:Hid (kd=11->res=ansG (okb&&(l false false false false false))))(ab:Hid (kd=3->res=ansG (okb&&(l false true false false false&&l1)))):Calls prog 70 #[.agg #[.int .i64 kd,.int .i64 lo,.int .i64 hi,.int .i64 n,.slice ao tl tc,.string nm,.string ot,.float .f64 wt]] w (IntB w res):=by
 obtain⟨G,T⟩:∃G:Bool->Prop,∀M,G M↔(okb=true->M=oneb):=⟨_,fun _=>Iff.rfl⟩;have N:Hid (0<=lo->lo<=hi->hi<=1114111->true=okb):=fun j K q=>U0g;have R:Hid (¬(0<=lo/\lo<=hi/\hi<=1114111)->false=okb):=fun c=>W3x
 have H3:Hid (lo=hi->G (Cn.scalar (wrap32 (bits BinOp.and IntKind.i64 lo 2097151)))):=fun J=>(T _).2 fun h=>F5r
 have S:Hid (¬lo=hi->G false):=fun J=>(T _).2 fun h=>W6H;have Z:Hid (∀M,G M->okb=true->M=oneb):=fun M=>(T M).1;clear X Q T;obtain⟨U,k,af,ae⟩:=x0L w kd lo hi n (.slice ao tl tc) nm ot wt;have Y:=O af;obtain⟨x,u,x2,x3,g,x5,x6,x7⟩:=af;have B:=O ae;have d:I64 kd:=w6Y;have b:(kd==15)=false:=u2A;have o:=O (x0l kd U d);have t:(Cn.fam kd==0)=false:=u2A;replace C:=O C;generalize Cn.fam kd=fm at *;have s:Hid (∀c W,Calls prog 116 #[.int .i32 (wrap32 c)] W fun e w'=>e=.returned (.bool (Cn.scalar (wrap32 c)))/\w'=W):=fun c W=>x0A _ W (x0P c);obtain⟨p1,p2⟩:=m;obtain⟨p3,p4⟩:=E;clear ae d;go_enter func70,ntmps70;go_upto_region 7 with(refine(V o).mono ?_;rintro e U ⟨rfl,rfl⟩);clear o;go_cut[3] (fun sv wx=>wx=U/\sv=.bool okb)
 case first =>
  clear v A D ab s Y H3 S Z;by_cases j:0<=lo
  ·by_cases K:lo<=hi
   ·by_cases q:hi<=1114111
    ·have L:=O (V N j K q);exact u5g
    ·have L:=O (V R fun h=>q h.2.2);exact u5g
   ·have L:=O (V R fun h=>K h.2.1);exact u5g
  ·have L:=O (V R fun h=>j h.1);exact u5g
 case rest =>
  obtain⟨rfl,rfl⟩:=hcut;clear N R;go_upto_region 8 with fail;go_cut[4] (fun sv wx=>wx=wc/\∃M:Bool,sv=.bool M/\G M)
  case first =>
   clear v A D ab Y Z;by_cases J:lo=hi
   ·exact I9e
   ·exact f6n
  case rest =>
   obtain⟨rfl,M,rfl,f⟩:=hcut;have P:=O (V Z M f);clear H3 S Z f s b t;rcases V C with rfl|rfl
   ·have a:=V D rfl;subst a;have I:=O (fun W h=>V v W false false false false false h);generalize l false false false false false=b1 at *;clear v C D ab A
    cases okb with
    | false =>
     clear I P Y;exact r0r
    | true =>
     obtain rfl:=V P rfl;clear P;go_wp2_with fail;refine c1m (V I _ (V B)) fun w2 F=>?_;obtain⟨y0,y1,y2,y3,y4,y5,y6,y7⟩:=(V Y).keep F;have i:=O (x0b (V B) F);clear I Y B F x u x2 x3 g x5 x6 x7
     cases b1 with
     | false =>exact V4K
     | true =>exact V4K
   ·have a:=V ab rfl;subst a;have I:=O (fun W h=>V v W false true false false false h);generalize l false true false false false=b1 at *;clear v C D ab
    cases okb with
    | false =>
     clear I A P Y;exact r0r
    | true =>
     obtain rfl:=V P rfl;clear P;go_wp2_with fail;refine c1m (V I _ (V B)) fun w2 F=>?_;obtain⟨y0,y1,y2,y3,y4,y5,y6,y7⟩:=(V Y).keep F;have i:=O (x0b (V B) F);clear I Y B F x u x2 x3 g x5 x6 x7
     cases b1 with
     | false =>
      clear A;exact V4K
     | true =>
      go_wp2_with fail;refine(V A _ (V i)).mono ?_;rintro e w3 ⟨rfl,rfl⟩;clear A
      cases l1 with
      | false =>exact V4K
      | true =>exact V4K
