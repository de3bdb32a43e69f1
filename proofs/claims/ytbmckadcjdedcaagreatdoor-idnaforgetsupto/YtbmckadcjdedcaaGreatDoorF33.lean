import Derived.Test.YtbmckadcjdedcaaGreatDoorF18
import Derived.Deep.DeepCutAuto
import Derived.Laws.BitsLemmas
set_option maxHeartbeats 8000000
set_option maxRecDepth 8000
namespace Go.Proofs.YtbmckadcjdedcaaGreatDoor
open Go.Proofs.Tryz
open Go.RowKit
section
variable{p:Prop}
theorem e9g(h:p:=by
 go_meet
 case rel=>exact S5A):p:=h
theorem g5m(h:p:=by
 clear N R;go_wp2
 exact e9g):p:=h
end
theorem z9y kd lo hi n(C:kd=6\/kd=9) ao tl tc nm ot wt w(m:I64 lo)(E:I64 hi)(hn:I64 n) okb oneb res(X:Hid (okb=decide (0<=lo/\lo<=hi/\hi<=1114111)))(Q:Hid (okb=true->oneb=(decide (lo=hi)&&Cn.scalar lo)))(l:Bool->Bool->Bool->Bool->Bool->Bool)(v:Hid (∀W y z f3 f4 p,Bw w W->Calls prog 113 #[.agg #[.int .i64 kd,.int .i64 lo,.int .i64 hi,.int .i64 n,.slice ao tl tc,.string nm,.string ot,.float .f64 wt],.bool y,.bool z,.bool f3,.bool f4,.bool p] W (x0c W (l y z f3 f4 p)))) rq6(A:Hid (rq6=true->1<=n/\n<=254))(F:Hid (rq6=false->n<1\/254<n)) rq9(D:Hid (rq9=true->0<=n/\n<=10))(H:Hid (rq9=false->n<0\/10<n))(ae:Hid (kd=6->res=ansG (okb&&(l true false false false false&&rq6))))(af:Hid (kd=9->res=ansG (okb&&(l true false false false false&&rq9)))):Calls prog 70 #[.agg #[.int .i64 kd,.int .i64 lo,.int .i64 hi,.int .i64 n,.slice ao tl tc,.string nm,.string ot,.float .f64 wt]] w (IntB w res):=by
 obtain⟨G,T⟩:∃G:Bool->Prop,∀M,G M↔(okb=true->M=oneb):=⟨_,fun _=>Iff.rfl⟩;have N:Hid (0<=lo->lo<=hi->hi<=1114111->true=okb):=fun j K q=>U0g;have R:Hid (¬(0<=lo/\lo<=hi/\hi<=1114111)->false=okb):=fun c=>W3x
 have H3:Hid (lo=hi->G (Cn.scalar (wrap32 (bits BinOp.and IntKind.i64 lo 2097151)))):=fun J=>(T _).2 fun h=>F5r
 have S:Hid (¬lo=hi->G false):=fun J=>(T _).2 fun h=>W6H;have Z:Hid (∀M,G M->okb=true->M=oneb):=fun M=>(T M).1;clear X Q T;obtain⟨U,k,ai,ag⟩:=x0L w kd lo hi n (.slice ao tl tc) nm ot wt;have Y:=O ai;obtain⟨x,u,x2,x3,g,x5,x6,x7⟩:=ai;have B:=O ag;have d:I64 kd:=w6Y;have b:(kd==15)=false:=u2z;have o:=O (x0l kd U d);have t:(Cn.fam kd==0)=false:=u2z;replace C:=O C;generalize Cn.fam kd=fm at *;have s:Hid (∀c W,Calls prog 116 #[.int .i32 (wrap32 c)] W fun e w'=>e=.returned (.bool (Cn.scalar (wrap32 c)))/\w'=W):=fun c W=>x0A _ W (x0P c);obtain⟨p1,p2⟩:=m;obtain⟨p3,p4⟩:=E;clear ag d;go_enter func70,ntmps70;go_upto_region 7 with(refine(V o).mono ?_;rintro e U ⟨rfl,rfl⟩);clear o;go_cut[3] (fun sv wx=>wx=U/\sv=.bool okb)
 case first =>
  clear v A F D H ae af s Y H3 S Z;by_cases j:0<=lo
  ·by_cases K:lo<=hi
   ·by_cases q:hi<=1114111
    ·have L:=O (V N j K q);exact g5m
    ·have L:=O (V R fun h=>q h.2.2);exact g5m
   ·have L:=O (V R fun h=>K h.2.1);exact g5m
  ·have L:=O (V R fun h=>j h.1);exact g5m
 case rest =>
  obtain⟨rfl,rfl⟩:=hcut;clear N R;go_upto_region 8 with fail;go_cut[4] (fun sv wx=>wx=wc/\∃M:Bool,sv=.bool M/\G M)
  case first =>
   clear v A F D H ae af Y Z;by_cases J:lo=hi
   ·have r:=O (V H3 J);subst J;have K1:=O (V s (bits BinOp.and IntKind.i64 lo 2097151));generalize Cn.scalar (wrap32 (bits BinOp.and IntKind.i64 lo 2097151))=sb at *;clear H3 S s;go_wp2_with fail;refine(V K1 _).mono ?_;rintro e w1 ⟨rfl,rfl⟩;clear K1;go_wp2
    go_meet
    case rel=>exact⟨f5Z,sb,rfl,V r⟩
   ·have r:=O (V S J);clear H3 S s;go_wp2
    go_meet
    case rel=>exact⟨f5Z,false,rfl,V r⟩
  case rest =>
   obtain⟨rfl,M,rfl,f⟩:=hcut;have P:=O (V Z M f);clear H3 S Z f s b t;rcases V C with rfl|rfl
   ·have a:=V ae rfl;subst a;have I:=O (fun W h=>V v W true false false false false h);generalize l true false false false false=b1 at *;clear v C ae af D H
    cases okb with
    | false =>
     clear I A F P Y;exact r0r
    | true =>
     obtain rfl:=V P rfl;clear P;go_wp2_with fail;refine c1m (V I _ (V B)) fun w2 ab=>?_;obtain⟨y0,y1,y2,y3,y4,y5,y6,y7⟩:=(V Y).keep ab;have i:=O (x0b (V B) ab);clear I Y B ab x u x2 x3 g x5 x6 x7
     cases b1 with
     | false =>
      clear A F;exact V4H
     | true =>
      obtain⟨n1,n2⟩:=hn
      cases rq6 with
      | true =>
       obtain⟨j,K⟩:=V A rfl;clear A F;exact V4H
      | false =>
       have c0:=V F rfl;clear A F;rcases c0 with c0|c0
       ·have d1:decide (1<=n)=false:=d0f f6J;exact V4H
       ·have j:1<=n:=f6J;have d2:decide (n<=254)=false:=d0f f6J;exact V4H
   ·have a:=V af rfl;subst a;have I:=O (fun W h=>V v W true false false false false h);generalize l true false false false false=b1 at *;clear v C ae af A F
    cases okb with
    | false =>
     clear I D H P Y;exact r0r
    | true =>
     obtain rfl:=V P rfl;clear P;go_wp2_with fail;refine c1m (V I _ (V B)) fun w2 ab=>?_;obtain⟨y0,y1,y2,y3,y4,y5,y6,y7⟩:=(V Y).keep ab;have i:=O (x0b (V B) ab);clear I Y B ab x u x2 x3 g x5 x6 x7
     cases b1 with
     | false =>
      clear D H;exact V4H
     | true =>
      obtain⟨n1,n2⟩:=hn
      cases rq9 with
      | true =>
       obtain⟨j,K⟩:=V D rfl;clear D H;exact V4H
      | false =>
       have c0:=V H rfl;clear D H;rcases c0 with c0|c0
       ·have d1:decide (0<=n)=false:=d0f f6J;exact V4H
       ·have j:0<=n:=f6J;have d2:decide (n<=10)=false:=d0f f6J;exact V4H
