import Derived.Test.YtbmckadcjdedcaaGreatDoorF18
import Derived.Deep.DeepCutAuto
import Derived.Laws.BitsLemmas
set_option maxHeartbeats 8000000
set_option maxRecDepth 8000
namespace Go.Proofs.YtbmckadcjdedcaaGreatDoor
open Go.Proofs.Tryz
open Go.RowKit
section
variable{p:Prop}
theorem R0P(h:p:=by
 clear N R;go_wp2
 go_meet
 case rel=>exact S5z):p:=h
end
theorem rwg_e kd lo hi n(C:kd=4) ao tl tc nm ot wt w(m:I64 lo)(E:I64 hi)(hn:I64 n) okb oneb res(X:Hid (okb=decide (0<=lo/\lo<=hi/\hi<=1114111)))(Q:Hid (okb=true->oneb=(decide (lo=hi)&&Cn.scalar lo)))(l:Bool->Bool->Bool->Bool->Bool->Bool)(v:Hid (∀W f1 z f3 f4 p,Bw w W->Calls prog 113 #[.agg #[.int .i64 kd,.int .i64 lo,.int .i64 hi,.int .i64 n,.slice ao tl tc,.string nm,.string ot,.float .f64 wt],.bool f1,.bool z,.bool f3,.bool f4,.bool p] W (x0c W (l f1 z f3 f4 p)))) l4(A:Hid (∀W,Bw w W->Calls prog 117 #[.slice ao tl tc,.int .i64 1,.int .i64 1] W fun e w'=>e=.returned (.bool l4)/\w'=W)) a(g:Hid (l4=true->Rune a/\∃b off,ao=some ⟨b,off,none⟩/\tl=1/\tl<=tc/\∀W,Bw w W->W.cell? ⟨b,off,none⟩=some (.int .i32 a))) sq(F:Hid (sq=true->a+hi-lo<=1114111/\(a+hi-lo<55296\/57343<a)))(P:Hid (sq=false->1114111<a+hi-lo\/(55296<=a+hi-lo/\a<=57343))) rq4(u:Hid (rq4=true->1<=n/\n<=64))(x:Hid (rq4=false->n<1\/64<n))(D:Hid (kd=4->res=ansG (okb&&(l true true false false false&&rq4&&l4&&sq)))):Calls prog 70 #[.agg #[.int .i64 kd,.int .i64 lo,.int .i64 hi,.int .i64 n,.slice ao tl tc,.string nm,.string ot,.float .f64 wt]] w (IntB w res):=by
 obtain⟨G,T⟩:∃G:Bool->Prop,∀M,G M↔(okb=true->M=oneb):=⟨_,fun _=>Iff.rfl⟩;have N:Hid (0<=lo->lo<=hi->hi<=1114111->true=okb):=fun j K q=>U0g;have R:Hid (¬(0<=lo/\lo<=hi/\hi<=1114111)->false=okb):=fun c=>W3x
 have H3:Hid (lo=hi->G (Cn.scalar (wrap32 (bits BinOp.and IntKind.i64 lo 2097151)))):=fun J=>(T _).2 fun h=>F5r
 have S:Hid (¬lo=hi->G false):=fun J=>(T _).2 fun h=>W6G;have Z:Hid (∀M,G M->okb=true->M=oneb):=fun M=>(T M).1;have r:Hid (okb=true->0<=lo/\lo<=hi/\hi<=1114111):=fun h=>o0d ((V X).symm.trans h);clear X Q T;obtain⟨U,k,ag,af⟩:=x0L w kd lo hi n (.slice ao tl tc) nm ot wt;have Y:=O ag;obtain⟨x0,x1,x2,x3,x4,x5,x6,x7⟩:=ag;have B:=O af;have d:I64 kd:=u9x;have ai:(kd==15)=false:=v4X;have o:=O (x0l kd U d);have t:(Cn.fam kd==0)=false:=v4X;replace C:=O C;generalize Cn.fam kd=fm at *;have s:Hid (∀c W,Calls prog 116 #[.int .i32 (wrap32 c)] W fun e w'=>e=.returned (.bool (Cn.scalar (wrap32 c)))/\w'=W):=fun c W=>x0A _ W (x0P c);obtain⟨p1,p2⟩:=m;obtain⟨p3,p4⟩:=E;clear af d;go_enter func70,ntmps70;go_upto_region 7 with(refine(V o).mono ?_;rintro e U ⟨rfl,rfl⟩);clear o;go_cut[3] (fun sv wx=>wx=U/\sv=.bool okb)
 case first =>
  clear v A g u x F P D s Y H3 S Z;by_cases j:0<=lo
  ·by_cases K:lo<=hi
   ·by_cases q:hi<=1114111
    ·have L:=O (V N j K q);exact R0P
    ·have L:=O (V R fun h=>q h.2.2);exact R0P
   ·have L:=O (V R fun h=>K h.2.1);exact R0P
  ·have L:=O (V R fun h=>j h.1);exact R0P
 case rest =>
  obtain⟨rfl,rfl⟩:=hcut;clear N R;go_upto_region 8 with fail;go_cut[4] (fun sv wx=>wx=wc/\∃M:Bool,sv=.bool M/\G M)
  case first =>
   clear v A g u x F P D Y Z;by_cases J:lo=hi
   ·have HV:=O (V H3 J);subst J;have H:=O (V s (bits BinOp.and IntKind.i64 lo 2097151));generalize Cn.scalar (wrap32 (bits BinOp.and IntKind.i64 lo 2097151))=sb at *;clear H3 S s;go_wp2_with fail;refine(V H _).mono ?_;rintro e w1 ⟨rfl,rfl⟩;clear H;go_wp2
    go_meet
    case rel=>exact⟨f5Z,sb,rfl,V HV⟩
   ·have HV:=O (V S J);clear H3 S s;go_wp2
    go_meet
    case rel=>exact⟨f5Z,false,rfl,V HV⟩
  case rest =>
   obtain⟨rfl,M,rfl,f⟩:=hcut;have ab:=O (V Z M f);clear H3 S Z f s ai t;rcases V C with rfl
   ·have HR:=V D rfl;subst HR;have I:=O (fun W h=>V v W true true false false false h);generalize l true true false false false=b1 at *;clear v C D
    cases okb with
    | false =>
     clear I A g u x F P ab Y r;exact r0r
    | true =>
     obtain rfl:=V ab rfl;clear ab;obtain⟨o1,o2,o3⟩:=V r rfl;clear r;go_wp2_with fail;refine c1m (V I _ (V B)) fun w2 ae=>?_;obtain⟨y0,y1,y2,y3,y4,y5,y6,y7⟩:=(V Y).keep ae;have i:=O (x0b (V B) ae);clear I Y B ae x0 x1 x2 x3 x4 x5 x6 x7
     cases b1 with
     | false =>
      clear A g u x F P;exact V4H
     | true =>
      obtain⟨n1,n2⟩:=hn
      cases rq4 with
      | true =>
       obtain⟨j,K⟩:=V u rfl;clear u x;go_wp2_with fail;refine(V A _ (V i)).mono ?_;rintro e w3 ⟨rfl,rfl⟩;clear A
       cases l4 with
       | false =>
        clear g F P;exact V4H
       | true =>
        obtain⟨⟨a1,a2⟩,b,off,rfl,rfl,aj,y⟩:=V g rfl;have hz:=y _ (V i);clear g y
        cases sq with
        | true =>
         obtain⟨d1,d2⟩:=V F rfl;clear F P;rcases d2 with d2|d2
         ·skip;exact V4H
         ·have d4:decide (a+hi-lo<55296)=false:=d0f f6J;exact V4H
        | false =>
         have d0:=V P rfl;clear F P;by_cases d1:a+hi-lo<=1114111
         ·have d2:decide (a+hi-lo<55296)=false:=d0f f6J;have d3:decide (57343<a)=false:=d0f f6J;clear d0;exact V4H
         ·have d2:decide (a+hi-lo<=1114111)=false:=d0f d1;clear d0;exact V4H
      | false =>
       have c0:=V x rfl;clear u x A g F P;rcases c0 with c0|c0
       ·have d1:decide (1<=n)=false:=d0f f6J;exact V4H
       ·have j:1<=n:=f6J;have d2:decide (n<=64)=false:=d0f f6J;exact V4H
