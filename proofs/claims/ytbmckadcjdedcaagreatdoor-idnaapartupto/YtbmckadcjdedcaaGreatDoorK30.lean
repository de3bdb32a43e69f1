/- Lemmas. -/
import Derived.Test.YtbmckadcjdedcaaGreatDoorK18
import Derived.Deep.DeepCutAuto
import Derived.Laws.BitsLemmas
set_option maxHeartbeats 8000000
set_option maxRecDepth 8000
namespace Go.Proofs.YtbmckadcjdedcaaGreatDoor
open Go.Proofs.Tryz
open Go.RowKit
section
variable{p:Prop}
theorem e6N(h:p:=by
 go_meet
 case rel=>exact I3i):p:=h
theorem e0o(h:p:=by
 clear N R;go_wp2
 exact e6N):p:=h
end
theorem rwg_e kd lo hi n(B:kd=4) ao tl tc nm ot wt w(m:I64 lo)(l:I64 hi)(hn:I64 n) okb oneb res(y:Hid (okb=decide (0<=lo/\lo<=hi/\hi<=1114111)))(I:Hid (okb=true->oneb=(decide (lo=hi)&&Cn.scalar lo)))(f:Bool->Bool->Bool->Bool->Bool->Bool)(v:Hid (∀W f1 S g j p,Bw w W->Calls prog 113 #[.agg #[.int .i64 kd,.int .i64 lo,.int .i64 hi,.int .i64 n,.slice ao tl tc,.string nm,.string ot,.float .f64 wt],.bool f1,.bool S,.bool g,.bool j,.bool p] W (x0c W (f f1 S g j p)))) l4(ab:Hid (∀W,Bw w W->Calls prog 117 #[.slice ao tl tc,.int .i64 1,.int .i64 1] W fun e w'=>e=.returned (.bool l4)/\w'=W)) a(H:Hid (l4=true->Rune a/\∃b off,ao=some ⟨b,off,none⟩/\tl=1/\tl<=tc/\∀W,Bw w W->W.cell? ⟨b,off,none⟩=some (.int .i32 a))) sq(J:Hid (sq=true->a+hi-lo<=1114111/\(a+hi-lo<55296\/57343<a)))(P:Hid (sq=false->1114111<a+hi-lo\/(55296<=a+hi-lo/\a<=57343))) rq4(A:Hid (rq4=true->1<=n/\n<=64))(C:Hid (rq4=false->n<1\/64<n))(af:Hid (kd=4->res=ansG (okb&&(f true true false false false&&rq4&&l4&&sq)))):Calls prog 70 #[.agg #[.int .i64 kd,.int .i64 lo,.int .i64 hi,.int .i64 n,.slice ao tl tc,.string nm,.string ot,.float .f64 wt]] w (IntB w res):=by
 obtain⟨G,hG⟩:∃G:Bool->Prop,∀M,G M↔(okb=true->M=oneb):=⟨_,fun _=>Iff.rfl⟩;have N:Hid (0<=lo->lo<=hi->hi<=1114111->true=okb):=fun c1 U s=>s6D;have R:Hid (¬(0<=lo/\lo<=hi/\hi<=1114111)->false=okb):=fun c=>U1n
 have u:Hid (lo=hi->G (Cn.scalar (wrap32 (bits BinOp.and IntKind.i64 lo 2097151)))):=fun ae=>(hG _).2 fun h=>by
  have Z:=o0d ((V y).symm.trans h);rw[V I h,x1f Z.1 f6J,d0t ae,Bool.true_and]
 have d:Hid (¬lo=hi->G false):=fun ae=>(hG _).2 fun h=>(by rw[V I h,d0f ae,Bool.false_and]);have Q:Hid (∀M,G M->okb=true->M=oneb):=fun M=>(hG M).1;have H6:Hid (okb=true->0<=lo/\lo<=hi/\hi<=1114111):=fun h=>o0d ((V y).symm.trans h);clear y I hG;obtain⟨W0,k,D,ag⟩:=x0O w kd lo hi n (.slice ao tl tc) nm ot wt;have Y:=O D;obtain⟨x0,x1,x2,x3,x4,x5,x6,x7⟩:=D;have t:=O ag;have E:I64 kd:=E8r;have ai:(kd==15)=false:=t5g;have q:=O (x0l kd W0 E);have am:(Cn.fam kd==0)=false:=t5g;replace B:=O B;generalize Cn.fam kd=fm at *;have T:Hid (∀c W,Calls prog 116 #[.int .i32 (wrap32 c)] W fun e w'=>e=.returned (.bool (Cn.scalar (wrap32 c)))/\w'=W):=fun c W=>x0z _ W (x0R c);obtain⟨p1,p2⟩:=m;obtain⟨p3,p4⟩:=l;clear ag E;go_enter func70,ntmps70;go_upto_region 7 with(refine(V q).mono ?_;rintro e W0 ⟨rfl,rfl⟩);clear q;go_cut[3] (fun sv z=>z=W0/\sv=.bool okb)
 case first =>
  clear v ab H A C J P af T Y u d Q;by_cases c1:0<=lo
  ·by_cases U:lo<=hi
   ·by_cases s:hi<=1114111
    ·have x:=O (V N c1 U s);exact e0o
    ·have x:=O (V R fun h=>s h.2.2);exact e0o
   ·have x:=O (V R fun h=>U h.2.1);exact e0o
  ·have x:=O (V R fun h=>c1 h.1);exact e0o
 case rest =>
  obtain⟨rfl,rfl⟩:=hcut;clear N R;go_upto_region 8 with fail;go_cut[4] (fun sv z=>z=wc/\∃M:Bool,sv=.bool M/\G M)
  case first =>
   clear v ab H A C J P af Y Q;by_cases ae:lo=hi
   ·have r:=O (V u ae);subst ae;have o:=O (V T (bits BinOp.and IntKind.i64 lo 2097151));generalize Cn.scalar (wrap32 (bits BinOp.and IntKind.i64 lo 2097151))=sb at *;clear u d T;go_wp2_with fail;refine(V o _).mono ?_;rintro e w1 ⟨rfl,rfl⟩;clear o;go_wp2
    go_meet
    case rel=>exact⟨f5X,sb,rfl,V r⟩
   ·have r:=O (V d ae);clear u d T;go_wp2
    go_meet
    case rel=>exact⟨f5X,false,rfl,V r⟩
  case rest =>
   obtain⟨rfl,M,rfl,aj⟩:=hcut;have L:=O (V Q M aj);clear u d Q aj T ai am;rcases V B with rfl
   ·have HR:=V af rfl;subst HR;have K:=O (fun W h=>V v W true true false false false h);generalize f true true false false false=b1 at *;clear v B af
    cases okb with
    | false =>
     clear K ab H A C J P L Y H6;exact w4J
    | true =>
     obtain rfl:=V L rfl;clear L;obtain⟨o1,o2,o3⟩:=V H6 rfl;clear H6;go_wp2_with fail;refine c1m (V K _ (V t)) fun w2 F=>?_;obtain⟨y0,y1,y2,y3,y4,y5,y6,y7⟩:=(V Y).keep F;have i:=O (x0b (V t) F);clear K Y t F x0 x1 x2 x3 x4 x5 x6 x7
     cases b1 with
     | false =>
      clear ab H A C J P;exact V4H
     | true =>
      obtain⟨n1,n2⟩:=hn
      cases rq4 with
      | true =>
       obtain⟨c1,U⟩:=V A rfl;clear A C;go_wp2_with fail;refine(V ab _ (V i)).mono ?_;rintro e w3 ⟨rfl,rfl⟩;clear ab
       cases l4 with
       | false =>
        clear H J P;exact V4H
       | true =>
        obtain⟨⟨a1,a2⟩,b,off,rfl,rfl,aq,X⟩:=V H rfl;have hz:=X _ (V i);clear H X
        cases sq with
        | true =>
         obtain⟨d1,d2⟩:=V J rfl;clear J P;rcases d2 with d2 | d2
         ·skip;exact V4H
         ·have d4:decide (a+hi-lo<55296)=false:=d0f f6J;exact V4H
        | false =>
         have d0:=V P rfl;clear J P;by_cases d1:a+hi-lo<=1114111
         ·have d2:decide (a+hi-lo<55296)=false:=d0f f6J;have d3:decide (57343<a)=false:=d0f f6J;clear d0;exact V4H
         ·have d2:decide (a+hi-lo<=1114111)=false:=d0f d1;clear d0;exact V4H
      | false =>
       have c0:=V C rfl;clear A C ab H J P;rcases c0 with c0 | c0
       ·have d1:decide (1<=n)=false:=d0f f6J;exact V4H
       ·have c1:1<=n:=f6J;have d2:decide (n<=64)=false:=d0f f6J;exact V4H
