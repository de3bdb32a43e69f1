/- Lemmas. -/
import Derived.Test.YtkfcabdmkmljjaaGreatDoorF15
import Derived.Deep.DeepCutAuto
import Derived.Laws.BitsLemmas
set_option maxHeartbeats 8000000
set_option maxRecDepth 8000
namespace Go.Proofs.YtkfcabdmkmljjaaGreatDoor
open Go.Proofs.Tryz
open Go.RowKit
theorem rwg_e kd lo hi n(ab:kd=4) ao tl tc nm ot wt w(N:I64 lo)(am:I64 hi)(hn:I64 n) okb oneb res(o:Hid (okb=decide (0<=lo/\lo<=hi/\hi<=1114111)))(L:Hid (okb=true->oneb=(decide (lo=hi)&&Cn.scalar lo)))(J:Bool->Bool->Bool->Bool->Bool->Bool)(v:Hid (∀W s f2 r f4 f5,Bw w W->Calls prog 122 #[.agg #[.int .i64 kd,.int .i64 lo,.int .i64 hi,.int .i64 n,.slice ao tl tc,.string nm,.string ot,.float .f64 wt],.bool s,.bool f2,.bool r,.bool f4,.bool f5] W (x0g W (J s f2 r f4 f5)))) l4(C:Hid (∀W,Bw w W->Calls prog 126 #[.slice ao tl tc,.int .i64 1,.int .i64 1] W fun e w'=>e=.returned (.bool l4)/\w'=W)) a(E:Hid (l4=true->Rune a/\∃b off,ao=some ⟨b,off,none⟩/\tl=1/\tl<=tc/\∀W,Bw w W->W.cell? ⟨b,off,none⟩=some (.int .i32 a))) sq(M:Hid (sq=true->a+hi-lo<=1114111/\(a+hi-lo<55296\/57343<a)))(P:Hid (sq=false->1114111<a+hi-lo\/(55296<=a+hi-lo/\a<=57343))) rq4(S:Hid (rq4=true->1<=n/\n<=64))(A:Hid (rq4=false->n<1\/64<n))(D:Hid (kd=4->res=ansG (okb&&(J true true false false false&&rq4&&l4&&sq)))):Calls prog 78 #[.agg #[.int .i64 kd,.int .i64 lo,.int .i64 hi,.int .i64 n,.slice ao tl tc,.string nm,.string ot,.float .f64 wt]] w (IntB w res):=by
 obtain⟨G,k,H2,H3,U,j⟩:=x2W o L;have H6:Hid (okb=true->0<=lo/\lo<=hi/\hi<=1114111):=fun h=>o0d ((V o).symm.trans h);clear o L;obtain⟨W0,aj,Y,f⟩:=x0N w kd lo hi n (.slice ao tl tc) nm ot wt;have T:=O Y;obtain⟨p,d,x2,x3,x4,x5,x6,x7⟩:=Y;have x:=O f;have z:I64 kd:=P0M;have Z:(kd==15)=false:=m4x;have KF:=O (x0j kd W0 z);have q:(Cn.fam kd==0)=false:=m4x;replace ab:=O ab;generalize Cn.fam kd=fm at *;have H:Hid (∀c W,Calls prog 125 #[.int .i32 (wrap32 c)] W fun e w'=>e=.returned (.bool (Cn.scalar (wrap32 c)))/\w'=W):=fun c W=>x0D _ W (x0S c);obtain⟨p1,p2⟩:=N;obtain⟨p3,p4⟩:=am;clear f z;go_enter func78,ntmps78;go_upto_region 7 with(refine(V KF).mono ?_;rintro e W0 ⟨rfl,rfl⟩);clear KF;go_cut[3] (fun sv wx=>wx=W0/\sv=.bool okb)
 case first =>
  clear v C E S A M P D H T H3 U j;by_cases g:0<=lo;by_cases Q:lo<=hi;by_cases u:hi<=1114111;have HE:=O (V k g Q u);rotate_left
  iterate 3
   have HE:=O (V H2 f6J);rotate_left
  all_goals
   clear k H2;go_wp2
   go_meet
   case rel=>exact⟨by first| rfl | exact aj,congrArg Value.bool (V HE)⟩
 case rest =>
  obtain⟨rfl,rfl⟩:=hcut;clear k H2;go_upto_region 8 with fail;go_cut[4] (fun sv wx=>wx=wc/\∃F:Bool,sv=.bool F/\G F)
  case first =>
   clear v C E S A M P D T j;by_cases K:lo=hi
   ·have R:=O (V H3 K);subst K;have l:=O (V H (bits BinOp.and IntKind.i64 lo 2097151));generalize Cn.scalar (wrap32 (bits BinOp.and IntKind.i64 lo 2097151))=m at *;clear H3 U H;go_wp2_with fail;refine(V l _).mono ?_;rintro e w1 ⟨rfl,rfl⟩;clear l;go_wp2
    go_meet
    case rel=>exact⟨f5W,m,rfl,V R⟩
   ·have R:=O (V U K);clear H3 U H;go_wp2
    go_meet
    case rel=>exact⟨f5W,false,rfl,V R⟩
  case rest =>
   obtain⟨rfl,F,rfl,ae⟩:=hcut;have B:=O (V j F ae);clear H3 U j ae H Z q;rcases V ab with rfl
   ·have HR:=V D rfl;subst HR;have I:=O (fun W h=>V v W true true false false false h);generalize J true true false false false=b1 at *;clear v ab D
    cases okb with
    | false =>
     clear I C E S A M P B T H6;exact E0e
    | true =>
     obtain rfl:=V B rfl;clear B;obtain⟨o1,o2,o3⟩:=V H6 rfl;clear H6;go_wp2_with fail;refine c1m (V I _ (V x)) fun w2 t=>?_;obtain⟨y0,y1,y2,y3,y4,y5,y6,y7⟩:=(V T).keep t;have X:=O (bthen (V x) t);clear I T x t p d x2 x3 x4 x5 x6 x7
     cases b1 with
     | false =>
      clear C E S A M P;exact I4c
     | true =>
      obtain⟨n1,n2⟩:=hn
      cases rq4 with
      | true =>
       obtain⟨g,Q⟩:=V S rfl;clear S A;go_wp2_with fail;refine(V C _ (V X)).mono ?_;rintro e w3 ⟨rfl,rfl⟩;clear C
       cases l4 with
       | false =>
        clear E M P;exact I4c
       | true =>
        obtain⟨⟨a1,a2⟩,b,off,rfl,rfl,aq,y⟩:=V E rfl;have hz:=y _ (V X);clear E y
        cases sq with
        | true =>
         obtain⟨i,d2⟩:=V M rfl;clear M P;rcases d2 with d2 | d2
         ·skip;exact I4c
         ·have d4:decide (a+hi-lo<55296)=false:=d0f f6J;exact I4c
        | false =>
         have d0:=V P rfl;clear M P;by_cases i:a+hi-lo<=1114111
         ·have d2:decide (a+hi-lo<55296)=false:=d0f f6J;have d3:decide (57343<a)=false:=d0f f6J;clear d0;exact I4c
         ·have d2:decide (a+hi-lo<=1114111)=false:=d0f i;clear d0;exact I4c
      | false =>
       have c0:=V A rfl;clear S A C E M P;rcases c0 with c0 | c0
       ·have i:decide (1<=n)=false:=d0f f6J;exact I4c
       ·have g:1<=n:=f6J;have d2:decide (n<=64)=false:=d0f f6J;exact I4c
