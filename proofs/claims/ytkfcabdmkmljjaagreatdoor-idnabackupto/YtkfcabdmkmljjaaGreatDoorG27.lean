/- Lemmas. -/
import Derived.Test.YtkfcabdmkmljjaaGreatDoorG15
import Derived.Deep.DeepCutAuto
import Derived.Laws.BitsLemmas
set_option maxHeartbeats 8000000
set_option maxRecDepth 8000
namespace Go.Proofs.YtkfcabdmkmljjaaGreatDoor
open Go.Proofs.Tryz
open Go.RowKit
theorem rwg_e kd lo hi n(B:kd=4) ao tl tc nm ot wt w(y:I64 lo)(ai:I64 hi)(hn:I64 n) okb oneb res(l:Hid (okb=decide (0<=lo/\lo<=hi/\hi<=1114111)))(ae:Hid (okb=true->oneb=(decide (lo=hi)&&Cn.scalar lo)))(bq:Bool->Bool->Bool->Bool->Bool->Bool)(KB:Hid (∀W v f2 g f4 f5,Bw w W->Calls prog 122 #[.agg #[.int .i64 kd,.int .i64 lo,.int .i64 hi,.int .i64 n,.slice ao tl tc,.string nm,.string ot,.float .f64 wt],.bool v,.bool f2,.bool g,.bool f4,.bool f5] W (x0g W (bq v f2 g f4 f5)))) l4(ab:Hid (∀W,Bw w W->Calls prog 126 #[.slice ao tl tc,.int .i64 1,.int .i64 1] W fun e w'=>e=.returned (.bool l4)/\w'=W)) a(Q:Hid (l4=true->Rune a/\∃b off,ao=some ⟨b,off,none⟩/\tl=1/\tl<=tc/\∀W,Bw w W->W.cell? ⟨b,off,none⟩=some (.int .i32 a))) sq(M:Hid (sq=true->a+hi-lo<=1114111/\(a+hi-lo<55296\/57343<a)))(R:Hid (sq=false->1114111<a+hi-lo\/(55296<=a+hi-lo/\a<=57343))) rq4(A:Hid (rq4=true->1<=n/\n<=64))(C:Hid (rq4=false->n<1\/64<n))(H:Hid (kd=4->res=ansG (okb&&(bq true true false false false&&rq4&&l4&&sq)))):Calls prog 78 #[.agg #[.int .i64 kd,.int .i64 lo,.int .i64 hi,.int .i64 n,.slice ao tl tc,.string nm,.string ot,.float .f64 wt]] w (IntB w res):=by
 obtain⟨G,Z,o,t,D,m⟩:=x2R l ae;have H6:Hid (okb=true->0<=lo/\lo<=hi/\hi<=1114111):=fun h=>o0d ((V l).symm.trans h);clear l ae;obtain⟨p,T,Y,f⟩:=x0M w kd lo hi n (.slice ao tl tc) nm ot wt;have U:=O Y;obtain⟨d,x1,x2,x3,x4,x5,x6,x7⟩:=Y;have x:=O f;have F:I64 kd:=E8r;have ag:(kd==15)=false:=t5i;have KF:=O (x0j kd p F);have s:(Cn.fam kd==0)=false:=t5i;replace B:=O B;generalize Cn.fam kd=fm at *;have E:Hid (∀c W,Calls prog 125 #[.int .i32 (wrap32 c)] W fun e w'=>e=.returned (.bool (Cn.scalar (wrap32 c)))/\w'=W):=fun c W=>x0B _ W (x0P c);obtain⟨p1,p2⟩:=y;obtain⟨p3,p4⟩:=ai;clear f F;go_enter func78,ntmps78;go_upto_region 7 with(refine(V KF).mono ?_;rintro e p ⟨rfl,rfl⟩);clear KF;go_cut[3] (fun sv j=>j=p/\sv=.bool okb)
 case first =>
  clear KB ab Q A C M R H E U t D m;by_cases X:0<=lo;by_cases c2:lo<=hi;by_cases S:hi<=1114111;have P:=O (V Z X c2 S);rotate_left
  iterate 3
   have P:=O (V o f6J);rotate_left
  all_goals
   clear Z o;go_wp2
   go_meet
   case rel=>exact U8N
 case rest =>
  obtain⟨rfl,rfl⟩:=hcut;clear Z o;go_upto_region 8 with fail;go_cut[4] (fun sv j=>j=wc/\∃z:Bool,sv=.bool z/\G z)
  case first =>
   clear KB ab Q A C M R H U m;by_cases N:lo=hi
   ·have L:=O (V t N);subst N;have q:=O (V E (bits BinOp.and IntKind.i64 lo 2097151));generalize Cn.scalar (wrap32 (bits BinOp.and IntKind.i64 lo 2097151))=k at *;clear t D E;go_wp2_with fail;refine(V q _).mono ?_;rintro e w1 ⟨rfl,rfl⟩;clear q;go_wp2
    go_meet
    case rel=>exact⟨f5W,k,rfl,V L⟩
   ·have L:=O (V D N);clear t D E;go_wp2
    go_meet
    case rel=>exact⟨f5W,false,rfl,V L⟩
  case rest =>
   obtain⟨rfl,z,rfl,r⟩:=hcut;have J:=O (V m z r);clear t D m r E ag s;rcases V B with rfl
   ·have HR:=V H rfl;subst HR;have I:=O (fun W h=>V KB W true true false false false h);generalize bq true true false false false=b1 at *;clear KB B H
    cases okb with
    | false =>
     clear I ab Q A C M R J U H6;exact E0g
    | true =>
     obtain rfl:=V J rfl;clear J;obtain⟨o1,o2,o3⟩:=V H6 rfl;clear H6;go_wp2_with fail;refine c1m (V I _ (V x)) fun w2 af=>?_;obtain⟨y0,y1,y2,y3,y4,y5,y6,y7⟩:=(V U).keep af;have i:=O (bthen (V x) af);clear I U x af d x1 x2 x3 x4 x5 x6 x7
     cases b1 with
     | false =>
      clear ab Q A C M R;exact V4H
     | true =>
      obtain⟨n1,n2⟩:=hn
      cases rq4 with
      | true =>
       obtain⟨X,c2⟩:=V A rfl;clear A C;go_wp2_with fail;refine(V ab _ (V i)).mono ?_;rintro e w3 ⟨rfl,rfl⟩;clear ab
       cases l4 with
       | false =>
        clear Q M R;exact V4H
       | true =>
        obtain⟨⟨a1,a2⟩,b,off,rfl,rfl,aj,K⟩:=V Q rfl;have hz:=K _ (V i);clear Q K
        cases sq with
        | true =>
         obtain⟨u,d2⟩:=V M rfl;clear M R;rcases d2 with d2 | d2
         ·skip;exact V4H
         ·have d4:decide (a+hi-lo<55296)=false:=d0f f6J;exact V4H
        | false =>
         have d0:=V R rfl;clear M R;by_cases u:a+hi-lo<=1114111
         ·have d2:decide (a+hi-lo<55296)=false:=d0f f6J;have d3:decide (57343<a)=false:=d0f f6J;clear d0;exact V4H
         ·have d2:decide (a+hi-lo<=1114111)=false:=d0f u;clear d0;exact V4H
      | false =>
       have c0:=V C rfl;clear A C ab Q M R;rcases c0 with c0 | c0
       ·have u:decide (1<=n)=false:=d0f f6J;exact V4H
       ·have X:1<=n:=f6J;have d2:decide (n<=64)=false:=d0f f6J;exact V4H
