/- Lemmas. -/
import Derived.Test.YtkfcabdmkmljjaaGreatDoorH15
import Derived.Deep.DeepCutAuto
import Derived.Laws.BitsLemmas
set_option maxHeartbeats 8000000
set_option maxRecDepth 8000
namespace Go.Proofs.YtkfcabdmkmljjaaGreatDoor
open Go.Proofs.Tryz
open Go.RowKit
theorem rwg_e kd lo hi n(ae:kd=4) ao tl tc nm ot wt w(N:I64 lo)(J:I64 hi)(hn:I64 n) okb oneb res(o:Hid (okb=decide (0<=lo/\lo<=hi/\hi<=1114111)))(l:Hid (okb=true->oneb=(decide (lo=hi)&&Cn.scalar lo)))(bq:Bool->Bool->Bool->Bool->Bool->Bool)(KB:Hid (∀W s v t f4 f5,Bw w W->Calls prog 122 #[.agg #[.int .i64 kd,.int .i64 lo,.int .i64 hi,.int .i64 n,.slice ao tl tc,.string nm,.string ot,.float .f64 wt],.bool s,.bool v,.bool t,.bool f4,.bool f5] W (x0g W (bq s v t f4 f5)))) l4(ab:Hid (∀W,Bw w W->Calls prog 126 #[.slice ao tl tc,.int .i64 1,.int .i64 1] W fun e w'=>e=.returned (.bool l4)/\w'=W)) a(E:Hid (l4=true->Rune a/\∃b off,ao=some ⟨b,off,none⟩/\tl=1/\tl<=tc/\∀W,Bw w W->W.cell? ⟨b,off,none⟩=some (.int .i32 a))) sq(M:Hid (sq=true->a+hi-lo<=1114111/\(a+hi-lo<55296\/57343<a)))(P:Hid (sq=false->1114111<a+hi-lo\/(55296<=a+hi-lo/\a<=57343))) rq4(A:Hid (rq4=true->1<=n/\n<=64))(C:Hid (rq4=false->n<1\/64<n))(I:Hid (kd=4->res=ansG (okb&&(bq true true false false false&&rq4&&l4&&sq)))):Calls prog 78 #[.agg #[.int .i64 kd,.int .i64 lo,.int .i64 hi,.int .i64 n,.slice ao tl tc,.string nm,.string ot,.float .f64 wt]] w (IntB w res):=by
 obtain⟨G,Z,H2,H3,j,p⟩:=x2U o l;have m:Hid (okb=true->0<=lo/\lo<=hi/\hi<=1114111):=fun h=>o0d ((V o).symm.trans h);clear o l;obtain⟨X,ag,Y,f⟩:=x0J w kd lo hi n (.slice ao tl tc) nm ot wt;have U:=O Y;obtain⟨x0,S,x2,x3,x4,x5,x6,x7⟩:=Y;have x:=O f;have F:I64 kd:=(by rcases ae with rfl<;>exact⟨f6J,f6J⟩);have af:(kd==15)=false:=(by rcases ae with rfl<;>rfl);have KF:=O (x0j kd X F);have D:(Cn.fam kd==0)=false:=(by rcases ae with rfl<;>rfl);replace ae:=O ae;generalize Cn.fam kd=fm at *;have KV:Hid (∀c W,Calls prog 125 #[.int .i32 (wrap32 c)] W fun e w'=>e=.returned (.bool (Cn.scalar (wrap32 c)))/\w'=W):=fun c W=>x0B _ W (x0M c);obtain⟨p1,p2⟩:=N;obtain⟨p3,p4⟩:=J;clear f F;go_enter func78,ntmps78;go_upto_region 7 with(refine(V KF).mono ?_;rintro e X ⟨rfl,rfl⟩);clear KF;go_cut[3] (fun sv wx=>wx=X/\sv=.bool okb)
 case first =>
  clear KB ab E A C M P I KV U H3 j p;by_cases y:0<=lo;by_cases q:lo<=hi;by_cases c3:hi<=1114111;have HE:=O (V Z y q c3);rotate_left
  iterate 3
   have HE:=O (V H2 f6J);rotate_left
  all_goals
   clear Z H2;go_wp2
   go_meet
   case rel=>exact⟨by first| rfl | exact ag,congrArg Value.bool (V HE)⟩
 case rest =>
  obtain⟨rfl,rfl⟩:=hcut;clear Z H2;go_upto_region 8 with fail;go_cut[4] (fun sv wx=>wx=wc/\∃z:Bool,sv=.bool z/\G z)
  case first =>
   clear KB ab E A C M P I U p;by_cases d:lo=hi
   ·have R:=O (V H3 d);subst d;have i:=O (V KV (bits BinOp.and IntKind.i64 lo 2097151));generalize Cn.scalar (wrap32 (bits BinOp.and IntKind.i64 lo 2097151))=k at *;clear H3 j KV;go_wp2_with fail;refine(V i _).mono ?_;rintro e w1 ⟨rfl,rfl⟩;clear i;go_wp2
    go_meet
    case rel=>exact⟨f5W,k,rfl,V R⟩
   ·have R:=O (V j d);clear H3 j KV;go_wp2
    go_meet
    case rel=>exact⟨f5W,false,rfl,V R⟩
  case rest =>
   obtain⟨rfl,z,rfl,r⟩:=hcut;have Q:=O (V p z r);clear H3 j p r KV af D;rcases V ae with rfl
   ·have L:=V I rfl;subst L;have B:=O (fun W h=>V KB W true true false false false h);generalize bq true true false false false=b1 at *;clear KB ae I
    cases okb with
    | false =>
     clear B ab E A C M P Q U m;exact E0e
    | true =>
     obtain rfl:=V Q rfl;clear Q;obtain⟨o1,o2,o3⟩:=V m rfl;clear m;go_wp2_with fail;refine c1m (V B _ (V x)) fun w2 H=>?_;obtain⟨y0,y1,y2,y3,y4,y5,y6,y7⟩:=(V U).keep H;have T:=O (bthen (V x) H);clear B U x H x0 S x2 x3 x4 x5 x6 x7
     cases b1 with
     | false =>
      clear ab E A C M P;exact u9X
     | true =>
      obtain⟨n1,n2⟩:=hn
      cases rq4 with
      | true =>
       obtain⟨y,q⟩:=V A rfl;clear A C;go_wp2_with fail;refine(V ab _ (V T)).mono ?_;rintro e w3 ⟨rfl,rfl⟩;clear ab
       cases l4 with
       | false =>
        clear E M P;exact u9X
       | true =>
        obtain⟨⟨a1,a2⟩,b,off,rfl,rfl,g,K⟩:=V E rfl;have hz:=K _ (V T);clear E K
        cases sq with
        | true =>
         obtain⟨u,d2⟩:=V M rfl;clear M P;rcases d2 with d2 | d2
         ·skip;exact u9X
         ·have d4:decide (a+hi-lo<55296)=false:=d0f f6J;exact u9X
        | false =>
         have d0:=V P rfl;clear M P;by_cases u:a+hi-lo<=1114111
         ·have d2:decide (a+hi-lo<55296)=false:=d0f f6J;have d3:decide (57343<a)=false:=d0f f6J;clear d0;exact u9X
         ·have d2:decide (a+hi-lo<=1114111)=false:=d0f u;clear d0;exact u9X
      | false =>
       have c0:=V C rfl;clear A C ab E M P;rcases c0 with c0 | c0
       ·have u:decide (1<=n)=false:=d0f f6J;exact u9X
       ·have y:1<=n:=f6J;have d2:decide (n<=64)=false:=d0f f6J;exact u9X
