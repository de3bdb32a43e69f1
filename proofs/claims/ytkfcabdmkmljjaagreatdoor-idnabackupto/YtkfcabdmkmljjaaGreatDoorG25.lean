/- Lemmas. -/
import Derived.Test.YtkfcabdmkmljjaaGreatDoorG15
import Derived.Deep.DeepCutAuto
import Derived.Laws.BitsLemmas
set_option maxHeartbeats 8000000
set_option maxRecDepth 8000
namespace Go.Proofs.YtkfcabdmkmljjaaGreatDoor
open Go.Proofs.Tryz
open Go.RowKit
theorem rwg_c kd lo hi n(B:kd=5\/kd=13) ao tl tc nm ot wt w(y:I64 lo)(Q:I64 hi) okb oneb res(l:Hid (okb=decide (0<=lo/\lo<=hi/\hi<=1114111)))(A:Hid (okb=true->oneb=(decide (lo=hi)&&Cn.scalar lo)))(bq:Bool->Bool->Bool->Bool->Bool->Bool)(KB:Hid (∀W v M g f4 f5,Bw w W->Calls prog 122 #[.agg #[.int .i64 kd,.int .i64 lo,.int .i64 hi,.int .i64 n,.slice ao tl tc,.string nm,.string ot,.float .f64 wt],.bool v,.bool M,.bool g,.bool f4,.bool f5] W (x0g W (bq v M g f4 f5)))) l0(ab:Hid (∀W,Bw w W->Calls prog 126 #[.slice ao tl tc,.int .i64 0,.int .i64 24] W fun e w'=>e=.returned (.bool l0)/\w'=W)) l1(ae:Hid (∀W,Bw w W->Calls prog 126 #[.slice ao tl tc,.int .i64 1,.int .i64 24] W fun e w'=>e=.returned (.bool l1)/\w'=W))(H:Hid (kd=5->res=ansG (okb&&(oneb&&bq false true false false false&&l0))))(C:Hid (kd=13->res=ansG (okb&&(oneb&&bq false true false false false&&l1)))):Calls prog 78 #[.agg #[.int .i64 kd,.int .i64 lo,.int .i64 hi,.int .i64 n,.slice ao tl tc,.string nm,.string ot,.float .f64 wt]] w (IntB w res):=by
 obtain⟨G,Z,o,t,D,m⟩:=x2R l A;clear l A;obtain⟨p,T,Y,f⟩:=x0M w kd lo hi n (.slice ao tl tc) nm ot wt;have U:=O Y;obtain⟨d,u,x2,x3,x4,x5,x6,x7⟩:=Y;have x:=O f;have F:I64 kd:=U7I;have R:(kd==15)=false:=U0M;have b:=O (x0j kd p F);have s:(Cn.fam kd==0)=false:=U0M;replace B:=O B;generalize Cn.fam kd=fm at *;have E:Hid (∀c W,Calls prog 125 #[.int .i32 (wrap32 c)] W fun e w'=>e=.returned (.bool (Cn.scalar (wrap32 c)))/\w'=W):=fun c W=>x0B _ W (x0P c);obtain⟨p1,p2⟩:=y;obtain⟨p3,p4⟩:=Q;clear f F;go_enter func78,ntmps78;go_upto_region 7 with(refine(V b).mono ?_;rintro e p ⟨rfl,rfl⟩);clear b;go_cut[3] (fun sv j=>j=p/\sv=.bool okb)
 case first =>
  clear KB ab ae H C E U t D m;by_cases X:0<=lo;by_cases K:lo<=hi;by_cases S:hi<=1114111;have P:=O (V Z X K S);rotate_left
  iterate 3
   have P:=O (V o f6J);rotate_left
  all_goals
   clear Z o;go_wp2
   go_meet
   case rel=>exact U8O
 case rest =>
  obtain⟨rfl,rfl⟩:=hcut;clear Z o;go_upto_region 8 with fail;go_cut[4] (fun sv j=>j=wc/\∃ob:Bool,sv=.bool ob/\G ob)
  case first =>
   clear KB ab ae H C U m;by_cases N:lo=hi
   ·have L:=O (V t N);subst N;have q:=O (V E (bits BinOp.and IntKind.i64 lo 2097151));generalize Cn.scalar (wrap32 (bits BinOp.and IntKind.i64 lo 2097151))=k at *;clear t D E;go_wp2_with fail;refine(V q _).mono ?_;rintro e w1 ⟨rfl,rfl⟩;clear q;go_wp2
    go_meet
    case rel=>exact⟨f5Y,k,rfl,V L⟩
   ·have L:=O (V D N);clear t D E;go_wp2
    go_meet
    case rel=>exact⟨f5Y,false,rfl,V L⟩
  case rest =>
   obtain⟨rfl,ob,rfl,r⟩:=hcut;have J:=O (V m ob r);clear t D m r E R s;rcases V B with rfl | rfl;have a:=V H rfl;subst a;have I:=O (fun W h=>V KB W false true false false false h);generalize bq false true false false false=b1 at *;have KZ:=ab;generalize l0=z at *;rotate_left;have a:=V C rfl;subst a;have I:=O (fun W h=>V KB W false true false false false h);generalize bq false true false false false=b1 at *;have KZ:=ae;generalize l1=z at *
   all_goals
    cases okb with
    | false =>
     clear I J U;exact E0i
    | true =>exact P5A
