/- Lemmas. -/
import Derived.Test.YtkfcabdmkmljjaaGreatDoorH15
import Derived.Deep.DeepCutAuto
import Derived.Laws.BitsLemmas
set_option maxHeartbeats 8000000
set_option maxRecDepth 8000
namespace Go.Proofs.YtkfcabdmkmljjaaGreatDoor
open Go.Proofs.Tryz
open Go.RowKit
theorem rwg_d kd lo hi n(A:kd=7\/kd=8) ao tl tc nm ot wt w(N:I64 lo)(J:I64 hi) okb oneb res(o:Hid (okb=decide (0<=lo/\lo<=hi/\hi<=1114111)))(l:Hid (okb=true->oneb=(decide (lo=hi)&&Cn.scalar lo)))(bq:Bool->Bool->Bool->Bool->Bool->Bool)(KB:Hid (∀W s v t f4 f5,Bw w W->Calls prog 122 #[.agg #[.int .i64 kd,.int .i64 lo,.int .i64 hi,.int .i64 n,.slice ao tl tc,.string nm,.string ot,.float .f64 wt],.bool s,.bool v,.bool t,.bool f4,.bool f5] W (x0g W (bq s v t f4 f5)))) l2(F:Hid (∀W,Bw w W->Calls prog 126 #[.slice ao tl tc,.int .i64 2,.int .i64 2] W fun e w'=>e=.returned (.bool l2)/\w'=W)) l3(ae:Hid (∀W,Bw w W->Calls prog 126 #[.slice ao tl tc,.int .i64 1,.int .i64 2] W fun e w'=>e=.returned (.bool l3)/\w'=W))(ab:Hid (kd=7->res=ansG (okb&&(oneb&&bq false true false false false&&l2))))(C:Hid (kd=8->res=ansG (okb&&(oneb&&bq false true false false false&&l3)))):Calls prog 78 #[.agg #[.int .i64 kd,.int .i64 lo,.int .i64 hi,.int .i64 n,.slice ao tl tc,.string nm,.string ot,.float .f64 wt]] w (IntB w res):=by
 obtain⟨G,Z,a,E,j,p⟩:=x2U o l;clear o l;obtain⟨X,b,Y,f⟩:=x0J w kd lo hi n (.slice ao tl tc) nm ot wt;have U:=O Y;obtain⟨g,S,x2,x3,x4,x5,u,x7⟩:=Y;have x:=O f;have af:I64 kd:=G9b;have M:(kd==15)=false:=n3U;have P:=O (x0j kd X af);have D:(Cn.fam kd==0)=false:=n3U;replace A:=O A;generalize Cn.fam kd=fm at *;have I:Hid (∀c W,Calls prog 125 #[.int .i32 (wrap32 c)] W fun e w'=>e=.returned (.bool (Cn.scalar (wrap32 c)))/\w'=W):=fun c W=>x0B _ W (x0M c);obtain⟨p1,p2⟩:=N;obtain⟨p3,p4⟩:=J;clear f af;go_enter func78,ntmps78;go_upto_region 7 with(refine(V P).mono ?_;rintro e X ⟨rfl,rfl⟩);clear P;go_cut[3] (fun sv m=>m=X/\sv=.bool okb)
 case first =>
  clear KB F ae ab C I U E j p;by_cases y:0<=lo;by_cases q:lo<=hi;by_cases K:hi<=1114111;have HE:=O (V Z y q K);rotate_left
  iterate 3
   have HE:=O (V a f6J);rotate_left
  all_goals
   clear Z a;go_wp2
   go_meet
   case rel=>exact V2O
 case rest =>
  obtain⟨rfl,rfl⟩:=hcut;clear Z a;go_upto_region 8 with fail;go_cut[4] (fun sv m=>m=wc/\∃ob:Bool,sv=.bool ob/\G ob)
  case first =>
   clear KB F ae ab C U p;by_cases d:lo=hi
   ·have R:=O (V E d);subst d;have i:=O (V I (bits BinOp.and IntKind.i64 lo 2097151));generalize Cn.scalar (wrap32 (bits BinOp.and IntKind.i64 lo 2097151))=k at *;clear E j I;go_wp2_with fail;refine(V i _).mono ?_;rintro e w1 ⟨rfl,rfl⟩;clear i;go_wp2
    go_meet
    case rel=>exact⟨f5Y,k,rfl,V R⟩
   ·have R:=O (V j d);clear E j I;go_wp2
    go_meet
    case rel=>exact⟨f5Y,false,rfl,V R⟩
  case rest =>
   obtain⟨rfl,ob,rfl,r⟩:=hcut;have Q:=O (V p ob r);clear E j p r I M D;rcases V A with rfl | rfl;have L:=V ab rfl;subst L;have B:=O (fun W h=>V KB W false true false false false h);generalize bq false true false false false=b1 at *;have KZ:=F;generalize l2=z at *;rotate_left;have L:=V C rfl;subst L;have B:=O (fun W h=>V KB W false true false false false h);generalize bq false true false false false=b1 at *;have KZ:=ae;generalize l3=z at *
   all_goals
    cases okb with
    | false =>
     clear B Q U;exact E0g
    | true =>exact n2h
