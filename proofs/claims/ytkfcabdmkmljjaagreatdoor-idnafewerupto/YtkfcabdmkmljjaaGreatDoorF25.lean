/- Lemmas. -/
import Derived.Test.YtkfcabdmkmljjaaGreatDoorF15
import Derived.Deep.DeepCutAuto
import Derived.Laws.BitsLemmas
set_option maxHeartbeats 8000000
set_option maxRecDepth 8000
namespace Go.Proofs.YtkfcabdmkmljjaaGreatDoor
open Go.Proofs.Tryz
open Go.RowKit
theorem rwg_c kd lo hi n(A:kd=5\/kd=13) ao tl tc nm ot wt w(N:I64 lo)(am:I64 hi) okb oneb res(o:Hid (okb=decide (0<=lo/\lo<=hi/\hi<=1114111)))(L:Hid (okb=true->oneb=(decide (lo=hi)&&Cn.scalar lo)))(J:Bool->Bool->Bool->Bool->Bool->Bool)(v:Hid (∀W s M r f4 f5,Bw w W->Calls prog 122 #[.agg #[.int .i64 kd,.int .i64 lo,.int .i64 hi,.int .i64 n,.slice ao tl tc,.string nm,.string ot,.float .f64 wt],.bool s,.bool M,.bool r,.bool f4,.bool f5] W (x0g W (J s M r f4 f5)))) l0(F:Hid (∀W,Bw w W->Calls prog 126 #[.slice ao tl tc,.int .i64 0,.int .i64 24] W fun e w'=>e=.returned (.bool l0)/\w'=W)) l1(C:Hid (∀W,Bw w W->Calls prog 126 #[.slice ao tl tc,.int .i64 1,.int .i64 24] W fun e w'=>e=.returned (.bool l1)/\w'=W))(E:Hid (kd=5->res=ansG (okb&&(oneb&&J false true false false false&&l0))))(ab:Hid (kd=13->res=ansG (okb&&(oneb&&J false true false false false&&l1)))):Calls prog 78 #[.agg #[.int .i64 kd,.int .i64 lo,.int .i64 hi,.int .i64 n,.slice ao tl tc,.string nm,.string ot,.float .f64 wt]] w (IntB w res):=by
 obtain⟨G,k,H2,b,U,j⟩:=x2W o L;clear o L;obtain⟨y,i,Y,f⟩:=x0N w kd lo hi n (.slice ao tl tc) nm ot wt;have T:=O Y;obtain⟨p,d,S,x3,x4,x5,x6,x7⟩:=Y;have x:=O f;have ae:I64 kd:=G9b;have Z:(kd==15)=false:=n3U;have P:=O (x0j kd y ae);have q:(Cn.fam kd==0)=false:=n3U;replace A:=O A;generalize Cn.fam kd=fm at *;have H:Hid (∀c W,Calls prog 125 #[.int .i32 (wrap32 c)] W fun e w'=>e=.returned (.bool (Cn.scalar (wrap32 c)))/\w'=W):=fun c W=>x0D _ W (x0S c);obtain⟨p1,p2⟩:=N;obtain⟨p3,p4⟩:=am;clear f ae;go_enter func78,ntmps78;go_upto_region 7 with(refine(V P).mono ?_;rintro e y ⟨rfl,rfl⟩);clear P;go_cut[3] (fun sv wx=>wx=y/\sv=.bool okb)
 case first =>
  clear v F C E ab H T b U j;by_cases g:0<=lo;by_cases Q:lo<=hi;by_cases u:hi<=1114111;have D:=O (V k g Q u);rotate_left
  iterate 3
   have D:=O (V H2 f6J);rotate_left
  all_goals
   clear k H2;go_wp2
   go_meet
   case rel=>exact v5Z
 case rest =>
  obtain⟨rfl,rfl⟩:=hcut;clear k H2;go_upto_region 8 with fail;go_cut[4] (fun sv wx=>wx=wc/\∃ob:Bool,sv=.bool ob/\G ob)
  case first =>
   clear v F C E ab T j;by_cases K:lo=hi
   ·have R:=O (V b K);subst K;have l:=O (V H (bits BinOp.and IntKind.i64 lo 2097151));generalize Cn.scalar (wrap32 (bits BinOp.and IntKind.i64 lo 2097151))=m at *;clear b U H;go_wp2_with fail;refine(V l _).mono ?_;rintro e w1 ⟨rfl,rfl⟩;clear l;go_wp2
    go_meet
    case rel=>exact⟨f5Y,m,rfl,V R⟩
   ·have R:=O (V U K);clear b U H;go_wp2
    go_meet
    case rel=>exact⟨f5Y,false,rfl,V R⟩
  case rest =>
   obtain⟨rfl,ob,rfl,aj⟩:=hcut;have B:=O (V j ob aj);clear b U j aj H Z q;rcases V A with rfl | rfl;have a:=V E rfl;subst a;have I:=O (fun W h=>V v W false true false false false h);generalize J false true false false false=b1 at *;have KZ:=F;generalize l0=z at *;rotate_left;have a:=V ab rfl;subst a;have I:=O (fun W h=>V v W false true false false false h);generalize J false true false false false=b1 at *;have KZ:=C;generalize l1=z at *
   all_goals
    cases okb with
    | false =>
     clear I B T;go_wp2;go_ret;exact⟨rfl,V x⟩
    | true =>exact w0c
