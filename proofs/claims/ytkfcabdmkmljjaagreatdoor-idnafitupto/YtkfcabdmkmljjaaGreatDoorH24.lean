/- Lemmas. -/
import Derived.Test.YtkfcabdmkmljjaaGreatDoorH15
import Derived.Deep.DeepCutAuto
import Derived.Laws.BitsLemmas
set_option maxHeartbeats 8000000
set_option maxRecDepth 8000
namespace Go.Proofs.YtkfcabdmkmljjaaGreatDoor
open Go.Proofs.Tryz
open Go.RowKit
section
variable{p:Prop}
theorem m6T(h:p:=by
 go_wp2
 go_meet
 case rel=>exact⟨f5X,false,rfl,V R⟩):p:=h
end
theorem rwg_a kd lo hi n(A:kd=1\/kd=2) ao tl tc nm ot wt w(N:I64 lo)(J:I64 hi) okb oneb res(o:Hid (okb=decide (0<=lo/\lo<=hi/\hi<=1114111)))(l:Hid (okb=true->oneb=(decide (lo=hi)&&Cn.scalar lo)))(bq:Bool->Bool->Bool->Bool->Bool->Bool)(C:Hid (∀W s v t f4 f5,Bw w W->Calls prog 122 #[.agg #[.int .i64 kd,.int .i64 lo,.int .i64 hi,.int .i64 n,.slice ao tl tc,.string nm,.string ot,.float .f64 wt],.bool s,.bool v,.bool t,.bool f4,.bool f5] W (x0g W (bq s v t f4 f5))))(S:Hid (kd=1->res=ansG (okb&&(bq false false false false false))))(y:Hid (kd=2->res=ansG (okb&&(bq false false false false false)))):Calls prog 78 #[.agg #[.int .i64 kd,.int .i64 lo,.int .i64 hi,.int .i64 n,.slice ao tl tc,.string nm,.string ot,.float .f64 wt]] w (IntB w res):=by
 obtain⟨G,Z,a,E,j,p⟩:=x2U o l;clear o l;obtain⟨X,b,Y,f⟩:=x0J w kd lo hi n (.slice ao tl tc) nm ot wt;have U:=O Y;obtain⟨g,x1,x2,x3,x4,x5,u,x7⟩:=Y;have x:=O f;have F:I64 kd:=G9b;have M:(kd==15)=false:=n3U;have P:=O (x0j kd X F);have D:(Cn.fam kd==0)=false:=n3U;replace A:=O A;generalize Cn.fam kd=fm at *;have I:Hid (∀c W,Calls prog 125 #[.int .i32 (wrap32 c)] W fun e w'=>e=.returned (.bool (Cn.scalar (wrap32 c)))/\w'=W):=fun c W=>x0B _ W (x0M c);obtain⟨p1,p2⟩:=N;obtain⟨p3,p4⟩:=J;clear f F;go_enter func78,ntmps78;go_upto_region 7 with(refine(V P).mono ?_;rintro e X ⟨rfl,rfl⟩);clear P;go_cut[3] (fun sv m=>m=X/\sv=.bool okb)
 case first =>
  clear C S y I U E j p;by_cases c1:0<=lo;by_cases q:lo<=hi;by_cases K:hi<=1114111;have HE:=O (V Z c1 q K);rotate_left
  iterate 3
   have HE:=O (V a f6J);rotate_left
  all_goals
   clear Z a;go_wp2
   go_meet
   case rel=>exact V2O
 case rest =>
  obtain⟨rfl,rfl⟩:=hcut;clear Z a;go_upto_region 8 with fail;go_cut[4] (fun sv m=>m=wc/\∃z:Bool,sv=.bool z/\G z)
  case first =>
   clear C S y U p;by_cases d:lo=hi
   ·have R:=O (V E d);subst d;have i:=O (V I (bits BinOp.and IntKind.i64 lo 2097151));generalize Cn.scalar (wrap32 (bits BinOp.and IntKind.i64 lo 2097151))=k at *;clear E j I;go_wp2_with fail;refine(V i _).mono ?_;rintro e w1 ⟨rfl,rfl⟩;clear i;go_wp2
    go_meet
    case rel=>exact⟨f5Y,k,rfl,V R⟩
   ·have R:=O (V j d);clear E j I;exact m6T
  case rest =>
   obtain⟨rfl,z,rfl,r⟩:=hcut;have Q:=O (V p z r);clear E j p r I M D;rcases V A with rfl | rfl;have L:=V S rfl;subst L;have B:=O (fun W h=>V C W false false false false false h);generalize bq false false false false false=b1 at *;rotate_left;have L:=V y rfl;subst L;have B:=O (fun W h=>V C W false false false false false h);generalize bq false false false false false=b1 at *
   all_goals
    cases okb with
    | false =>
     clear B Q U;exact E0c
    | true =>
     obtain rfl:=V Q rfl;clear Q;go_wp2_with fail;refine c1m (V B _ (V x)) fun w2 H=>?_;obtain⟨y0,y1,y2,y3,y4,y5,y6,y7⟩:=(V U).keep H;have T:=O (bthen (V x) H);clear B U x H g x1 x2 x3 x4 x5 u x7;cases b1
     all_goals
      go_wp2;go_ret;exact⟨rfl,V T⟩
theorem rwg_b kd lo hi n(A:kd=11\/kd=3) ao tl tc nm ot wt w(N:I64 lo)(J:I64 hi) okb oneb res(o:Hid (okb=decide (0<=lo/\lo<=hi/\hi<=1114111)))(l:Hid (okb=true->oneb=(decide (lo=hi)&&Cn.scalar lo)))(bq:Bool->Bool->Bool->Bool->Bool->Bool)(KB:Hid (∀W s v t f4 f5,Bw w W->Calls prog 122 #[.agg #[.int .i64 kd,.int .i64 lo,.int .i64 hi,.int .i64 n,.slice ao tl tc,.string nm,.string ot,.float .f64 wt],.bool s,.bool v,.bool t,.bool f4,.bool f5] W (x0g W (bq s v t f4 f5)))) l1(ab:Hid (∀W,Bw w W->Calls prog 126 #[.slice ao tl tc,.int .i64 1,.int .i64 24] W fun e w'=>e=.returned (.bool l1)/\w'=W))(C:Hid (kd=11->res=ansG (okb&&(bq false false false false false))))(ae:Hid (kd=3->res=ansG (okb&&(bq false true false false false&&l1)))):Calls prog 78 #[.agg #[.int .i64 kd,.int .i64 lo,.int .i64 hi,.int .i64 n,.slice ao tl tc,.string nm,.string ot,.float .f64 wt]] w (IntB w res):=by
 obtain⟨G,Z,a,E,j,p⟩:=x2U o l;clear o l;obtain⟨X,b,Y,f⟩:=x0J w kd lo hi n (.slice ao tl tc) nm ot wt;have U:=O Y;obtain⟨g,S,x2,K,x4,x5,u,k⟩:=Y;have x:=O f;have F:I64 kd:=G9b;have M:(kd==15)=false:=n3U;have P:=O (x0j kd X F);have D:(Cn.fam kd==0)=false:=n3U;replace A:=O A;generalize Cn.fam kd=fm at *;have I:Hid (∀c W,Calls prog 125 #[.int .i32 (wrap32 c)] W fun e w'=>e=.returned (.bool (Cn.scalar (wrap32 c)))/\w'=W):=fun c W=>x0B _ W (x0M c);obtain⟨p1,p2⟩:=N;obtain⟨p3,p4⟩:=J;clear f F;go_enter func78,ntmps78;go_upto_region 7 with(refine(V P).mono ?_;rintro e X ⟨rfl,rfl⟩);clear P;go_cut[3] (fun sv m=>m=X/\sv=.bool okb)
 case first =>
  clear KB ab C ae I U E j p;by_cases y:0<=lo;by_cases q:lo<=hi;by_cases c3:hi<=1114111;have HE:=O (V Z y q c3);rotate_left
  iterate 3
   have HE:=O (V a f6J);rotate_left
  all_goals
   clear Z a;go_wp2
   go_meet
   case rel=>exact V2O
 case rest =>
  obtain⟨rfl,rfl⟩:=hcut;clear Z a;go_upto_region 8 with fail;go_cut[4] (fun sv m=>m=wc/\∃z:Bool,sv=.bool z/\G z)
  case first =>
   clear KB ab C ae U p;by_cases d:lo=hi
   ·have R:=O (V E d);subst d;have i:=O (V I (bits BinOp.and IntKind.i64 lo 2097151));generalize Cn.scalar (wrap32 (bits BinOp.and IntKind.i64 lo 2097151))=sb at *;clear E j I;go_wp2_with fail;refine(V i _).mono ?_;rintro e w1 ⟨rfl,rfl⟩;clear i;go_wp2
    go_meet
    case rel=>exact⟨f5Y,sb,rfl,V R⟩
   ·have R:=O (V j d);clear E j I;exact m6T
  case rest =>
   obtain⟨rfl,z,rfl,r⟩:=hcut;have Q:=O (V p z r);clear E j p r I M D;rcases V A with rfl | rfl
   ·have L:=V C rfl;subst L;have B:=O (fun W h=>V KB W false false false false false h);generalize bq false false false false false=b1 at *;clear KB A C ae ab
    cases okb with
    | false =>
     clear B Q U;exact E0g
    | true =>
     obtain rfl:=V Q rfl;clear Q;go_wp2_with fail;refine c1m (V B _ (V x)) fun w2 H=>?_;obtain⟨y0,y1,y2,y3,y4,y5,y6,y7⟩:=(V U).keep H;have T:=O (bthen (V x) H);clear B U x H g S x2 K x4 x5 u k;cases b1
     all_goals
      go_wp2;go_ret;exact⟨rfl,V T⟩
   ·have L:=V ae rfl;subst L;have B:=O (fun W h=>V KB W false true false false false h);generalize bq false true false false false=b1 at *;clear KB A C ae
    cases okb with
    | false =>
     clear B ab Q U;exact E0g
    | true =>
     obtain rfl:=V Q rfl;clear Q;go_wp2_with fail;refine c1m (V B _ (V x)) fun w2 H=>?_;obtain⟨y0,y1,y2,y3,y4,y5,y6,y7⟩:=(V U).keep H;have T:=O (bthen (V x) H);clear B U x H g S x2 K x4 x5 u k
     cases b1 with
     | false =>
      clear ab;exact u9X
     | true =>
      go_wp2_with fail;refine(V ab _ (V T)).mono ?_;rintro e w3 ⟨rfl,rfl⟩;clear ab;cases l1
      all_goals
       go_wp2;go_ret;exact⟨rfl,V T⟩
