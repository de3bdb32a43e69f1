/- Lemmas. -/
import Derived.Test.YtkfcabdmkmljjaaGreatDoorF15
import Derived.Deep.DeepCutAuto
import Derived.Laws.BitsLemmas
set_option maxHeartbeats 8000000
set_option maxRecDepth 8000
namespace Go.Proofs.YtkfcabdmkmljjaaGreatDoor
open Go.Proofs.Tryz
open Go.RowKit
section
variable{p:Prop}
theorem m6T(h:p:=by
 go_wp2
 go_meet
 case rel=>exact⟨f5X,false,rfl,V R⟩):p:=h
end
theorem rwg_a kd lo hi n(A:kd=1\/kd=2) ao tl tc nm ot wt w(N:I64 lo)(ae:I64 hi) okb oneb res(o:Hid (okb=decide (0<=lo/\lo<=hi/\hi<=1114111)))(L:Hid (okb=true->oneb=(decide (lo=hi)&&Cn.scalar lo)))(J:Bool->Bool->Bool->Bool->Bool->Bool)(v:Hid (∀W s M r f4 f5,Bw w W->Calls prog 122 #[.agg #[.int .i64 kd,.int .i64 lo,.int .i64 hi,.int .i64 n,.slice ao tl tc,.string nm,.string ot,.float .f64 wt],.bool s,.bool M,.bool r,.bool f4,.bool f5] W (x0g W (J s M r f4 f5))))(S:Hid (kd=1->res=ansG (okb&&(J false false false false false))))(i:Hid (kd=2->res=ansG (okb&&(J false false false false false)))):Calls prog 78 #[.agg #[.int .i64 kd,.int .i64 lo,.int .i64 hi,.int .i64 n,.slice ao tl tc,.string nm,.string ot,.float .f64 wt]] w (IntB w res):=by
 obtain⟨G,k,C,b,U,j⟩:=x2W o L;clear o L;obtain⟨y,ab,Y,f⟩:=x0N w kd lo hi n (.slice ao tl tc) nm ot wt;have T:=O Y;obtain⟨p,d,x2,x3,x4,x5,x6,x7⟩:=Y;have x:=O f;have z:I64 kd:=G9b;have Z:(kd==15)=false:=n3U;have P:=O (x0j kd y z);have q:(Cn.fam kd==0)=false:=n3U;replace A:=O A;generalize Cn.fam kd=fm at *;have H:Hid (∀c W,Calls prog 125 #[.int .i32 (wrap32 c)] W fun e w'=>e=.returned (.bool (Cn.scalar (wrap32 c)))/\w'=W):=fun c W=>x0D _ W (x0S c);obtain⟨p1,p2⟩:=N;obtain⟨p3,p4⟩:=ae;clear f z;go_enter func78,ntmps78;go_upto_region 7 with(refine(V P).mono ?_;rintro e y ⟨rfl,rfl⟩);clear P;go_cut[3] (fun sv wx=>wx=y/\sv=.bool okb)
 case first =>
  clear v S i H T b U j;by_cases g:0<=lo;by_cases Q:lo<=hi;by_cases u:hi<=1114111;have D:=O (V k g Q u);rotate_left
  iterate 3
   have D:=O (V C f6J);rotate_left
  all_goals
   clear k C;go_wp2
   go_meet
   case rel=>exact⟨by first| rfl | exact ab,congrArg Value.bool (V D)⟩
 case rest =>
  obtain⟨rfl,rfl⟩:=hcut;clear k C;go_upto_region 8 with fail;go_cut[4] (fun sv wx=>wx=wc/\∃F:Bool,sv=.bool F/\G F)
  case first =>
   clear v S i T j;by_cases K:lo=hi
   ·have R:=O (V b K);subst K;have l:=O (V H (bits BinOp.and IntKind.i64 lo 2097151));generalize Cn.scalar (wrap32 (bits BinOp.and IntKind.i64 lo 2097151))=m at *;clear b U H;go_wp2_with fail;refine(V l _).mono ?_;rintro e w1 ⟨rfl,rfl⟩;clear l;go_wp2
    go_meet
    case rel=>exact⟨f5Y,m,rfl,V R⟩
   ·have R:=O (V U K);clear b U H;exact m6T
  case rest =>
   obtain⟨rfl,F,rfl,E⟩:=hcut;have B:=O (V j F E);clear b U j E H Z q;rcases V A with rfl | rfl;have a:=V S rfl;subst a;have I:=O (fun W h=>V v W false false false false false h);generalize J false false false false false=b1 at *;rotate_left;have a:=V i rfl;subst a;have I:=O (fun W h=>V v W false false false false false h);generalize J false false false false false=b1 at *
   all_goals
    cases okb with
    | false =>
     clear I B T;exact E0c
    | true =>
     obtain rfl:=V B rfl;clear B;go_wp2_with fail;refine c1m (V I _ (V x)) fun w2 t=>?_;obtain⟨y0,y1,y2,y3,y4,y5,y6,y7⟩:=(V T).keep t;have X:=O (bthen (V x) t);clear I T x t p d x2 x3 x4 x5 x6 x7;cases b1
     all_goals
      go_wp2;go_ret;exact⟨rfl,V X⟩
theorem rwg_b kd lo hi n(A:kd=11\/kd=3) ao tl tc nm ot wt w(N:I64 lo)(ae:I64 hi) okb oneb res(o:Hid (okb=decide (0<=lo/\lo<=hi/\hi<=1114111)))(L:Hid (okb=true->oneb=(decide (lo=hi)&&Cn.scalar lo)))(J:Bool->Bool->Bool->Bool->Bool->Bool)(v:Hid (∀W s M r f4 f5,Bw w W->Calls prog 122 #[.agg #[.int .i64 kd,.int .i64 lo,.int .i64 hi,.int .i64 n,.slice ao tl tc,.string nm,.string ot,.float .f64 wt],.bool s,.bool M,.bool r,.bool f4,.bool f5] W (x0g W (J s M r f4 f5)))) l1(C:Hid (∀W,Bw w W->Calls prog 126 #[.slice ao tl tc,.int .i64 1,.int .i64 24] W fun e w'=>e=.returned (.bool l1)/\w'=W))(D:Hid (kd=11->res=ansG (okb&&(J false false false false false))))(ab:Hid (kd=3->res=ansG (okb&&(J false true false false false&&l1)))):Calls prog 78 #[.agg #[.int .i64 kd,.int .i64 lo,.int .i64 hi,.int .i64 n,.slice ao tl tc,.string nm,.string ot,.float .f64 wt]] w (IntB w res):=by
 obtain⟨G,k,H2,b,U,j⟩:=x2W o L;clear o L;obtain⟨y,i,Y,f⟩:=x0N w kd lo hi n (.slice ao tl tc) nm ot wt;have T:=O Y;obtain⟨p,d,S,x3,x4,m,x6,u⟩:=Y;have x:=O f;have z:I64 kd:=G9b;have Z:(kd==15)=false:=n3U;have P:=O (x0j kd y z);have q:(Cn.fam kd==0)=false:=n3U;replace A:=O A;generalize Cn.fam kd=fm at *;have H:Hid (∀c W,Calls prog 125 #[.int .i32 (wrap32 c)] W fun e w'=>e=.returned (.bool (Cn.scalar (wrap32 c)))/\w'=W):=fun c W=>x0D _ W (x0S c);obtain⟨p1,p2⟩:=N;obtain⟨p3,p4⟩:=ae;clear f z;go_enter func78,ntmps78;go_upto_region 7 with(refine(V P).mono ?_;rintro e y ⟨rfl,rfl⟩);clear P;go_cut[3] (fun sv wx=>wx=y/\sv=.bool okb)
 case first =>
  clear v C D ab H T b U j;by_cases g:0<=lo;by_cases Q:lo<=hi;by_cases c3:hi<=1114111;have HE:=O (V k g Q c3);rotate_left
  iterate 3
   have HE:=O (V H2 f6J);rotate_left
  all_goals
   clear k H2;go_wp2
   go_meet
   case rel=>exact⟨E1s,congrArg Value.bool (V HE)⟩
 case rest =>
  obtain⟨rfl,rfl⟩:=hcut;clear k H2;go_upto_region 8 with fail;go_cut[4] (fun sv wx=>wx=wc/\∃F:Bool,sv=.bool F/\G F)
  case first =>
   clear v C D ab T j;by_cases K:lo=hi
   ·have R:=O (V b K);subst K;have l:=O (V H (bits BinOp.and IntKind.i64 lo 2097151));generalize Cn.scalar (wrap32 (bits BinOp.and IntKind.i64 lo 2097151))=sb at *;clear b U H;go_wp2_with fail;refine(V l _).mono ?_;rintro e w1 ⟨rfl,rfl⟩;clear l;go_wp2
    go_meet
    case rel=>exact⟨f5Y,sb,rfl,V R⟩
   ·have R:=O (V U K);clear b U H;exact m6T
  case rest =>
   obtain⟨rfl,F,rfl,E⟩:=hcut;have B:=O (V j F E);clear b U j E H Z q;rcases V A with rfl | rfl
   ·have a:=V D rfl;subst a;have I:=O (fun W h=>V v W false false false false false h);generalize J false false false false false=b1 at *;clear v A D ab C
    cases okb with
    | false =>
     clear I B T;exact E0f
    | true =>
     obtain rfl:=V B rfl;clear B;go_wp2_with fail;refine c1m (V I _ (V x)) fun w2 t=>?_;obtain⟨y0,y1,y2,y3,y4,y5,y6,y7⟩:=(V T).keep t;have X:=O (bthen (V x) t);clear I T x t p d S x3 x4 m x6 u;cases b1
     all_goals
      go_wp2;go_ret;exact⟨rfl,V X⟩
   ·have a:=V ab rfl;subst a;have I:=O (fun W h=>V v W false true false false false h);generalize J false true false false false=b1 at *;clear v A D ab
    cases okb with
    | false =>
     clear I C B T;exact E0f
    | true =>
     obtain rfl:=V B rfl;clear B;go_wp2_with fail;refine c1m (V I _ (V x)) fun w2 t=>?_;obtain⟨y0,y1,y2,y3,y4,y5,y6,y7⟩:=(V T).keep t;have X:=O (bthen (V x) t);clear I T x t p d S x3 x4 m x6 u
     cases b1 with
     | false =>
      clear C;exact I4c
     | true =>
      go_wp2_with fail;refine(V C _ (V X)).mono ?_;rintro e w3 ⟨rfl,rfl⟩;clear C;cases l1
      all_goals
       go_wp2;go_ret;exact⟨rfl,V X⟩
