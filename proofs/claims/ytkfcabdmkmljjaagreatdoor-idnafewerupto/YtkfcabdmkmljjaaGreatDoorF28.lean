/- Lemmas. -/
import Derived.Test.YtkfcabdmkmljjaaGreatDoorF15
import Derived.Deep.DeepCutAuto
import Derived.Laws.BitsLemmas
set_option maxHeartbeats 8000000
set_option maxRecDepth 8000
namespace Go.Proofs.YtkfcabdmkmljjaaGreatDoor
open Go.Proofs.Tryz
open Go.RowKit
section
variable{p:Prop}
theorem w9W(h:p:=by
 by_cases K:lo=hi
 ·have R:=O (V b K);subst K;have l:=O (V H (bits BinOp.and IntKind.i64 lo 2097151));generalize Cn.scalar (wrap32 (bits BinOp.and IntKind.i64 lo 2097151))=m at *;clear b U H;go_wp2_with fail;refine(V l _).mono ?_;rintro e w1 ⟨rfl,rfl⟩;clear l;go_wp2
  go_meet
  case rel=>exact⟨f5W,m,rfl,V R⟩
 ·have R:=O (V U K);clear b U H;go_wp2
  go_meet
  case rel=>exact⟨f5W,false,rfl,V R⟩):p:=h
end
theorem rwg_g kd lo hi n(ab:kd=10) ao tl tc nm ot wt w(N:I64 lo)(aj:I64 hi)(hn:I64 n) okb oneb res(o:Hid (okb=decide (0<=lo/\lo<=hi/\hi<=1114111)))(L:Hid (okb=true->oneb=(decide (lo=hi)&&Cn.scalar lo)))(J:Bool->Bool->Bool->Bool->Bool->Bool)(v:Hid (∀W s M r f4 f5,Bw w W->Calls prog 122 #[.agg #[.int .i64 kd,.int .i64 lo,.int .i64 hi,.int .i64 n,.slice ao tl tc,.string nm,.string ot,.float .f64 wt],.bool s,.bool M,.bool r,.bool f4,.bool f5] W (x0g W (J s M r f4 f5)))) rq10(A:Hid (rq10=true->0<=n/\n<=5))(D:Hid (rq10=false->n<0\/5<n))(E:Hid (kd=10->res=ansG (okb&&(J true false false false false&&rq10)))):Calls prog 78 #[.agg #[.int .i64 kd,.int .i64 lo,.int .i64 hi,.int .i64 n,.slice ao tl tc,.string nm,.string ot,.float .f64 wt]] w (IntB w res):=by
 obtain⟨G,k,C,b,U,j⟩:=x2W o L;clear o L;obtain⟨y,i,Y,f⟩:=x0N w kd lo hi n (.slice ao tl tc) nm ot wt;have T:=O Y;obtain⟨p,d,S,x3,x4,x5,x6,x7⟩:=Y;have x:=O f;have z:I64 kd:=P0M;have Z:(kd==15)=false:=m4x;have P:=O (x0j kd y z);have q:(Cn.fam kd==0)=false:=m4x;replace ab:=O ab;generalize Cn.fam kd=fm at *;have H:Hid (∀c W,Calls prog 125 #[.int .i32 (wrap32 c)] W fun e w'=>e=.returned (.bool (Cn.scalar (wrap32 c)))/\w'=W):=fun c W=>x0D _ W (x0S c);obtain⟨p1,p2⟩:=N;obtain⟨p3,p4⟩:=aj;clear f z;go_enter func78,ntmps78;go_upto_region 7 with(refine(V P).mono ?_;rintro e y ⟨rfl,rfl⟩);clear P;go_cut[3] (fun sv wx=>wx=y/\sv=.bool okb)
 case first =>
  clear v A D E H T b U j;by_cases g:0<=lo;by_cases Q:lo<=hi;by_cases u:hi<=1114111;have HE:=O (V k g Q u);rotate_left
  iterate 3
   have HE:=O (V C f6J);rotate_left
  all_goals
   clear k C;go_wp2
   go_meet
   case rel=>exact V8D
 case rest =>
  obtain⟨rfl,rfl⟩:=hcut;clear k C;go_upto_region 8 with fail;go_cut[4] (fun sv wx=>wx=wc/\∃F:Bool,sv=.bool F/\G F)
  case first =>
   clear v A D E T j;exact w9W
  case rest =>
   obtain⟨rfl,F,rfl,ae⟩:=hcut;have B:=O (V j F ae);clear b U j ae H Z q;rcases V ab with rfl
   ·have a:=V E rfl;subst a;have I:=O (fun W h=>V v W true false false false false h);generalize J true false false false false=b1 at *;clear v ab E
    cases okb with
    | false =>
     clear I A D B T;exact E0d
    | true =>
     obtain rfl:=V B rfl;clear B;go_wp2_with fail;refine c1m (V I _ (V x)) fun w2 t=>?_;obtain⟨y0,y1,y2,y3,y4,y5,y6,y7⟩:=(V T).keep t;have X:=O (bthen (V x) t);clear I T x t p d S x3 x4 x5 x6 x7
     cases b1 with
     | false =>
      clear A D;exact I4d
     | true =>
      obtain⟨n1,n2⟩:=hn
      cases rq10 with
      | true =>
       obtain⟨g,Q⟩:=V A rfl;clear A D;exact I4d
      | false =>
       have c0:=V D rfl;clear A D;rcases c0 with c0 | c0
       ·have d1:decide (0<=n)=false:=d0f f6J;exact I4d
       ·have g:0<=n:=f6J;have d2:decide (n<=5)=false:=d0f f6J;exact I4d
theorem rwg_h kd lo hi n(A:kd=12\/kd=14) ao tl tc nm ot wt w(N:I64 lo)(aj:I64 hi) okb oneb res(o:Hid (okb=decide (0<=lo/\lo<=hi/\hi<=1114111)))(L:Hid (okb=true->oneb=(decide (lo=hi)&&Cn.scalar lo)))(J:Bool->Bool->Bool->Bool->Bool->Bool)(v:Hid (∀W s M r f4 f5,Bw w W->Calls prog 122 #[.agg #[.int .i64 kd,.int .i64 lo,.int .i64 hi,.int .i64 n,.slice ao tl tc,.string nm,.string ot,.float .f64 wt],.bool s,.bool M,.bool r,.bool f4,.bool f5] W (x0g W (J s M r f4 f5)))) nb(KN:Hid (∀W,Calls prog 123 #[.string nm] W fun e w'=>e=.returned (.bool nb)/\w'=W)) wb(KW:Hid (∀W,Calls prog 124 #[.float .f64 wt] W fun e w'=>e=.returned (.bool wb)/\w'=W))(ab:Hid (kd=12->res=ansG (okb&&(J false false true false false&&nb))))(C:Hid (kd=14->res=ansG (okb&&(J false false false false true&&wb)))):Calls prog 78 #[.agg #[.int .i64 kd,.int .i64 lo,.int .i64 hi,.int .i64 n,.slice ao tl tc,.string nm,.string ot,.float .f64 wt]] w (IntB w res):=by
 obtain⟨G,k,H2,b,U,j⟩:=x2W o L;clear o L;obtain⟨y,i,Y,f⟩:=x0N w kd lo hi n (.slice ao tl tc) nm ot wt;have T:=O Y;obtain⟨p,d,S,x3,x4,x5,x6,x7⟩:=Y;have x:=O f;have ae:I64 kd:=G9b;have Z:(kd==15)=false:=n3U;have P:=O (x0j kd y ae);have q:(Cn.fam kd==0)=false:=n3U;replace A:=O A;generalize Cn.fam kd=fm at *;have H:Hid (∀c W,Calls prog 125 #[.int .i32 (wrap32 c)] W fun e w'=>e=.returned (.bool (Cn.scalar (wrap32 c)))/\w'=W):=fun c W=>x0D _ W (x0S c);obtain⟨p1,p2⟩:=N;obtain⟨p3,p4⟩:=aj;clear f ae;go_enter func78,ntmps78;go_upto_region 7 with(refine(V P).mono ?_;rintro e y ⟨rfl,rfl⟩);clear P;go_cut[3] (fun sv wx=>wx=y/\sv=.bool okb)
 case first =>
  clear v KN KW ab C H T b U j;by_cases g:0<=lo;by_cases Q:lo<=hi;by_cases u:hi<=1114111;have D:=O (V k g Q u);rotate_left
  iterate 3
   have D:=O (V H2 f6J);rotate_left
  all_goals
   clear k H2;go_wp2
   go_meet
   case rel=>exact v5Z
 case rest =>
  obtain⟨rfl,rfl⟩:=hcut;clear k H2;go_upto_region 8 with fail;go_cut[4] (fun sv wx=>wx=wc/\∃F:Bool,sv=.bool F/\G F)
  case first =>
   clear v KN KW ab C T j;exact w9W
  case rest =>
   obtain⟨rfl,F,rfl,E⟩:=hcut;have B:=O (V j F E);clear b U j E H Z q;rcases V A with rfl | rfl;have a:=V ab rfl;subst a;have I:=O (fun W h=>V v W false false true false false h);generalize J false false true false false=b1 at *;have KZ:=KN;generalize nb=z at *;rotate_left;have a:=V C rfl;subst a;have I:=O (fun W h=>V v W false false false false true h);generalize J false false false false true=b1 at *;have KZ:=KW;generalize wb=z at *
   all_goals
    cases okb with
    | false =>
     clear I B T;exact E0d
    | true =>
     obtain rfl:=V B rfl;clear B;go_wp2_with fail;refine c1m (V I _ (V x)) fun w2 t=>?_;obtain⟨y0,y1,y2,y3,y4,y5,y6,y7⟩:=(V T).keep t;have X:=O (bthen (V x) t);clear I T x t p d S x3 x4 x5 x6 x7
     cases b1 with
     | false =>
      go_wp2;go_ret;exact⟨rfl,V X⟩
     | true =>
      go_wp2_with fail;refine(V KZ _).mono ?_;exact t2N
