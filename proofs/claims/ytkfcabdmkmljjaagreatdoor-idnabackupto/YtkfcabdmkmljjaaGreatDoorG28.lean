/- Lemmas. -/
import Derived.Test.YtkfcabdmkmljjaaGreatDoorG15
import Derived.Deep.DeepCutAuto
import Derived.Laws.BitsLemmas
set_option maxHeartbeats 8000000
set_option maxRecDepth 8000
namespace Go.Proofs.YtkfcabdmkmljjaaGreatDoor
open Go.Proofs.Tryz
open Go.RowKit
section
variable{p:Prop}
theorem p2O(h:p:=by
 by_cases N:lo=hi
 ·have L:=O (V t N);subst N;have q:=O (V E (bits BinOp.and IntKind.i64 lo 2097151));generalize Cn.scalar (wrap32 (bits BinOp.and IntKind.i64 lo 2097151))=k at *;clear t D E;go_wp2_with fail;refine(V q _).mono ?_;rintro e w1 ⟨rfl,rfl⟩;clear q;go_wp2
  go_meet
  case rel=>exact⟨f5W,k,rfl,V L⟩
 ·have L:=O (V D N);clear t D E;go_wp2
  go_meet
  case rel=>exact⟨f5W,false,rfl,V L⟩):p:=h
theorem W4v(h:p:=by
 by_cases X:0<=lo;by_cases K:lo<=hi;by_cases S:hi<=1114111;have P:=O (V Z X K S);rotate_left
 iterate 3
  have P:=O (V o f6J);rotate_left
 all_goals
  clear Z o;go_wp2
  go_meet
  case rel=>exact U8N):p:=h
theorem V4J(h:p:=by go_wp2;go_ret;exact⟨rfl,V i⟩):p:=h
end
theorem rwg_g kd lo hi n(B:kd=10) ao tl tc nm ot wt w(y:I64 lo)(Q:I64 hi)(hn:I64 n) okb oneb res(l:Hid (okb=decide (0<=lo/\lo<=hi/\hi<=1114111)))(ae:Hid (okb=true->oneb=(decide (lo=hi)&&Cn.scalar lo)))(bq:Bool->Bool->Bool->Bool->Bool->Bool)(KB:Hid (∀W v M g f4 f5,Bw w W->Calls prog 122 #[.agg #[.int .i64 kd,.int .i64 lo,.int .i64 hi,.int .i64 n,.slice ao tl tc,.string nm,.string ot,.float .f64 wt],.bool v,.bool M,.bool g,.bool f4,.bool f5] W (x0g W (bq v M g f4 f5)))) rq10(A:Hid (rq10=true->0<=n/\n<=5))(C:Hid (rq10=false->n<0\/5<n))(ab:Hid (kd=10->res=ansG (okb&&(bq true false false false false&&rq10)))):Calls prog 78 #[.agg #[.int .i64 kd,.int .i64 lo,.int .i64 hi,.int .i64 n,.slice ao tl tc,.string nm,.string ot,.float .f64 wt]] w (IntB w res):=by
 obtain⟨G,Z,o,t,D,m⟩:=x2R l ae;clear l ae;obtain⟨p,T,Y,f⟩:=x0M w kd lo hi n (.slice ao tl tc) nm ot wt;have U:=O Y;obtain⟨d,u,x2,x3,x4,x5,x6,x7⟩:=Y;have x:=O f;have F:I64 kd:=E8r;have R:(kd==15)=false:=t5i;have b:=O (x0j kd p F);have s:(Cn.fam kd==0)=false:=t5i;replace B:=O B;generalize Cn.fam kd=fm at *;have E:Hid (∀c W,Calls prog 125 #[.int .i32 (wrap32 c)] W fun e w'=>e=.returned (.bool (Cn.scalar (wrap32 c)))/\w'=W):=fun c W=>x0B _ W (x0P c);obtain⟨p1,p2⟩:=y;obtain⟨p3,p4⟩:=Q;clear f F;go_enter func78,ntmps78;go_upto_region 7 with(refine(V b).mono ?_;rintro e p ⟨rfl,rfl⟩);clear b;go_cut[3] (fun sv j=>j=p/\sv=.bool okb)
 case first =>
  clear KB A C ab E U t D m;exact W4v
 case rest =>
  obtain⟨rfl,rfl⟩:=hcut;clear Z o;go_upto_region 8 with fail;go_cut[4] (fun sv j=>j=wc/\∃z:Bool,sv=.bool z/\G z)
  case first =>
   clear KB A C ab U m;exact p2O
  case rest =>
   obtain⟨rfl,z,rfl,r⟩:=hcut;have J:=O (V m z r);clear t D m r E R s;rcases V B with rfl
   ·have a:=V ab rfl;subst a;have I:=O (fun W h=>V KB W true false false false false h);generalize bq true false false false false=b1 at *;clear KB B ab
    cases okb with
    | false =>
     clear I A C J U;exact E0e
    | true =>
     obtain rfl:=V J rfl;clear J;go_wp2_with fail;refine c1m (V I _ (V x)) fun w2 H=>?_;obtain⟨y0,y1,y2,y3,y4,y5,y6,y7⟩:=(V U).keep H;have i:=O (bthen (V x) H);clear I U x H d u x2 x3 x4 x5 x6 x7
     cases b1 with
     | false =>
      clear A C;exact V4J
     | true =>
      obtain⟨n1,n2⟩:=hn
      cases rq10 with
      | true =>
       obtain⟨X,K⟩:=V A rfl;clear A C;exact V4J
      | false =>
       have c0:=V C rfl;clear A C;rcases c0 with c0 | c0
       ·have d1:decide (0<=n)=false:=d0f f6J;exact V4J
       ·have X:0<=n:=f6J;have d2:decide (n<=5)=false:=d0f f6J;exact V4J
theorem rwg_h kd lo hi n(B:kd=12\/kd=14) ao tl tc nm ot wt w(y:I64 lo)(Q:I64 hi) okb oneb res(l:Hid (okb=decide (0<=lo/\lo<=hi/\hi<=1114111)))(ab:Hid (okb=true->oneb=(decide (lo=hi)&&Cn.scalar lo)))(bq:Bool->Bool->Bool->Bool->Bool->Bool)(KB:Hid (∀W v M g f4 f5,Bw w W->Calls prog 122 #[.agg #[.int .i64 kd,.int .i64 lo,.int .i64 hi,.int .i64 n,.slice ao tl tc,.string nm,.string ot,.float .f64 wt],.bool v,.bool M,.bool g,.bool f4,.bool f5] W (x0g W (bq v M g f4 f5)))) nb(KN:Hid (∀W,Calls prog 123 #[.string nm] W fun e w'=>e=.returned (.bool nb)/\w'=W)) wb(KW:Hid (∀W,Calls prog 124 #[.float .f64 wt] W fun e w'=>e=.returned (.bool wb)/\w'=W))(A:Hid (kd=12->res=ansG (okb&&(bq false false true false false&&nb))))(C:Hid (kd=14->res=ansG (okb&&(bq false false false false true&&wb)))):Calls prog 78 #[.agg #[.int .i64 kd,.int .i64 lo,.int .i64 hi,.int .i64 n,.slice ao tl tc,.string nm,.string ot,.float .f64 wt]] w (IntB w res):=by
 obtain⟨G,Z,o,t,D,m⟩:=x2R l ab;clear l ab;obtain⟨p,T,Y,f⟩:=x0M w kd lo hi n (.slice ao tl tc) nm ot wt;have U:=O Y;obtain⟨d,u,x2,x3,x4,x5,x6,x7⟩:=Y;have x:=O f;have F:I64 kd:=U7I;have R:(kd==15)=false:=U0M;have b:=O (x0j kd p F);have s:(Cn.fam kd==0)=false:=U0M;replace B:=O B;generalize Cn.fam kd=fm at *;have E:Hid (∀c W,Calls prog 125 #[.int .i32 (wrap32 c)] W fun e w'=>e=.returned (.bool (Cn.scalar (wrap32 c)))/\w'=W):=fun c W=>x0B _ W (x0P c);obtain⟨p1,p2⟩:=y;obtain⟨p3,p4⟩:=Q;clear f F;go_enter func78,ntmps78;go_upto_region 7 with(refine(V b).mono ?_;rintro e p ⟨rfl,rfl⟩);clear b;go_cut[3] (fun sv j=>j=p/\sv=.bool okb)
 case first =>
  clear KB KN KW A C E U t D m;exact W4v
 case rest =>
  obtain⟨rfl,rfl⟩:=hcut;clear Z o;go_upto_region 8 with fail;go_cut[4] (fun sv j=>j=wc/\∃ob:Bool,sv=.bool ob/\G ob)
  case first =>
   clear KB KN KW A C U m;exact p2O
  case rest =>
   obtain⟨rfl,ob,rfl,r⟩:=hcut;have J:=O (V m ob r);clear t D m r E R s;rcases V B with rfl | rfl;have a:=V A rfl;subst a;have I:=O (fun W h=>V KB W false false true false false h);generalize bq false false true false false=b1 at *;have KZ:=KN;generalize nb=z at *;rotate_left;have a:=V C rfl;subst a;have I:=O (fun W h=>V KB W false false false false true h);generalize bq false false false false true=b1 at *;have KZ:=KW;generalize wb=z at *
   all_goals
    cases okb with
    | false =>
     clear I J U;exact E0g
    | true =>
     obtain rfl:=V J rfl;clear J;go_wp2_with fail;refine c1m (V I _ (V x)) fun w2 H=>?_;obtain⟨y0,y1,y2,y3,y4,y5,y6,y7⟩:=(V U).keep H;have i:=O (bthen (V x) H);clear I U x H d u x2 x3 x4 x5 x6 x7
     cases b1 with
     | false =>
      go_wp2;go_ret;exact⟨rfl,V i⟩
     | true =>
      go_wp2_with fail;refine(V KZ _).mono ?_;exact W9y
