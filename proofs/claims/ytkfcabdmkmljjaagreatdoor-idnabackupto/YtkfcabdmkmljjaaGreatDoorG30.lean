/- Lemmas. -/
import Derived.Test.YtkfcabdmkmljjaaGreatDoorG15
import Derived.Deep.DeepCutAuto
import Derived.Laws.BitsLemmas
set_option maxHeartbeats 8000000
set_option maxRecDepth 8000
namespace Go.Proofs.YtkfcabdmkmljjaaGreatDoor
open Go.Proofs.Tryz
open Go.RowKit
theorem rwg_f kd lo hi n(B:kd=6\/kd=9) ao tl tc nm ot wt w(y:I64 lo)(Q:I64 hi)(hn:I64 n) okb oneb res(l:Hid (okb=decide (0<=lo/\lo<=hi/\hi<=1114111)))(ag:Hid (okb=true->oneb=(decide (lo=hi)&&Cn.scalar lo)))(bq:Bool->Bool->Bool->Bool->Bool->Bool)(KB:Hid (∀W v M g f4 f5,Bw w W->Calls prog 122 #[.agg #[.int .i64 kd,.int .i64 lo,.int .i64 hi,.int .i64 n,.slice ao tl tc,.string nm,.string ot,.float .f64 wt],.bool v,.bool M,.bool g,.bool f4,.bool f5] W (x0g W (bq v M g f4 f5)))) rq6(A:Hid (rq6=true->1<=n/\n<=254))(ab:Hid (rq6=false->n<1\/254<n)) rq9(C:Hid (rq9=true->0<=n/\n<=10))(H:Hid (rq9=false->n<0\/10<n))(af:Hid (kd=6->res=ansG (okb&&(bq true false false false false&&rq6))))(K:Hid (kd=9->res=ansG (okb&&(bq true false false false false&&rq9)))):Calls prog 78 #[.agg #[.int .i64 kd,.int .i64 lo,.int .i64 hi,.int .i64 n,.slice ao tl tc,.string nm,.string ot,.float .f64 wt]] w (IntB w res):=by
 obtain⟨G,Z,o,t,D,m⟩:=x2R l ag;clear l ag;obtain⟨p,T,Y,f⟩:=x0M w kd lo hi n (.slice ao tl tc) nm ot wt;have U:=O Y;obtain⟨d,u,S,x3,x4,x5,k,x7⟩:=Y;have x:=O f;have F:I64 kd:=U7I;have R:(kd==15)=false:=U0M;have b:=O (x0j kd p F);have s:(Cn.fam kd==0)=false:=U0M;replace B:=O B;generalize Cn.fam kd=fm at *;have E:Hid (∀c W,Calls prog 125 #[.int .i32 (wrap32 c)] W fun e w'=>e=.returned (.bool (Cn.scalar (wrap32 c)))/\w'=W):=fun c W=>x0B _ W (x0P c);obtain⟨p1,p2⟩:=y;obtain⟨p3,p4⟩:=Q;clear f F;go_enter func78,ntmps78;go_upto_region 7 with(refine(V b).mono ?_;rintro e p ⟨rfl,rfl⟩);clear b;go_cut[3] (fun sv j=>j=p/\sv=.bool okb)
 case first =>
  clear KB A ab C H af K E U t D m;by_cases X:0<=lo;by_cases c2:lo<=hi;by_cases c3:hi<=1114111;have P:=O (V Z X c2 c3);rotate_left
  iterate 3
   have P:=O (V o f6J);rotate_left
  all_goals
   clear Z o;go_wp2
   go_meet
   case rel=>exact U8O
 case rest =>
  obtain⟨rfl,rfl⟩:=hcut;clear Z o;go_upto_region 8 with fail;go_cut[4] (fun sv j=>j=wc/\∃z:Bool,sv=.bool z/\G z)
  case first =>
   clear KB A ab C H af K U m;by_cases N:lo=hi
   ·have L:=O (V t N);subst N;have q:=O (V E (bits BinOp.and IntKind.i64 lo 2097151));generalize Cn.scalar (wrap32 (bits BinOp.and IntKind.i64 lo 2097151))=sb at *;clear t D E;go_wp2_with fail;refine(V q _).mono ?_;rintro e w1 ⟨rfl,rfl⟩;clear q;go_wp2
    go_meet
    case rel=>exact⟨f5W,sb,rfl,V L⟩
   ·have L:=O (V D N);clear t D E;go_wp2
    go_meet
    case rel=>exact⟨f5W,false,rfl,V L⟩
  case rest =>
   obtain⟨rfl,z,rfl,r⟩:=hcut;have J:=O (V m z r);clear t D m r E R s;rcases V B with rfl | rfl
   ·have a:=V af rfl;subst a;have I:=O (fun W h=>V KB W true false false false false h);generalize bq true false false false false=b1 at *;clear KB B af K C H
    cases okb with
    | false =>
     clear I A ab J U;exact E0i
    | true =>
     obtain rfl:=V J rfl;clear J;go_wp2_with fail;refine c1m (V I _ (V x)) fun w2 ae=>?_;obtain⟨y0,y1,y2,y3,y4,y5,y6,y7⟩:=(V U).keep ae;have i:=O (bthen (V x) ae);clear I U x ae d u S x3 x4 x5 k x7
     cases b1 with
     | false =>
      clear A ab;exact V4H
     | true =>
      obtain⟨n1,n2⟩:=hn
      cases rq6 with
      | true =>
       obtain⟨X,c2⟩:=V A rfl;clear A ab;exact V4H
      | false =>
       have c0:=V ab rfl;clear A ab;rcases c0 with c0 | c0
       ·have d1:decide (1<=n)=false:=d0f f6J;exact V4H
       ·have X:1<=n:=f6J;have d2:decide (n<=254)=false:=d0f f6J;exact V4H
   ·have a:=V K rfl;subst a;have I:=O (fun W h=>V KB W true false false false false h);generalize bq true false false false false=b1 at *;clear KB B af K A ab
    cases okb with
    | false =>
     clear I C H J U;exact E0i
    | true =>
     obtain rfl:=V J rfl;clear J;go_wp2_with fail;refine c1m (V I _ (V x)) fun w2 ae=>?_;obtain⟨y0,y1,y2,y3,y4,y5,y6,y7⟩:=(V U).keep ae;have i:=O (bthen (V x) ae);clear I U x ae d u S x3 x4 x5 k x7
     cases b1 with
     | false =>
      clear C H;exact V4H
     | true =>
      obtain⟨n1,n2⟩:=hn
      cases rq9 with
      | true =>
       obtain⟨X,c2⟩:=V C rfl;clear C H;exact V4H
      | false =>
       have c0:=V H rfl;clear C H;rcases c0 with c0 | c0
       ·have d1:decide (0<=n)=false:=d0f f6J;exact V4H
       ·have X:0<=n:=f6J;have d2:decide (n<=10)=false:=d0f f6J;exact V4H
