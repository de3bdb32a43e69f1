/- Lemmas. -/
import Derived.Test.YtkfcabdmkmljjaaGreatDoorH15
import Derived.Deep.DeepCutAuto
import Derived.Laws.BitsLemmas
set_option maxHeartbeats 8000000
set_option maxRecDepth 8000
namespace Go.Proofs.YtkfcabdmkmljjaaGreatDoor
open Go.Proofs.Tryz
open Go.RowKit
section
variable{p:Prop}
theorem w4p(h:p:=by rcases ae with rfl | rfl<;>rfl):p:=h
end
theorem rwg_f kd lo hi n(ae:kd=6\/kd=9) ao tl tc nm ot wt w(N:I64 lo)(af:I64 hi)(hn:I64 n) okb oneb res(o:Hid (okb=decide (0<=lo/\lo<=hi/\hi<=1114111)))(l:Hid (okb=true->oneb=(decide (lo=hi)&&Cn.scalar lo)))(bq:Bool->Bool->Bool->Bool->Bool->Bool)(KB:Hid (∀W s v t f4 f5,Bw w W->Calls prog 122 #[.agg #[.int .i64 kd,.int .i64 lo,.int .i64 hi,.int .i64 n,.slice ao tl tc,.string nm,.string ot,.float .f64 wt],.bool s,.bool v,.bool t,.bool f4,.bool f5] W (x0g W (bq s v t f4 f5)))) rq6(A:Hid (rq6=true->1<=n/\n<=254))(E:Hid (rq6=false->n<1\/254<n)) rq9(C:Hid (rq9=true->0<=n/\n<=10))(ab:Hid (rq9=false->n<0\/10<n))(I:Hid (kd=6->res=ansG (okb&&(bq true false false false false&&rq6))))(J:Hid (kd=9->res=ansG (okb&&(bq true false false false false&&rq9)))):Calls prog 78 #[.agg #[.int .i64 kd,.int .i64 lo,.int .i64 hi,.int .i64 n,.slice ao tl tc,.string nm,.string ot,.float .f64 wt]] w (IntB w res):=by
 obtain⟨G,Z,a,H3,j,p⟩:=x2U o l;clear o l;obtain⟨X,b,Y,f⟩:=x0J w kd lo hi n (.slice ao tl tc) nm ot wt;have U:=O Y;obtain⟨g,S,x2,K,x4,x5,u,k⟩:=Y;have x:=O f;have F:I64 kd:=(by rcases ae with rfl | rfl<;>exact⟨f6J,f6J⟩);have M:(kd==15)=false:=w4p;have P:=O (x0j kd X F);have D:(Cn.fam kd==0)=false:=w4p;replace ae:=O ae;generalize Cn.fam kd=fm at *;have KV:Hid (∀c W,Calls prog 125 #[.int .i32 (wrap32 c)] W fun e w'=>e=.returned (.bool (Cn.scalar (wrap32 c)))/\w'=W):=fun c W=>x0B _ W (x0M c);obtain⟨p1,p2⟩:=N;obtain⟨p3,p4⟩:=af;clear f F;go_enter func78,ntmps78;go_upto_region 7 with(refine(V P).mono ?_;rintro e X ⟨rfl,rfl⟩);clear P;go_cut[3] (fun sv m=>m=X/\sv=.bool okb)
 case first =>
  clear KB A E C ab I J KV U H3 j p;by_cases y:0<=lo;by_cases q:lo<=hi;by_cases c3:hi<=1114111;have HE:=O (V Z y q c3);rotate_left
  iterate 3
   have HE:=O (V a f6J);rotate_left
  all_goals
   clear Z a;go_wp2
   go_meet
   case rel=>exact V2O
 case rest =>
  obtain⟨rfl,rfl⟩:=hcut;clear Z a;go_upto_region 8 with fail;go_cut[4] (fun sv m=>m=wc/\∃z:Bool,sv=.bool z/\G z)
  case first =>
   clear KB A E C ab I J U p;by_cases d:lo=hi
   ·have R:=O (V H3 d);subst d;have i:=O (V KV (bits BinOp.and IntKind.i64 lo 2097151));generalize Cn.scalar (wrap32 (bits BinOp.and IntKind.i64 lo 2097151))=sb at *;clear H3 j KV;go_wp2_with fail;refine(V i _).mono ?_;rintro e w1 ⟨rfl,rfl⟩;clear i;go_wp2
    go_meet
    case rel=>exact⟨f5W,sb,rfl,V R⟩
   ·have R:=O (V j d);clear H3 j KV;go_wp2
    go_meet
    case rel=>exact⟨f5W,false,rfl,V R⟩
  case rest =>
   obtain⟨rfl,z,rfl,r⟩:=hcut;have Q:=O (V p z r);clear H3 j p r KV M D;rcases V ae with rfl | rfl
   ·have L:=V I rfl;subst L;have B:=O (fun W h=>V KB W true false false false false h);generalize bq true false false false false=b1 at *;clear KB ae I J C ab
    cases okb with
    | false =>
     clear B A E Q U;exact E0e
    | true =>
     obtain rfl:=V Q rfl;clear Q;go_wp2_with fail;refine c1m (V B _ (V x)) fun w2 H=>?_;obtain⟨y0,y1,y2,y3,y4,y5,y6,y7⟩:=(V U).keep H;have T:=O (bthen (V x) H);clear B U x H g S x2 K x4 x5 u k
     cases b1 with
     | false =>
      clear A E;exact u9X
     | true =>
      obtain⟨n1,n2⟩:=hn
      cases rq6 with
      | true =>
       obtain⟨y,q⟩:=V A rfl;clear A E;exact u9X
      | false =>
       have c0:=V E rfl;clear A E;rcases c0 with c0 | c0
       ·have d1:decide (1<=n)=false:=d0f f6J;exact u9X
       ·have y:1<=n:=f6J;have d2:decide (n<=254)=false:=d0f f6J;exact u9X
   ·have L:=V J rfl;subst L;have B:=O (fun W h=>V KB W true false false false false h);generalize bq true false false false false=b1 at *;clear KB ae I J A E
    cases okb with
    | false =>
     clear B C ab Q U;exact E0e
    | true =>
     obtain rfl:=V Q rfl;clear Q;go_wp2_with fail;refine c1m (V B _ (V x)) fun w2 H=>?_;obtain⟨y0,y1,y2,y3,y4,y5,y6,y7⟩:=(V U).keep H;have T:=O (bthen (V x) H);clear B U x H g S x2 K x4 x5 u k
     cases b1 with
     | false =>
      clear C ab;exact u9X
     | true =>
      obtain⟨n1,n2⟩:=hn
      cases rq9 with
      | true =>
       obtain⟨y,q⟩:=V C rfl;clear C ab;exact u9X
      | false =>
       have c0:=V ab rfl;clear C ab;rcases c0 with c0 | c0
       ·have d1:decide (0<=n)=false:=d0f f6J;exact u9X
       ·have y:0<=n:=f6J;have d2:decide (n<=10)=false:=d0f f6J;exact u9X
