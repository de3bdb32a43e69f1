/- Lemmas. -/
import Derived.Test.YtkfcabdmkmljjaaGreatDoorF15
import Derived.Deep.DeepCutAuto
import Derived.Laws.BitsLemmas
set_option maxHeartbeats 8000000
set_option maxRecDepth 8000
namespace Go.Proofs.YtkfcabdmkmljjaaGreatDoor
open Go.Proofs.Tryz
open Go.RowKit
section
variable{p:Prop}
theorem e0B(h:p:=by rcases ab with rfl | rfl<;>rfl):p:=h
end
theorem rwg_f kd lo hi n(ab:kd=6\/kd=9) ao tl tc nm ot wt w(N:I64 lo)(aq:I64 hi)(hn:I64 n) okb oneb res(o:Hid (okb=decide (0<=lo/\lo<=hi/\hi<=1114111)))(L:Hid (okb=true->oneb=(decide (lo=hi)&&Cn.scalar lo)))(J:Bool->Bool->Bool->Bool->Bool->Bool)(v:Hid (∀W s M r f4 f5,Bw w W->Calls prog 122 #[.agg #[.int .i64 kd,.int .i64 lo,.int .i64 hi,.int .i64 n,.slice ao tl tc,.string nm,.string ot,.float .f64 wt],.bool s,.bool M,.bool r,.bool f4,.bool f5] W (x0g W (J s M r f4 f5)))) rq6(A:Hid (rq6=true->1<=n/\n<=254))(D:Hid (rq6=false->n<1\/254<n)) rq9(C:Hid (rq9=true->0<=n/\n<=10))(E:Hid (rq9=false->n<0\/10<n))(ae:Hid (kd=6->res=ansG (okb&&(J true false false false false&&rq6))))(K:Hid (kd=9->res=ansG (okb&&(J true false false false false&&rq9)))):Calls prog 78 #[.agg #[.int .i64 kd,.int .i64 lo,.int .i64 hi,.int .i64 n,.slice ao tl tc,.string nm,.string ot,.float .f64 wt]] w (IntB w res):=by
 obtain⟨G,k,H2,b,U,j⟩:=x2W o L;clear o L;obtain⟨y,i,Y,f⟩:=x0N w kd lo hi n (.slice ao tl tc) nm ot wt;have T:=O Y;obtain⟨p,d,S,x3,x4,m,x6,u⟩:=Y;have x:=O f;have z:I64 kd:=(by rcases ab with rfl | rfl<;>exact⟨f6J,f6J⟩);have Z:(kd==15)=false:=e0B;have P:=O (x0j kd y z);have q:(Cn.fam kd==0)=false:=e0B;replace ab:=O ab;generalize Cn.fam kd=fm at *;have H:Hid (∀c W,Calls prog 125 #[.int .i32 (wrap32 c)] W fun e w'=>e=.returned (.bool (Cn.scalar (wrap32 c)))/\w'=W):=fun c W=>x0D _ W (x0S c);obtain⟨p1,p2⟩:=N;obtain⟨p3,p4⟩:=aq;clear f z;go_enter func78,ntmps78;go_upto_region 7 with(refine(V P).mono ?_;rintro e y ⟨rfl,rfl⟩);clear P;go_cut[3] (fun sv wx=>wx=y/\sv=.bool okb)
 case first =>
  clear v A D C E ae K H T b U j;by_cases g:0<=lo;by_cases Q:lo<=hi;by_cases c3:hi<=1114111;have HE:=O (V k g Q c3);rotate_left
  iterate 3
   have HE:=O (V H2 f6J);rotate_left
  all_goals
   clear k H2;go_wp2
   go_meet
   case rel=>exact V8D
 case rest =>
  obtain⟨rfl,rfl⟩:=hcut;clear k H2;go_upto_region 8 with fail;go_cut[4] (fun sv wx=>wx=wc/\∃F:Bool,sv=.bool F/\G F)
  case first =>
   clear v A D C E ae K T j;by_cases aj:lo=hi
   ·have R:=O (V b aj);subst aj;have l:=O (V H (bits BinOp.and IntKind.i64 lo 2097151));generalize Cn.scalar (wrap32 (bits BinOp.and IntKind.i64 lo 2097151))=sb at *;clear b U H;go_wp2_with fail;refine(V l _).mono ?_;rintro e w1 ⟨rfl,rfl⟩;clear l;go_wp2
    go_meet
    case rel=>exact⟨f5W,sb,rfl,V R⟩
   ·have R:=O (V U aj);clear b U H;go_wp2
    go_meet
    case rel=>exact⟨f5W,false,rfl,V R⟩
  case rest =>
   obtain⟨rfl,F,rfl,am⟩:=hcut;have B:=O (V j F am);clear b U j am H Z q;rcases V ab with rfl | rfl
   ·have a:=V ae rfl;subst a;have I:=O (fun W h=>V v W true false false false false h);generalize J true false false false false=b1 at *;clear v ab ae K C E
    cases okb with
    | false =>
     clear I A D B T;exact E0e
    | true =>
     obtain rfl:=V B rfl;clear B;go_wp2_with fail;refine c1m (V I _ (V x)) fun w2 t=>?_;obtain⟨y0,y1,y2,y3,y4,y5,y6,y7⟩:=(V T).keep t;have X:=O (bthen (V x) t);clear I T x t p d S x3 x4 m x6 u
     cases b1 with
     | false =>
      clear A D;exact I4c
     | true =>
      obtain⟨n1,n2⟩:=hn
      cases rq6 with
      | true =>
       obtain⟨g,Q⟩:=V A rfl;clear A D;exact I4c
      | false =>
       have c0:=V D rfl;clear A D;rcases c0 with c0 | c0
       ·have d1:decide (1<=n)=false:=d0f f6J;exact I4c
       ·have g:1<=n:=f6J;have d2:decide (n<=254)=false:=d0f f6J;exact I4c
   ·have a:=V K rfl;subst a;have I:=O (fun W h=>V v W true false false false false h);generalize J true false false false false=b1 at *;clear v ab ae K A D
    cases okb with
    | false =>
     clear I C E B T;exact E0e
    | true =>
     obtain rfl:=V B rfl;clear B;go_wp2_with fail;refine c1m (V I _ (V x)) fun w2 t=>?_;obtain⟨y0,y1,y2,y3,y4,y5,y6,y7⟩:=(V T).keep t;have X:=O (bthen (V x) t);clear I T x t p d S x3 x4 m x6 u
     cases b1 with
     | false =>
      clear C E;exact I4c
     | true =>
      obtain⟨n1,n2⟩:=hn
      cases rq9 with
      | true =>
       obtain⟨g,Q⟩:=V C rfl;clear C E;exact I4c
      | false =>
       have c0:=V E rfl;clear C E;rcases c0 with c0 | c0
       ·have d1:decide (0<=n)=false:=d0f f6J;exact I4c
       ·have g:0<=n:=f6J;have d2:decide (n<=10)=false:=d0f f6J;exact I4c
