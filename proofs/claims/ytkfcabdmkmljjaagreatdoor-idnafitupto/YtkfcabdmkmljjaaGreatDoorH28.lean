/- Lemmas. -/
import Derived.Test.YtkfcabdmkmljjaaGreatDoorH15
import Derived.Deep.DeepCutAuto
import Derived.Laws.BitsLemmas
set_option maxHeartbeats 8000000
set_option maxRecDepth 8000
namespace Go.Proofs.YtkfcabdmkmljjaaGreatDoor
open Go.Proofs.Tryz
open Go.RowKit
section
variable{p:Prop}
theorem n5a(h:p:=by
 by_cases y:0<=lo;by_cases q:lo<=hi;by_cases K:hi<=1114111;have HE:=O (V Z y q K);rotate_left
 iterate 3
  have HE:=O (V a f6J);rotate_left
 all_goals
  clear Z a;go_wp2
  go_meet
  case rel=>exact V2O):p:=h
theorem i3H(h:p:=by
 go_wp2_with fail;refine(V i _).mono ?_;rintro e w1 ⟨rfl,rfl⟩;clear i;go_wp2
 go_meet
 case rel=>exact⟨f5X,k,rfl,V R⟩):p:=h
theorem m6U(h:p:=by
 go_wp2
 go_meet
 case rel=>exact⟨f5Y,false,rfl,V R⟩):p:=h
theorem u9Z(h:p:=by go_wp2;go_ret;exact⟨rfl,V T⟩):p:=h
end
theorem rwg_g kd lo hi n(ab:kd=10) ao tl tc nm ot wt w(N:I64 lo)(J:I64 hi)(hn:I64 n) okb oneb res(o:Hid (okb=decide (0<=lo/\lo<=hi/\hi<=1114111)))(l:Hid (okb=true->oneb=(decide (lo=hi)&&Cn.scalar lo)))(bq:Bool->Bool->Bool->Bool->Bool->Bool)(KB:Hid (∀W s v t f4 f5,Bw w W->Calls prog 122 #[.agg #[.int .i64 kd,.int .i64 lo,.int .i64 hi,.int .i64 n,.slice ao tl tc,.string nm,.string ot,.float .f64 wt],.bool s,.bool v,.bool t,.bool f4,.bool f5] W (x0g W (bq s v t f4 f5)))) rq10(A:Hid (rq10=true->0<=n/\n<=5))(C:Hid (rq10=false->n<0\/5<n))(E:Hid (kd=10->res=ansG (okb&&(bq true false false false false&&rq10)))):Calls prog 78 #[.agg #[.int .i64 kd,.int .i64 lo,.int .i64 hi,.int .i64 n,.slice ao tl tc,.string nm,.string ot,.float .f64 wt]] w (IntB w res):=by
 obtain⟨G,Z,a,H3,j,p⟩:=x2U o l;clear o l;obtain⟨X,b,Y,f⟩:=x0J w kd lo hi n (.slice ao tl tc) nm ot wt;have U:=O Y;obtain⟨g,S,x2,x3,x4,x5,u,x7⟩:=Y;have x:=O f;have F:I64 kd:=(by rcases ab with rfl<;>exact⟨f6J,f6J⟩);have M:(kd==15)=false:=(by rcases ab with rfl<;>rfl);have P:=O (x0j kd X F);have D:(Cn.fam kd==0)=false:=(by rcases ab with rfl<;>rfl);replace ab:=O ab;generalize Cn.fam kd=fm at *;have I:Hid (∀c W,Calls prog 125 #[.int .i32 (wrap32 c)] W fun e w'=>e=.returned (.bool (Cn.scalar (wrap32 c)))/\w'=W):=fun c W=>x0B _ W (x0M c);obtain⟨p1,p2⟩:=N;obtain⟨p3,p4⟩:=J;clear f F;go_enter func78,ntmps78;go_upto_region 7 with(refine(V P).mono ?_;rintro e X ⟨rfl,rfl⟩);clear P;go_cut[3] (fun sv m=>m=X/\sv=.bool okb)
 case first =>
  clear KB A C E I U H3 j p;exact n5a
 case rest =>
  obtain⟨rfl,rfl⟩:=hcut;clear Z a;go_upto_region 8 with fail;go_cut[4] (fun sv m=>m=wc/\∃z:Bool,sv=.bool z/\G z)
  case first =>
   clear KB A C E U p;by_cases d:lo=hi
   ·have R:=O (V H3 d);subst d;have i:=O (V I (bits BinOp.and IntKind.i64 lo 2097151));generalize Cn.scalar (wrap32 (bits BinOp.and IntKind.i64 lo 2097151))=k at *;clear H3 j I;exact i3H
   ·have R:=O (V j d);clear H3 j I;exact m6U
  case rest =>
   obtain⟨rfl,z,rfl,r⟩:=hcut;have Q:=O (V p z r);clear H3 j p r I M D;rcases V ab with rfl
   ·have L:=V E rfl;subst L;have B:=O (fun W h=>V KB W true false false false false h);generalize bq true false false false false=b1 at *;clear KB ab E
    cases okb with
    | false =>
     clear B A C Q U;exact E0e
    | true =>
     obtain rfl:=V Q rfl;clear Q;go_wp2_with fail;refine c1m (V B _ (V x)) fun w2 H=>?_;obtain⟨y0,y1,y2,y3,y4,y5,y6,y7⟩:=(V U).keep H;have T:=O (bthen (V x) H);clear B U x H g S x2 x3 x4 x5 u x7
     cases b1 with
     | false =>
      clear A C;exact u9Z
     | true =>
      obtain⟨n1,n2⟩:=hn
      cases rq10 with
      | true =>
       obtain⟨y,q⟩:=V A rfl;clear A C;exact u9Z
      | false =>
       have c0:=V C rfl;clear A C;rcases c0 with c0 | c0
       ·have d1:decide (0<=n)=false:=d0f f6J;exact u9Z
       ·have y:0<=n:=f6J;have d2:decide (n<=5)=false:=d0f f6J;exact u9Z
theorem rwg_h kd lo hi n(A:kd=12\/kd=14) ao tl tc nm ot wt w(N:I64 lo)(J:I64 hi) okb oneb res(o:Hid (okb=decide (0<=lo/\lo<=hi/\hi<=1114111)))(l:Hid (okb=true->oneb=(decide (lo=hi)&&Cn.scalar lo)))(bq:Bool->Bool->Bool->Bool->Bool->Bool)(KB:Hid (∀W s v t f4 f5,Bw w W->Calls prog 122 #[.agg #[.int .i64 kd,.int .i64 lo,.int .i64 hi,.int .i64 n,.slice ao tl tc,.string nm,.string ot,.float .f64 wt],.bool s,.bool v,.bool t,.bool f4,.bool f5] W (x0g W (bq s v t f4 f5)))) nb(KN:Hid (∀W,Calls prog 123 #[.string nm] W fun e w'=>e=.returned (.bool nb)/\w'=W)) wb(KW:Hid (∀W,Calls prog 124 #[.float .f64 wt] W fun e w'=>e=.returned (.bool wb)/\w'=W))(ab:Hid (kd=12->res=ansG (okb&&(bq false false true false false&&nb))))(C:Hid (kd=14->res=ansG (okb&&(bq false false false false true&&wb)))):Calls prog 78 #[.agg #[.int .i64 kd,.int .i64 lo,.int .i64 hi,.int .i64 n,.slice ao tl tc,.string nm,.string ot,.float .f64 wt]] w (IntB w res):=by
 obtain⟨G,Z,a,E,j,p⟩:=x2U o l;clear o l;obtain⟨X,b,Y,f⟩:=x0J w kd lo hi n (.slice ao tl tc) nm ot wt;have U:=O Y;obtain⟨g,S,x2,x3,x4,x5,u,x7⟩:=Y;have x:=O f;have F:I64 kd:=G9b;have M:(kd==15)=false:=n3U;have P:=O (x0j kd X F);have D:(Cn.fam kd==0)=false:=n3U;replace A:=O A;generalize Cn.fam kd=fm at *;have I:Hid (∀c W,Calls prog 125 #[.int .i32 (wrap32 c)] W fun e w'=>e=.returned (.bool (Cn.scalar (wrap32 c)))/\w'=W):=fun c W=>x0B _ W (x0M c);obtain⟨p1,p2⟩:=N;obtain⟨p3,p4⟩:=J;clear f F;go_enter func78,ntmps78;go_upto_region 7 with(refine(V P).mono ?_;rintro e X ⟨rfl,rfl⟩);clear P;go_cut[3] (fun sv m=>m=X/\sv=.bool okb)
 case first =>
  clear KB KN KW ab C I U E j p;exact n5a
 case rest =>
  obtain⟨rfl,rfl⟩:=hcut;clear Z a;go_upto_region 8 with fail;go_cut[4] (fun sv m=>m=wc/\∃ob:Bool,sv=.bool ob/\G ob)
  case first =>
   clear KB KN KW ab C U p;by_cases d:lo=hi
   ·have R:=O (V E d);subst d;have i:=O (V I (bits BinOp.and IntKind.i64 lo 2097151));generalize Cn.scalar (wrap32 (bits BinOp.and IntKind.i64 lo 2097151))=k at *;clear E j I;exact i3H
   ·have R:=O (V j d);clear E j I;exact m6U
  case rest =>
   obtain⟨rfl,ob,rfl,r⟩:=hcut;have Q:=O (V p ob r);clear E j p r I M D;rcases V A with rfl | rfl;have L:=V ab rfl;subst L;have B:=O (fun W h=>V KB W false false true false false h);generalize bq false false true false false=b1 at *;have KZ:=KN;generalize nb=z at *;rotate_left;have L:=V C rfl;subst L;have B:=O (fun W h=>V KB W false false false false true h);generalize bq false false false false true=b1 at *;have KZ:=KW;generalize wb=z at *
   all_goals
    cases okb with
    | false =>
     clear B Q U;exact E0g
    | true =>
     obtain rfl:=V Q rfl;clear Q;go_wp2_with fail;refine c1m (V B _ (V x)) fun w2 H=>?_;obtain⟨y0,y1,y2,y3,y4,y5,y6,y7⟩:=(V U).keep H;have T:=O (bthen (V x) H);clear B U x H g S x2 x3 x4 x5 u x7
     cases b1 with
     | false =>
      go_wp2;go_ret;exact⟨rfl,V T⟩
     | true =>
      go_wp2_with fail;refine(V KZ _).mono ?_;exact M5E
