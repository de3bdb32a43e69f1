/- Rwf7 -/
import Derived.Test.YtkglkajjofidoaaGreatDoorV21
import Derived.Deep.DeepCutAuto
import Derived.Laws.BitsLemmas
set_option maxHeartbeats 8000000
set_option maxRecDepth 8000
namespace Go.Proofs.YtkglkajjofidoaaGreatDoor
open Go.Proofs.Tryz
open Go.RowKit
theorem z2p (kd lo hi n:Int) (ah:kd=6\/kd=9) (ao:Option Addr) (tl tc:Nat) (nm ot:ByteArray) (wt:Nat) (w:World) (aE:I64 lo) (aD:I64 hi) (hn:I64 n) (ae al:Bool) (ax:Int) (ar:Hid (ae=decide (0<=lo/\lo<=hi/\hi<=1114111))) (ak:Hid (ae=true->al=(decide (lo=hi) && Cn.scalar lo))) (bq:Bool->Bool->Bool->Bool->Bool->Bool) (KB:Hid (∀ W f1 f2 f3 f4 f5,Bw w W->Calls prog 97 #[.agg #[.int .i64 kd,.int .i64 lo,.int .i64 hi,.int .i64 n,.slice ao tl tc,.string nm,.string ot,.float .f64 wt],.bool f1,.bool f2,.bool f3,.bool f4,.bool f5] W (x0d W (bq f1 f2 f3 f4 f5)))) (au:Bool) (aa:Hid (au=true->1<=n/\n<=254)) (ac:Hid (au=false->n<1\/254<n)) (av:Bool) (ab:Hid (av=true->0<=n/\n<=10)) (ad:Hid (av=false->n<0\/10<n)) (an:Hid (kd=6->ax=ansG (ae && (bq true false false false false && au)))) (ap:Hid (kd=9->ax=ansG (ae && (bq true false false false false && av)))):Calls prog 60 #[.agg #[.int .i64 kd,.int .i64 lo,.int .i64 hi,.int .i64 n,.slice ao tl tc,.string nm,.string ot,.float .f64 wt]] w (IntB w ax):=by
 obtain ⟨G,hG⟩:∃ G:Bool->Prop,∀ ob,G ob↔(ae=true->ob=al):=⟨_,fun _=>Iff.rfl⟩;have H1:Hid (0<=lo->lo<=hi->hi<=1114111->true=ae):=fun c1 c2 c3=>(by rw [V ar,d0t ⟨c1,c2,c3⟩]);have H2:Hid (¬ (0<=lo/\lo<=hi/\hi<=1114111)->false=ae):=fun c=>by rw [V ar,d0f c]
 have H3:Hid (lo=hi->G (Cn.scalar (wrap32 (bits BinOp.and IntKind.i64 lo 2097151)))):=fun hlh=>(hG _).2 fun h=>by
  have h1:=o0d ((V ar).symm.trans h);rw [V ak h,x0R h1.1 (by omega),d0t hlh,Bool.true_and]
 have H4:Hid (¬ lo=hi->G false):=fun hlh=>(hG _).2 fun h=>(by rw [V ak h,d0f hlh,Bool.false_and]);have H5:Hid (∀ ob,G ob->ae=true->ob=al):=fun ob=>(hG ob).1;clear ar ak hG;obtain ⟨W0,aq,az,ay⟩:=x0I w kd lo hi n (.slice ao tl tc) nm ot wt;have ag:=O az;obtain ⟨x0,x1,x2,x3,x4,x5,x6,x7⟩:=az;have HB:=O ay;have aA:I64 kd:=(by rcases ah with rfl | rfl <;> exact ⟨by omega,by omega⟩);have aw:(kd==15)=false:=(by rcases ah with rfl | rfl <;> rfl);have KF:=O (x0l kd W0 aA);have aC:(Cn.fam kd==0)=false:=(by rcases ah with rfl | rfl <;> rfl);replace ah:=O ah;generalize Cn.fam kd=fm at *;have KV:Hid (∀ c W,Calls prog 100 #[.int .i32 (wrap32 c)] W fun e w'=>e=.returned (.bool (Cn.scalar (wrap32 c)))/\w'=W):=fun c W=>x0v _ W (x0F c);obtain ⟨p1,p2⟩:=aE;obtain ⟨p3,p4⟩:=aD;clear ay aA;go_enter func60,ntmps60;go_upto_region 7 with (refine (V KF).mono ?_; rintro e W0 ⟨rfl,rfl⟩);clear KF;go_cut [3] (fun sv wx=>wx=W0/\sv=.bool ae)
 case first =>
  clear KB aa ac ab ad an ap KV ag H3 H4 H5;by_cases c1:0<=lo
  ·by_cases c2:lo<=hi
   ·by_cases c3:hi<=1114111
    ·have HE:=O (V H1 c1 c2 c3);clear H1 H2;go_wp2
     go_meet
     case rel=>exact ⟨by first | rfl | exact aq,congrArg Value.bool (V HE)⟩
    ·have HE:=O (V H2 fun h=>c3 h.2.2);clear H1 H2;go_wp2
     go_meet
     case rel=>exact ⟨by first | rfl | exact aq,congrArg Value.bool (V HE)⟩
   ·have HE:=O (V H2 fun h=>c2 h.2.1);clear H1 H2;go_wp2
    go_meet
    case rel=>exact ⟨by first | rfl | exact aq,congrArg Value.bool (V HE)⟩
  ·have HE:=O (V H2 fun h=>c1 h.1);clear H1 H2;go_wp2
   go_meet
   case rel=>exact ⟨by first | rfl | exact aq,congrArg Value.bool (V HE)⟩
 case rest =>
  obtain ⟨rfl,rfl⟩:=hcut;clear H1 H2;go_upto_region 8 with fail;go_cut [4] (fun sv wx=>wx=wc/\∃ ob:Bool,sv=.bool ob/\G ob)
  case first =>
   clear KB aa ac ab ad an ap ag H5;by_cases hlh:lo=hi
   ·have HV:=O (V H3 hlh);subst hlh;have K1:=O (V KV (bits BinOp.and IntKind.i64 lo 2097151));generalize Cn.scalar (wrap32 (bits BinOp.and IntKind.i64 lo 2097151))=sb at *;clear H3 H4 KV;go_wp2_with fail;refine (V K1 _).mono ?_;rintro e w1 ⟨rfl,rfl⟩;clear K1;go_wp2
    go_meet
    case rel=>exact ⟨by first | rfl | trivial,sb,rfl,V HV⟩
   ·have HV:=O (V H4 hlh);clear H3 H4 KV;go_wp2
    go_meet
    case rel=>exact ⟨by first | rfl | trivial,false,rfl,V HV⟩
  case rest =>
   obtain ⟨rfl,ob,rfl,aB⟩:=hcut;have am:=O (V H5 ob aB);clear H3 H4 H5 aB KV aw aC;rcases V ah with rfl | rfl
   ·have HR:=V an rfl;subst HR;have ai:=O (fun W h=>V KB W true false false false false h);generalize bq true false false false false=b1 at *;clear KB ah an ap ab ad
    cases ae with
    | false =>
     clear ai aa ac am ag;go_wp2;go_ret;exact ⟨rfl,V HB⟩
    | true =>
     obtain rfl:=V am rfl;clear am;go_wp2_with fail;refine (V ai _ (V HB)).mono ?_;rintro e w2 ⟨rfl,aj⟩;obtain ⟨y0,y1,y2,y3,y4,y5,y6,y7⟩:=(V ag).keep aj;have af:=O (x0b (V HB) aj);clear ai ag HB aj x0 x1 x2 x3 x4 x5 x6 x7
     cases b1 with
     | false =>
      clear aa ac;go_wp2;go_ret;exact ⟨rfl,V af⟩
     | true =>
      obtain ⟨n1,n2⟩:=hn
      cases au with
      | true =>
       obtain ⟨c1,c2⟩:=V aa rfl;clear aa ac;go_wp2;go_ret;exact ⟨rfl,V af⟩
      | false =>
       have c0:=V ac rfl;clear aa ac;rcases c0 with c0 | c0
       ·have d1:decide (1<=n)=false:=d0f (by omega);go_wp2;go_ret;exact ⟨rfl,V af⟩
       ·have c1:1<=n:=(by omega);have d2:decide (n<=254)=false:=d0f (by omega);go_wp2;go_ret;exact ⟨rfl,V af⟩
   ·have HR:=V ap rfl;subst HR;have ai:=O (fun W h=>V KB W true false false false false h);generalize bq true false false false false=b1 at *;clear KB ah an ap aa ac
    cases ae with
    | false =>
     clear ai ab ad am ag;go_wp2;go_ret;exact ⟨rfl,V HB⟩
    | true =>
     obtain rfl:=V am rfl;clear am;go_wp2_with fail;refine (V ai _ (V HB)).mono ?_;rintro e w2 ⟨rfl,aj⟩;obtain ⟨y0,y1,y2,y3,y4,y5,y6,y7⟩:=(V ag).keep aj;have af:=O (x0b (V HB) aj);clear ai ag HB aj x0 x1 x2 x3 x4 x5 x6 x7
     cases b1 with
     | false =>
      clear ab ad;go_wp2;go_ret;exact ⟨rfl,V af⟩
     | true =>
      obtain ⟨n1,n2⟩:=hn
      cases av with
      | true =>
       obtain ⟨c1,c2⟩:=V ab rfl;clear ab ad;go_wp2;go_ret;exact ⟨rfl,V af⟩
      | false =>
       have c0:=V ad rfl;clear ab ad;rcases c0 with c0 | c0
       ·have d1:decide (0<=n)=false:=d0f (by omega);go_wp2;go_ret;exact ⟨rfl,V af⟩
       ·have c1:0<=n:=(by omega);have d2:decide (n<=10)=false:=d0f (by omega);go_wp2;go_ret;exact ⟨rfl,V af⟩
