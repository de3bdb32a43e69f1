/- Rwb7 -/
import Derived.Test.YtkglkajjofidoaaGreatDoorV21
import Derived.Deep.DeepCutAuto
import Derived.Laws.BitsLemmas
set_option maxHeartbeats 8000000
set_option maxRecDepth 8000
namespace Go.Proofs.YtkglkajjofidoaaGreatDoor
open Go.Proofs.Tryz
open Go.RowKit
theorem z2n (kd lo hi n:Int) (ai:kd=5\/kd=13) (ao:Option Addr) (tl tc:Nat) (nm ot:ByteArray) (wt:Nat) (w:World) (aA:I64 lo) (az:I64 hi) (ab ac:Bool) (ar:Int) (ap:Hid (ab=decide (0<=lo/\lo<=hi/\hi<=1114111))) (ak:Hid (ab=true->ac=(decide (lo=hi) && Cn.scalar lo))) (bq:Bool->Bool->Bool->Bool->Bool->Bool) (KB:Hid (∀ W f1 f2 f3 f4 f5,Bw w W->Calls prog 97 #[.agg #[.int .i64 kd,.int .i64 lo,.int .i64 hi,.int .i64 n,.slice ao tl tc,.string nm,.string ot,.float .f64 wt],.bool f1,.bool f2,.bool f3,.bool f4,.bool f5] W (x0d W (bq f1 f2 f3 f4 f5)))) (l0:Bool) (ag:Hid (∀ W,Bw w W->Calls prog 101 #[.slice ao tl tc,.int .i64 0,.int .i64 24] W fun e w'=>e=.returned (.bool l0)/\w'=W)) (l1:Bool) (ah:Hid (∀ W,Bw w W->Calls prog 101 #[.slice ao tl tc,.int .i64 1,.int .i64 24] W fun e w'=>e=.returned (.bool l1)/\w'=W)) (am:Hid (kd=5->ar=ansG (ab && (ac && bq false true false false false && l0)))) (aa:Hid (kd=13->ar=ansG (ab && (ac && bq false true false false false && l1)))):Calls prog 60 #[.agg #[.int .i64 kd,.int .i64 lo,.int .i64 hi,.int .i64 n,.slice ao tl tc,.string nm,.string ot,.float .f64 wt]] w (IntB w ar):=by
 obtain ⟨G,hG⟩:∃ G:Bool->Prop,∀ ob,G ob↔(ab=true->ob=ac):=⟨_,fun _=>Iff.rfl⟩;have H1:Hid (0<=lo->lo<=hi->hi<=1114111->true=ab):=fun c1 c2 c3=>(by rw [V ap,d0t ⟨c1,c2,c3⟩]);have H2:Hid (¬ (0<=lo/\lo<=hi/\hi<=1114111)->false=ab):=fun c=>by rw [V ap,d0f c]
 have H3:Hid (lo=hi->G (Cn.scalar (wrap32 (bits BinOp.and IntKind.i64 lo 2097151)))):=fun hlh=>(hG _).2 fun h=>by
  have h1:=o0d ((V ap).symm.trans h);rw [V ak h,x0R h1.1 (by omega),d0t hlh,Bool.true_and]
 have H4:Hid (¬ lo=hi->G false):=fun hlh=>(hG _).2 fun h=>(by rw [V ak h,d0f hlh,Bool.false_and]);have H5:Hid (∀ ob,G ob->ab=true->ob=ac):=fun ob=>(hG ob).1;clear ap ak hG;obtain ⟨W0,an,av,au⟩:=x0I w kd lo hi n (.slice ao tl tc) nm ot wt;have ad:=O av;obtain ⟨x0,x1,x2,x3,x4,x5,x6,x7⟩:=av;have HB:=O au;have aw:I64 kd:=(by rcases ai with rfl | rfl <;> exact ⟨by omega,by omega⟩);have aq:(kd==15)=false:=(by rcases ai with rfl | rfl <;> rfl);have KF:=O (x0l kd W0 aw);have ay:(Cn.fam kd==0)=false:=(by rcases ai with rfl | rfl <;> rfl);replace ai:=O ai;generalize Cn.fam kd=fm at *;have KV:Hid (∀ c W,Calls prog 100 #[.int .i32 (wrap32 c)] W fun e w'=>e=.returned (.bool (Cn.scalar (wrap32 c)))/\w'=W):=fun c W=>x0v _ W (x0F c);obtain ⟨p1,p2⟩:=aA;obtain ⟨p3,p4⟩:=az;clear au aw;go_enter func60,ntmps60;go_upto_region 7 with (refine (V KF).mono ?_; rintro e W0 ⟨rfl,rfl⟩);clear KF;go_cut [3] (fun sv wx=>wx=W0/\sv=.bool ab)
 case first =>
  clear KB ag ah am aa KV ad H3 H4 H5;by_cases c1:0<=lo
  ·by_cases c2:lo<=hi
   ·by_cases c3:hi<=1114111
    ·have HE:=O (V H1 c1 c2 c3);clear H1 H2;go_wp2
     go_meet
     case rel=>exact ⟨by first | rfl | exact an,congrArg Value.bool (V HE)⟩
    ·have HE:=O (V H2 fun h=>c3 h.2.2);clear H1 H2;go_wp2
     go_meet
     case rel=>exact ⟨by first | rfl | exact an,congrArg Value.bool (V HE)⟩
   ·have HE:=O (V H2 fun h=>c2 h.2.1);clear H1 H2;go_wp2
    go_meet
    case rel=>exact ⟨by first | rfl | exact an,congrArg Value.bool (V HE)⟩
  ·have HE:=O (V H2 fun h=>c1 h.1);clear H1 H2;go_wp2
   go_meet
   case rel=>exact ⟨by first | rfl | exact an,congrArg Value.bool (V HE)⟩
 case rest =>
  obtain ⟨rfl,rfl⟩:=hcut;clear H1 H2;go_upto_region 8 with fail;go_cut [4] (fun sv wx=>wx=wc/\∃ ob:Bool,sv=.bool ob/\G ob)
  case first =>
   clear KB ag ah am aa ad H5;by_cases hlh:lo=hi
   ·have HV:=O (V H3 hlh);subst hlh;have K1:=O (V KV (bits BinOp.and IntKind.i64 lo 2097151));generalize Cn.scalar (wrap32 (bits BinOp.and IntKind.i64 lo 2097151))=sb at *;clear H3 H4 KV;go_wp2_with fail;refine (V K1 _).mono ?_;rintro e w1 ⟨rfl,rfl⟩;clear K1;go_wp2
    go_meet
    case rel=>exact ⟨by first | rfl | trivial,sb,rfl,V HV⟩
   ·have HV:=O (V H4 hlh);clear H3 H4 KV;go_wp2
    go_meet
    case rel=>exact ⟨by first | rfl | trivial,false,rfl,V HV⟩
  case rest =>
   obtain ⟨rfl,ob,rfl,ax⟩:=hcut;have al:=O (V H5 ob ax);clear H3 H4 H5 ax KV aq ay;rcases V ai with rfl | rfl
   ·have HR:=V am rfl;subst HR;have af:=O (fun W h=>V KB W false true false false false h);generalize bq false true false false false=b1 at *;clear KB ai am aa ah
    cases ab with
    | false =>
     clear af ag al ad;go_wp2;go_ret;exact ⟨rfl,V HB⟩
    | true =>
     obtain rfl:=V al rfl;clear al
     cases ob with
     | false =>
      clear af ag ad;go_wp2;go_ret;exact ⟨rfl,V HB⟩
     | true =>
      go_wp2_with fail;refine (V af _ (V HB)).mono ?_;rintro e w2 ⟨rfl,aj⟩;obtain ⟨y0,y1,y2,y3,y4,y5,y6,y7⟩:=(V ad).keep aj;have ae:=O (x0b (V HB) aj);clear af ad HB aj x0 x1 x2 x3 x4 x5 x6 x7
      cases b1 with
      | false =>
       clear ag;go_wp2;go_ret;exact ⟨rfl,V ae⟩
      | true =>
       go_wp2_with fail;refine (V ag _ (V ae)).mono ?_;rintro e w3 ⟨rfl,rfl⟩;clear ag
       cases l0 with
       | false =>
        go_wp2;go_ret;exact ⟨rfl,V ae⟩
       | true =>
        go_wp2;go_ret;exact ⟨rfl,V ae⟩
   ·have HR:=V aa rfl;subst HR;have af:=O (fun W h=>V KB W false true false false false h);generalize bq false true false false false=b1 at *;clear KB ai am aa ag
    cases ab with
    | false =>
     clear af ah al ad;go_wp2;go_ret;exact ⟨rfl,V HB⟩
    | true =>
     obtain rfl:=V al rfl;clear al
     cases ob with
     | false =>
      clear af ah ad;go_wp2;go_ret;exact ⟨rfl,V HB⟩
     | true =>
      go_wp2_with fail;refine (V af _ (V HB)).mono ?_;rintro e w2 ⟨rfl,aj⟩;obtain ⟨y0,y1,y2,y3,y4,y5,y6,y7⟩:=(V ad).keep aj;have ae:=O (x0b (V HB) aj);clear af ad HB aj x0 x1 x2 x3 x4 x5 x6 x7
      cases b1 with
      | false =>
       clear ah;go_wp2;go_ret;exact ⟨rfl,V ae⟩
      | true =>
       go_wp2_with fail;refine (V ah _ (V ae)).mono ?_;rintro e w3 ⟨rfl,rfl⟩;clear ah
       cases l1 with
       | false =>
        go_wp2;go_ret;exact ⟨rfl,V ae⟩
       | true =>
        go_wp2;go_ret;exact ⟨rfl,V ae⟩
