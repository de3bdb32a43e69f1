/- Rwa7 -/
import Derived.Test.YtkglkajjofidoaaGreatDoorV21
import Derived.Deep.DeepCutAuto
import Derived.Laws.BitsLemmas
set_option maxHeartbeats 8000000
set_option maxRecDepth 8000
namespace Go.Proofs.YtkglkajjofidoaaGreatDoor
open Go.Proofs.Tryz
open Go.RowKit
theorem z2l (kd lo hi n:Int) (ac:kd=1\/kd=2) (ao:Option Addr) (tl tc:Nat) (nm ot:ByteArray) (wt:Nat) (w:World) (aB:I64 lo) (aA:I64 hi) (aa ag:Bool) (ap:Int) (al:Hid (aa=decide (0<=lo/\lo<=hi/\hi<=1114111))) (af:Hid (aa=true->ag=(decide (lo=hi) && Cn.scalar lo))) (bq:Bool->Bool->Bool->Bool->Bool->Bool) (KB:Hid (∀ W f1 f2 f3 f4 f5,Bw w W->Calls prog 97 #[.agg #[.int .i64 kd,.int .i64 lo,.int .i64 hi,.int .i64 n,.slice ao tl tc,.string nm,.string ot,.float .f64 wt],.bool f1,.bool f2,.bool f3,.bool f4,.bool f5] W (x0d W (bq f1 f2 f3 f4 f5)))) (aq:Hid (kd=1->ap=ansG (aa && (bq false false false false false)))) (ar:Hid (kd=2->ap=ansG (aa && (bq false false false false false)))):Calls prog 60 #[.agg #[.int .i64 kd,.int .i64 lo,.int .i64 hi,.int .i64 n,.slice ao tl tc,.string nm,.string ot,.float .f64 wt]] w (IntB w ap):=by
 obtain ⟨G,hG⟩:∃ G:Bool->Prop,∀ ob,G ob↔(aa=true->ob=ag):=⟨_,fun _=>Iff.rfl⟩;have H1:Hid (0<=lo->lo<=hi->hi<=1114111->true=aa):=fun c1 c2 c3=>(by rw [V al,d0t ⟨c1,c2,c3⟩]);have H2:Hid (¬ (0<=lo/\lo<=hi/\hi<=1114111)->false=aa):=fun c=>by rw [V al,d0f c]
 have H3:Hid (lo=hi->G (Cn.scalar (wrap32 (bits BinOp.and IntKind.i64 lo 2097151)))):=fun hlh=>(hG _).2 fun h=>by
  have h1:=o0d ((V al).symm.trans h);rw [V af h,x0R h1.1 (by omega),d0t hlh,Bool.true_and]
 have H4:Hid (¬ lo=hi->G false):=fun hlh=>(hG _).2 fun h=>(by rw [V af h,d0f hlh,Bool.false_and]);have H5:Hid (∀ ob,G ob->aa=true->ob=ag):=fun ob=>(hG ob).1;clear al af hG;obtain ⟨W0,ak,aw,av⟩:=x0I w kd lo hi n (.slice ao tl tc) nm ot wt;have ab:=O aw;obtain ⟨x0,x1,x2,x3,x4,x5,x6,x7⟩:=aw;have HB:=O av;have ax:I64 kd:=(by rcases ac with rfl | rfl <;> exact ⟨by omega,by omega⟩);have an:(kd==15)=false:=(by rcases ac with rfl | rfl <;> rfl);have KF:=O (x0l kd W0 ax);have az:(Cn.fam kd==0)=false:=(by rcases ac with rfl | rfl <;> rfl);replace ac:=O ac;generalize Cn.fam kd=fm at *;have KV:Hid (∀ c W,Calls prog 100 #[.int .i32 (wrap32 c)] W fun e w'=>e=.returned (.bool (Cn.scalar (wrap32 c)))/\w'=W):=fun c W=>x0v _ W (x0F c);obtain ⟨p1,p2⟩:=aB;obtain ⟨p3,p4⟩:=aA;clear av ax;go_enter func60,ntmps60;go_upto_region 7 with (refine (V KF).mono ?_; rintro e W0 ⟨rfl,rfl⟩);clear KF;go_cut [3] (fun sv wx=>wx=W0/\sv=.bool aa)
 case first =>
  clear KB aq ar KV ab H3 H4 H5;by_cases c1:0<=lo
  ·by_cases c2:lo<=hi
   ·by_cases c3:hi<=1114111
    ·have HE:=O (V H1 c1 c2 c3);clear H1 H2;go_wp2
     go_meet
     case rel=>exact ⟨by first | rfl | exact ak,congrArg Value.bool (V HE)⟩
    ·have HE:=O (V H2 fun h=>c3 h.2.2);clear H1 H2;go_wp2
     go_meet
     case rel=>exact ⟨by first | rfl | exact ak,congrArg Value.bool (V HE)⟩
   ·have HE:=O (V H2 fun h=>c2 h.2.1);clear H1 H2;go_wp2
    go_meet
    case rel=>exact ⟨by first | rfl | exact ak,congrArg Value.bool (V HE)⟩
  ·have HE:=O (V H2 fun h=>c1 h.1);clear H1 H2;go_wp2
   go_meet
   case rel=>exact ⟨by first | rfl | exact ak,congrArg Value.bool (V HE)⟩
 case rest =>
  obtain ⟨rfl,rfl⟩:=hcut;clear H1 H2;go_upto_region 8 with fail;go_cut [4] (fun sv wx=>wx=wc/\∃ ob:Bool,sv=.bool ob/\G ob)
  case first =>
   clear KB aq ar ab H5;by_cases hlh:lo=hi
   ·have HV:=O (V H3 hlh);subst hlh;have K1:=O (V KV (bits BinOp.and IntKind.i64 lo 2097151));generalize Cn.scalar (wrap32 (bits BinOp.and IntKind.i64 lo 2097151))=sb at *;clear H3 H4 KV;go_wp2_with fail;refine (V K1 _).mono ?_;rintro e w1 ⟨rfl,rfl⟩;clear K1;go_wp2
    go_meet
    case rel=>exact ⟨by first | rfl | trivial,sb,rfl,V HV⟩
   ·have HV:=O (V H4 hlh);clear H3 H4 KV;go_wp2
    go_meet
    case rel=>exact ⟨by first | rfl | trivial,false,rfl,V HV⟩
  case rest =>
   obtain ⟨rfl,ob,rfl,ay⟩:=hcut;have ai:=O (V H5 ob ay);clear H3 H4 H5 ay KV an az;rcases V ac with rfl | rfl
   ·have HR:=V aq rfl;subst HR;have ad:=O (fun W h=>V KB W false false false false false h);generalize bq false false false false false=b1 at *;clear KB ac aq ar
    cases aa with
    | false =>
     clear ad ai ab;go_wp2;go_ret;exact ⟨rfl,V HB⟩
    | true =>
     obtain rfl:=V ai rfl;clear ai;go_wp2_with fail;refine (V ad _ (V HB)).mono ?_;rintro e w2 ⟨rfl,ae⟩;obtain ⟨y0,y1,y2,y3,y4,y5,y6,y7⟩:=(V ab).keep ae;have ah:=O (x0b (V HB) ae);clear ad ab HB ae x0 x1 x2 x3 x4 x5 x6 x7
     cases b1 with
     | false =>
      go_wp2;go_ret;exact ⟨rfl,V ah⟩
     | true =>
      go_wp2;go_ret;exact ⟨rfl,V ah⟩
   ·have HR:=V ar rfl;subst HR;have ad:=O (fun W h=>V KB W false false false false false h);generalize bq false false false false false=b1 at *;clear KB ac aq ar
    cases aa with
    | false =>
     clear ad ai ab;go_wp2;go_ret;exact ⟨rfl,V HB⟩
    | true =>
     obtain rfl:=V ai rfl;clear ai;go_wp2_with fail;refine (V ad _ (V HB)).mono ?_;rintro e w2 ⟨rfl,ae⟩;obtain ⟨y0,y1,y2,y3,y4,y5,y6,y7⟩:=(V ab).keep ae;have ah:=O (x0b (V HB) ae);clear ad ab HB ae x0 x1 x2 x3 x4 x5 x6 x7
     cases b1 with
     | false =>
      go_wp2;go_ret;exact ⟨rfl,V ah⟩
     | true =>
      go_wp2;go_ret;exact ⟨rfl,V ah⟩
theorem z2m (kd lo hi n:Int) (ac:kd=11\/kd=3) (ao:Option Addr) (tl tc:Nat) (nm ot:ByteArray) (wt:Nat) (w:World) (aB:I64 lo) (aA:I64 hi) (aa ag:Bool) (ap:Int) (al:Hid (aa=decide (0<=lo/\lo<=hi/\hi<=1114111))) (af:Hid (aa=true->ag=(decide (lo=hi) && Cn.scalar lo))) (bq:Bool->Bool->Bool->Bool->Bool->Bool) (KB:Hid (∀ W f1 f2 f3 f4 f5,Bw w W->Calls prog 97 #[.agg #[.int .i64 kd,.int .i64 lo,.int .i64 hi,.int .i64 n,.slice ao tl tc,.string nm,.string ot,.float .f64 wt],.bool f1,.bool f2,.bool f3,.bool f4,.bool f5] W (x0d W (bq f1 f2 f3 f4 f5)))) (l1:Bool) (am:Hid (∀ W,Bw w W->Calls prog 101 #[.slice ao tl tc,.int .i64 1,.int .i64 24] W fun e w'=>e=.returned (.bool l1)/\w'=W)) (aj:Hid (kd=11->ap=ansG (aa && (bq false false false false false)))) (au:Hid (kd=3->ap=ansG (aa && (bq false true false false false && l1)))):Calls prog 60 #[.agg #[.int .i64 kd,.int .i64 lo,.int .i64 hi,.int .i64 n,.slice ao tl tc,.string nm,.string ot,.float .f64 wt]] w (IntB w ap):=by
 obtain ⟨G,hG⟩:∃ G:Bool->Prop,∀ ob,G ob↔(aa=true->ob=ag):=⟨_,fun _=>Iff.rfl⟩;have H1:Hid (0<=lo->lo<=hi->hi<=1114111->true=aa):=fun c1 c2 c3=>(by rw [V al,d0t ⟨c1,c2,c3⟩]);have H2:Hid (¬ (0<=lo/\lo<=hi/\hi<=1114111)->false=aa):=fun c=>by rw [V al,d0f c]
 have H3:Hid (lo=hi->G (Cn.scalar (wrap32 (bits BinOp.and IntKind.i64 lo 2097151)))):=fun hlh=>(hG _).2 fun h=>by
  have h1:=o0d ((V al).symm.trans h);rw [V af h,x0R h1.1 (by omega),d0t hlh,Bool.true_and]
 have H4:Hid (¬ lo=hi->G false):=fun hlh=>(hG _).2 fun h=>(by rw [V af h,d0f hlh,Bool.false_and]);have H5:Hid (∀ ob,G ob->aa=true->ob=ag):=fun ob=>(hG ob).1;clear al af hG;obtain ⟨W0,ak,aw,av⟩:=x0I w kd lo hi n (.slice ao tl tc) nm ot wt;have ab:=O aw;obtain ⟨x0,x1,x2,x3,x4,x5,x6,x7⟩:=aw;have HB:=O av;have ax:I64 kd:=(by rcases ac with rfl | rfl <;> exact ⟨by omega,by omega⟩);have an:(kd==15)=false:=(by rcases ac with rfl | rfl <;> rfl);have KF:=O (x0l kd W0 ax);have az:(Cn.fam kd==0)=false:=(by rcases ac with rfl | rfl <;> rfl);replace ac:=O ac;generalize Cn.fam kd=fm at *;have KV:Hid (∀ c W,Calls prog 100 #[.int .i32 (wrap32 c)] W fun e w'=>e=.returned (.bool (Cn.scalar (wrap32 c)))/\w'=W):=fun c W=>x0v _ W (x0F c);obtain ⟨p1,p2⟩:=aB;obtain ⟨p3,p4⟩:=aA;clear av ax;go_enter func60,ntmps60;go_upto_region 7 with (refine (V KF).mono ?_; rintro e W0 ⟨rfl,rfl⟩);clear KF;go_cut [3] (fun sv wx=>wx=W0/\sv=.bool aa)
 case first =>
  clear KB am aj au KV ab H3 H4 H5;by_cases c1:0<=lo
  ·by_cases c2:lo<=hi
   ·by_cases c3:hi<=1114111
    ·have HE:=O (V H1 c1 c2 c3);clear H1 H2;go_wp2
     go_meet
     case rel=>exact ⟨by first | rfl | exact ak,congrArg Value.bool (V HE)⟩
    ·have HE:=O (V H2 fun h=>c3 h.2.2);clear H1 H2;go_wp2
     go_meet
     case rel=>exact ⟨by first | rfl | exact ak,congrArg Value.bool (V HE)⟩
   ·have HE:=O (V H2 fun h=>c2 h.2.1);clear H1 H2;go_wp2
    go_meet
    case rel=>exact ⟨by first | rfl | exact ak,congrArg Value.bool (V HE)⟩
  ·have HE:=O (V H2 fun h=>c1 h.1);clear H1 H2;go_wp2
   go_meet
   case rel=>exact ⟨by first | rfl | exact ak,congrArg Value.bool (V HE)⟩
 case rest =>
  obtain ⟨rfl,rfl⟩:=hcut;clear H1 H2;go_upto_region 8 with fail;go_cut [4] (fun sv wx=>wx=wc/\∃ ob:Bool,sv=.bool ob/\G ob)
  case first =>
   clear KB am aj au ab H5;by_cases hlh:lo=hi
   ·have HV:=O (V H3 hlh);subst hlh;have K1:=O (V KV (bits BinOp.and IntKind.i64 lo 2097151));generalize Cn.scalar (wrap32 (bits BinOp.and IntKind.i64 lo 2097151))=sb at *;clear H3 H4 KV;go_wp2_with fail;refine (V K1 _).mono ?_;rintro e w1 ⟨rfl,rfl⟩;clear K1;go_wp2
    go_meet
    case rel=>exact ⟨by first | rfl | trivial,sb,rfl,V HV⟩
   ·have HV:=O (V H4 hlh);clear H3 H4 KV;go_wp2
    go_meet
    case rel=>exact ⟨by first | rfl | trivial,false,rfl,V HV⟩
  case rest =>
   obtain ⟨rfl,ob,rfl,ay⟩:=hcut;have ai:=O (V H5 ob ay);clear H3 H4 H5 ay KV an az;rcases V ac with rfl | rfl
   ·have HR:=V aj rfl;subst HR;have ad:=O (fun W h=>V KB W false false false false false h);generalize bq false false false false false=b1 at *;clear KB ac aj au am
    cases aa with
    | false =>
     clear ad ai ab;go_wp2;go_ret;exact ⟨rfl,V HB⟩
    | true =>
     obtain rfl:=V ai rfl;clear ai;go_wp2_with fail;refine (V ad _ (V HB)).mono ?_;rintro e w2 ⟨rfl,ae⟩;obtain ⟨y0,y1,y2,y3,y4,y5,y6,y7⟩:=(V ab).keep ae;have ah:=O (x0b (V HB) ae);clear ad ab HB ae x0 x1 x2 x3 x4 x5 x6 x7
     cases b1 with
     | false =>
      go_wp2;go_ret;exact ⟨rfl,V ah⟩
     | true =>
      go_wp2;go_ret;exact ⟨rfl,V ah⟩
   ·have HR:=V au rfl;subst HR;have ad:=O (fun W h=>V KB W false true false false false h);generalize bq false true false false false=b1 at *;clear KB ac aj au
    cases aa with
    | false =>
     clear ad am ai ab;go_wp2;go_ret;exact ⟨rfl,V HB⟩
    | true =>
     obtain rfl:=V ai rfl;clear ai;go_wp2_with fail;refine (V ad _ (V HB)).mono ?_;rintro e w2 ⟨rfl,ae⟩;obtain ⟨y0,y1,y2,y3,y4,y5,y6,y7⟩:=(V ab).keep ae;have ah:=O (x0b (V HB) ae);clear ad ab HB ae x0 x1 x2 x3 x4 x5 x6 x7
     cases b1 with
     | false =>
      clear am;go_wp2;go_ret;exact ⟨rfl,V ah⟩
     | true =>
      go_wp2_with fail;refine (V am _ (V ah)).mono ?_;rintro e w3 ⟨rfl,rfl⟩;clear am
      cases l1 with
      | false =>
       go_wp2;go_ret;exact ⟨rfl,V ah⟩
      | true =>
       go_wp2;go_ret;exact ⟨rfl,V ah⟩
