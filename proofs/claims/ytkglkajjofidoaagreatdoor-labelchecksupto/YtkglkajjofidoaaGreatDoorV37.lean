/- Rwd7 -/
import Derived.Test.YtkglkajjofidoaaGreatDoorV21
import Derived.Deep.DeepCutAuto
import Derived.Laws.BitsLemmas
set_option maxHeartbeats 8000000
set_option maxRecDepth 8000
namespace Go.Proofs.YtkglkajjofidoaaGreatDoor
open Go.Proofs.Tryz
open Go.RowKit
theorem rwg_g (kd lo hi n:Int) (ad:kd=10) (ao:Option Addr) (tl tc:Nat) (nm ot:ByteArray) (wt:Nat) (w:World) (aC:I64 lo) (aB:I64 hi) (hn:I64 n) (ac af:Bool) (av:Int) (aq:Hid (ac=decide (0<=lo/\lo<=hi/\hi<=1114111))) (ae:Hid (ac=true->af=(decide (lo=hi) && Cn.scalar lo))) (bq:Bool->Bool->Bool->Bool->Bool->Bool) (KB:Hid (∀ W f1 f2 f3 f4 f5,Bw w W->Calls prog 97 #[.agg #[.int .i64 kd,.int .i64 lo,.int .i64 hi,.int .i64 n,.slice ao tl tc,.string nm,.string ot,.float .f64 wt],.bool f1,.bool f2,.bool f3,.bool f4,.bool f5] W (x0d W (bq f1 f2 f3 f4 f5)))) (ar:Bool) (aa:Hid (ar=true->0<=n/\n<=5)) (ab:Hid (ar=false->n<0\/5<n)) (an:Hid (kd=10->av=ansG (ac && (bq true false false false false && ar)))):Calls prog 60 #[.agg #[.int .i64 kd,.int .i64 lo,.int .i64 hi,.int .i64 n,.slice ao tl tc,.string nm,.string ot,.float .f64 wt]] w (IntB w av):=by
 obtain ⟨G,hG⟩:∃ G:Bool->Prop,∀ ob,G ob↔(ac=true->ob=af):=⟨_,fun _=>Iff.rfl⟩;have H1:Hid (0<=lo->lo<=hi->hi<=1114111->true=ac):=fun c1 c2 c3=>(by rw [V aq,d0t ⟨c1,c2,c3⟩]);have H2:Hid (¬ (0<=lo/\lo<=hi/\hi<=1114111)->false=ac):=fun c=>by rw [V aq,d0f c]
 have H3:Hid (lo=hi->G (Cn.scalar (wrap32 (bits BinOp.and IntKind.i64 lo 2097151)))):=fun hlh=>(hG _).2 fun h=>by
  have h1:=o0d ((V aq).symm.trans h);rw [V ae h,x0R h1.1 (by omega),d0t hlh,Bool.true_and]
 have H4:Hid (¬ lo=hi->G false):=fun hlh=>(hG _).2 fun h=>(by rw [V ae h,d0f hlh,Bool.false_and]);have H5:Hid (∀ ob,G ob->ac=true->ob=af):=fun ob=>(hG ob).1;clear aq ae hG;obtain ⟨W0,ap,ax,aw⟩:=x0I w kd lo hi n (.slice ao tl tc) nm ot wt;have ag:=O ax;obtain ⟨x0,x1,x2,x3,x4,x5,x6,x7⟩:=ax;have HB:=O aw;have ay:I64 kd:=(by rcases ad with rfl <;> exact ⟨by omega,by omega⟩);have au:(kd==15)=false:=(by rcases ad with rfl <;> rfl);have KF:=O (x0l kd W0 ay);have aA:(Cn.fam kd==0)=false:=(by rcases ad with rfl <;> rfl);replace ad:=O ad;generalize Cn.fam kd=fm at *;have KV:Hid (∀ c W,Calls prog 100 #[.int .i32 (wrap32 c)] W fun e w'=>e=.returned (.bool (Cn.scalar (wrap32 c)))/\w'=W):=fun c W=>x0v _ W (x0F c);obtain ⟨p1,p2⟩:=aC;obtain ⟨p3,p4⟩:=aB;clear aw ay;go_enter func60,ntmps60;go_upto_region 7 with (refine (V KF).mono ?_; rintro e W0 ⟨rfl,rfl⟩);clear KF;go_cut [3] (fun sv wx=>wx=W0/\sv=.bool ac)
 case first =>
  clear KB aa ab an KV ag H3 H4 H5;by_cases c1:0<=lo
  ·by_cases c2:lo<=hi
   ·by_cases c3:hi<=1114111
    ·have HE:=O (V H1 c1 c2 c3);clear H1 H2;go_wp2
     go_meet
     case rel=>exact ⟨by first | rfl | exact ap,congrArg Value.bool (V HE)⟩
    ·have HE:=O (V H2 fun h=>c3 h.2.2);clear H1 H2;go_wp2
     go_meet
     case rel=>exact ⟨by first | rfl | exact ap,congrArg Value.bool (V HE)⟩
   ·have HE:=O (V H2 fun h=>c2 h.2.1);clear H1 H2;go_wp2
    go_meet
    case rel=>exact ⟨by first | rfl | exact ap,congrArg Value.bool (V HE)⟩
  ·have HE:=O (V H2 fun h=>c1 h.1);clear H1 H2;go_wp2
   go_meet
   case rel=>exact ⟨by first | rfl | exact ap,congrArg Value.bool (V HE)⟩
 case rest =>
  obtain ⟨rfl,rfl⟩:=hcut;clear H1 H2;go_upto_region 8 with fail;go_cut [4] (fun sv wx=>wx=wc/\∃ ob:Bool,sv=.bool ob/\G ob)
  case first =>
   clear KB aa ab an ag H5;by_cases hlh:lo=hi
   ·have HV:=O (V H3 hlh);subst hlh;have K1:=O (V KV (bits BinOp.and IntKind.i64 lo 2097151));generalize Cn.scalar (wrap32 (bits BinOp.and IntKind.i64 lo 2097151))=sb at *;clear H3 H4 KV;go_wp2_with fail;refine (V K1 _).mono ?_;rintro e w1 ⟨rfl,rfl⟩;clear K1;go_wp2
    go_meet
    case rel=>exact ⟨by first | rfl | trivial,sb,rfl,V HV⟩
   ·have HV:=O (V H4 hlh);clear H3 H4 KV;go_wp2
    go_meet
    case rel=>exact ⟨by first | rfl | trivial,false,rfl,V HV⟩
  case rest =>
   obtain ⟨rfl,ob,rfl,az⟩:=hcut;have am:=O (V H5 ob az);clear H3 H4 H5 az KV au aA;rcases V ad with rfl
   ·have HR:=V an rfl;subst HR;have ak:=O (fun W h=>V KB W true false false false false h);generalize bq true false false false false=b1 at *;clear KB ad an
    cases ac with
    | false =>
     clear ak aa ab am ag;go_wp2;go_ret;exact ⟨rfl,V HB⟩
    | true =>
     obtain rfl:=V am rfl;clear am;go_wp2_with fail;refine (V ak _ (V HB)).mono ?_;rintro e w2 ⟨rfl,al⟩;obtain ⟨y0,y1,y2,y3,y4,y5,y6,y7⟩:=(V ag).keep al;have ah:=O (x0b (V HB) al);clear ak ag HB al x0 x1 x2 x3 x4 x5 x6 x7
     cases b1 with
     | false =>
      clear aa ab;go_wp2;go_ret;exact ⟨rfl,V ah⟩
     | true =>
      obtain ⟨n1,n2⟩:=hn
      cases ar with
      | true =>
       obtain ⟨c1,c2⟩:=V aa rfl;clear aa ab;go_wp2;go_ret;exact ⟨rfl,V ah⟩
      | false =>
       have c0:=V ab rfl;clear aa ab;rcases c0 with c0 | c0
       ·have d1:decide (0<=n)=false:=d0f (by omega);go_wp2;go_ret;exact ⟨rfl,V ah⟩
       ·have c1:0<=n:=(by omega);have d2:decide (n<=5)=false:=d0f (by omega);go_wp2;go_ret;exact ⟨rfl,V ah⟩
theorem z2q (kd lo hi n:Int) (ad:kd=12\/kd=14) (ao:Option Addr) (tl tc:Nat) (nm ot:ByteArray) (wt:Nat) (w:World) (aC:I64 lo) (aB:I64 hi) (ac af:Bool) (av:Int) (aq:Hid (ac=decide (0<=lo/\lo<=hi/\hi<=1114111))) (ae:Hid (ac=true->af=(decide (lo=hi) && Cn.scalar lo))) (bq:Bool->Bool->Bool->Bool->Bool->Bool) (KB:Hid (∀ W f1 f2 f3 f4 f5,Bw w W->Calls prog 97 #[.agg #[.int .i64 kd,.int .i64 lo,.int .i64 hi,.int .i64 n,.slice ao tl tc,.string nm,.string ot,.float .f64 wt],.bool f1,.bool f2,.bool f3,.bool f4,.bool f5] W (x0d W (bq f1 f2 f3 f4 f5)))) (nb:Bool) (KN:Hid (∀ W,Calls prog 98 #[.string nm] W fun e w'=>e=.returned (.bool nb)/\w'=W)) (wb:Bool) (KW:Hid (∀ W,Calls prog 99 #[.float .f64 wt] W fun e w'=>e=.returned (.bool wb)/\w'=W)) (ai:Hid (kd=12->av=ansG (ac && (bq false false true false false && nb)))) (aj:Hid (kd=14->av=ansG (ac && (bq false false false false true && wb)))):Calls prog 60 #[.agg #[.int .i64 kd,.int .i64 lo,.int .i64 hi,.int .i64 n,.slice ao tl tc,.string nm,.string ot,.float .f64 wt]] w (IntB w av):=by
 obtain ⟨G,hG⟩:∃ G:Bool->Prop,∀ ob,G ob↔(ac=true->ob=af):=⟨_,fun _=>Iff.rfl⟩;have H1:Hid (0<=lo->lo<=hi->hi<=1114111->true=ac):=fun c1 c2 c3=>(by rw [V aq,d0t ⟨c1,c2,c3⟩]);have H2:Hid (¬ (0<=lo/\lo<=hi/\hi<=1114111)->false=ac):=fun c=>by rw [V aq,d0f c]
 have H3:Hid (lo=hi->G (Cn.scalar (wrap32 (bits BinOp.and IntKind.i64 lo 2097151)))):=fun hlh=>(hG _).2 fun h=>by
  have h1:=o0d ((V aq).symm.trans h);rw [V ae h,x0R h1.1 (by omega),d0t hlh,Bool.true_and]
 have H4:Hid (¬ lo=hi->G false):=fun hlh=>(hG _).2 fun h=>(by rw [V ae h,d0f hlh,Bool.false_and]);have H5:Hid (∀ ob,G ob->ac=true->ob=af):=fun ob=>(hG ob).1;clear aq ae hG;obtain ⟨W0,ap,ax,aw⟩:=x0I w kd lo hi n (.slice ao tl tc) nm ot wt;have ag:=O ax;obtain ⟨x0,x1,x2,x3,x4,x5,x6,x7⟩:=ax;have HB:=O aw;have ay:I64 kd:=(by rcases ad with rfl | rfl <;> exact ⟨by omega,by omega⟩);have au:(kd==15)=false:=(by rcases ad with rfl | rfl <;> rfl);have KF:=O (x0l kd W0 ay);have aA:(Cn.fam kd==0)=false:=(by rcases ad with rfl | rfl <;> rfl);replace ad:=O ad;generalize Cn.fam kd=fm at *;have KV:Hid (∀ c W,Calls prog 100 #[.int .i32 (wrap32 c)] W fun e w'=>e=.returned (.bool (Cn.scalar (wrap32 c)))/\w'=W):=fun c W=>x0v _ W (x0F c);obtain ⟨p1,p2⟩:=aC;obtain ⟨p3,p4⟩:=aB;clear aw ay;go_enter func60,ntmps60;go_upto_region 7 with (refine (V KF).mono ?_; rintro e W0 ⟨rfl,rfl⟩);clear KF;go_cut [3] (fun sv wx=>wx=W0/\sv=.bool ac)
 case first =>
  clear KB KN KW ai aj KV ag H3 H4 H5;by_cases c1:0<=lo
  ·by_cases c2:lo<=hi
   ·by_cases c3:hi<=1114111
    ·have HE:=O (V H1 c1 c2 c3);clear H1 H2;go_wp2
     go_meet
     case rel=>exact ⟨by first | rfl | exact ap,congrArg Value.bool (V HE)⟩
    ·have HE:=O (V H2 fun h=>c3 h.2.2);clear H1 H2;go_wp2
     go_meet
     case rel=>exact ⟨by first | rfl | exact ap,congrArg Value.bool (V HE)⟩
   ·have HE:=O (V H2 fun h=>c2 h.2.1);clear H1 H2;go_wp2
    go_meet
    case rel=>exact ⟨by first | rfl | exact ap,congrArg Value.bool (V HE)⟩
  ·have HE:=O (V H2 fun h=>c1 h.1);clear H1 H2;go_wp2
   go_meet
   case rel=>exact ⟨by first | rfl | exact ap,congrArg Value.bool (V HE)⟩
 case rest =>
  obtain ⟨rfl,rfl⟩:=hcut;clear H1 H2;go_upto_region 8 with fail;go_cut [4] (fun sv wx=>wx=wc/\∃ ob:Bool,sv=.bool ob/\G ob)
  case first =>
   clear KB KN KW ai aj ag H5;by_cases hlh:lo=hi
   ·have HV:=O (V H3 hlh);subst hlh;have K1:=O (V KV (bits BinOp.and IntKind.i64 lo 2097151));generalize Cn.scalar (wrap32 (bits BinOp.and IntKind.i64 lo 2097151))=sb at *;clear H3 H4 KV;go_wp2_with fail;refine (V K1 _).mono ?_;rintro e w1 ⟨rfl,rfl⟩;clear K1;go_wp2
    go_meet
    case rel=>exact ⟨by first | rfl | trivial,sb,rfl,V HV⟩
   ·have HV:=O (V H4 hlh);clear H3 H4 KV;go_wp2
    go_meet
    case rel=>exact ⟨by first | rfl | trivial,false,rfl,V HV⟩
  case rest =>
   obtain ⟨rfl,ob,rfl,az⟩:=hcut;have am:=O (V H5 ob az);clear H3 H4 H5 az KV au aA;rcases V ad with rfl | rfl
   ·have HR:=V ai rfl;subst HR;have ak:=O (fun W h=>V KB W false false true false false h);generalize bq false false true false false=b1 at *;clear KB ad ai aj KW
    cases ac with
    | false =>
     clear ak KN am ag;go_wp2;go_ret;exact ⟨rfl,V HB⟩
    | true =>
     obtain rfl:=V am rfl;clear am;go_wp2_with fail;refine (V ak _ (V HB)).mono ?_;rintro e w2 ⟨rfl,al⟩;obtain ⟨y0,y1,y2,y3,y4,y5,y6,y7⟩:=(V ag).keep al;have ah:=O (x0b (V HB) al);clear ak ag HB al x0 x1 x2 x3 x4 x5 x6 x7
     cases b1 with
     | false =>
      clear KN;go_wp2;go_ret;exact ⟨rfl,V ah⟩
     | true =>
      go_wp2_with fail;refine (V KN _).mono ?_;rintro e w3 ⟨rfl,rfl⟩;clear KN
      cases nb with
      | false =>
       go_wp2;go_ret;exact ⟨rfl,V ah⟩
      | true =>
       go_wp2;go_ret;exact ⟨rfl,V ah⟩
   ·have HR:=V aj rfl;subst HR;have ak:=O (fun W h=>V KB W false false false false true h);generalize bq false false false false true=b1 at *;clear KB ad ai aj KN
    cases ac with
    | false =>
     clear ak KW am ag;go_wp2;go_ret;exact ⟨rfl,V HB⟩
    | true =>
     obtain rfl:=V am rfl;clear am;go_wp2_with fail;refine (V ak _ (V HB)).mono ?_;rintro e w2 ⟨rfl,al⟩;obtain ⟨y0,y1,y2,y3,y4,y5,y6,y7⟩:=(V ag).keep al;have ah:=O (x0b (V HB) al);clear ak ag HB al x0 x1 x2 x3 x4 x5 x6 x7
     cases b1 with
     | false =>
      clear KW;go_wp2;go_ret;exact ⟨rfl,V ah⟩
     | true =>
      go_wp2_with fail;refine (V KW _).mono ?_;rintro e w3 ⟨rfl,rfl⟩;clear KW
      cases wb with
      | false =>
       go_wp2;go_ret;exact ⟨rfl,V ah⟩
      | true =>
       go_wp2;go_ret;exact ⟨rfl,V ah⟩
