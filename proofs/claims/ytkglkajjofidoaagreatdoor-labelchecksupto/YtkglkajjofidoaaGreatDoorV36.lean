/- Rwc7 -/
import Derived.Test.YtkglkajjofidoaaGreatDoorV21
import Derived.Deep.DeepCutAuto
import Derived.Laws.BitsLemmas
set_option maxHeartbeats 8000000
set_option maxRecDepth 8000
namespace Go.Proofs.YtkglkajjofidoaaGreatDoor
open Go.Proofs.Tryz
open Go.RowKit
theorem rwg_e (kd lo hi n:Int) (ai:kd=4) (ao:Option Addr) (tl tc:Nat) (nm ot:ByteArray) (wt:Nat) (w:World) (aE:I64 lo) (aD:I64 hi) (hn:I64 n) (ad ak:Bool) (aB:Int) (am:Hid (ad=decide (0<=lo/\lo<=hi/\hi<=1114111))) (aj:Hid (ad=true->ak=(decide (lo=hi) && Cn.scalar lo))) (bq:Bool->Bool->Bool->Bool->Bool->Bool) (KB:Hid (∀ W f1 f2 f3 f4 f5,Bw w W->Calls prog 97 #[.agg #[.int .i64 kd,.int .i64 lo,.int .i64 hi,.int .i64 n,.slice ao tl tc,.string nm,.string ot,.float .f64 wt],.bool f1,.bool f2,.bool f3,.bool f4,.bool f5] W (x0d W (bq f1 f2 f3 f4 f5)))) (l4:Bool) (ah:Hid (∀ W,Bw w W->Calls prog 101 #[.slice ao tl tc,.int .i64 1,.int .i64 1] W fun e w'=>e=.returned (.bool l4)/\w'=W)) (a:Int) (HA:Hid (l4=true->Rune a/\∃ b off,ao=some ⟨b,off,none⟩/\tl=1/\tl<=tc/\∀ W,Bw w W->W.cell? ⟨b,off,none⟩=some (.int .i32 a))) (sq:Bool) (ae:Hid (sq=true->a+hi - lo<=1114111/\(a+hi - lo<55296\/57343<a))) (af:Hid (sq=false->1114111<a+hi - lo\/(55296<=a+hi - lo/\a<=57343))) (aq:Bool) (aa:Hid (aq=true->1<=n/\n<=64)) (ab:Hid (aq=false->n<1\/64<n)) (an:Hid (kd=4->aB=ansG (ad && (bq true true false false false && aq && l4 && sq)))):Calls prog 60 #[.agg #[.int .i64 kd,.int .i64 lo,.int .i64 hi,.int .i64 n,.slice ao tl tc,.string nm,.string ot,.float .f64 wt]] w (IntB w aB):=by
 obtain ⟨G,hG⟩:∃ G:Bool->Prop,∀ ob,G ob↔(ad=true->ob=ak):=⟨_,fun _=>Iff.rfl⟩;have H1:Hid (0<=lo->lo<=hi->hi<=1114111->true=ad):=fun c1 c2 c3=>(by rw [V am,d0t ⟨c1,c2,c3⟩]);have H2:Hid (¬ (0<=lo/\lo<=hi/\hi<=1114111)->false=ad):=fun c=>by rw [V am,d0f c]
 have H3:Hid (lo=hi->G (Cn.scalar (wrap32 (bits BinOp.and IntKind.i64 lo 2097151)))):=fun hlh=>(hG _).2 fun h=>by
  have h1:=o0d ((V am).symm.trans h);rw [V aj h,x0R h1.1 (by omega),d0t hlh,Bool.true_and]
 have H4:Hid (¬ lo=hi->G false):=fun hlh=>(hG _).2 fun h=>(by rw [V aj h,d0f hlh,Bool.false_and]);have H5:Hid (∀ ob,G ob->ad=true->ob=ak):=fun ob=>(hG ob).1;have H6:Hid (ad=true->0<=lo/\lo<=hi/\hi<=1114111):=fun h=>o0d ((V am).symm.trans h);clear am aj hG;obtain ⟨W0,ap,ay,ax⟩:=x0I w kd lo hi n (.slice ao tl tc) nm ot wt;have al:=O ay;obtain ⟨x0,x1,x2,x3,x4,x5,x6,x7⟩:=ay;have HB:=O ax;have az:I64 kd:=(by rcases ai with rfl <;> exact ⟨by omega,by omega⟩);have aw:(kd==15)=false:=(by rcases ai with rfl <;> rfl);have KF:=O (x0l kd W0 az);have aC:(Cn.fam kd==0)=false:=(by rcases ai with rfl <;> rfl);replace ai:=O ai;generalize Cn.fam kd=fm at *;have KV:Hid (∀ c W,Calls prog 100 #[.int .i32 (wrap32 c)] W fun e w'=>e=.returned (.bool (Cn.scalar (wrap32 c)))/\w'=W):=fun c W=>x0v _ W (x0F c);obtain ⟨p1,p2⟩:=aE;obtain ⟨p3,p4⟩:=aD;clear ax az;go_enter func60,ntmps60;go_upto_region 7 with (refine (V KF).mono ?_; rintro e W0 ⟨rfl,rfl⟩);clear KF;go_cut [3] (fun sv wx=>wx=W0/\sv=.bool ad)
 case first =>
  clear KB ah HA aa ab ae af an KV al H3 H4 H5;by_cases c1:0<=lo
  ·by_cases c2:lo<=hi
   ·by_cases c3:hi<=1114111
    ·have HE:=O (V H1 c1 c2 c3);clear H1 H2;go_wp2
     go_meet
     case rel=>exact ⟨by first | rfl | exact ap,congrArg Value.bool (V HE)⟩
    ·have HE:=O (V H2 fun h=>c3 h.2.2);clear H1 H2;go_wp2
     go_meet
     case rel=>exact ⟨by first | rfl | exact ap,congrArg Value.bool (V HE)⟩
   ·have HE:=O (V H2 fun h=>c2 h.2.1);clear H1 H2;go_wp2
    go_meet
    case rel=>exact ⟨by first | rfl | exact ap,congrArg Value.bool (V HE)⟩
  ·have HE:=O (V H2 fun h=>c1 h.1);clear H1 H2;go_wp2
   go_meet
   case rel=>exact ⟨by first | rfl | exact ap,congrArg Value.bool (V HE)⟩
 case rest =>
  obtain ⟨rfl,rfl⟩:=hcut;clear H1 H2;go_upto_region 8 with fail;go_cut [4] (fun sv wx=>wx=wc/\∃ ob:Bool,sv=.bool ob/\G ob)
  case first =>
   clear KB ah HA aa ab ae af an al H5;by_cases hlh:lo=hi
   ·have HV:=O (V H3 hlh);subst hlh;have K1:=O (V KV (bits BinOp.and IntKind.i64 lo 2097151));generalize Cn.scalar (wrap32 (bits BinOp.and IntKind.i64 lo 2097151))=sb at *;clear H3 H4 KV;go_wp2_with fail;refine (V K1 _).mono ?_;rintro e w1 ⟨rfl,rfl⟩;clear K1;go_wp2
    go_meet
    case rel=>exact ⟨by first | rfl | trivial,sb,rfl,V HV⟩
   ·have HV:=O (V H4 hlh);clear H3 H4 KV;go_wp2
    go_meet
    case rel=>exact ⟨by first | rfl | trivial,false,rfl,V HV⟩
  case rest =>
   obtain ⟨rfl,ob,rfl,aA⟩:=hcut;have ar:=O (V H5 ob aA);clear H3 H4 H5 aA KV aw aC;rcases V ai with rfl
   ·have HR:=V an rfl;subst HR;have au:=O (fun W h=>V KB W true true false false false h);generalize bq true true false false false=b1 at *;clear KB ai an
    cases ad with
    | false =>
     clear au ah HA aa ab ae af ar al H6;go_wp2;go_ret;exact ⟨rfl,V HB⟩
    | true =>
     obtain rfl:=V ar rfl;clear ar;obtain ⟨o1,o2,o3⟩:=V H6 rfl;clear H6;go_wp2_with fail;refine (V au _ (V HB)).mono ?_;rintro e w2 ⟨rfl,av⟩;obtain ⟨y0,y1,y2,y3,y4,y5,y6,y7⟩:=(V al).keep av;have ac:=O (x0b (V HB) av);clear au al HB av x0 x1 x2 x3 x4 x5 x6 x7
     cases b1 with
     | false =>
      clear ah HA aa ab ae af;go_wp2;go_ret;exact ⟨rfl,V ac⟩
     | true =>
      obtain ⟨n1,n2⟩:=hn
      cases aq with
      | true =>
       obtain ⟨c1,c2⟩:=V aa rfl;clear aa ab;go_wp2_with fail;refine (V ah _ (V ac)).mono ?_;rintro e w3 ⟨rfl,rfl⟩;clear ah
       cases l4 with
       | false =>
        clear HA ae af;go_wp2;go_ret;exact ⟨rfl,V ac⟩
       | true =>
        obtain ⟨⟨a1,a2⟩,b,off,rfl,rfl,htc,ag⟩:=V HA rfl;have hz:=ag _ (V ac);clear HA ag
        cases sq with
        | true =>
         obtain ⟨d1,d2⟩:=V ae rfl;clear ae af;rcases d2 with d2 | d2
         ·skip;go_wp2;go_ret;exact ⟨rfl,V ac⟩
         ·have d4:decide (a+hi - lo<55296)=false:=d0f (by omega);go_wp2;go_ret;exact ⟨rfl,V ac⟩
        | false =>
         have d0:=V af rfl;clear ae af;by_cases d1:a+hi - lo<=1114111
         ·have d2:decide (a+hi - lo<55296)=false:=d0f (by omega);have d3:decide (57343<a)=false:=d0f (by omega);clear d0;go_wp2;go_ret;exact ⟨rfl,V ac⟩
         ·have d2:decide (a+hi - lo<=1114111)=false:=d0f d1;clear d0;go_wp2;go_ret;exact ⟨rfl,V ac⟩
      | false =>
       have c0:=V ab rfl;clear aa ab ah HA ae af;rcases c0 with c0 | c0
       ·have d1:decide (1<=n)=false:=d0f (by omega);go_wp2;go_ret;exact ⟨rfl,V ac⟩
       ·have c1:1<=n:=(by omega);have d2:decide (n<=64)=false:=d0f (by omega);go_wp2;go_ret;exact ⟨rfl,V ac⟩
