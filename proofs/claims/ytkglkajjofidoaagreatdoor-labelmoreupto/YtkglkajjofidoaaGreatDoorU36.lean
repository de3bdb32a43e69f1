/- Rwc7 -/
import Derived.Test.YtkglkajjofidoaaGreatDoorU21
import Derived.Deep.DeepCutAuto
import Derived.Laws.BitsLemmas
set_option maxHeartbeats 8000000
set_option maxRecDepth 8000
namespace Go.Proofs.YtkglkajjofidoaaGreatDoor
open Go.RowKit
theorem rwg_e (kd lo hi n:Int) (ai:kd=4) (ao:Option Addr) (tl tc:Nat) (nm ot:ByteArray) (wt:Nat) (w:World) (aE:I64 lo) (aD:I64 hi) (hn:I64 n) (ad ak:Bool) (aB:Int) (am:Hid (ad=decide (0≤lo∧lo≤hi∧hi≤1114111))) (aj:Hid (ad=true→ak=(decide (lo=hi) && Cn.scalar lo))) (bq:Bool→Bool→Bool→Bool→Bool→Bool) (KB:Hid (∀ W f1 f2 f3 f4 f5,Below w.heap.size w W→Calls Tryz.prog 97 #[.agg #[.int .i64 kd,.int .i64 lo,.int .i64 hi,.int .i64 n,.slice ao tl tc,.string nm,.string ot,.float .f64 wt],.bool f1,.bool f2,.bool f3,.bool f4,.bool f5] W (x0d W (bq f1 f2 f3 f4 f5)))) (l4:Bool) (ah:Hid (∀ W,Below w.heap.size w W→Calls Tryz.prog 101 #[.slice ao tl tc,.int .i64 1,.int .i64 1] W fun e w'=>e=.returned (.bool l4)∧w'=W)) (a:Int) (HA:Hid (l4=true→Rune a∧∃ b off,ao=some ⟨b,off,none⟩∧tl=1∧tl≤tc∧∀ W,Below w.heap.size w W→W.cell? ⟨b,off,none⟩=some (.int .i32 a))) (sq:Bool) (ae:Hid (sq=true→a+hi - lo≤1114111∧(a+hi - lo<55296∨57343<a))) (af:Hid (sq=false→1114111<a+hi - lo∨(55296≤a+hi - lo∧a≤57343))) (aq:Bool) (aa:Hid (aq=true→1≤n∧n≤64)) (ab:Hid (aq=false→n<1∨64<n)) (an:Hid (kd=4→aB=ansG (ad && (bq true true false false false && aq && l4 && sq)))):Calls Tryz.prog 60 #[.agg #[.int .i64 kd,.int .i64 lo,.int .i64 hi,.int .i64 n,.slice ao tl tc,.string nm,.string ot,.float .f64 wt]] w (IntB w aB):=by
 obtain ⟨G,hG⟩:∃ G:Bool→Prop,∀ ob,G ob↔(ad=true→ob=ak):=⟨_,fun _=>Iff.rfl⟩;have H1:Hid (0≤lo→lo≤hi→hi≤1114111→true=ad):=fun c1 c2 c3=>(by rw [Uh am,decide_eq_true ⟨c1,c2,c3⟩]);have H2:Hid (¬ (0≤lo∧lo≤hi∧hi≤1114111)→false=ad):=fun c=>by rw [Uh am,decide_eq_false c]
 have H3:Hid (lo=hi→G (Cn.scalar (wrap32 (bits BinOp.and IntKind.i64 lo 2097151)))):=fun hlh=>(hG _).2 fun h=>by
  have h1:=of_decide_eq_true ((Uh am).symm.trans h);rw [Uh aj h,x0O h1.1 (by omega),decide_eq_true hlh,Bool.true_and]
 have H4:Hid (¬ lo=hi→G false):=fun hlh=>(hG _).2 fun h=>(by rw [Uh aj h,decide_eq_false hlh,Bool.false_and]);have H5:Hid (∀ ob,G ob→ad=true→ob=ak):=fun ob=>(hG ob).1;have H6:Hid (ad=true→0≤lo∧lo≤hi∧hi≤1114111):=fun h=>of_decide_eq_true ((Uh am).symm.trans h);clear am aj hG;obtain ⟨W0,ap,ay,ax⟩:=x0E w kd lo hi n (.slice ao tl tc) nm ot wt;have al:=Hd ay;obtain ⟨x0,x1,x2,x3,x4,x5,x6,x7⟩:=ay;have HB:=Hd ax;have az:I64 kd:=(by rcases ai with rfl <;> exact ⟨by omega,by omega⟩);have aw:(kd==15)=false:=(by rcases ai with rfl <;> rfl);have KF:=Hd (x0k kd W0 az);have aC:(Cn.fam kd==0)=false:=(by rcases ai with rfl <;> rfl);replace ai:=Hd ai;generalize Cn.fam kd=fm at *;have KV:Hid (∀ c W,Calls Tryz.prog 100 #[.int .i32 (wrap32 c)] W fun e w'=>e=.returned (.bool (Cn.scalar (wrap32 c)))∧w'=W):=fun c W=>x0t _ W (x0B c);obtain ⟨p1,p2⟩:=aE;obtain ⟨p3,p4⟩:=aD;clear ax az;go_enter Tryz.func60,Tryz.ntmps60;go_upto_region 7 with (refine (Uh KF).mono ?_; rintro e W0 ⟨rfl,rfl⟩);clear KF;go_cut [3] (fun sv wx=>wx=W0∧sv=.bool ad)
 case first =>
  clear KB ah HA aa ab ae af an KV al H3 H4 H5;by_cases c1:0≤lo
  ·by_cases c2:lo≤hi
   ·by_cases c3:hi≤1114111
    ·have HE:=Hd ((Uh H1) c1 c2 c3)
     clear H1 H2;go_wp2
     go_meet
     case rel=>exact ⟨by first | rfl | exact ap,congrArg Value.bool (Uh HE)⟩
    ·have HE:=Hd ((Uh H2) fun h=>c3 h.2.2)
     clear H1 H2;go_wp2
     go_meet
     case rel=>exact ⟨by first | rfl | exact ap,congrArg Value.bool (Uh HE)⟩
   ·have HE:=Hd ((Uh H2) fun h=>c2 h.2.1)
    clear H1 H2;go_wp2
    go_meet
    case rel=>exact ⟨by first | rfl | exact ap,congrArg Value.bool (Uh HE)⟩
  ·have HE:=Hd ((Uh H2) fun h=>c1 h.1)
   clear H1 H2;go_wp2
   go_meet
   case rel=>exact ⟨by first | rfl | exact ap,congrArg Value.bool (Uh HE)⟩
 case rest =>
  obtain ⟨rfl,rfl⟩:=hcut;clear H1 H2;go_upto_region 8 with fail;go_cut [4] (fun sv wx=>wx=wc∧∃ ob:Bool,sv=.bool ob∧G ob)
  case first =>
   clear KB ah HA aa ab ae af an al H5;by_cases hlh:lo=hi
   ·have HV:=Hd ((Uh H3) hlh)
    subst hlh;have K1:=Hd ((Uh KV) (bits BinOp.and IntKind.i64 lo 2097151));generalize Cn.scalar (wrap32 (bits BinOp.and IntKind.i64 lo 2097151))=sb at *;clear H3 H4 KV;go_wp2_with fail;refine ((Uh K1) _).mono ?_;rintro e w1 ⟨rfl,rfl⟩;clear K1;go_wp2
    go_meet
    case rel=>exact ⟨by first | rfl | trivial,sb,rfl,Uh HV⟩
   ·have HV:=Hd ((Uh H4) hlh)
    clear H3 H4 KV;go_wp2
    go_meet
    case rel=>exact ⟨by first | rfl | trivial,false,rfl,Uh HV⟩
  case rest =>
   obtain ⟨rfl,ob,rfl,aA⟩:=hcut;have ar:=Hd ((Uh H5) ob aA);clear H3 H4 H5 aA KV aw aC;rcases Uh ai with rfl
   ·have HR:=Uh an rfl
    subst HR;have au:=Hd (fun W h=>(Uh KB) W true true false false false h);generalize bq true true false false false=b1 at *;clear KB ai an
    cases ad with
    | false =>
     clear au ah HA aa ab ae af ar al H6;go_wp2;go_ret;exact ⟨rfl,Uh HB⟩
    | true =>
     obtain rfl:=(Uh ar) rfl;clear ar;obtain ⟨o1,o2,o3⟩:=(Uh H6) rfl;clear H6;go_wp2_with fail;refine ((Uh au) _ (Uh HB)).mono ?_;rintro e w2 ⟨rfl,av⟩;obtain ⟨y0,y1,y2,y3,y4,y5,y6,y7⟩:=(Uh al).keep av;have ac:=Hd (x0b (Uh HB) av);clear au al HB av x0 x1 x2 x3 x4 x5 x6 x7
     cases b1 with
     | false =>
      clear ah HA aa ab ae af;go_wp2;go_ret;exact ⟨rfl,Uh ac⟩
     | true =>
      obtain ⟨n1,n2⟩:=hn
      cases aq with
      | true =>
       obtain ⟨c1,c2⟩:=(Uh aa) rfl;clear aa ab;go_wp2_with fail;refine ((Uh ah) _ (Uh ac)).mono ?_;rintro e w3 ⟨rfl,rfl⟩;clear ah
       cases l4 with
       | false =>
        clear HA ae af;go_wp2;go_ret;exact ⟨rfl,Uh ac⟩
       | true =>
        obtain ⟨⟨a1,a2⟩,b,off,rfl,rfl,htc,ag⟩:=(Uh HA) rfl;have hz:=ag _ (Uh ac);clear HA ag
        cases sq with
        | true =>
         obtain ⟨d1,d2⟩:=(Uh ae) rfl;clear ae af;rcases d2 with d2 | d2
         ·skip
          go_wp2;go_ret;exact ⟨rfl,Uh ac⟩
         ·have d4:decide (a+hi - lo<55296)=false:=decide_eq_false (by omega)
          go_wp2;go_ret;exact ⟨rfl,Uh ac⟩
        | false =>
         have d0:=(Uh af) rfl;clear ae af;by_cases d1:a+hi - lo≤1114111
         ·have d2:decide (a+hi - lo<55296)=false:=decide_eq_false (by omega)
          have d3:decide (57343<a)=false:=decide_eq_false (by omega);clear d0;go_wp2;go_ret;exact ⟨rfl,Uh ac⟩
         ·have d2:decide (a+hi - lo≤1114111)=false:=decide_eq_false d1
          clear d0;go_wp2;go_ret;exact ⟨rfl,Uh ac⟩
      | false =>
       have c0:=(Uh ab) rfl;clear aa ab ah HA ae af;rcases c0 with c0 | c0
       ·have d1:decide (1≤n)=false:=decide_eq_false (by omega)
        go_wp2;go_ret;exact ⟨rfl,Uh ac⟩
       ·have c1:1≤n:=by omega
        have d2:decide (n≤64)=false:=decide_eq_false (by omega);go_wp2;go_ret;exact ⟨rfl,Uh ac⟩
end Go.Proofs.YtkglkajjofidoaaGreatDoor
