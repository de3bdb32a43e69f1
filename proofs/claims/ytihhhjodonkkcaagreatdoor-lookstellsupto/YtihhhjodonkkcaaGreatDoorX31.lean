/- Rwd7 -/
import Derived.Test.YtihhhjodonkkcaaGreatDoorX15
import Derived.Deep.DeepCutAuto
import Derived.Laws.BitsLemmas
namespace Go.Proofs.YtihhhjodonkkcaaGreatDoor
open Go.RowKit
set_option maxRecDepth 8000 in
set_option maxHeartbeats 8000000 in
theorem rwg_g kd lo hi n (hkd:kd=10) ao tl tc nm ot wt w (hlo:I64 lo) (hhi:I64 hi) (hn:I64 n) okb oneb res (hok:Hid (okb=decide (0≤lo∧lo≤hi∧hi≤1114111))) (hone:Hid (okb=true→oneb=(decide (lo=hi) && Cn.scalar lo))) (bq:Bool→Bool→Bool→Bool→Bool→Bool) (KB:Hid (∀ W f1 f2 f3 f4 f5,Below w.heap.size w W→Calls Tryz.prog 102 #[.agg #[.int .i64 kd,.int .i64 lo,.int .i64 hi,.int .i64 n,.slice ao tl tc,.string nm,.string ot,.float .f64 wt],.bool f1,.bool f2,.bool f3,.bool f4,.bool f5] W (BoolB W (bq f1 f2 f3 f4 f5)))) rq10 (HNa10:Hid (rq10=true→0≤n∧n≤5)) (HNb10:Hid (rq10=false→n<0∨5<n)) (HR10:Hid (kd=10→res=ansG (okb && (bq true false false false false && rq10)))):Calls Tryz.prog 63 #[.agg #[.int .i64 kd,.int .i64 lo,.int .i64 hi,.int .i64 n,.slice ao tl tc,.string nm,.string ot,.float .f64 wt]] w (IntB w res):=by
 obtain ⟨G,H1,H2,H3,H4,H5⟩:=rw_lead hok hone
 clear hok hone
 obtain ⟨W0,hW0,hbx,hb0⟩:=box_one w kd lo hi n (.slice ao tl tc) nm ot wt
 have HBX:=Hd hbx
 obtain ⟨x0,x1,x2,x3,x4,x5,x6,x7⟩:=hbx
 have HB:=Hd hb0
 have hki:I64 kd:=by rcases hkd with rfl <;> exact ⟨by omega,by omega⟩
 have hk15:(kd==15)=false:=by rcases hkd with rfl <;> rfl
 have KF:=Hd (refFamily_any kd W0 hki)
 have hfm:(Cn.fam kd==0)=false:=by rcases hkd with rfl <;> rfl
 replace hkd:=Hd hkd
 generalize Cn.fam kd=fm at *
 have KV:Hid (∀ c W,Calls Tryz.prog 105 #[.int .i32 (wrap32 c)] W fun e w'=>e=.returned (.bool (Cn.scalar (wrap32 c)))∧w'=W):=fun c W=>refValid_any _ W (wrap32_rune c)
 obtain ⟨p1,p2⟩:=hlo
 obtain ⟨p3,p4⟩:=hhi
 clear hb0 hki
 go_enter Tryz.func63,Tryz.ntmps63
 go_upto_region 7 with (refine (Uh KF).mono ?_; rintro e W0 ⟨rfl,rfl⟩)
 clear KF
 go_cut [3] (fun sv wx=>wx=W0∧sv=.bool okb)
 case first =>
  clear KB HNa10 HNb10 HR10 KV HBX H3 H4 H5
  by_cases c1:0≤lo
  by_cases c2:lo≤hi
  by_cases c3:hi≤1114111
  have HE:=Hd ((Uh H1) c1 c2 c3)
  rotate_left
  iterate 3
   have HE:=Hd ((Uh H2) (by omega))
   rotate_left
  all_goals
   clear H1 H2
   go_wp2
   go_meet
   case rel=>exact ⟨by first | rfl | exact hW0,congrArg Value.bool (Uh HE)⟩
 case rest =>
  obtain ⟨rfl,rfl⟩:=hcut
  clear H1 H2
  go_upto_region 8 with fail
  go_cut [4] (fun sv wx=>wx=wc∧∃ ob:Bool,sv=.bool ob∧G ob)
  case first =>
   clear KB HNa10 HNb10 HR10 HBX H5
   by_cases hlh:lo=hi
   ·have HV:=Hd ((Uh H3) hlh)
    subst hlh
    have K1:=Hd ((Uh KV) (bits BinOp.and IntKind.i64 lo 2097151))
    generalize Cn.scalar (wrap32 (bits BinOp.and IntKind.i64 lo 2097151))=sb at *
    clear H3 H4 KV
    go_wp2_with fail
    refine ((Uh K1) _).mono ?_
    rintro e w1 ⟨rfl,rfl⟩
    clear K1
    go_wp2
    go_meet
    case rel=>exact ⟨by first | rfl | trivial,sb,rfl,Uh HV⟩
   ·have HV:=Hd ((Uh H4) hlh)
    clear H3 H4 KV
    go_wp2
    go_meet
    case rel=>exact ⟨by first | rfl | trivial,false,rfl,Uh HV⟩
  case rest =>
   obtain ⟨rfl,ob,rfl,hob⟩:=hcut
   have HOB:=Hd ((Uh H5) ob hob)
   clear H3 H4 H5 hob KV hk15 hfm
   rcases Uh hkd with rfl
   ·have HR:=Uh HR10 rfl
    subst HR
    have KB1:=Hd (fun W h=>(Uh KB) W true false false false false h)
    generalize bq true false false false false=b1 at *
    clear KB hkd HR10
    cases okb with
    | false =>
     clear KB1 HNa10 HNb10 HOB HBX
     go_wp2
     go_ret
     exact ⟨rfl,Uh HB⟩
    | true =>
     obtain rfl:=(Uh HOB) rfl
     clear HOB
     go_wp2_with fail
     refine ((Uh KB1) _ (Uh HB)).mono ?_
     rintro e w2 ⟨rfl,hb2⟩
     obtain ⟨y0,y1,y2,y3,y4,y5,y6,y7⟩:=(Uh HBX).keep hb2
     have HB2:=Hd (bthen (Uh HB) hb2)
     clear KB1 HBX HB hb2 x0 x1 x2 x3 x4 x5 x6 x7
     cases b1 with
     | false =>
      clear HNa10 HNb10
      go_wp2
      go_ret
      exact ⟨rfl,Uh HB2⟩
     | true =>
      obtain ⟨n1,n2⟩:=hn
      cases rq10 with
      | true =>
       obtain ⟨c1,c2⟩:=(Uh HNa10) rfl
       clear HNa10 HNb10
       go_wp2
       go_ret
       exact ⟨rfl,Uh HB2⟩
      | false =>
       have c0:=(Uh HNb10) rfl
       clear HNa10 HNb10
       rcases c0 with c0 | c0
       ·have d1:decide (0≤n)=false:=decide_eq_false (by omega)
        go_wp2
        go_ret
        exact ⟨rfl,Uh HB2⟩
       ·have c1:0≤n:=by omega
        have d2:decide (n≤5)=false:=decide_eq_false (by omega)
        go_wp2
        go_ret
        exact ⟨rfl,Uh HB2⟩
set_option maxRecDepth 8000 in
set_option maxHeartbeats 8000000 in
theorem rwg_h kd lo hi n (hkd:kd=12∨kd=14) ao tl tc nm ot wt w (hlo:I64 lo) (hhi:I64 hi) okb oneb res (hok:Hid (okb=decide (0≤lo∧lo≤hi∧hi≤1114111))) (hone:Hid (okb=true→oneb=(decide (lo=hi) && Cn.scalar lo))) (bq:Bool→Bool→Bool→Bool→Bool→Bool) (KB:Hid (∀ W f1 f2 f3 f4 f5,Below w.heap.size w W→Calls Tryz.prog 102 #[.agg #[.int .i64 kd,.int .i64 lo,.int .i64 hi,.int .i64 n,.slice ao tl tc,.string nm,.string ot,.float .f64 wt],.bool f1,.bool f2,.bool f3,.bool f4,.bool f5] W (BoolB W (bq f1 f2 f3 f4 f5)))) nb (KN:Hid (∀ W,Calls Tryz.prog 103 #[.string nm] W fun e w'=>e=.returned (.bool nb)∧w'=W)) wb (KW:Hid (∀ W,Calls Tryz.prog 104 #[.float .f64 wt] W fun e w'=>e=.returned (.bool wb)∧w'=W)) (HR12:Hid (kd=12→res=ansG (okb && (bq false false true false false && nb)))) (HR14:Hid (kd=14→res=ansG (okb && (bq false false false false true && wb)))):Calls Tryz.prog 63 #[.agg #[.int .i64 kd,.int .i64 lo,.int .i64 hi,.int .i64 n,.slice ao tl tc,.string nm,.string ot,.float .f64 wt]] w (IntB w res):=by
 obtain ⟨G,H1,H2,H3,H4,H5⟩:=rw_lead hok hone
 clear hok hone
 obtain ⟨W0,hW0,hbx,hb0⟩:=box_one w kd lo hi n (.slice ao tl tc) nm ot wt
 have HBX:=Hd hbx
 obtain ⟨x0,x1,x2,x3,x4,x5,x6,x7⟩:=hbx
 have HB:=Hd hb0
 have hki:I64 kd:=by rcases hkd with rfl | rfl <;> exact ⟨by omega,by omega⟩
 have hk15:(kd==15)=false:=by rcases hkd with rfl | rfl <;> rfl
 have KF:=Hd (refFamily_any kd W0 hki)
 have hfm:(Cn.fam kd==0)=false:=by rcases hkd with rfl | rfl <;> rfl
 replace hkd:=Hd hkd
 generalize Cn.fam kd=fm at *
 have KV:Hid (∀ c W,Calls Tryz.prog 105 #[.int .i32 (wrap32 c)] W fun e w'=>e=.returned (.bool (Cn.scalar (wrap32 c)))∧w'=W):=fun c W=>refValid_any _ W (wrap32_rune c)
 obtain ⟨p1,p2⟩:=hlo
 obtain ⟨p3,p4⟩:=hhi
 clear hb0 hki
 go_enter Tryz.func63,Tryz.ntmps63
 go_upto_region 7 with (refine (Uh KF).mono ?_; rintro e W0 ⟨rfl,rfl⟩)
 clear KF
 go_cut [3] (fun sv wx=>wx=W0∧sv=.bool okb)
 case first =>
  clear KB KN KW HR12 HR14 KV HBX H3 H4 H5
  by_cases c1:0≤lo
  by_cases c2:lo≤hi
  by_cases c3:hi≤1114111
  have HE:=Hd ((Uh H1) c1 c2 c3)
  rotate_left
  iterate 3
   have HE:=Hd ((Uh H2) (by omega))
   rotate_left
  all_goals
   clear H1 H2
   go_wp2
   go_meet
   case rel=>exact ⟨by first | rfl | exact hW0,congrArg Value.bool (Uh HE)⟩
 case rest =>
  obtain ⟨rfl,rfl⟩:=hcut
  clear H1 H2
  go_upto_region 8 with fail
  go_cut [4] (fun sv wx=>wx=wc∧∃ ob:Bool,sv=.bool ob∧G ob)
  case first =>
   clear KB KN KW HR12 HR14 HBX H5
   by_cases hlh:lo=hi
   ·have HV:=Hd ((Uh H3) hlh)
    subst hlh
    have K1:=Hd ((Uh KV) (bits BinOp.and IntKind.i64 lo 2097151))
    generalize Cn.scalar (wrap32 (bits BinOp.and IntKind.i64 lo 2097151))=sb at *
    clear H3 H4 KV
    go_wp2_with fail
    refine ((Uh K1) _).mono ?_
    rintro e w1 ⟨rfl,rfl⟩
    clear K1
    go_wp2
    go_meet
    case rel=>exact ⟨by first | rfl | trivial,sb,rfl,Uh HV⟩
   ·have HV:=Hd ((Uh H4) hlh)
    clear H3 H4 KV
    go_wp2
    go_meet
    case rel=>exact ⟨by first | rfl | trivial,false,rfl,Uh HV⟩
  case rest =>
   obtain ⟨rfl,ob,rfl,hob⟩:=hcut
   have HOB:=Hd ((Uh H5) ob hob)
   clear H3 H4 H5 hob KV hk15 hfm
   rcases Uh hkd with rfl | rfl
   have HR:=Uh HR12 rfl
   subst HR
   have KB1:=Hd (fun W h=>(Uh KB) W false false true false false h)
   generalize bq false false true false false=b1 at *
   have KZ:=KN
   generalize nb=z at *
   rotate_left
   have HR:=Uh HR14 rfl
   subst HR
   have KB1:=Hd (fun W h=>(Uh KB) W false false false false true h)
   generalize bq false false false false true=b1 at *
   have KZ:=KW
   generalize wb=z at *
   all_goals
    cases okb with
    | false =>
     clear KB1 HOB HBX
     go_wp2
     go_ret
     exact ⟨rfl,Uh HB⟩
    | true =>
     obtain rfl:=(Uh HOB) rfl
     clear HOB
     go_wp2_with fail
     refine ((Uh KB1) _ (Uh HB)).mono ?_
     rintro e w2 ⟨rfl,hb2⟩
     obtain ⟨y0,y1,y2,y3,y4,y5,y6,y7⟩:=(Uh HBX).keep hb2
     have HB2:=Hd (bthen (Uh HB) hb2)
     clear KB1 HBX HB hb2 x0 x1 x2 x3 x4 x5 x6 x7
     cases b1 with
     | false =>
      go_wp2
      go_ret
      exact ⟨rfl,Uh HB2⟩
     | true =>
      go_wp2_with fail
      refine ((Uh KZ) _).mono ?_
      rintro e w3 ⟨rfl,rfl⟩
      cases z
      all_goals
       go_wp2
       go_ret
       exact ⟨rfl,Uh HB2⟩
end Go.Proofs.YtihhhjodonkkcaaGreatDoor
