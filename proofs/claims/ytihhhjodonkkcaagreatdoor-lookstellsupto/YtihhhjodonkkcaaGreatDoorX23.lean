/- CcT77 -/
import Derived.Test.YtihhhjodonkkcaaGreatDoorX10
namespace Go.Proofs.YtihhhjodonkkcaaGreatDoor
open Go.RowKit
set_option maxRecDepth 20000 in
set_option maxHeartbeats 16000000 in
theorem wrong7 (l cs os:List Rec) (cv ov:Value) (mr i:Nat) (lo hi nn:Int) (tq:List Int) (nm ot:ByteArray) (wt:Nat) (vt:Value) (w:World) (hg:Glob w) (h:Idx l w cv ov cs os) (hs:Sk .i32 w vt tq) (hlo:¬ lo<128) (hlr:Rune lo) (hto2:tq.length=2) (hra:Rune (tq.getD 0 0)) (hrb:Rune (tq.getD 1 0)) (hp:PAt w mr (Cn.firstP l)) :
  Calls Tryz.prog 76 #[xV cv ov (.map (some mr)),.int .i64 (i:Int),recV (⟨7,lo,hi,nn,tq,nm,ot,wt⟩:Rec) vt] w (IntB w (if (touches (⟨7,lo,hi,nn,tq,nm,ot,wt⟩:Rec) || makes (tq.getD 0 0) (tq.getD 1 0))=true then 71 else if Cn.wfull l lo≠0 then Cn.wfull l lo else if (decide ((Cn.firstP l (tq.getD 0 0) (tq.getD 1 0)).getD 0<(i:Int)) || Cn.wpair l lo (tq.getD 0 0) (tq.getD 1 0))=true then 74 else 0)):=by
 obtain ⟨cao,ccap,rfl,_,_⟩:=h.rc.shape
 obtain ⟨oao,ocap,rfl,_,_⟩:=h.ro.shape
 obtain ⟨tb,toff,tcap,rfl,_,_,hcell⟩:=hs.place (by omega)
 have pp0:=hcell 0 (by omega)
 have pp1:=hcell 1 (by omega)
 rw [Nat.add_zero] at pp0
 have HSK:Hid (Sk .i32 w (.slice (some ⟨tb,toff,none⟩) 2 tcap) tq):=hto2 ▸ hs
 obtain ⟨Q,hQ⟩:∃ Q,((w.alloc (.cells #[.slice cao cs.length ccap,.slice oao os.length ocap,.map (some mr)] 125)).alloc (.cells #[.int .i64 7,.int .i64 lo,.int .i64 hi,.int .i64 nn,.slice (some ⟨tb,toff,none⟩) 2 tcap,.string nm,.string ot,.float .f64 wt] 59))=Q:=⟨_,rfl⟩
 have hb0:Below w.heap.size w Q:=by rw [← hQ]; exact ((Below.refl _ _).alloc (Nat.le_refl _) _).alloc (by simp) _
 have hs0:Q.heap.size=w.heap.size+2:=by rw [← hQ]; simp
 have hxh:Q.heap[w.heap.size]?=some (.cells #[.slice cao cs.length ccap,.slice oao os.length ocap,.map (some mr)] 125 (0,0)):=by
  rw [← hQ]
  show ((w.heap.push _).push _)[w.heap.size]?=_
  rw [Array.getElem?_push,Array.getElem?_push]; simp
 have hrh:Q.heap[w.heap.size+1]?=some (.cells #[.int .i64 7,.int .i64 lo,.int .i64 hi,.int .i64 nn,.slice (some ⟨tb,toff,none⟩) 2 tcap,.string nm,.string ot,.float .f64 wt] 59 (0,0)):=by
  rw [← hQ]
  show ((w.heap.push _).push _)[w.heap.size+1]?=_
  rw [Array.getElem?_push]; simp
 have HBW:Hid (∀ W:World,Below Q.heap.size Q W→Below w.heap.size w W):=fun W hW=>hb0.trans (hW.mono (by omega))
 obtain ⟨SP,hSP⟩:∃ SP:World→Prop,(fun W=>(W.heap[w.heap.size+1]?=some (.cells #[.int .i64 7,.int .i64 lo,.int .i64 hi,.int .i64 nn,.slice (some ⟨tb,toff,none⟩) 2 tcap,.string nm,.string ot,.float .f64 wt] 59 (0,0))∧W.heap[w.heap.size]?=some (.cells #[.slice cao cs.length ccap,.slice oao os.length ocap,.map (some mr)] 125 (0,0))∧W.cell? ⟨tb,toff,none⟩=some (.int .i32 (tq.getD 0 0))∧W.cell? ⟨tb,toff+1,none⟩=some (.int .i32 (tq.getD 1 0))∧Hid (Below Q.heap.size Q W)))=SP:=⟨_,rfl⟩
 have HS:Hid (∀ W:World,Below Q.heap.size Q W→SP W):=fun W hW=>by
  rw [← hSP]
  have hx:=(hW.block (w.heap.size) (by omega)).trans hxh
  have hr:=(hW.block (w.heap.size+1) (by omega)).trans hrh
  exact ⟨hr,hx,by rw [((Uh HBW) W hW).cell (lt_of_cell? pp0)]; exact pp0,by rw [((Uh HBW) W hW).cell (lt_of_cell? pp0)]; exact pp1,hW⟩
 have KT:Hid (∀ W:World,Calls Tryz.prog 117 #[.agg #[.int .i64 7,.int .i64 lo,.int .i64 hi,.int .i64 nn,.slice (some ⟨tb,toff,none⟩) 2 tcap,.string nm,.string ot,.float .f64 wt]] W (BoolB W (touches (⟨7,lo,hi,nn,tq,nm,ot,wt⟩:Rec)))):=fun W=>touches_any (⟨7,lo,hi,nn,tq,nm,ot,wt⟩:Rec) _ _ _ W
 have KW:Hid (∀ W:World,Below Q.heap.size Q W→Calls Tryz.prog 119 #[.agg #[.slice cao cs.length ccap,.slice oao os.length ocap,.map (some mr)],.int .i32 lo] W (IntB W (Cn.wfull l lo))):=fun W hW=>wfull_any l cs os _ _ mr lo W (hg.on ((Uh HBW) W hW)) (h.below ((Uh HBW) W hW)) hlr
 have hlw:IntKind.i32.wrap lo=lo:=by
  unfold Rune at hlr
  simp [IntKind.wrap,IntKind.bits,IntKind.signed]; omega
 have KM:Hid (∀ W:World,Calls Tryz.prog 118 #[.int .i32 (tq.getD 0 0),.int .i32 (tq.getD 1 0)] W (fun e w'=>e=.returned (.bool (makes (tq.getD 0 0) (tq.getD 1 0)))∧w'=W)):=fun W=>makes_any _ _ W
 have KPO:Hid (∀ W:World,Below Q.heap.size Q W→Calls Tryz.prog 114 #[.agg #[.int .i64 7,.int .i64 lo,.int .i64 hi,.int .i64 nn,.slice (some ⟨tb,toff,none⟩) 2 tcap,.string nm,.string ot,.float .f64 wt]] W (fun e w'=>e=.returned (pk2 (tq.getD 0 0) (tq.getD 1 0))∧Below W.heap.size W w')):=fun W hW=>pairOf_any (⟨7,lo,hi,nn,tq,nm,ot,wt⟩:Rec) _ W ((Uh HSK).below ((Uh HBW) W hW)) hto2
 have KP:Hid (∀ W:World,Below Q.heap.size Q W→Calls Tryz.prog 120 #[.agg #[.slice cao cs.length ccap,.slice oao os.length ocap,.map (some mr)],.int .i32 lo,.int .i32 (tq.getD 0 0),.int .i32 (tq.getD 1 0)] W (BoolB W (Cn.wpair l lo (tq.getD 0 0) (tq.getD 1 0)))):=fun W hW=>wpair_any l cs os _ _ mr lo _ _ W (hg.on ((Uh HBW) W hW)) (h.below ((Uh HBW) W hW)) hlr hra hrb
 have HLK:Hid (∀ W:World,Below Q.heap.size Q W→(Instr.lookup 123 (.map (some mr)) (pk2 (tq.getD 0 0) (tq.getD 1 0)) false).run Tryz.prog W=.ok (.int .i64 ((Cn.firstP l (tq.getD 0 0) (tq.getD 1 0)).getD 0)) W):=fun W hW=>by
  obtain ⟨es,cl,q1,q2⟩:=hp
  exact (look_ok ⟨es,cl,by rw [((Uh HBW) W hW).block _ (heap_lt q1)]; exact q1,q2⟩ hra hrb).2
 have hd0:Below Q.heap.size Q Q.drew:=drewB ⟨1,rfl⟩
 have HFST:=Hd ((Uh HS) _ hd0)
 have HFIN:Hid (∀ W z,Below Q.heap.size Q W→IntB w z (.returned (.int .i64 z)) W):=fun W z hW=>⟨rfl,(Uh HBW) W hW⟩
 have KT0:=Hd ((Uh KT) Q.drew)
 rw [hto2]
 clear hto2 hs hp hra hrb hcell pp0 pp1 HSK
 generalize Cn.wpair l lo (tq.getD 0 0) (tq.getD 1 0)=wp at *
 generalize (Cn.firstP l (tq.getD 0 0) (tq.getD 1 0)).getD 0=fp at *
 generalize makes (tq.getD 0 0) (tq.getD 1 0)=mk at *
 generalize tq.getD 0 0=pa at *
 generalize tq.getD 1 0=pb at *
 unfold pk2 at *
 generalize touches (⟨7,lo,hi,nn,tq,nm,ot,wt⟩:Rec)=tc at *
 generalize Cn.wfull l lo=wf at *
 subst hQ
 unfold xV recV
 clear hxh hrh hb0 h hg
 obtain ⟨R,hR⟩:∃ R,(if (tc || mk)=true then 71 else if wf≠0 then wf else if (decide (fp<(i:Int)) || wp)=true then 74 else 0)=R:=⟨_,rfl⟩
 rw [hR]
 have HR:=Hd hR
 clear hR
 cases tc
 ·go_enter Tryz.func76,Tryz.ntmps76
  go_wp2
  refine wp_region_held_drew (S:=fun w'=>SP w') (by kernel_rfl) (Uh HFST) (fun hHeld=>?_)
  refine tk9 0 (.agg #[.int .i64 7,.int .i64 lo,.int .i64 hi,.int .i64 nn,.slice (some ⟨tb,toff,none⟩) 2 tcap,.string nm,.string ot,.float .f64 wt]) ?_ (hy:=by (intro w hSw; obtain ⟨rs,xs,s11,s12,s13⟩:=(congrFun hSP _).mpr hSw; obtain ⟨s0,s1,s2,s3,s4,s5,s6,s7⟩:=cells8 rs; obtain ⟨s8,s9,s10⟩:=cells3 xs; go_simp))
  refine rd9 1 fun K hK=>?_
  go_simp
  refine (Uh KT0).mono ?_
  rintro e W1 ⟨rfl,hb1⟩
  have hB1:=bthen hd0 hb1
  have HF1:=Hd ((Uh HS) W1 hB1)
  refine hK.out _ _ ?_ (fun hHeld=>?_)
  ·exact Uh HF1
  clear hK K
  try simp only [Act.put,sa9,sb9,sc9]
  refine tk9 2 (.bool false) ?_
  refine tk9 3 (.bool true) ?_
  refine tk9 4 (.bool true) ?_
  refine tk9 5 (.pointer (some ⟨w.heap.size+1,4,none⟩)) ?_ (hy:=by (intro w hSw; obtain ⟨rs,xs,s11,s12,s13⟩:=(congrFun hSP _).mpr hSw; obtain ⟨s0,s1,s2,s3,s4,s5,s6,s7⟩:=cells8 rs; obtain ⟨s8,s9,s10⟩:=cells3 xs; go_simp))
  refine tk9 6 (.slice (some ⟨tb,toff,none⟩) 2 tcap) ?_ (hy:=by (intro w hSw; obtain ⟨rs,xs,s11,s12,s13⟩:=(congrFun hSP _).mpr hSw; obtain ⟨s0,s1,s2,s3,s4,s5,s6,s7⟩:=cells8 rs; obtain ⟨s8,s9,s10⟩:=cells3 xs; go_simp))
  refine tk9 7 (.pointer (some ⟨tb,toff,none⟩)) ?_ (hy:=by (intro w hSw; obtain ⟨rs,xs,s11,s12,s13⟩:=(congrFun hSP _).mpr hSw; obtain ⟨s0,s1,s2,s3,s4,s5,s6,s7⟩:=cells8 rs; obtain ⟨s8,s9,s10⟩:=cells3 xs; go_simp))
  refine tk9 8 (.int .i32 pa) ?_ (hy:=by (intro w hSw; obtain ⟨rs,xs,s11,s12,s13⟩:=(congrFun hSP _).mpr hSw; obtain ⟨s0,s1,s2,s3,s4,s5,s6,s7⟩:=cells8 rs; obtain ⟨s8,s9,s10⟩:=cells3 xs; go_simp))
  refine tk9 9 (.pointer (some ⟨w.heap.size+1,4,none⟩)) ?_ (hy:=by (intro w hSw; obtain ⟨rs,xs,s11,s12,s13⟩:=(congrFun hSP _).mpr hSw; obtain ⟨s0,s1,s2,s3,s4,s5,s6,s7⟩:=cells8 rs; obtain ⟨s8,s9,s10⟩:=cells3 xs; go_simp))
  refine tk9 10 (.slice (some ⟨tb,toff,none⟩) 2 tcap) ?_ (hy:=by (intro w hSw; obtain ⟨rs,xs,s11,s12,s13⟩:=(congrFun hSP _).mpr hSw; obtain ⟨s0,s1,s2,s3,s4,s5,s6,s7⟩:=cells8 rs; obtain ⟨s8,s9,s10⟩:=cells3 xs; go_simp))
  refine tk9 11 (.pointer (some ⟨tb,toff+1,none⟩)) ?_ (hy:=by (intro w hSw; obtain ⟨rs,xs,s11,s12,s13⟩:=(congrFun hSP _).mpr hSw; obtain ⟨s0,s1,s2,s3,s4,s5,s6,s7⟩:=cells8 rs; obtain ⟨s8,s9,s10⟩:=cells3 xs; go_simp))
  refine tk9 12 (.int .i32 pb) ?_ (hy:=by (intro w hSw; obtain ⟨rs,xs,s11,s12,s13⟩:=(congrFun hSP _).mpr hSw; obtain ⟨s0,s1,s2,s3,s4,s5,s6,s7⟩:=cells8 rs; obtain ⟨s8,s9,s10⟩:=cells3 xs; go_simp))
  refine rd9 13 fun K hK=>?_
  go_simp
  refine ((Uh KM) _).mono ?_
  rintro e W1' ⟨rfl,hw1'⟩
  subst W1'
  refine hK.out _ _ ?_ (fun hHeld=>?_)
  ·exact Uh HF1
  clear hK K
  try simp only [Act.put,sa9,sb9,sc9]
  refine tk9 14 (.bool mk) ?_
  refine tk9 15 (.bool mk) ?_
  refine tk9 16 (.bool mk) ?_
  refine wpAnyH_done (by kernel_rfl) ?_ _
  cases mk
  rotate_left
  ·obtain rfl:R=71:=(Uh HR).symm
   have HF:=(Uh HFIN) W1 71 hB1
   clear HS HFST HFIN KT KT0 KW KM KP KPO HLK HF1 hB1 hHeld HR
   go_wp2
   go_ret
   exact HF
  ·skip
   obtain ⟨rq,xq,q11,q12,q13⟩:=(congrFun hSP _).mpr (Uh HF1)
   obtain ⟨q0,q1,q2,q3,q4,q5,q6,q7⟩:=cells8 rq
   obtain ⟨q8,q9,q10⟩:=cells3 xq
   clear rq xq
   have K2:=Hd ((Uh KW) W1 hB1)
   clear HF1 HFST KT KT0 KW KM hHeld
   go_wp2_with fail
   refine (Uh K2).mono ?_
   rintro e W2 ⟨rfl,hb2⟩
   have hB2:=bthen hB1 hb2
   clear K2 hb2 q0 q1 q2 q3 q4 q5 q6 q7 q8 q9 q10 q11 q12 q13
   by_cases hz:wf=0
   ·subst hz
    have hd2:Below _ _ W2.drew:=bthen hB2 (drewB ⟨1,rfl⟩)
    have HFST:=Hd ((Uh HS) _ hd2)
    have K3:=Hd ((Uh KPO) _ hd2)
    go_wp2
    refine wp_region_held_drew (S:=fun w'=>SP w') (by kernel_rfl) (Uh HFST) (fun hHeld=>?_)
    refine tk9 0 (.bool true) ?_
    refine tk9 1 (.bool true) ?_
    refine tk9 2 (.pointer (some ⟨w.heap.size,2,none⟩)) ?_ (hy:=by (intro w hSw; obtain ⟨rs,xs,s11,s12,s13⟩:=(congrFun hSP _).mpr hSw; obtain ⟨s0,s1,s2,s3,s4,s5,s6,s7⟩:=cells8 rs; obtain ⟨s8,s9,s10⟩:=cells3 xs; go_simp))
    refine tk9 3 (.map (some mr)) ?_ (hy:=by (intro w hSw; obtain ⟨rs,xs,s11,s12,s13⟩:=(congrFun hSP _).mpr hSw; obtain ⟨s0,s1,s2,s3,s4,s5,s6,s7⟩:=cells8 rs; obtain ⟨s8,s9,s10⟩:=cells3 xs; go_simp))
    refine tk9 4 (.agg #[.int .i64 7,.int .i64 lo,.int .i64 hi,.int .i64 nn,.slice (some ⟨tb,toff,none⟩) 2 tcap,.string nm,.string ot,.float .f64 wt]) ?_ (hy:=by (intro w hSw; obtain ⟨rs,xs,s11,s12,s13⟩:=(congrFun hSP _).mpr hSw; obtain ⟨s0,s1,s2,s3,s4,s5,s6,s7⟩:=cells8 rs; obtain ⟨s8,s9,s10⟩:=cells3 xs; go_simp))
    refine tk9 7 (.int .i64 (i:Int)) ?_
    refine rd9 5 fun K hK=>?_
    go_simp
    refine (Uh K3).mono ?_
    rintro e W3 ⟨rfl,hb3⟩
    have hB3:=bthen hd2 hb3
    have HF3:=Hd ((Uh HS) W3 hB3)
    refine hK.out _ _ ?_ (fun hHeld=>?_)
    ·exact Uh HF3
    clear hK K
    try simp only [Act.put,sa9,sb9,sc9]
    refine tk9 6 (.int .i64 fp) ?_ (hy:=by (intro w hSw; obtain ⟨rs,xs,s11,s12,s13⟩:=(congrFun hSP _).mpr hSw; obtain ⟨s0,s1,s2,s3,s4,s5,s6,s7⟩:=cells8 rs; obtain ⟨s8,s9,s10⟩:=cells3 xs; have hlk:=(Uh HLK) _ (Uh s13); go_simp))
    refine tk9 8 (.bool (decide (fp<(i:Int)))) ?_
    refine tk9 9 (.bool (decide (fp<(i:Int)))) ?_
    by_cases hlt:fp<(i:Int)
    ·have hdt:decide (fp<(i:Int))=true:=decide_eq_true hlt
     obtain rfl:R=74:=by
      rw [← Uh HR,hdt]; simp
     rw [hdt]
     refine tn9 10 ?_
     refine tn9 11 ?_
     refine tn9 12 ?_
     refine tn9 13 ?_
     refine tn9 14 ?_
     refine tn9 15 ?_
     refine tn9 16 ?_
     refine tn9 17 ?_
     refine tn9 18 ?_
     refine tn9 19 ?_
     refine tn9 20 ?_
     refine tn9 21 ?_
     refine tn9 22 ?_
     refine tk9 23 (.bool true) ?_
     refine tk9 24 (.bool true) ?_
     refine wpAnyH_done (by kernel_rfl) ?_ _
     have HF:=(Uh HFIN) W3 74 hB3
     clear HS HFST HFIN K3 HF3 hB3 hHeld HR HLK KP KPO hB2 hd2 hB1
     go_wp2
     go_ret
     exact HF
    ·have hdf:decide (fp<(i:Int))=false:=decide_eq_false hlt
     rw [hdf]
     have K4:=Hd ((Uh KP) W3 hB3)
     refine tk9 10 (.agg #[.slice cao cs.length ccap,.slice oao os.length ocap,.map (some mr)]) ?_ (hy:=by (intro w hSw; obtain ⟨rs,xs,s11,s12,s13⟩:=(congrFun hSP _).mpr hSw; obtain ⟨s0,s1,s2,s3,s4,s5,s6,s7⟩:=cells8 rs; obtain ⟨s8,s9,s10⟩:=cells3 xs; go_simp))
     refine tk9 11 (.pointer (some ⟨w.heap.size+1,1,none⟩)) ?_ (hy:=by (intro w hSw; obtain ⟨rs,xs,s11,s12,s13⟩:=(congrFun hSP _).mpr hSw; obtain ⟨s0,s1,s2,s3,s4,s5,s6,s7⟩:=cells8 rs; obtain ⟨s8,s9,s10⟩:=cells3 xs; go_simp))
     refine tk9 12 (.int .i64 lo) ?_ (hy:=by (intro w hSw; obtain ⟨rs,xs,s11,s12,s13⟩:=(congrFun hSP _).mpr hSw; obtain ⟨s0,s1,s2,s3,s4,s5,s6,s7⟩:=cells8 rs; obtain ⟨s8,s9,s10⟩:=cells3 xs; go_simp))
     refine tk9 13 (.int .i32 lo) ?_ (hy:=by (intro w hSw; obtain ⟨rs,xs,s11,s12,s13⟩:=(congrFun hSP _).mpr hSw; obtain ⟨s0,s1,s2,s3,s4,s5,s6,s7⟩:=cells8 rs; obtain ⟨s8,s9,s10⟩:=cells3 xs; go_simp))
     refine tk9 14 (.pointer (some ⟨w.heap.size+1,4,none⟩)) ?_ (hy:=by (intro w hSw; obtain ⟨rs,xs,s11,s12,s13⟩:=(congrFun hSP _).mpr hSw; obtain ⟨s0,s1,s2,s3,s4,s5,s6,s7⟩:=cells8 rs; obtain ⟨s8,s9,s10⟩:=cells3 xs; go_simp))
     refine tk9 15 (.slice (some ⟨tb,toff,none⟩) 2 tcap) ?_ (hy:=by (intro w hSw; obtain ⟨rs,xs,s11,s12,s13⟩:=(congrFun hSP _).mpr hSw; obtain ⟨s0,s1,s2,s3,s4,s5,s6,s7⟩:=cells8 rs; obtain ⟨s8,s9,s10⟩:=cells3 xs; go_simp))
     refine tk9 16 (.pointer (some ⟨tb,toff,none⟩)) ?_ (hy:=by (intro w hSw; obtain ⟨rs,xs,s11,s12,s13⟩:=(congrFun hSP _).mpr hSw; obtain ⟨s0,s1,s2,s3,s4,s5,s6,s7⟩:=cells8 rs; obtain ⟨s8,s9,s10⟩:=cells3 xs; go_simp))
     refine tk9 17 (.int .i32 pa) ?_ (hy:=by (intro w hSw; obtain ⟨rs,xs,s11,s12,s13⟩:=(congrFun hSP _).mpr hSw; obtain ⟨s0,s1,s2,s3,s4,s5,s6,s7⟩:=cells8 rs; obtain ⟨s8,s9,s10⟩:=cells3 xs; go_simp))
     refine tk9 18 (.pointer (some ⟨w.heap.size+1,4,none⟩)) ?_ (hy:=by (intro w hSw; obtain ⟨rs,xs,s11,s12,s13⟩:=(congrFun hSP _).mpr hSw; obtain ⟨s0,s1,s2,s3,s4,s5,s6,s7⟩:=cells8 rs; obtain ⟨s8,s9,s10⟩:=cells3 xs; go_simp))
     refine tk9 19 (.slice (some ⟨tb,toff,none⟩) 2 tcap) ?_ (hy:=by (intro w hSw; obtain ⟨rs,xs,s11,s12,s13⟩:=(congrFun hSP _).mpr hSw; obtain ⟨s0,s1,s2,s3,s4,s5,s6,s7⟩:=cells8 rs; obtain ⟨s8,s9,s10⟩:=cells3 xs; go_simp))
     refine tk9 20 (.pointer (some ⟨tb,toff+1,none⟩)) ?_ (hy:=by (intro w hSw; obtain ⟨rs,xs,s11,s12,s13⟩:=(congrFun hSP _).mpr hSw; obtain ⟨s0,s1,s2,s3,s4,s5,s6,s7⟩:=cells8 rs; obtain ⟨s8,s9,s10⟩:=cells3 xs; go_simp))
     refine tk9 21 (.int .i32 pb) ?_ (hy:=by (intro w hSw; obtain ⟨rs,xs,s11,s12,s13⟩:=(congrFun hSP _).mpr hSw; obtain ⟨s0,s1,s2,s3,s4,s5,s6,s7⟩:=cells8 rs; obtain ⟨s8,s9,s10⟩:=cells3 xs; go_simp))
     refine rd9 22 fun K hK=>?_
     go_simp
     refine (Uh K4).mono ?_
     rintro e W4 ⟨rfl,hb4⟩
     have hB4:=bthen hB3 hb4
     have HF4:=Hd ((Uh HS) W4 hB4)
     refine hK.out _ _ ?_ (fun hHeld=>?_)
     ·exact Uh HF4
     clear hK K
     try simp only [Act.put,sa9,sb9,sc9]
     refine tk9 23 (.bool wp) ?_
     refine tk9 24 (.bool wp) ?_
     refine wpAnyH_done (by kernel_rfl) ?_ _
     cases wp
     ·obtain rfl:R=0:=by
       rw [← Uh HR,hdf]; simp
      have HF:=(Uh HFIN) W4 0 hB4
      clear HS HFST HFIN K3 K4 HF3 HF4 hB3 hB4 hHeld HR HLK KP KPO hB2 hd2 hB1
      go_wp2
      go_ret
      exact HF
     ·obtain rfl:R=74:=by
       rw [← Uh HR,hdf]; simp
      have HF:=(Uh HFIN) W4 74 hB4
      clear HS HFST HFIN K3 K4 HF3 HF4 hB3 hB4 hHeld HR HLK KP KPO hB2 hd2 hB1
      go_wp2
      go_ret
      exact HF
   ·have hzz:(wf != 0)=true:=by simp [hz]
    obtain rfl:R=wf:=by rw [← Uh HR]; simp [hz]
    have HF:=(Uh HFIN) W2 R hB2
    clear hz
    clear HS HFIN hB2 HR HLK KP KPO hB1
    go_wp2
    go_ret
    exact HF
 ·obtain rfl:R=71:=(Uh HR).symm
  go_enter Tryz.func76,Tryz.ntmps76
  go_wp2
  refine wp_region_held_drew (S:=fun w'=>SP w') (by kernel_rfl) (Uh HFST) (fun hHeld=>?_)
  refine tk9 0 (.agg #[.int .i64 7,.int .i64 lo,.int .i64 hi,.int .i64 nn,.slice (some ⟨tb,toff,none⟩) 2 tcap,.string nm,.string ot,.float .f64 wt]) ?_ (hy:=by (intro w hSw; obtain ⟨rs,xs,s11,s12,s13⟩:=(congrFun hSP _).mpr hSw; obtain ⟨s0,s1,s2,s3,s4,s5,s6,s7⟩:=cells8 rs; obtain ⟨s8,s9,s10⟩:=cells3 xs; go_simp))
  refine rd9 1 fun K hK=>?_
  go_simp
  refine (Uh KT0).mono ?_
  rintro e W1 ⟨rfl,hb1⟩
  have hB1:=bthen hd0 hb1
  have HF1:=Hd ((Uh HS) W1 hB1)
  refine hK.out _ _ ?_ (fun hHeld=>?_)
  ·exact Uh HF1
  clear hK K
  try simp only [Act.put,sa9,sb9,sc9]
  refine tk9 2 (.bool true) ?_
  refine tn9 3 ?_
  refine tn9 4 ?_
  refine tn9 5 ?_
  refine tn9 6 ?_
  refine tn9 7 ?_
  refine tn9 8 ?_
  refine tn9 9 ?_
  refine tn9 10 ?_
  refine tn9 11 ?_
  refine tn9 12 ?_
  refine tn9 13 ?_
  refine tn9 14 ?_
  refine tk9 15 (.bool true) ?_
  refine tk9 16 (.bool true) ?_
  refine wpAnyH_done (by kernel_rfl) ?_ _
  have HF:=(Uh HFIN) W1 71 hB1
  clear HS HFST HFIN KT KT0 KW KM KP KPO HLK HF1 hB1 hHeld HR
  go_wp2
  go_ret
  exact HF
end Go.Proofs.YtihhhjodonkkcaaGreatDoor
