/- CcT67 CcT87 CcV7 CcW7 -/
import Derived.Test.YtihhhjodonkkcaaGreatDoorX23
import Derived.Test.YtihhhjodonkkcaaGreatDoorX24
import Derived.Test.YtihhhjodonkkcaaGreatDoorX20
namespace Go.Proofs.YtihhhjodonkkcaaGreatDoor
open Go.RowKit
set_option maxRecDepth 20000 in
set_option maxHeartbeats 16000000 in
theorem wrong6 (l cs os:List Rec) (cv ov:Value) (mr i:Nat) (lo hi nn:Int) (tq:List Int) (nm ot:ByteArray) (wt:Nat) (vt:Value) (w:World) (h:Idx l w cv ov cs os) (hs:Sk .i32 w vt tq) (hlo:¬ lo<128) :
  Calls Tryz.prog 76 #[xV cv ov (.map (some mr)),.int .i64 (i:Int),recV (⟨6,lo,hi,nn,tq,nm,ot,wt⟩:Rec) vt] w (IntB w (if touches (⟨6,lo,hi,nn,tq,nm,ot,wt⟩:Rec)=true then 71 else 0)):=by
 obtain ⟨cao,ccap,rfl,_,_⟩:=h.rc.shape
 obtain ⟨oao,ocap,rfl,_,_⟩:=h.ro.shape
 obtain ⟨tao,tcap,rfl,_,_⟩:=hs.shape
 obtain ⟨Q,hQ⟩:∃ Q,((w.alloc (.cells #[.slice cao cs.length ccap,.slice oao os.length ocap,.map (some mr)] 125)).alloc (.cells #[.int .i64 6,.int .i64 lo,.int .i64 hi,.int .i64 nn,.slice tao tq.length tcap,.string nm,.string ot,.float .f64 wt] 59))=Q:=⟨_,rfl⟩
 have hb0:Below w.heap.size w Q:=by rw [← hQ]; exact ((Below.refl _ _).alloc (Nat.le_refl _) _).alloc (by simp) _
 have hs0:Q.heap.size=w.heap.size+2:=by rw [← hQ]; simp
 have hxh:Q.heap[w.heap.size]?=some (.cells #[.slice cao cs.length ccap,.slice oao os.length ocap,.map (some mr)] 125 (0,0)):=by
  rw [← hQ]
  show ((w.heap.push _).push _)[w.heap.size]?=_
  rw [Array.getElem?_push,Array.getElem?_push]; simp
 have hrh:Q.heap[w.heap.size+1]?=some (.cells #[.int .i64 6,.int .i64 lo,.int .i64 hi,.int .i64 nn,.slice tao tq.length tcap,.string nm,.string ot,.float .f64 wt] 59 (0,0)):=by
  rw [← hQ]
  show ((w.heap.push _).push _)[w.heap.size+1]?=_
  rw [Array.getElem?_push]; simp
 have HBW:Hid (∀ W:World,Below Q.heap.size Q W→Below w.heap.size w W):=fun W hW=>hb0.trans (hW.mono (by omega))
 obtain ⟨SP,hSP⟩:∃ SP:World→Prop,(fun W=>(W.heap[w.heap.size+1]?=some (.cells #[.int .i64 6,.int .i64 lo,.int .i64 hi,.int .i64 nn,.slice tao tq.length tcap,.string nm,.string ot,.float .f64 wt] 59 (0,0))∧W.heap[w.heap.size]?=some (.cells #[.slice cao cs.length ccap,.slice oao os.length ocap,.map (some mr)] 125 (0,0))∧Hid (Below Q.heap.size Q W)))=SP:=⟨_,rfl⟩
 have HS:Hid (∀ W:World,Below Q.heap.size Q W→SP W):=fun W hW=>by
  rw [← hSP]
  have hx:=(hW.block (w.heap.size) (by omega)).trans hxh
  have hr:=(hW.block (w.heap.size+1) (by omega)).trans hrh
  exact ⟨hr,hx,hW⟩
 have KT:Hid (∀ W:World,Calls Tryz.prog 117 #[.agg #[.int .i64 6,.int .i64 lo,.int .i64 hi,.int .i64 nn,.slice tao tq.length tcap,.string nm,.string ot,.float .f64 wt]] W (BoolB W (touches (⟨6,lo,hi,nn,tq,nm,ot,wt⟩:Rec)))):=fun W=>touches_any (⟨6,lo,hi,nn,tq,nm,ot,wt⟩:Rec) _ _ _ W
 have hd0:Below Q.heap.size Q Q.drew:=drewB ⟨1,rfl⟩
 have HFST:=Hd ((Uh HS) _ hd0)
 have HFIN:Hid (∀ W z,Below Q.heap.size Q W→IntB w z (.returned (.int .i64 z)) W):=fun W z hW=>⟨rfl,(Uh HBW) W hW⟩
 have KT0:=Hd ((Uh KT) Q.drew)
 generalize touches (⟨6,lo,hi,nn,tq,nm,ot,wt⟩:Rec)=tc at *
 subst hQ
 unfold xV recV
 clear hxh hrh hb0 h hs
 cases tc
 ·rw [if_neg (by decide)]
  go_enter Tryz.func76,Tryz.ntmps76
  go_wp2
  refine wp_region_held_drew (S:=fun w'=>SP w') (by kernel_rfl) (Uh HFST) (fun hHeld=>?_)
  refine tk9 0 (.agg #[.int .i64 6,.int .i64 lo,.int .i64 hi,.int .i64 nn,.slice tao tq.length tcap,.string nm,.string ot,.float .f64 wt]) ?_ (hy:=by (intro w hSw; obtain ⟨rs,xs,s11⟩:=(congrFun hSP _).mpr hSw; obtain ⟨s0,s1,s2,s3,s4,s5,s6,s7⟩:=cells8 rs; obtain ⟨s8,s9,s10⟩:=cells3 xs; go_simp))
  refine rd9 1 fun K hK=>?_
  go_simp
  refine (Uh KT0).mono ?_
  rintro e W1 ⟨rfl,hb1⟩
  have hB1:=bthen hd0 hb1
  have HF1:=Hd ((Uh HS) W1 hB1)
  refine hK.out _ _ ?_ (fun hHeld=>?_)
  ·exact Uh HF1
  clear hK K
  try simp only [Act.put,sa9,sb9,sc9]
  refine tk9 2 (.bool false) ?_
  refine tk9 3 (.bool false) ?_
  refine tk9 4 (.bool false) ?_
  refine tn9 5 ?_
  refine tn9 6 ?_
  refine tn9 7 ?_
  refine tn9 8 ?_
  refine tn9 9 ?_
  refine tn9 10 ?_
  refine tn9 11 ?_
  refine tn9 12 ?_
  refine tn9 13 ?_
  refine tk9 14 (.bool false) ?_
  refine tk9 15 (.bool false) ?_
  refine tk9 16 (.bool false) ?_
  refine wpAnyH_done (by kernel_rfl) ?_ _
  go_wp2
  refine wp_region_held_drew (S:=fun _=>True) (by kernel_rfl) trivial (fun hHeld=>?_)
  refine tk9 0 (.bool false) ?_
  refine tk9 1 (.bool false) ?_
  refine tn9 2 ?_
  refine tn9 3 ?_
  refine tn9 4 ?_
  refine tn9 5 ?_
  refine tn9 6 ?_
  refine tn9 7 ?_
  refine tn9 8 ?_
  refine tn9 9 ?_
  refine tn9 10 ?_
  refine tn9 11 ?_
  refine tn9 12 ?_
  refine tn9 13 ?_
  refine tn9 14 ?_
  refine tn9 15 ?_
  refine tn9 16 ?_
  refine tn9 17 ?_
  refine tn9 18 ?_
  refine tn9 19 ?_
  refine tn9 20 ?_
  refine tn9 21 ?_
  refine tn9 22 ?_
  refine tn9 23 ?_
  refine tk9 24 (.bool false) ?_
  refine wpAnyH_done (by kernel_rfl) ?_ _
  have HF:=(Uh HFIN) W1.drew 0 (bthen hB1 (drewB ⟨1,rfl⟩))
  clear HS HFST HFIN KT KT0 HF1 hB1 hHeld
  go_wp2
  go_ret
  exact HF
 ·rw [if_pos rfl]
  go_enter Tryz.func76,Tryz.ntmps76
  go_wp2
  refine wp_region_held_drew (S:=fun w'=>SP w') (by kernel_rfl) (Uh HFST) (fun hHeld=>?_)
  refine tk9 0 (.agg #[.int .i64 6,.int .i64 lo,.int .i64 hi,.int .i64 nn,.slice tao tq.length tcap,.string nm,.string ot,.float .f64 wt]) ?_ (hy:=by (intro w hSw; obtain ⟨rs,xs,s11⟩:=(congrFun hSP _).mpr hSw; obtain ⟨s0,s1,s2,s3,s4,s5,s6,s7⟩:=cells8 rs; obtain ⟨s8,s9,s10⟩:=cells3 xs; go_simp))
  refine rd9 1 fun K hK=>?_
  go_simp
  refine (Uh KT0).mono ?_
  rintro e W1 ⟨rfl,hb1⟩
  have hB1:=bthen hd0 hb1
  have HF1:=Hd ((Uh HS) W1 hB1)
  refine hK.out _ _ ?_ (fun hHeld=>?_)
  ·exact Uh HF1
  clear hK K
  try simp only [Act.put,sa9,sb9,sc9]
  refine tk9 2 (.bool true) ?_
  refine tn9 3 ?_
  refine tn9 4 ?_
  refine tn9 5 ?_
  refine tn9 6 ?_
  refine tn9 7 ?_
  refine tn9 8 ?_
  refine tn9 9 ?_
  refine tn9 10 ?_
  refine tn9 11 ?_
  refine tn9 12 ?_
  refine tn9 13 ?_
  refine tn9 14 ?_
  refine tk9 15 (.bool true) ?_
  refine tk9 16 (.bool true) ?_
  refine wpAnyH_done (by kernel_rfl) ?_ _
  have HF:=(Uh HFIN) W1 71 hB1
  clear HS HFST HFIN KT KT0 HF1 hB1 hHeld
  go_wp2
  go_ret
  exact HF
set_option maxRecDepth 20000 in
set_option maxHeartbeats 16000000 in
theorem wrong8 (l cs os:List Rec) (cv ov:Value) (mr i:Nat) (lo hi nn:Int) (tq:List Int) (nm ot:ByteArray) (wt:Nat) (vt:Value) (w:World) (hg:Glob w) (h:Idx l w cv ov cs os) (hs:Sk .i32 w vt tq) (hlo:¬ lo<128) (hlr:Rune lo) :
  Calls Tryz.prog 76 #[xV cv ov (.map (some mr)),.int .i64 (i:Int),recV (⟨8,lo,hi,nn,tq,nm,ot,wt⟩:Rec) vt] w (IntB w (if touches (⟨8,lo,hi,nn,tq,nm,ot,wt⟩:Rec)=true then 71 else Cn.wfull l lo)):=by
 obtain ⟨cao,ccap,rfl,_,_⟩:=h.rc.shape
 obtain ⟨oao,ocap,rfl,_,_⟩:=h.ro.shape
 obtain ⟨tao,tcap,rfl,_,_⟩:=hs.shape
 obtain ⟨Q,hQ⟩:∃ Q,((w.alloc (.cells #[.slice cao cs.length ccap,.slice oao os.length ocap,.map (some mr)] 125)).alloc (.cells #[.int .i64 8,.int .i64 lo,.int .i64 hi,.int .i64 nn,.slice tao tq.length tcap,.string nm,.string ot,.float .f64 wt] 59))=Q:=⟨_,rfl⟩
 have hb0:Below w.heap.size w Q:=by rw [← hQ]; exact ((Below.refl _ _).alloc (Nat.le_refl _) _).alloc (by simp) _
 have hs0:Q.heap.size=w.heap.size+2:=by rw [← hQ]; simp
 have hxh:Q.heap[w.heap.size]?=some (.cells #[.slice cao cs.length ccap,.slice oao os.length ocap,.map (some mr)] 125 (0,0)):=by
  rw [← hQ]
  show ((w.heap.push _).push _)[w.heap.size]?=_
  rw [Array.getElem?_push,Array.getElem?_push]; simp
 have hrh:Q.heap[w.heap.size+1]?=some (.cells #[.int .i64 8,.int .i64 lo,.int .i64 hi,.int .i64 nn,.slice tao tq.length tcap,.string nm,.string ot,.float .f64 wt] 59 (0,0)):=by
  rw [← hQ]
  show ((w.heap.push _).push _)[w.heap.size+1]?=_
  rw [Array.getElem?_push]; simp
 have HBW:Hid (∀ W:World,Below Q.heap.size Q W→Below w.heap.size w W):=fun W hW=>hb0.trans (hW.mono (by omega))
 obtain ⟨SP,hSP⟩:∃ SP:World→Prop,(fun W=>(W.heap[w.heap.size+1]?=some (.cells #[.int .i64 8,.int .i64 lo,.int .i64 hi,.int .i64 nn,.slice tao tq.length tcap,.string nm,.string ot,.float .f64 wt] 59 (0,0))∧W.heap[w.heap.size]?=some (.cells #[.slice cao cs.length ccap,.slice oao os.length ocap,.map (some mr)] 125 (0,0))∧Hid (Below Q.heap.size Q W)))=SP:=⟨_,rfl⟩
 have HS:Hid (∀ W:World,Below Q.heap.size Q W→SP W):=fun W hW=>by
  rw [← hSP]
  have hx:=(hW.block (w.heap.size) (by omega)).trans hxh
  have hr:=(hW.block (w.heap.size+1) (by omega)).trans hrh
  exact ⟨hr,hx,hW⟩
 have KT:Hid (∀ W:World,Calls Tryz.prog 117 #[.agg #[.int .i64 8,.int .i64 lo,.int .i64 hi,.int .i64 nn,.slice tao tq.length tcap,.string nm,.string ot,.float .f64 wt]] W (BoolB W (touches (⟨8,lo,hi,nn,tq,nm,ot,wt⟩:Rec)))):=fun W=>touches_any (⟨8,lo,hi,nn,tq,nm,ot,wt⟩:Rec) _ _ _ W
 have KW:Hid (∀ W:World,Below Q.heap.size Q W→Calls Tryz.prog 119 #[.agg #[.slice cao cs.length ccap,.slice oao os.length ocap,.map (some mr)],.int .i32 lo] W (IntB W (Cn.wfull l lo))):=fun W hW=>wfull_any l cs os _ _ mr lo W (hg.on ((Uh HBW) W hW)) (h.below ((Uh HBW) W hW)) hlr
 have hlw:IntKind.i32.wrap lo=lo:=by
  unfold Rune at hlr
  simp [IntKind.wrap,IntKind.bits,IntKind.signed]; omega
 have hd0:Below Q.heap.size Q Q.drew:=drewB ⟨1,rfl⟩
 have HFST:=Hd ((Uh HS) _ hd0)
 have HFIN:Hid (∀ W z,Below Q.heap.size Q W→IntB w z (.returned (.int .i64 z)) W):=fun W z hW=>⟨rfl,(Uh HBW) W hW⟩
 have KT0:=Hd ((Uh KT) Q.drew)
 generalize touches (⟨8,lo,hi,nn,tq,nm,ot,wt⟩:Rec)=tc at *
 generalize Cn.wfull l lo=wf at *
 subst hQ
 unfold xV recV
 clear hxh hrh hb0 h hs hg
 cases tc
 ·rw [if_neg (by decide)]
  go_enter Tryz.func76,Tryz.ntmps76
  go_wp2
  refine wp_region_held_drew (S:=fun w'=>SP w') (by kernel_rfl) (Uh HFST) (fun hHeld=>?_)
  refine tk9 0 (.agg #[.int .i64 8,.int .i64 lo,.int .i64 hi,.int .i64 nn,.slice tao tq.length tcap,.string nm,.string ot,.float .f64 wt]) ?_ (hy:=by (intro w hSw; obtain ⟨rs,xs,s11⟩:=(congrFun hSP _).mpr hSw; obtain ⟨s0,s1,s2,s3,s4,s5,s6,s7⟩:=cells8 rs; obtain ⟨s8,s9,s10⟩:=cells3 xs; go_simp))
  refine rd9 1 fun K hK=>?_
  go_simp
  refine (Uh KT0).mono ?_
  rintro e W1 ⟨rfl,hb1⟩
  have hB1:=bthen hd0 hb1
  have HF1:=Hd ((Uh HS) W1 hB1)
  refine hK.out _ _ ?_ (fun hHeld=>?_)
  ·exact Uh HF1
  clear hK K
  try simp only [Act.put,sa9,sb9,sc9]
  refine tk9 2 (.bool false) ?_
  refine tk9 3 (.bool false) ?_
  refine tk9 4 (.bool false) ?_
  refine tn9 5 ?_
  refine tn9 6 ?_
  refine tn9 7 ?_
  refine tn9 8 ?_
  refine tn9 9 ?_
  refine tn9 10 ?_
  refine tn9 11 ?_
  refine tn9 12 ?_
  refine tn9 13 ?_
  refine tk9 14 (.bool false) ?_
  refine tk9 15 (.bool false) ?_
  refine tk9 16 (.bool false) ?_
  refine wpAnyH_done (by kernel_rfl) ?_ _
  obtain ⟨rq,xq,q11⟩:=(congrFun hSP _).mpr (Uh HF1)
  obtain ⟨q0,q1,q2,q3,q4,q5,q6,q7⟩:=cells8 rq
  obtain ⟨q8,q9,q10⟩:=cells3 xq
  clear rq xq
  have K2:=Hd ((Uh KW) W1 hB1)
  clear HF1 HFST KT KT0 KW hHeld
  go_wp2_with fail
  refine (Uh K2).mono ?_
  rintro e W2 ⟨rfl,hb2⟩
  have hB2:=bthen hB1 hb2
  clear K2 hb2
  by_cases hz:wf=0
  ·subst hz
   go_wp2
   refine wp_region_held_drew (S:=fun _=>True) (by kernel_rfl) trivial (fun hHeld=>?_)
   refine tk9 0 (.bool false) ?_
   refine tk9 1 (.bool false) ?_
   refine tn9 2 ?_
   refine tn9 3 ?_
   refine tn9 4 ?_
   refine tn9 5 ?_
   refine tn9 6 ?_
   refine tn9 7 ?_
   refine tn9 8 ?_
   refine tn9 9 ?_
   refine tn9 10 ?_
   refine tn9 11 ?_
   refine tn9 12 ?_
   refine tn9 13 ?_
   refine tn9 14 ?_
   refine tn9 15 ?_
   refine tn9 16 ?_
   refine tn9 17 ?_
   refine tn9 18 ?_
   refine tn9 19 ?_
   refine tn9 20 ?_
   refine tn9 21 ?_
   refine tn9 22 ?_
   refine tn9 23 ?_
   refine tk9 24 (.bool false) ?_
   refine wpAnyH_done (by kernel_rfl) ?_ _
   have HF:=(Uh HFIN) W2.drew 0 (bthen hB2 (drewB ⟨1,rfl⟩))
   clear HS HFIN hB2 hHeld hB1 q0 q1 q2 q3 q4 q5 q6 q7 q8 q9 q10 q11
   go_wp2
   go_ret
   exact HF
  ·have hzz:(wf != 0)=true:=by simp [hz]
   have HF:=(Uh HFIN) W2 wf hB2
   clear hz
   clear HS HFIN hB2 hB1 q0 q1 q2 q3 q4 q5 q6 q7 q8 q9 q10 q11
   go_wp2
   go_ret
   exact HF
 ·rw [if_pos rfl]
  go_enter Tryz.func76,Tryz.ntmps76
  go_wp2
  refine wp_region_held_drew (S:=fun w'=>SP w') (by kernel_rfl) (Uh HFST) (fun hHeld=>?_)
  refine tk9 0 (.agg #[.int .i64 8,.int .i64 lo,.int .i64 hi,.int .i64 nn,.slice tao tq.length tcap,.string nm,.string ot,.float .f64 wt]) ?_ (hy:=by (intro w hSw; obtain ⟨rs,xs,s11⟩:=(congrFun hSP _).mpr hSw; obtain ⟨s0,s1,s2,s3,s4,s5,s6,s7⟩:=cells8 rs; obtain ⟨s8,s9,s10⟩:=cells3 xs; go_simp))
  refine rd9 1 fun K hK=>?_
  go_simp
  refine (Uh KT0).mono ?_
  rintro e W1 ⟨rfl,hb1⟩
  have hB1:=bthen hd0 hb1
  have HF1:=Hd ((Uh HS) W1 hB1)
  refine hK.out _ _ ?_ (fun hHeld=>?_)
  ·exact Uh HF1
  clear hK K
  try simp only [Act.put,sa9,sb9,sc9]
  refine tk9 2 (.bool true) ?_
  refine tn9 3 ?_
  refine tn9 4 ?_
  refine tn9 5 ?_
  refine tn9 6 ?_
  refine tn9 7 ?_
  refine tn9 8 ?_
  refine tn9 9 ?_
  refine tn9 10 ?_
  refine tn9 11 ?_
  refine tn9 12 ?_
  refine tn9 13 ?_
  refine tn9 14 ?_
  refine tk9 15 (.bool true) ?_
  refine tk9 16 (.bool true) ?_
  refine wpAnyH_done (by kernel_rfl) ?_ _
  have HF:=(Uh HFIN) W1 71 hB1
  clear HS HFST HFIN KT KT0 KW HF1 hB1 hHeld
  go_wp2
  go_ret
  exact HF
namespace Cn
def tailC (rs:List Rec) (k:Nat):Nat × Int:=match recordA rs k (rs.drop k) with
 | some x=>x
 | Option.none=>if baseA rs 78 45 then (0,0) else (rs.length,70)
theorem tailC_hit {rs k} (hk:k<rs.length) (h:record rs k (rs.getD k none)≠0):tailC rs k=(k,record rs k (rs.getD k none)):=by
 have e:rs.getD k none=rs[k]:=by grind
 rw [e] at h ⊢
 unfold tailC
 rw [List.drop_eq_getElem_cons hk,recordA,if_neg h]
theorem tailC_next {rs k} (hk:k<rs.length) (h:record rs k (rs.getD k none)=0):tailC rs k=tailC rs (k+1):=by
 have e:rs.getD k none=rs[k]:=by grind
 rw [e] at h
 unfold tailC
 rw [List.drop_eq_getElem_cons hk,recordA,if_pos h]
theorem tailC_end rs:tailC rs rs.length=if baseA rs 78 45 then (0,0) else (rs.length,70):=by
 unfold tailC
 rw [List.drop_length,recordA]
theorem checkC_err {rs} (h:(check6 rs).2≠0):check rs=check6 rs:=by unfold check; rw [if_pos h]
theorem checkC_ok {rs} (h:(check6 rs).2=0):check rs=tailC rs 0:=by unfold check tailC; rw [if_neg (fun e=>e h)]; rfl
end Cn
theorem wrong_any l cs os cv ov mr i vt w (hg:Glob w) (h:Idx l w cv ov cs os) (hp:PAt w mr (Cn.firstP l)) (hi:i<l.length) (hs:Sk .i32 w vt (l.getD i Cn.none).to) :
  Calls Tryz.prog 76 #[xV cv ov (.map (some mr)),.int .i64 (i:Int),recV (l.getD i Cn.none) vt] w (IntB w (Cn.record l i (l.getD i Cn.none))):=by
 obtain ⟨hl,hright⟩:=Cn.check6_all h.ok
 have hm:l.getD i Cn.none∈l:=by simp [List.getD,hi]
 have hr:=hright _ hm
 have hpb:=Cn.pair_bad (l:=l) (i:=i) hi
 generalize l.getD i Cn.none=r at *
 by_cases hk:r.kind=6∨r.kind=7∨r.kind=8
 ·have h15:r.kind≠15:=by omega
  obtain ⟨s0,s1,s2⟩:=Cn.right_span hr h15
  have hlr:Rune r.lo:=by unfold Rune; omega
  by_cases hlo:r.lo<128
  ·rw [Cn.record_low hr hk hlo]
   obtain ⟨cao,ccap,rfl,_,_⟩:=h.rc.shape
   obtain ⟨oao,ocap,rfl,_,_⟩:=h.ro.shape
   obtain ⟨tao,tcap,rfl,_,_⟩:=hs.shape
   exact wrongLow _ _ _ _ _ _ _ _ _ _ _ r.kind r.lo r.hi r.n r.to r.name r.other r.wt w hk hlo
  ·obtain ⟨kd,lo,hi',nn,tt,nm,ot,wt⟩:=r
   rcases hk with k6 | k7 | k8
   ·simp only at k6
    subst k6
    have:=wrong6 l cs os cv ov mr i lo hi' nn tt nm ot wt vt w h hs hlo
    by_cases ht:touches ⟨6,lo,hi',nn,tt,nm,ot,wt⟩=true
    ·rw [if_pos ht] at this
     rw [Cn.record_hangul (.inl rfl) hlo (by rw [ht]; rfl)]
     exact this
    ·rw [if_neg ht] at this
     rw [Cn.record_rest (.inl rfl) hlo (by simpa using ht),if_pos rfl]
     exact this
   ·simp only at k7
    subst k7
    obtain ⟨⟨g1,g2⟩,g3⟩:=Cn.list_parts (Cn.right_decomp hr rfl).2.2
    simp only at g1 g2 g3
    have hra:Rune (tt.getD 0 0):=by
     have:=of_decide_eq_true (g3 (tt.getD 0 0) (mem_getD (by omega)))
     unfold Rune; omega
    have hrb:Rune (tt.getD 1 0):=by
     have:=of_decide_eq_true (g3 (tt.getD 1 0) (mem_getD (by omega)))
     unfold Rune; omega
    have:=wrong7 l cs os cv ov mr i lo hi' nn tt nm ot wt vt w hg h hs hlo hlr (by omega) hra hrb hp
    by_cases ht:(touches ⟨7,lo,hi',nn,tt,nm,ot,wt⟩ || makes (tt.getD 0 0) (tt.getD 1 0))=true
    ·rw [if_pos ht] at this
     rw [Cn.record_hangul (.inr (.inl rfl)) hlo (by simpa using ht)]
     exact this
    ·rw [if_neg ht] at this
     rw [Cn.record_rest (.inr (.inl rfl)) hlo (by simpa using ht),if_neg (show ¬ (7:Int)=6 by decide)]
     by_cases hw:Cn.wfull l lo≠0
     ·rw [if_pos hw] at this
      rw [if_pos hw]
      exact this
     ·rw [if_neg hw] at this
      rw [if_neg hw,hpb rfl]
      by_cases hb:Cn.bad7 l i ⟨7,lo,hi',nn,tt,nm,ot,wt⟩=true
      ·have hb2:=hb
       unfold Cn.bad7 at hb2
       rw [if_pos hb2] at this
       rw [if_pos ⟨rfl,by rw [hb]; rfl⟩]
       exact this
      ·have hb2:=hb
       unfold Cn.bad7 at hb2
       rw [if_neg hb2] at this
       rw [if_neg (fun q=>hb (by simpa using q.2))]
       exact this
   ·simp only at k8
    subst k8
    have:=wrong8 l cs os cv ov mr i lo hi' nn tt nm ot wt vt w hg h hs hlo hlr
    by_cases ht:touches ⟨8,lo,hi',nn,tt,nm,ot,wt⟩=true
    ·rw [if_pos ht] at this
     rw [Cn.record_hangul (.inr (.inr rfl)) hlo (by rw [ht]; rfl)]
     exact this
    ·rw [if_neg ht] at this
     have e:Cn.record l i ⟨8,lo,hi',nn,tt,nm,ot,wt⟩=Cn.wfull l lo:=by
      rw [Cn.record_rest (.inr (.inr rfl)) hlo (by simpa using ht),if_neg (show ¬ (8:Int)=6 by decide)]
      by_cases hw:Cn.wfull l lo≠0
      ·rw [if_pos hw]
      ·rw [if_neg hw,if_neg (fun q=>absurd q.1 (show ¬ (8:Int)=7 by decide))]
       exact (Decidable.not_not.1 hw).symm
     rw [e]
     exact this
 ·rw [Cn.record_none (by omega) (by omega) (by omega)]
  obtain ⟨cao,ccap,rfl,_,_⟩:=h.rc.shape
  obtain ⟨oao,ocap,rfl,_,_⟩:=h.ro.shape
  obtain ⟨tao,tcap,rfl,_,_⟩:=hs.shape
  exact wrongNone _ _ _ _ _ _ _ _ _ _ _ r.kind r.lo r.hi r.n r.to r.name r.other r.wt w (by omega) (by omega) (by omega)
set_option maxRecDepth 8000 in
set_option maxHeartbeats 8000000 in
theorem checkC:CheckC:=by
 intro v l w hg hv
 have K6:=Hd (check_any v l w hg hv)
 have HERR:Hid ((Cn.check6 l).2≠0→Cn.check l=Cn.check6 l):=Cn.checkC_err
 have HOK:Hid ((Cn.check6 l).2=0→Cn.check l=Cn.tailC l 0∧∀ W,Below w.heap.size w W→Calls Tryz.prog 75 #[v] W (IndexB W l)):=fun h=>⟨Cn.checkC_ok h,fun W hW=>newIndex_any v l W (hv.below hW) h⟩
 have HV:Hid (∀ W,Below w.heap.size w W→Rcs W v l):=fun W hW=>hv.below hW
 have HG:Hid (∀ W,Below w.heap.size w W→Glob W):=fun W hW=>hg.on hW
 have KB:Hid (∀ W,Below w.heap.size w W→Calls Tryz.prog 77 #[v] W (BoolB W (Cn.baseA l 78 45))):=fun W hW=>hasBase_any v l W (hg.on hW) (hv.below hW)
 have HEND:=Hd (Cn.tailC_end l)
 have HFit:=Hd (fun i hi=>hv.fit (i:=i) hi)
 generalize Cn.check l=res at *
 generalize Cn.check6 l=q at *
 obtain ⟨q1,q2⟩:=q
 have hlen:=hv.1
 obtain ⟨ao,cap,rfl,_,_⟩:=hv.shape
 go_enter Tryz.func47,Tryz.ntmps47
 go_wp2_with fail
 refine (Uh K6).mono ?_
 rintro e w1 ⟨rfl,hb1⟩
 by_cases hq:q2=0
 ·obtain ⟨hres,hidx⟩:=(Uh HOK) hq
  obtain rfl:q2=0:=hq
  have KI:=Hd (hidx w1 hb1)
  have HRES:=Hd hres
  go_wp2_with fail
  refine (Uh KI).mono ?_
  rintro e w2 ⟨cv,ov,cs,os,rfl,hI,hP,hb2⟩
  have hB2:=bthen hb1 hb2
  obtain ⟨cao,ccap,rfl,_,_⟩:=hI.rc.shape
  obtain ⟨oao,ocap,rfl,_,_⟩:=hI.ro.shape
  unfold xV
  have hB3:Below w2.heap.size w2 (w2.alloc (.cells #[.slice cao cs.length ccap,.slice oao os.length ocap,.map (some (w1.heap.size+1))] 125)):=(Below.refl _ _).alloc (Nat.le_refl _) _
  have hxh:(w2.alloc (.cells #[.slice cao cs.length ccap,.slice oao os.length ocap,.map (some (w1.heap.size+1))] 125)).heap[w2.heap.size]?=some (.cells #[.slice cao cs.length ccap,.slice oao os.length ocap,.map (some (w1.heap.size+1))] 125 (0,0)):=by
   show (w2.heap.push _)[w2.heap.size]?=_
   simp
  have hsz3:(w2.alloc (.cells #[.slice cao cs.length ccap,.slice oao os.length ocap,.map (some (w1.heap.size+1))] 125)).heap.size=w2.heap.size+1:=by simp
  have HIW:Hid (∀ W,Below (w2.heap.size+1) (w2.alloc (.cells #[.slice cao cs.length ccap,.slice oao os.length ocap,.map (some (w1.heap.size+1))] 125)) W→Below w2.heap.size w2 W):=fun W hW=>hB3.trans (hW.mono (by omega))
  have HXC:Hid (∀ W,Below (w2.heap.size+1) (w2.alloc (.cells #[.slice cao cs.length ccap,.slice oao os.length ocap,.map (some (w1.heap.size+1))] 125)) W→W.cell? ⟨w2.heap.size,0,none⟩=some (.slice cao cs.length ccap)∧W.cell? ⟨w2.heap.size,1,none⟩=some (.slice oao os.length ocap)∧W.cell? ⟨w2.heap.size,2,none⟩=some (.map (some (w1.heap.size+1)))):=fun W hW=>by
   have hx:=(hW.block (w2.heap.size) (by omega)).trans hxh
   exact ⟨cell_of (j:=0) hx (by show 0<3; omega),cell_of (j:=1) hx (by show 1<3; omega),cell_of (j:=2) hx (by show 2<3; omega)⟩
  have HWR:Hid (∀ i vt W,i<l.length→Below w2.heap.size w2 W→Sk .i32 W vt (l.getD i Cn.none).to→Calls Tryz.prog 76 #[.agg #[.slice cao cs.length ccap,.slice oao os.length ocap,.map (some (w1.heap.size+1))],.int .i64 (i:Int),recV (l.getD i Cn.none) vt] W (IntB W (Cn.record l i (l.getD i Cn.none)))):=fun i vt W hi hW hs=>by
   obtain ⟨es,cl,p1,p2⟩:=hP
   exact wrong_any l cs os _ _ _ i vt W ((Uh HG) W (bthen hB2 hW)) (hI.below hW) ⟨es,cl,by rw [hW.block _ (heap_lt p1)]; exact p1,p2⟩ hi hs
  have HB2:=Hd hB2
  go_wp2
  go_loopw [7,8,9,23] (fun _ _ _ iv wr=>∃ k:Nat,iv=.int .i64 k∧k≤l.length∧Hid (res=Cn.tailC l k)∧Hid (Below (w2.heap.size+1) (w2.alloc (.cells #[.slice cao cs.length ccap,.slice oao os.length ocap,.map (some (w1.heap.size+1))] 125)) wr)) (fun _ _ _ iv _=>l.length - (intOf iv).toNat)
  case atStart=>exact ⟨0,rfl,by omega,HRES,Below.refl _ _⟩
  case round =>
   obtain ⟨k,rfl,hk,HRES,HBR⟩:=hrel
   have hbr2:=(Uh HIW) wr (Uh HBR)
   have hbrw:Below w.heap.size w wr:=bthen (Uh HB2) hbr2
   by_cases hlt:k<l.length
   ·obtain ⟨b,off,cap',ev,_,_,hcells⟩:=((Uh HV) wr hbrw).place (by omega)
    simp only [Value.slice.injEq] at ev
    obtain ⟨rfl,_,rfl⟩:=ev
    obtain ⟨x0,x1,x2,x3,⟨vt,x4,hsk⟩,x5,x6,x7⟩:=hcells k hlt
    obtain ⟨tao,tcap,rfl,_,_⟩:=hsk.shape
    have hB1:∀ o,Below wr.heap.size wr (wr.alloc o):=fun o=>(Below.refl _ _).alloc (Nat.le_refl _) _
    have hbr3:∀ o,Below (w2.heap.size+1) (w2.alloc (.cells #[.slice cao cs.length ccap,.slice oao os.length ocap,.map (some (w1.heap.size+1))] 125)) (wr.alloc o):=fun o=>(Uh HBR).trans ((hB1 o).mono (by have:=(Uh HBR).size; rw [hsz3] at this; omega))
    have KK:=Hd ((Uh HWR) k _ (wr.alloc (.cells #[.int .i64 (l.getD k Cn.none).kind,.int .i64 (l.getD k Cn.none).lo,.int .i64 (l.getD k Cn.none).hi,.int .i64 (l.getD k Cn.none).n,.slice tao (l.getD k Cn.none).to.length tcap,.string (l.getD k Cn.none).name,.string (l.getD k Cn.none).other,.float .f64 (l.getD k Cn.none).wt] 59)) hlt (bthen hbr2 (hB1 _)) (hsk.below (hB1 _)))
    obtain ⟨y0,y1,y2⟩:=(Uh HXC) _ (hbr3 (.cells #[.int .i64 (l.getD k Cn.none).kind,.int .i64 (l.getD k Cn.none).lo,.int .i64 (l.getD k Cn.none).hi,.int .i64 (l.getD k Cn.none).n,.slice tao (l.getD k Cn.none).to.length tcap,.string (l.getD k Cn.none).name,.string (l.getD k Cn.none).other,.float .f64 (l.getD k Cn.none).wt] 59))
    have HB4:=Hd (hbr3 (.cells #[.int .i64 (l.getD k Cn.none).kind,.int .i64 (l.getD k Cn.none).lo,.int .i64 (l.getD k Cn.none).hi,.int .i64 (l.getD k Cn.none).n,.slice tao (l.getD k Cn.none).to.length tcap,.string (l.getD k Cn.none).name,.string (l.getD k Cn.none).other,.float .f64 (l.getD k Cn.none).wt] 59))
    have HHIT:Hid (Cn.record l k (l.getD k Cn.none)≠0→res=(k,Cn.record l k (l.getD k Cn.none))):=fun h=>(Uh HRES).trans (Cn.tailC_hit hlt h)
    have HNX:Hid (Cn.record l k (l.getD k Cn.none)=0→res=Cn.tailC l (k+1)):=fun h=>(Uh HRES).trans (Cn.tailC_next hlt h)
    have hszr:=(Uh HBR).size
    rw [hsz3] at hszr
    unfold recV at KK
    generalize Cn.record l k (l.getD k Cn.none)=y at *
    generalize l.getD k Cn.none=r at *
    have hfl:∀ W a m,(store a (.float .f64 r.wt) m).run Tryz.prog W=stored Tryz.prog W a (.float .f64 r.wt) m:=fun W a m=>run_store Tryz.prog W a _ m rfl
    go_wp2_with fail
    refine (Uh KK).mono ?_
    rintro e w4 ⟨rfl,hb4⟩
    have HB5:Hid (Below (w2.heap.size+1) (w2.alloc (.cells #[.slice cao cs.length ccap,.slice oao os.length ocap,.map (some (w1.heap.size+1))] 125)) w4):=(Uh HB4).trans (hb4.mono (by have:=(Uh HB4).size; rw [hsz3] at this; exact this))
    have HBW:Hid (Below w.heap.size w w4):=bthen (Uh HB2) ((Uh HIW) w4 (Uh HB5))
    by_cases hy:y=0
    ·have HN:=Hd ((Uh HNX) hy)
     obtain rfl:y=0:=hy
     go_wp2
     go_roundw
     case rel=>exact ⟨k+1,by go_num,by omega,HN,HB5⟩
     case measure=>simp [intOf]; omega
    ·obtain rfl:=(Uh HHIT) hy
     have hyb:(y != 0)=true:=by simp [hy]
     have HF:CheckB w (k,y) (.returned (.tuple #[.int .i64 (k:Int),.int .i64 y])) w4:=⟨rfl,Uh HBW⟩
     go_wp2
     go_ret2
     exact HF
   ·obtain rfl:k=l.length:=by omega
    have KB1:=Hd ((Uh KB) wr hbrw)
    have hres:=(Uh HRES).trans (Uh HEND)
    have HRR:=Hd hres
    have HBRW:=Hd hbrw
    generalize Cn.baseA l 78 45=bb at *
    go_wp2_with fail
    refine (Uh KB1).mono ?_
    rintro e w4 ⟨rfl,hb4⟩
    have hB4:=bthen (Uh HBRW) hb4
    cases bb
    ·obtain rfl:res=(l.length,70):=Uh HRR
     have HF:CheckB w (l.length,70) (.returned (.tuple #[.int .i64 (l.length:Int),.int .i64 70])) w4:=⟨rfl,hB4⟩
     go_wp2
     go_ret2
     exact HF
    ·obtain rfl:res=(0,0):=Uh HRR
     have HF:CheckB w (0,0) (.returned (.tuple #[.int .i64 0,.int .i64 0])) w4:=⟨rfl,hB4⟩
     go_wp2
     go_ret2
     exact HF
 ·obtain rfl:=(Uh HERR) hq
  have hqb:(q2 != 0)=true:=by simp [hq]
  have HF:CheckB w (q1,q2) (.returned (.tuple #[.int .i64 (q1:Int),.int .i64 q2])) w1:=⟨rfl,hb1⟩
  go_wp2
  go_ret2
  exact HF
end Go.Proofs.YtihhhjodonkkcaaGreatDoor
