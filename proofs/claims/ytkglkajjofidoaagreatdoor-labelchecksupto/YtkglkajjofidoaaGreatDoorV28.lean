/- CcT67 CcT87 CcV7 CcW7 -/
import Derived.Test.YtkglkajjofidoaaGreatDoorV29
import Derived.Test.YtkglkajjofidoaaGreatDoorV30
import Derived.Test.YtkglkajjofidoaaGreatDoorV26
set_option maxHeartbeats 16000000
set_option maxRecDepth 20000
namespace Go.Proofs.YtkglkajjofidoaaGreatDoor
open Go.Proofs.Tryz
open Go.RowKit
theorem z2G (l cs os:List Rec) (cv ov:Value) (mr i:Nat) (lo hi nn:Int) (tq:List Int) (nm ot:ByteArray) (wt:Nat) (vt:Value) (w:World) (h:Idx l w cv ov cs os) (hs:Sk .i32 w vt tq) (al:¬ lo<128) :
  Calls prog 73 #[xV cv ov (.map (some mr)),.int .i64 (i:Int),recV (⟨6,lo,hi,nn,tq,nm,ot,wt⟩:Rec) vt] w (IntB w (if touches (⟨6,lo,hi,nn,tq,nm,ot,wt⟩:Rec)=true then 71 else 0)):=by
 obtain ⟨ae,aa,rfl,_,_⟩:=h.rc.shape;obtain ⟨ag,ab,rfl,_,_⟩:=h.ro.shape;obtain ⟨ai,ac,rfl,_,_⟩:=hs.shape;obtain ⟨Q,hQ⟩:∃ Q,((w.alloc (.cells #[.slice ae cs.length aa,.slice ag os.length ab,.map (some mr)] 118)).alloc (.cells #[.int .i64 6,.int .i64 lo,.int .i64 hi,.int .i64 nn,.slice ai tq.length ac,.string nm,.string ot,.float .f64 wt] 50))=Q:=⟨_,rfl⟩;have aM:Bw w Q:=(by rw [<- hQ]; exact ((b0r).alloc (l0r _) _).alloc (by simp) _);have bi:Q.heap.size=w.heap.size+2:=by rw [<- hQ]; simp
 have aB:Q.heap[w.heap.size]?=some (.cells #[.slice ae cs.length aa,.slice ag os.length ab,.map (some mr)] 118 (0,0)):=by
  rw [<- hQ];show ((w.heap.push _).push _)[w.heap.size]?=_;rw [Array.getElem?_push,Array.getElem?_push]; simp
 have aQ:Q.heap[w.heap.size+1]?=some (.cells #[.int .i64 6,.int .i64 lo,.int .i64 hi,.int .i64 nn,.slice ai tq.length ac,.string nm,.string ot,.float .f64 wt] 50 (0,0)):=by
  rw [<- hQ];show ((w.heap.push _).push _)[w.heap.size+1]?=_;rw [Array.getElem?_push]; simp
 have au:Hid (∀ W:World,Bw Q W->Bw w W):=fun W hW=>aM.trans (hW.mono (by omega));obtain ⟨SP,az⟩:∃ SP:World->Prop,(fun W=>(W.cell? ⟨w.heap.size+1,0,none⟩=some (.int .i64 6)/\W.cell? ⟨w.heap.size+1,1,none⟩=some (.int .i64 lo)/\W.cell? ⟨w.heap.size+1,2,none⟩=some (.int .i64 hi)/\W.cell? ⟨w.heap.size+1,3,none⟩=some (.int .i64 nn)/\W.cell? ⟨w.heap.size+1,4,none⟩=some (.slice ai tq.length ac)/\W.cell? ⟨w.heap.size+1,5,none⟩=some (.string nm)/\W.cell? ⟨w.heap.size+1,6,none⟩=some (.string ot)/\W.cell? ⟨w.heap.size+1,7,none⟩=some (.float .f64 wt)/\W.cell? ⟨w.heap.size,0,none⟩=some (.slice ae cs.length aa)/\W.cell? ⟨w.heap.size,1,none⟩=some (.slice ag os.length ab)/\W.cell? ⟨w.heap.size,2,none⟩=some (.map (some mr))/\Hid (Bw Q W)))=SP:=⟨_,rfl⟩
 have HS:Hid (∀ W:World,Bw Q W->SP W):=fun W hW=>by
  rw [<- az];have hx:=(hW.block (w.heap.size) (by omega)).trans aB;have hr:=(hW.block (w.heap.size+1) (by omega)).trans aQ;exact ⟨cell_of (j:=0) hr (by show 0<8; omega),cell_of (j:=1) hr (by show 1<8; omega),cell_of (j:=2) hr (by show 2<8; omega),cell_of (j:=3) hr (by show 3<8; omega),cell_of (j:=4) hr (by show 4<8; omega),cell_of (j:=5) hr (by show 5<8; omega),cell_of (j:=6) hr (by show 6<8; omega),cell_of (j:=7) hr (by show 7<8; omega),cell_of (j:=0) hx (by show 0<3; omega),cell_of (j:=1) hx (by show 1<3; omega),cell_of (j:=2) hx (by show 2<3; omega),hW⟩
 have KT:Hid (∀ W:World,Calls prog 112 #[.agg #[.int .i64 6,.int .i64 lo,.int .i64 hi,.int .i64 nn,.slice ai tq.length ac,.string nm,.string ot,.float .f64 wt]] W (x0d W (touches (⟨6,lo,hi,nn,tq,nm,ot,wt⟩:Rec)))):=fun W=>x2Y (⟨6,lo,hi,nn,tq,nm,ot,wt⟩:Rec) _ _ _ W;have aI:Bw Q Q.drew:=x0k ⟨1,rfl⟩;have ah:=O (V HS _ aI);have ad:Hid (∀ W z,Bw Q W->IntB w z (.returned (.int .i64 z)) W):=fun W z hW=>⟨rfl,V au W hW⟩;have aw:=O (V KT Q.drew);generalize touches (⟨6,lo,hi,nn,tq,nm,ot,wt⟩:Rec)=tc at *;subst hQ;unfold xV recV;clear aB aQ aM h hs;cases tc
 ·rw [if_neg (by decide)];go_enter func73,ntmps73;go_wp2;refine wp_region_held_drew (S:=fun w'=>SP w') (by kernel_rfl) (V ah) (fun hHeld=>?_);refine tk9 0 (.agg #[.int .i64 6,.int .i64 lo,.int .i64 hi,.int .i64 nn,.slice ai tq.length ac,.string nm,.string ot,.float .f64 wt]) ?_ (hy:=by (intro w aG; obtain ⟨s0,s1,s2,s3,s4,s5,s6,s7,s8,s9,a8,a9⟩:=(congrFun az _).mpr aG; go_simp));refine rd9 1 fun K hK=>?_;go_simp;refine (V aw).mono ?_;rintro e W1 ⟨rfl,ak⟩;have af:=x0b aI ak;have am:=O (V HS W1 af);refine hK.out _ _ ?_ (fun hHeld=>?_)
  ·exact V am
  clear hK K
  try simp only [Act.put,sa9,sb9,sc9]
  refine tk9 2 (.bool false) ?_;refine tk9 3 (.bool false) ?_;refine tk9 4 (.bool false) ?_;refine tn9 5 ?_;refine tn9 6 ?_;refine tn9 7 ?_;refine tn9 8 ?_;refine tn9 9 ?_;refine tn9 10 ?_;refine tn9 11 ?_;refine tn9 12 ?_;refine tn9 13 ?_;refine tk9 14 (.bool false) ?_;refine tk9 15 (.bool false) ?_;refine tk9 16 (.bool false) ?_;refine wpAnyH_done (by kernel_rfl) ?_ _;go_wp2;refine wp_region_held_drew (S:=fun _=>True) (by kernel_rfl) trivial (fun hHeld=>?_);refine tk9 0 (.bool false) ?_;refine tk9 1 (.bool false) ?_;refine tn9 2 ?_;refine tn9 3 ?_;refine tn9 4 ?_;refine tn9 5 ?_;refine tn9 6 ?_;refine tn9 7 ?_;refine tn9 8 ?_;refine tn9 9 ?_;refine tn9 10 ?_;refine tn9 11 ?_;refine tn9 12 ?_;refine tn9 13 ?_;refine tn9 14 ?_;refine tn9 15 ?_;refine tn9 16 ?_;refine tn9 17 ?_;refine tn9 18 ?_;refine tn9 19 ?_;refine tn9 20 ?_;refine tn9 21 ?_;refine tn9 22 ?_;refine tn9 23 ?_;refine tk9 24 (.bool false) ?_;refine wpAnyH_done (by kernel_rfl) ?_ _;have HF:=V ad W1.drew 0 (x0b af (x0k ⟨1,rfl⟩));clear HS ah ad KT aw am af hHeld;go_wp2;go_ret;exact HF
 ·rw [if_pos rfl];go_enter func73,ntmps73;go_wp2;refine wp_region_held_drew (S:=fun w'=>SP w') (by kernel_rfl) (V ah) (fun hHeld=>?_);refine tk9 0 (.agg #[.int .i64 6,.int .i64 lo,.int .i64 hi,.int .i64 nn,.slice ai tq.length ac,.string nm,.string ot,.float .f64 wt]) ?_ (hy:=by (intro w aG; obtain ⟨s0,s1,s2,s3,s4,s5,s6,s7,s8,s9,a8,a9⟩:=(congrFun az _).mpr aG; go_simp));refine rd9 1 fun K hK=>?_;go_simp;refine (V aw).mono ?_;rintro e W1 ⟨rfl,ak⟩;have af:=x0b aI ak;have am:=O (V HS W1 af);refine hK.out _ _ ?_ (fun hHeld=>?_)
  ·exact V am
  clear hK K
  try simp only [Act.put,sa9,sb9,sc9]
  refine tk9 2 (.bool true) ?_;refine tn9 3 ?_;refine tn9 4 ?_;refine tn9 5 ?_;refine tn9 6 ?_;refine tn9 7 ?_;refine tn9 8 ?_;refine tn9 9 ?_;refine tn9 10 ?_;refine tn9 11 ?_;refine tn9 12 ?_;refine tn9 13 ?_;refine tn9 14 ?_;refine tk9 15 (.bool true) ?_;refine tk9 16 (.bool true) ?_;refine wpAnyH_done (by kernel_rfl) ?_ _;have HF:=V ad W1 71 af;clear HS ah ad KT aw am af hHeld;go_wp2;go_ret;exact HF
theorem z2I (l cs os:List Rec) (cv ov:Value) (mr i:Nat) (lo hi nn:Int) (tq:List Int) (nm ot:ByteArray) (wt:Nat) (vt:Value) (w:World) (hg:Glob w) (h:Idx l w cv ov cs os) (hs:Sk .i32 w vt tq) (al:¬ lo<128) (aP:Rune lo) :
  Calls prog 73 #[xV cv ov (.map (some mr)),.int .i64 (i:Int),recV (⟨8,lo,hi,nn,tq,nm,ot,wt⟩:Rec) vt] w (IntB w (if touches (⟨8,lo,hi,nn,tq,nm,ot,wt⟩:Rec)=true then 71 else Cn.wfull l lo)):=by
 obtain ⟨ae,aa,rfl,_,_⟩:=h.rc.shape;obtain ⟨ag,ab,rfl,_,_⟩:=h.ro.shape;obtain ⟨ai,ac,rfl,_,_⟩:=hs.shape;obtain ⟨Q,hQ⟩:∃ Q,((w.alloc (.cells #[.slice ae cs.length aa,.slice ag os.length ab,.map (some mr)] 118)).alloc (.cells #[.int .i64 8,.int .i64 lo,.int .i64 hi,.int .i64 nn,.slice ai tq.length ac,.string nm,.string ot,.float .f64 wt] 50))=Q:=⟨_,rfl⟩;have aM:Bw w Q:=(by rw [<- hQ]; exact ((b0r).alloc (l0r _) _).alloc (by simp) _);have bi:Q.heap.size=w.heap.size+2:=by rw [<- hQ]; simp
 have aB:Q.heap[w.heap.size]?=some (.cells #[.slice ae cs.length aa,.slice ag os.length ab,.map (some mr)] 118 (0,0)):=by
  rw [<- hQ];show ((w.heap.push _).push _)[w.heap.size]?=_;rw [Array.getElem?_push,Array.getElem?_push]; simp
 have aQ:Q.heap[w.heap.size+1]?=some (.cells #[.int .i64 8,.int .i64 lo,.int .i64 hi,.int .i64 nn,.slice ai tq.length ac,.string nm,.string ot,.float .f64 wt] 50 (0,0)):=by
  rw [<- hQ];show ((w.heap.push _).push _)[w.heap.size+1]?=_;rw [Array.getElem?_push]; simp
 have au:Hid (∀ W:World,Bw Q W->Bw w W):=fun W hW=>aM.trans (hW.mono (by omega));obtain ⟨SP,az⟩:∃ SP:World->Prop,(fun W=>(W.cell? ⟨w.heap.size+1,0,none⟩=some (.int .i64 8)/\W.cell? ⟨w.heap.size+1,1,none⟩=some (.int .i64 lo)/\W.cell? ⟨w.heap.size+1,2,none⟩=some (.int .i64 hi)/\W.cell? ⟨w.heap.size+1,3,none⟩=some (.int .i64 nn)/\W.cell? ⟨w.heap.size+1,4,none⟩=some (.slice ai tq.length ac)/\W.cell? ⟨w.heap.size+1,5,none⟩=some (.string nm)/\W.cell? ⟨w.heap.size+1,6,none⟩=some (.string ot)/\W.cell? ⟨w.heap.size+1,7,none⟩=some (.float .f64 wt)/\W.cell? ⟨w.heap.size,0,none⟩=some (.slice ae cs.length aa)/\W.cell? ⟨w.heap.size,1,none⟩=some (.slice ag os.length ab)/\W.cell? ⟨w.heap.size,2,none⟩=some (.map (some mr))/\Hid (Bw Q W)))=SP:=⟨_,rfl⟩
 have HS:Hid (∀ W:World,Bw Q W->SP W):=fun W hW=>by
  rw [<- az];have hx:=(hW.block (w.heap.size) (by omega)).trans aB;have hr:=(hW.block (w.heap.size+1) (by omega)).trans aQ;exact ⟨cell_of (j:=0) hr (by show 0<8; omega),cell_of (j:=1) hr (by show 1<8; omega),cell_of (j:=2) hr (by show 2<8; omega),cell_of (j:=3) hr (by show 3<8; omega),cell_of (j:=4) hr (by show 4<8; omega),cell_of (j:=5) hr (by show 5<8; omega),cell_of (j:=6) hr (by show 6<8; omega),cell_of (j:=7) hr (by show 7<8; omega),cell_of (j:=0) hx (by show 0<3; omega),cell_of (j:=1) hx (by show 1<3; omega),cell_of (j:=2) hx (by show 2<3; omega),hW⟩
 have KT:Hid (∀ W:World,Calls prog 112 #[.agg #[.int .i64 8,.int .i64 lo,.int .i64 hi,.int .i64 nn,.slice ai tq.length ac,.string nm,.string ot,.float .f64 wt]] W (x0d W (touches (⟨8,lo,hi,nn,tq,nm,ot,wt⟩:Rec)))):=fun W=>x2Y (⟨8,lo,hi,nn,tq,nm,ot,wt⟩:Rec) _ _ _ W;have KW:Hid (∀ W:World,Bw Q W->Calls prog 114 #[.agg #[.slice ae cs.length aa,.slice ag os.length ab,.map (some mr)],.int .i32 lo] W (IntB W (Cn.wfull l lo))):=fun W hW=>x8O l cs os _ _ mr lo W (hg.on (V au W hW)) (h.below (V au W hW)) aP
 have hlw:IntKind.i32.wrap lo=lo:=by
  unfold Rune at aP;simp [IntKind.wrap,IntKind.bits,IntKind.signed]; omega
 have aI:Bw Q Q.drew:=x0k ⟨1,rfl⟩;have ah:=O (V HS _ aI);have ad:Hid (∀ W z,Bw Q W->IntB w z (.returned (.int .i64 z)) W):=fun W z hW=>⟨rfl,V au W hW⟩;have aw:=O (V KT Q.drew);generalize touches (⟨8,lo,hi,nn,tq,nm,ot,wt⟩:Rec)=tc at *;generalize Cn.wfull l lo=wf at *;subst hQ;unfold xV recV;clear aB aQ aM h hs hg;cases tc
 ·rw [if_neg (by decide)];go_enter func73,ntmps73;go_wp2;refine wp_region_held_drew (S:=fun w'=>SP w') (by kernel_rfl) (V ah) (fun hHeld=>?_);refine tk9 0 (.agg #[.int .i64 8,.int .i64 lo,.int .i64 hi,.int .i64 nn,.slice ai tq.length ac,.string nm,.string ot,.float .f64 wt]) ?_ (hy:=by (intro w aG; obtain ⟨s0,s1,s2,s3,s4,s5,s6,s7,s8,s9,a8,a9⟩:=(congrFun az _).mpr aG; go_simp));refine rd9 1 fun K hK=>?_;go_simp;refine (V aw).mono ?_;rintro e W1 ⟨rfl,ak⟩;have af:=x0b aI ak;have am:=O (V HS W1 af);refine hK.out _ _ ?_ (fun hHeld=>?_)
  ·exact V am
  clear hK K
  try simp only [Act.put,sa9,sb9,sc9]
  refine tk9 2 (.bool false) ?_;refine tk9 3 (.bool false) ?_;refine tk9 4 (.bool false) ?_;refine tn9 5 ?_;refine tn9 6 ?_;refine tn9 7 ?_;refine tn9 8 ?_;refine tn9 9 ?_;refine tn9 10 ?_;refine tn9 11 ?_;refine tn9 12 ?_;refine tn9 13 ?_;refine tk9 14 (.bool false) ?_;refine tk9 15 (.bool false) ?_;refine tk9 16 (.bool false) ?_;refine wpAnyH_done (by kernel_rfl) ?_ _;obtain ⟨q0,q1,q2,q3,q4,q5,q6,q7,q8,q9,bd,be⟩:=(congrFun az _).mpr (V am);have K2:=O (V KW W1 af);clear am ah KT aw KW hHeld;go_wp2_with fail;refine (V K2).mono ?_;rintro e W2 ⟨rfl,an⟩;have ay:=x0b af an;clear K2 an;by_cases hz:wf=0
  ·subst hz;go_wp2;refine wp_region_held_drew (S:=fun _=>True) (by kernel_rfl) trivial (fun hHeld=>?_);refine tk9 0 (.bool false) ?_;refine tk9 1 (.bool false) ?_;refine tn9 2 ?_;refine tn9 3 ?_;refine tn9 4 ?_;refine tn9 5 ?_;refine tn9 6 ?_;refine tn9 7 ?_;refine tn9 8 ?_;refine tn9 9 ?_;refine tn9 10 ?_;refine tn9 11 ?_;refine tn9 12 ?_;refine tn9 13 ?_;refine tn9 14 ?_;refine tn9 15 ?_;refine tn9 16 ?_;refine tn9 17 ?_;refine tn9 18 ?_;refine tn9 19 ?_;refine tn9 20 ?_;refine tn9 21 ?_;refine tn9 22 ?_;refine tn9 23 ?_;refine tk9 24 (.bool false) ?_;refine wpAnyH_done (by kernel_rfl) ?_ _;have HF:=V ad W2.drew 0 (x0b ay (x0k ⟨1,rfl⟩));clear HS ad ay hHeld af q0 q1 q2 q3 q4 q5 q6 q7 q8 q9 bd be;go_wp2;go_ret;exact HF
  ·have hzz:(wf != 0)=true:=(by simp [hz]);have HF:=V ad W2 wf ay;clear hz;clear HS ad ay af q0 q1 q2 q3 q4 q5 q6 q7 q8 q9 bd be;go_wp2;go_ret;exact HF
 ·rw [if_pos rfl];go_enter func73,ntmps73;go_wp2;refine wp_region_held_drew (S:=fun w'=>SP w') (by kernel_rfl) (V ah) (fun hHeld=>?_);refine tk9 0 (.agg #[.int .i64 8,.int .i64 lo,.int .i64 hi,.int .i64 nn,.slice ai tq.length ac,.string nm,.string ot,.float .f64 wt]) ?_ (hy:=by (intro w aG; obtain ⟨s0,s1,s2,s3,s4,s5,s6,s7,s8,s9,a8,a9⟩:=(congrFun az _).mpr aG; go_simp));refine rd9 1 fun K hK=>?_;go_simp;refine (V aw).mono ?_;rintro e W1 ⟨rfl,ak⟩;have af:=x0b aI ak;have am:=O (V HS W1 af);refine hK.out _ _ ?_ (fun hHeld=>?_)
  ·exact V am
  clear hK K
  try simp only [Act.put,sa9,sb9,sc9]
  refine tk9 2 (.bool true) ?_;refine tn9 3 ?_;refine tn9 4 ?_;refine tn9 5 ?_;refine tn9 6 ?_;refine tn9 7 ?_;refine tn9 8 ?_;refine tn9 9 ?_;refine tn9 10 ?_;refine tn9 11 ?_;refine tn9 12 ?_;refine tn9 13 ?_;refine tn9 14 ?_;refine tk9 15 (.bool true) ?_;refine tk9 16 (.bool true) ?_;refine wpAnyH_done (by kernel_rfl) ?_ _;have HF:=V ad W1 71 af;clear HS ah ad KT aw KW am af hHeld;go_wp2;go_ret;exact HF
namespace Cn
def x4h (rs:List Rec) (k:Nat):Nat × Int:=match x0J rs k (rs.drop k) with
 | some x=>x
 | Option.none=>if baseA rs 78 45 then (0,0) else (rs.length,70)
theorem y5w {rs:List Rec} {k:Nat} (hk:k<rs.length) (h:record rs k (rs.getD k none)≠0):x4h rs k=(k,record rs k (rs.getD k none)):=by
 have e:rs.getD k none=rs[k]:=(by simp [List.getD,hk]);rw [e] at h ⊢;unfold x4h;rw [List.drop_eq_getElem_cons hk,x0J,if_neg h]
theorem y2x {rs:List Rec} {k:Nat} (hk:k<rs.length) (h:record rs k (rs.getD k none)=0):x4h rs k=x4h rs (k+1):=by
 have e:rs.getD k none=rs[k]:=(by simp [List.getD,hk]);rw [e] at h;unfold x4h;rw [List.drop_eq_getElem_cons hk,x0J,if_pos h]
theorem y5v (rs:List Rec):x4h rs rs.length=if baseA rs 78 45 then (0,0) else (rs.length,70):=by
 unfold x4h;rw [List.drop_length,x0J]
theorem y1q {rs:List Rec} (h:(check6 rs).2≠0):check rs=check6 rs:=by unfold check; rw [if_pos h]
theorem y3n {rs:List Rec} (h:(check6 rs).2=0):check rs=x4h rs 0:=by unfold check x4h; rw [if_neg (fun e=>e h)]; rfl
end Cn
theorem y5Q (l cs os:List Rec) (cv ov:Value) (mr i:Nat) (vt:Value) (w:World) (hg:Glob w) (h:Idx l w cv ov cs os) (hp:PAt w mr (Cn.firstP l)) (hi:i<l.length) (hs:Sk .i32 w vt (l.getD i Cn.none).to) :
  Calls prog 73 #[xV cv ov (.map (some mr)),.int .i64 (i:Int),recV (l.getD i Cn.none) vt] w (IntB w (Cn.record l i (l.getD i Cn.none))):=by
 obtain ⟨hl,aJ⟩:=Cn.x1u h.ok;have hm:l.getD i Cn.none∈l:=(by simp [List.getD,hi]);have hr:=aJ _ hm;have bf:=Cn.y7j (l:=l) (i:=i) hi;generalize l.getD i Cn.none=r at *;by_cases hk:r.kind=6\/r.kind=7\/r.kind=8
 ·have h15:r.kind≠15:=(by omega);obtain ⟨s0,s1,s2⟩:=Cn.x0o hr h15;have aP:Rune r.lo:=(by unfold Rune; omega);by_cases al:r.lo<128
  ·rw [Cn.y2g hr hk al];obtain ⟨ae,aa,rfl,_,_⟩:=h.rc.shape;obtain ⟨ag,ab,rfl,_,_⟩:=h.ro.shape;obtain ⟨ai,ac,rfl,_,_⟩:=hs.shape;exact y7R _ _ _ _ _ _ _ _ _ _ _ r.kind r.lo r.hi r.n r.to r.name r.other r.wt w hk al
  ·obtain ⟨kd,lo,aA,nn,tt,nm,ot,wt⟩:=r;rcases hk with k6 | k7 | k8
   ·simp only at k6;subst k6;have:=z2G l cs os cv ov mr i lo aA nn tt nm ot wt vt w h hs al;by_cases ht:touches ⟨6,lo,aA,nn,tt,nm,ot,wt⟩=true
    ·rw [if_pos ht] at this;rw [Cn.x2c (.inl rfl) al (by rw [ht]; rfl)];exact this
    ·rw [if_neg ht] at this;rw [Cn.x2S (.inl rfl) al (by simpa using ht),if_pos rfl];exact this
   ·simp only at k7;subst k7;obtain ⟨⟨g1,g2⟩,g3⟩:=Cn.x1c (Cn.x0B hr rfl).2.2;simp only at g1 g2 g3
    have bg:Rune (tt.getD 0 0):=by
     have:=o0d (g3 (tt.getD 0 0) (x4s (by omega)));unfold Rune; omega
    have bh:Rune (tt.getD 1 0):=by
     have:=o0d (g3 (tt.getD 1 0) (x4s (by omega)));unfold Rune; omega
    have:=z2H l cs os cv ov mr i lo aA nn tt nm ot wt vt w hg h hs al aP (by omega) bg bh hp;by_cases ht:(touches ⟨7,lo,aA,nn,tt,nm,ot,wt⟩ || makes (tt.getD 0 0) (tt.getD 1 0))=true
    ·rw [if_pos ht] at this;rw [Cn.x2c (.inr (.inl rfl)) al (by simpa using ht)];exact this
    ·rw [if_neg ht] at this;rw [Cn.x2S (.inr (.inl rfl)) al (by simpa using ht),if_neg (show ¬ (7:Int)=6 by decide)];by_cases hw:Cn.wfull l lo≠0
     ·rw [if_pos hw] at this;rw [if_pos hw];exact this
     ·rw [if_neg hw] at this;rw [if_neg hw,bf rfl];by_cases hb:Cn.bad7 l i ⟨7,lo,aA,nn,tt,nm,ot,wt⟩=true
      ·have an:=hb;unfold Cn.bad7 at an;rw [if_pos an] at this;rw [if_pos ⟨rfl,by rw [hb]; rfl⟩];exact this
      ·have an:=hb;unfold Cn.bad7 at an;rw [if_neg an] at this;rw [if_neg (fun q=>hb (by simpa using q.2))];exact this
   ·simp only at k8;subst k8;have:=z2I l cs os cv ov mr i lo aA nn tt nm ot wt vt w hg h hs al aP;by_cases ht:touches ⟨8,lo,aA,nn,tt,nm,ot,wt⟩=true
    ·rw [if_pos ht] at this;rw [Cn.x2c (.inr (.inr rfl)) al (by rw [ht]; rfl)];exact this
    ·rw [if_neg ht] at this
     have e:Cn.record l i ⟨8,lo,aA,nn,tt,nm,ot,wt⟩=Cn.wfull l lo:=by
      rw [Cn.x2S (.inr (.inr rfl)) al (by simpa using ht),if_neg (show ¬ (8:Int)=6 by decide)];by_cases hw:Cn.wfull l lo≠0
      ·rw [if_pos hw]
      ·rw [if_neg hw,if_neg (fun q=>absurd q.1 (show ¬ (8:Int)=7 by decide))];exact (Decidable.not_not.1 hw).symm
     rw [e];exact this
 ·rw [Cn.x9C (by omega) (by omega) (by omega)];obtain ⟨ae,aa,rfl,_,_⟩:=h.rc.shape;obtain ⟨ag,ab,rfl,_,_⟩:=h.ro.shape;obtain ⟨ai,ac,rfl,_,_⟩:=hs.shape;exact y5P _ _ _ _ _ _ _ _ _ _ _ r.kind r.lo r.hi r.n r.to r.name r.other r.wt w (by omega) (by omega) (by omega)
theorem z1a:z0K:=by
 intro v l w hg hv;have K6:=O (y3o v l w hg hv);have aD:Hid ((Cn.check6 l).2≠0->Cn.check l=Cn.check6 l):=Cn.y1q;have aY:Hid ((Cn.check6 l).2=0->Cn.check l=Cn.x4h l 0/\∀ W,Bw w W->Calls prog 72 #[v] W (y2N W l)):=fun h=>⟨Cn.y3n h,fun W hW=>x8c v l W (hv.below hW) h⟩;have HV:Hid (∀ W,Bw w W->Rcs W v l):=fun W hW=>hv.below hW;have HG:Hid (∀ W,Bw w W->Glob W):=fun W hW=>hg.on hW;have KB:Hid (∀ W,Bw w W->Calls prog 74 #[v] W (x0d W (Cn.baseA l 78 45))):=fun W hW=>x9p v l W (hg.on hW) (hv.below hW);have av:=O (Cn.y5v l);have aE:=O (fun i hi=>hv.fit (i:=i) hi);generalize Cn.check l=res at *;generalize Cn.check6 l=q at *;obtain ⟨q1,q2⟩:=q;have hlen:=hv.1;obtain ⟨ao,cap,rfl,_,_⟩:=hv.shape;clear hv hg;go_enter func39,ntmps39;go_wp2_with fail;refine (V K6).mono ?_;rintro e w1 ⟨rfl,ak⟩;clear K6;by_cases hq:q2=0
 ·obtain ⟨ar,aO⟩:=V aY hq;obtain rfl:q2=0:=hq;have KI:=O (aO w1 ak);have aj:=O ar;clear aY aD aO ar;go_wp2_with fail;refine (V KI).mono ?_;rintro e w2 ⟨cv,ov,cs,os,rfl,hI,hP,an⟩;have ay:=x0b ak an;obtain ⟨ae,aa,rfl,_,_⟩:=hI.rc.shape;obtain ⟨ag,ab,rfl,_,_⟩:=hI.ro.shape;unfold xV;have bc:Bw w2 (w2.alloc (.cells #[.slice ae cs.length aa,.slice ag os.length ab,.map (some (w1.heap.size+1))] 118)):=(b0r).alloc (l0r _) _
  have aB:(w2.alloc (.cells #[.slice ae cs.length aa,.slice ag os.length ab,.map (some (w1.heap.size+1))] 118)).heap[w2.heap.size]?=some (.cells #[.slice ae cs.length aa,.slice ag os.length ab,.map (some (w1.heap.size+1))] 118 (0,0)):=by
   show (w2.heap.push _)[w2.heap.size]?=_;simp
  have aK:(w2.alloc (.cells #[.slice ae cs.length aa,.slice ag os.length ab,.map (some (w1.heap.size+1))] 118)).heap.size=w2.heap.size+1:=(by simp);have aS:Hid (∀ W,Below (w2.heap.size+1) (w2.alloc (.cells #[.slice ae cs.length aa,.slice ag os.length ab,.map (some (w1.heap.size+1))] 118)) W->Bw w2 W):=fun W hW=>bc.trans (hW.mono (by omega))
  have a5:Hid (∀ W,Below (w2.heap.size+1) (w2.alloc (.cells #[.slice ae cs.length aa,.slice ag os.length ab,.map (some (w1.heap.size+1))] 118)) W->W.cell? ⟨w2.heap.size,0,none⟩=some (.slice ae cs.length aa)/\W.cell? ⟨w2.heap.size,1,none⟩=some (.slice ag os.length ab)/\W.cell? ⟨w2.heap.size,2,none⟩=some (.map (some (w1.heap.size+1)))):=fun W hW=>by
   have hx:=(hW.block (w2.heap.size) (by omega)).trans aB;exact ⟨cell_of (j:=0) hx (by show 0<3; omega),cell_of (j:=1) hx (by show 1<3; omega),cell_of (j:=2) hx (by show 2<3; omega)⟩
  have aZ:Hid (∀ i vt W,i<l.length->Bw w2 W->Sk .i32 W vt (l.getD i Cn.none).to->Calls prog 73 #[.agg #[.slice ae cs.length aa,.slice ag os.length ab,.map (some (w1.heap.size+1))],.int .i64 (i:Int),recV (l.getD i Cn.none) vt] W (IntB W (Cn.record l i (l.getD i Cn.none)))):=fun i vt W hi hW hs=>by
   obtain ⟨es,cl,p1,p2⟩:=hP;exact y5Q l cs os _ _ _ i vt W (V HG W (x0b ay hW)) (hI.below hW) ⟨es,cl,by rw [hW.block _ (x0w p1)]; exact p1,p2⟩ hi hs
  have aR:=O ay;clear KI hI hP ak an ay bc aB HG;go_wp2;go_loopw [7,8,9,23] (fun _ _ _ iv wr=>∃ k:Nat,iv=.int .i64 k/\k<=l.length/\Hid (res=Cn.x4h l k)/\Hid (Below (w2.heap.size+1) (w2.alloc (.cells #[.slice ae cs.length aa,.slice ag os.length ab,.map (some (w1.heap.size+1))] 118)) wr)) (fun _ _ _ iv _=>l.length - (intOf iv).toNat)
  case atStart=>exact ⟨0,rfl,by omega,aj,b0r⟩
  case round =>
   clear aj;obtain ⟨k,rfl,hk,aj,aL⟩:=hrel;have ax:=V aS wr (V aL);have ap:Bw w wr:=x0b (V aR) ax;by_cases hlt:k<l.length
   ·obtain ⟨b,off,cap',ev,_,_,aq⟩:=(V HV wr ap).place (by omega);simp only [Value.slice.injEq] at ev;obtain ⟨rfl,_,rfl⟩:=ev;obtain ⟨x0,x1,x2,x3,⟨vt,x4,a6⟩,x5,x6,x7⟩:=aq k hlt;obtain ⟨ai,ac,rfl,_,_⟩:=a6.shape;have af:∀ o,Bw wr (wr.alloc o):=fun o=>(b0r).alloc (l0r _) _;have aH:∀ o,Below (w2.heap.size+1) (w2.alloc (.cells #[.slice ae cs.length aa,.slice ag os.length ab,.map (some (w1.heap.size+1))] 118)) (wr.alloc o):=fun o=>(V aL).trans ((af o).mono (by have:=(V aL).size; rw [aK] at this; omega));have KK:=O (V aZ k _ (wr.alloc (.cells #[.int .i64 (l.getD k Cn.none).kind,.int .i64 (l.getD k Cn.none).lo,.int .i64 (l.getD k Cn.none).hi,.int .i64 (l.getD k Cn.none).n,.slice ai (l.getD k Cn.none).to.length ac,.string (l.getD k Cn.none).name,.string (l.getD k Cn.none).other,.float .f64 (l.getD k Cn.none).wt] 50)) hlt (x0b ax (af _)) (a6.below (af _)));obtain ⟨y0,y1,y2⟩:=V a5 _ (aH (.cells #[.int .i64 (l.getD k Cn.none).kind,.int .i64 (l.getD k Cn.none).lo,.int .i64 (l.getD k Cn.none).hi,.int .i64 (l.getD k Cn.none).n,.slice ai (l.getD k Cn.none).to.length ac,.string (l.getD k Cn.none).name,.string (l.getD k Cn.none).other,.float .f64 (l.getD k Cn.none).wt] 50));have aV:=O (aH (.cells #[.int .i64 (l.getD k Cn.none).kind,.int .i64 (l.getD k Cn.none).lo,.int .i64 (l.getD k Cn.none).hi,.int .i64 (l.getD k Cn.none).n,.slice ai (l.getD k Cn.none).to.length ac,.string (l.getD k Cn.none).name,.string (l.getD k Cn.none).other,.float .f64 (l.getD k Cn.none).wt] 50));have aF:Hid (Cn.record l k (l.getD k Cn.none)≠0->res=(k,Cn.record l k (l.getD k Cn.none))):=fun h=>(V aj).trans (Cn.y5w hlt h);have aX:Hid (Cn.record l k (l.getD k Cn.none)=0->res=Cn.x4h l (k+1)):=fun h=>(V aj).trans (Cn.y2x hlt h);have a7:=(V aL).size;rw [aK] at a7;unfold recV at KK;clear aq a6 af aH aj aZ a5 HV aE ax ap aL;generalize Cn.record l k (l.getD k Cn.none)=y at *;generalize l.getD k Cn.none=r at *;have hfl:∀ W a m,(store a (.float .f64 r.wt) m).run prog W=stored prog W a (.float .f64 r.wt) m:=fun W a m=>run_store prog W a _ m rfl;go_wp2_with fail;refine (V KK).mono ?_;rintro e w4 ⟨rfl,aN⟩;have aW:Hid (Below (w2.heap.size+1) (w2.alloc (.cells #[.slice ae cs.length aa,.slice ag os.length ab,.map (some (w1.heap.size+1))] 118)) w4):=(V aV).trans (aN.mono (by have:=(V aV).size; rw [aK] at this; exact this));have au:Hid (Bw w w4):=x0b (V aR) (V aS w4 (V aW));clear KK aN aV x0 x1 x2 x3 x4 x5 x6 x7 y0 y1 y2;by_cases hy:y=0
    ·have HN:=O (V aX hy);obtain rfl:y=0:=hy;clear aX aF au;go_wp2
     go_roundw
     case rel=>exact ⟨k+1,by go_num,by omega,HN,aW⟩
     case measure=>simp [intOf]; omega
    ·obtain rfl:=V aF hy;have hyb:(y != 0)=true:=(by simp [hy]);have HF:x2Z w (k,y) (.returned (.tuple #[.int .i64 (k:Int),.int .i64 y])) w4:=⟨rfl,V au⟩;clear aX aF aW au hy aR aS KB av;go_wp2;go_ret2;exact HF
   ·obtain rfl:k=l.length:=(by omega);have ba:=O (V KB wr ap);have ar:=(V aj).trans (V av);have aT:=O ar;have aC:=O ap;clear aj aZ a5 HV aE ax ap aL KB av aS aR ar;generalize Cn.baseA l 78 45=bb at *;go_wp2_with fail;refine (V ba).mono ?_;rintro e w4 ⟨rfl,aN⟩;have aU:=x0b (V aC) aN;clear ba aN;cases bb
    ·obtain rfl:res=(l.length,70):=V aT;have HF:x2Z w (l.length,70) (.returned (.tuple #[.int .i64 (l.length:Int),.int .i64 70])) w4:=⟨rfl,aU⟩;clear aT aC aU;go_wp2;go_ret2;exact HF
    ·obtain rfl:res=(0,0):=V aT;have HF:x2Z w (0,0) (.returned (.tuple #[.int .i64 0,.int .i64 0])) w4:=⟨rfl,aU⟩;clear aT aC aU;go_wp2;go_ret2;exact HF
 ·obtain rfl:=V aD hq;have hqb:(q2 != 0)=true:=(by simp [hq]);have HF:x2Z w (q1,q2) (.returned (.tuple #[.int .i64 (q1:Int),.int .i64 q2])) w1:=⟨rfl,ak⟩;clear aD aY HV HG KB av aE ak hq;go_wp2;go_ret2;exact HF
