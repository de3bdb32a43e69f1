/- CcT77 -/
import Derived.Test.YtkglkajjofidoaaGreatDoorU16
set_option maxHeartbeats 16000000
set_option maxRecDepth 20000
namespace Go.Proofs.YtkglkajjofidoaaGreatDoor
open Go.RowKit
theorem z1x (l cs os:List Rec) (cv ov:Value) (mr i:Nat) (lo hi nn:Int) (tq:List Int) (nm ot:ByteArray) (wt:Nat) (vt:Value) (w:World) (hg:Glob w) (h:Idx l w cv ov cs os) (hs:Sk .i32 w vt tq) (hlo:¬ lo<128) (aJ:Rune lo) (aq:tq.length=2) (aK:Rune (tq.getD 0 0)) (aL:Rune (tq.getD 1 0)) (hp:PAt w mr (Cn.firstP l)) :
  Calls Tryz.prog 73 #[xV cv ov (.map (some mr)),.int .i64 (i:Int),recV (⟨7,lo,hi,nn,tq,nm,ot,wt⟩:Rec) vt] w (IntB w (if (touches (⟨7,lo,hi,nn,tq,nm,ot,wt⟩:Rec) || makes (tq.getD 0 0) (tq.getD 1 0))=true then 71 else if Cn.wfull l lo≠0 then Cn.wfull l lo else if (decide ((Cn.firstP l (tq.getD 0 0) (tq.getD 1 0)).getD 0<(i:Int)) || Cn.wpair l lo (tq.getD 0 0) (tq.getD 1 0))=true then 74 else 0)):=by
 obtain ⟨ax,al,rfl,_,_⟩:=h.rc.shape;obtain ⟨aA,am,rfl,_,_⟩:=h.ro.shape;obtain ⟨tb,ab,ah,rfl,_,_,ao⟩:=hs.place (by omega);have aD:=ao 0 (by omega);have aT:=ao 1 (by omega);rw [Nat.add_zero] at aD;have aN:Hid (Sk .i32 w (.slice (some ⟨tb,ab,none⟩) 2 ah) tq):=aq ▸ hs;obtain ⟨Q,hQ⟩:∃ Q,((w.alloc (.cells #[.slice ax cs.length al,.slice aA os.length am,.map (some mr)] 118)).alloc (.cells #[.int .i64 7,.int .i64 lo,.int .i64 hi,.int .i64 nn,.slice (some ⟨tb,ab,none⟩) 2 ah,.string nm,.string ot,.float .f64 wt] 50))=Q:=⟨_,rfl⟩;have aO:Below w.heap.size w Q:=(by rw [← hQ]; exact ((Below.refl _ _).alloc (Nat.le_refl _) _).alloc (by simp) _);have hs0:Q.heap.size=w.heap.size+2:=by rw [← hQ]; simp
 have aS:Q.heap[w.heap.size]?=some (.cells #[.slice ax cs.length al,.slice aA os.length am,.map (some mr)] 118 (0,0)):=by
  rw [← hQ];show ((w.heap.push _).push _)[w.heap.size]?=_;rw [Array.getElem?_push,Array.getElem?_push]; simp
 have aR:Q.heap[w.heap.size+1]?=some (.cells #[.int .i64 7,.int .i64 lo,.int .i64 hi,.int .i64 nn,.slice (some ⟨tb,ab,none⟩) 2 ah,.string nm,.string ot,.float .f64 wt] 50 (0,0)):=by
  rw [← hQ];show ((w.heap.push _).push _)[w.heap.size+1]?=_;rw [Array.getElem?_push]; simp
 have ap:Hid (∀ W:World,Below Q.heap.size Q W→Below w.heap.size w W):=fun W hW=>aO.trans (hW.mono (by omega));obtain ⟨SP,ac⟩:∃ SP:World→Prop,(fun W=>(W.cell? ⟨w.heap.size+1,0,none⟩=some (.int .i64 7)∧W.cell? ⟨w.heap.size+1,1,none⟩=some (.int .i64 lo)∧W.cell? ⟨w.heap.size+1,2,none⟩=some (.int .i64 hi)∧W.cell? ⟨w.heap.size+1,3,none⟩=some (.int .i64 nn)∧W.cell? ⟨w.heap.size+1,4,none⟩=some (.slice (some ⟨tb,ab,none⟩) 2 ah)∧W.cell? ⟨w.heap.size+1,5,none⟩=some (.string nm)∧W.cell? ⟨w.heap.size+1,6,none⟩=some (.string ot)∧W.cell? ⟨w.heap.size+1,7,none⟩=some (.float .f64 wt)∧W.cell? ⟨w.heap.size,0,none⟩=some (.slice ax cs.length al)∧W.cell? ⟨w.heap.size,1,none⟩=some (.slice aA os.length am)∧W.cell? ⟨w.heap.size,2,none⟩=some (.map (some mr))∧W.cell? ⟨tb,ab,none⟩=some (.int .i32 (tq.getD 0 0))∧W.cell? ⟨tb,ab+1,none⟩=some (.int .i32 (tq.getD 1 0))∧Hid (Below Q.heap.size Q W)))=SP:=⟨_,rfl⟩
 have HS:Hid (∀ W:World,Below Q.heap.size Q W→SP W):=fun W hW=>by
  rw [← ac];have hx:=(hW.block (w.heap.size) (by omega)).trans aS;have hr:=(hW.block (w.heap.size+1) (by omega)).trans aR;exact ⟨cell_of (j:=0) hr (by show 0<8; omega),cell_of (j:=1) hr (by show 1<8; omega),cell_of (j:=2) hr (by show 2<8; omega),cell_of (j:=3) hr (by show 3<8; omega),cell_of (j:=4) hr (by show 4<8; omega),cell_of (j:=5) hr (by show 5<8; omega),cell_of (j:=6) hr (by show 6<8; omega),cell_of (j:=7) hr (by show 7<8; omega),cell_of (j:=0) hx (by show 0<3; omega),cell_of (j:=1) hx (by show 1<3; omega),cell_of (j:=2) hx (by show 2<3; omega),by rw [((Uh ap) W hW).cell (x0a aD)]; exact aD,by rw [((Uh ap) W hW).cell (x0a aD)]; exact aT,hW⟩
 have KT:Hid (∀ W:World,Calls Tryz.prog 112 #[.agg #[.int .i64 7,.int .i64 lo,.int .i64 hi,.int .i64 nn,.slice (some ⟨tb,ab,none⟩) 2 ah,.string nm,.string ot,.float .f64 wt]] W (x0d W (touches (⟨7,lo,hi,nn,tq,nm,ot,wt⟩:Rec)))):=fun W=>x2L (⟨7,lo,hi,nn,tq,nm,ot,wt⟩:Rec) _ _ _ W;have KW:Hid (∀ W:World,Below Q.heap.size Q W→Calls Tryz.prog 114 #[.agg #[.slice ax cs.length al,.slice aA os.length am,.map (some mr)],.int .i32 lo] W (IntB W (Cn.wfull l lo))):=fun W hW=>x8m l cs os _ _ mr lo W (hg.on ((Uh ap) W hW)) (h.below ((Uh ap) W hW)) aJ
 have hlw:IntKind.i32.wrap lo=lo:=by
  unfold Rune at aJ;simp [IntKind.wrap,IntKind.bits,IntKind.signed]; omega
 have KM:Hid (∀ W:World,Calls Tryz.prog 113 #[.int .i32 (tq.getD 0 0),.int .i32 (tq.getD 1 0)] W (fun e w'=>e=.returned (.bool (makes (tq.getD 0 0) (tq.getD 1 0)))∧w'=W)):=fun W=>y3A _ _ W;have au:Hid (∀ W:World,Below Q.heap.size Q W→Calls Tryz.prog 109 #[.agg #[.int .i64 7,.int .i64 lo,.int .i64 hi,.int .i64 nn,.slice (some ⟨tb,ab,none⟩) 2 ah,.string nm,.string ot,.float .f64 wt]] W (fun e w'=>e=.returned (pk2 (tq.getD 0 0) (tq.getD 1 0))∧Below W.heap.size W w')):=fun W hW=>x5Q (⟨7,lo,hi,nn,tq,nm,ot,wt⟩:Rec) _ W ((Uh aN).below ((Uh ap) W hW)) aq;have KP:Hid (∀ W:World,Below Q.heap.size Q W→Calls Tryz.prog 115 #[.agg #[.slice ax cs.length al,.slice aA os.length am,.map (some mr)],.int .i32 lo,.int .i32 (tq.getD 0 0),.int .i32 (tq.getD 1 0)] W (x0d W (Cn.wpair l lo (tq.getD 0 0) (tq.getD 1 0)))):=fun W hW=>y4S l cs os _ _ mr lo _ _ W (hg.on ((Uh ap) W hW)) (h.below ((Uh ap) W hW)) aJ aK aL
 have ar:Hid (∀ W:World,Below Q.heap.size Q W→(Instr.lookup 116 (.map (some mr)) (pk2 (tq.getD 0 0) (tq.getD 1 0)) false).run Tryz.prog W=.ok (.int .i64 ((Cn.firstP l (tq.getD 0 0) (tq.getD 1 0)).getD 0)) W):=fun W hW=>by
  obtain ⟨es,cl,q1,q2⟩:=hp;exact (look_ok ⟨es,cl,by rw [((Uh ap) W hW).block _ (x0u q1)]; exact q1,q2⟩ aK aL).2
 have aF:Below Q.heap.size Q Q.drew:=x0l ⟨1,rfl⟩;have aj:=Hd ((Uh HS) _ aF);have ai:Hid (∀ W z,Below Q.heap.size Q W→IntB w z (.returned (.int .i64 z)) W):=fun W z hW=>⟨rfl,(Uh ap) W hW⟩;have aw:=Hd ((Uh KT) Q.drew);rw [aq];clear aq hs hp aK aL ao aD aT aN;generalize Cn.wpair l lo (tq.getD 0 0) (tq.getD 1 0)=wp at *;generalize (Cn.firstP l (tq.getD 0 0) (tq.getD 1 0)).getD 0=fp at *;generalize makes (tq.getD 0 0) (tq.getD 1 0)=mk at *;generalize tq.getD 0 0=pa at *;generalize tq.getD 1 0=pb at *;unfold pk2 at *;generalize touches (⟨7,lo,hi,nn,tq,nm,ot,wt⟩:Rec)=tc at *;generalize Cn.wfull l lo=wf at *;subst hQ;unfold xV recV;clear aS aR aO h hg;cases tc
 ·rw [Bool.false_or]
  cases mk
  ·rw [if_neg (by decide)]
   obtain ⟨R,hR⟩:∃ R,(if wf≠0 then wf else if (decide (fp<(i:Int)) || wp)=true then 74 else 0)=R:=⟨_,rfl⟩;rw [hR];have HR:=Hd hR;clear hR;go_enter Tryz.func73,Tryz.ntmps73;go_wp2;refine wp_region_held_drew (S:=fun w'=>SP w') (by kernel_rfl) (Uh aj) (fun hHeld=>?_);refine tk9 0 ⟨some 34,_,_,_,_,_⟩ (.agg #[.int .i64 7,.int .i64 lo,.int .i64 hi,.int .i64 nn,.slice (some ⟨tb,ab,none⟩) 2 ah,.string nm,.string ot,.float .f64 wt]) rfl ?_ hHeld ?_
   ·intro w aa
    obtain ⟨s0,s1,s2,s3,s4,s5,s6,s7,s8,s9,ae,af,ag,ad⟩:=(congrFun ac _).mpr aa; go_simp
   try simp only [Act.put,sa9,sb9,sc9]
   refine wpAnyH_ready (rs:=[1]) (by kernel_rfl) (by simp) ?_;refine AllReadyH.cons (o:=⟨some 35,_,_,_,_,_⟩) rfl (fun K hK=>?_) AllReadyH.nil;go_simp;refine (Uh aw).mono ?_;rintro e W1 ⟨rfl,aC⟩;have ak:=x0b aF aC;have an:=Hd ((Uh HS) W1 ak);refine hK.out _ _ ?_ (fun hHeld=>?_)
   ·exact Uh an
   clear hK K
   try simp only [Act.put,sa9,sb9,sc9]
   refine tk9 2 ⟨some 36,_,_,_,_,_⟩ (.bool false) rfl ?_ hHeld ?_
   ·intro w aa
    go_simp
   try simp only [Act.put,sa9,sb9,sc9]
   refine tk9 3 ⟨some 37,_,_,_,_,_⟩ (.bool true) rfl ?_ hHeld ?_
   ·intro w aa
    go_simp
   try simp only [Act.put,sa9,sb9,sc9]
   refine tk9 4 ⟨some 38,_,_,_,_,_⟩ (.bool true) rfl ?_ hHeld ?_
   ·intro w aa
    go_simp
   try simp only [Act.put,sa9,sb9,sc9]
   refine tk9 5 ⟨some 39,_,_,_,_,_⟩ (.pointer (some ⟨w.heap.size+1,4,none⟩)) rfl ?_ hHeld ?_
   ·intro w aa
    obtain ⟨s0,s1,s2,s3,s4,s5,s6,s7,s8,s9,ae,af,ag,ad⟩:=(congrFun ac _).mpr aa; go_simp
   try simp only [Act.put,sa9,sb9,sc9]
   refine tk9 6 ⟨some 40,_,_,_,_,_⟩ (.slice (some ⟨tb,ab,none⟩) 2 ah) rfl ?_ hHeld ?_
   ·intro w aa
    obtain ⟨s0,s1,s2,s3,s4,s5,s6,s7,s8,s9,ae,af,ag,ad⟩:=(congrFun ac _).mpr aa; go_simp
   try simp only [Act.put,sa9,sb9,sc9]
   refine tk9 7 ⟨some 41,_,_,_,_,_⟩ (.pointer (some ⟨tb,ab,none⟩)) rfl ?_ hHeld ?_
   ·intro w aa
    obtain ⟨s0,s1,s2,s3,s4,s5,s6,s7,s8,s9,ae,af,ag,ad⟩:=(congrFun ac _).mpr aa; go_simp
   try simp only [Act.put,sa9,sb9,sc9]
   refine tk9 8 ⟨some 42,_,_,_,_,_⟩ (.int .i32 pa) rfl ?_ hHeld ?_
   ·intro w aa
    obtain ⟨s0,s1,s2,s3,s4,s5,s6,s7,s8,s9,ae,af,ag,ad⟩:=(congrFun ac _).mpr aa; go_simp
   try simp only [Act.put,sa9,sb9,sc9]
   refine tk9 9 ⟨some 43,_,_,_,_,_⟩ (.pointer (some ⟨w.heap.size+1,4,none⟩)) rfl ?_ hHeld ?_
   ·intro w aa
    obtain ⟨s0,s1,s2,s3,s4,s5,s6,s7,s8,s9,ae,af,ag,ad⟩:=(congrFun ac _).mpr aa; go_simp
   try simp only [Act.put,sa9,sb9,sc9]
   refine tk9 10 ⟨some 44,_,_,_,_,_⟩ (.slice (some ⟨tb,ab,none⟩) 2 ah) rfl ?_ hHeld ?_
   ·intro w aa
    obtain ⟨s0,s1,s2,s3,s4,s5,s6,s7,s8,s9,ae,af,ag,ad⟩:=(congrFun ac _).mpr aa; go_simp
   try simp only [Act.put,sa9,sb9,sc9]
   refine tk9 11 ⟨some 45,_,_,_,_,_⟩ (.pointer (some ⟨tb,ab+1,none⟩)) rfl ?_ hHeld ?_
   ·intro w aa
    obtain ⟨s0,s1,s2,s3,s4,s5,s6,s7,s8,s9,ae,af,ag,ad⟩:=(congrFun ac _).mpr aa; go_simp
   try simp only [Act.put,sa9,sb9,sc9]
   refine tk9 12 ⟨some 46,_,_,_,_,_⟩ (.int .i32 pb) rfl ?_ hHeld ?_
   ·intro w aa
    obtain ⟨s0,s1,s2,s3,s4,s5,s6,s7,s8,s9,ae,af,ag,ad⟩:=(congrFun ac _).mpr aa; go_simp
   try simp only [Act.put,sa9,sb9,sc9]
   refine wpAnyH_ready (rs:=[13]) (by kernel_rfl) (by simp) ?_;refine AllReadyH.cons (o:=⟨some 47,_,_,_,_,_⟩) rfl (fun K hK=>?_) AllReadyH.nil;go_simp;refine ((Uh KM) _).mono ?_;rintro e aH ⟨rfl,aM⟩;subst aH;refine hK.out _ _ ?_ (fun hHeld=>?_)
   ·exact Uh an
   clear hK K
   try simp only [Act.put,sa9,sb9,sc9]
   refine tk9 14 ⟨some 48,_,_,_,_,_⟩ (.bool false) rfl ?_ hHeld ?_
   ·intro w aa
    go_simp
   try simp only [Act.put,sa9,sb9,sc9]
   refine tk9 15 ⟨some 49,_,_,_,_,_⟩ (.bool false) rfl ?_ hHeld ?_
   ·intro w aa
    go_simp
   try simp only [Act.put,sa9,sb9,sc9]
   refine tk9 16 ⟨some 33,_,_,_,_,_⟩ (.bool false) rfl ?_ hHeld ?_
   ·intro w aa
    go_simp
   try simp only [Act.put,sa9,sb9,sc9]
   refine wpAnyH_done (by kernel_rfl) ?_ _;obtain ⟨q0,q1,q2,q3,q4,q5,q6,q7,q8,q9,aW,aX,aY,aZ⟩:=(congrFun ac _).mpr (Uh an);have K2:=Hd ((Uh KW) W1 ak);clear an aj KT aw KW KM hHeld;go_wp2_with fail;refine (Uh K2).mono ?_;rintro e W2 ⟨rfl,aP⟩;have ay:=x0b ak aP;clear K2 aP q0 q1 q2 q3 q4 q5 q6 q7 q8 q9 aW aX aY aZ;by_cases hz:wf=0
   ·subst hz
    have az:Below _ _ W2.drew:=x0b ay (x0l ⟨1,rfl⟩);have aj:=Hd ((Uh HS) _ az);have K3:=Hd ((Uh au) _ az);go_wp2;refine wp_region_held_drew (S:=fun w'=>SP w') (by kernel_rfl) (Uh aj) (fun hHeld=>?_);refine tk9 0 ⟨some 59,_,_,_,_,_⟩ (.bool true) rfl ?_ hHeld ?_
    ·intro w aa
     go_simp
    try simp only [Act.put,sa9,sb9,sc9]
    refine tk9 1 ⟨some 60,_,_,_,_,_⟩ (.bool true) rfl ?_ hHeld ?_
    ·intro w aa
     go_simp
    try simp only [Act.put,sa9,sb9,sc9]
    refine tk9 2 ⟨some 61,_,_,_,_,_⟩ (.pointer (some ⟨w.heap.size,2,none⟩)) rfl ?_ hHeld ?_
    ·intro w aa
     obtain ⟨s0,s1,s2,s3,s4,s5,s6,s7,s8,s9,ae,af,ag,ad⟩:=(congrFun ac _).mpr aa; go_simp
    try simp only [Act.put,sa9,sb9,sc9]
    refine tk9 3 ⟨some 62,_,_,_,_,_⟩ (.map (some mr)) rfl ?_ hHeld ?_
    ·intro w aa
     obtain ⟨s0,s1,s2,s3,s4,s5,s6,s7,s8,s9,ae,af,ag,ad⟩:=(congrFun ac _).mpr aa; go_simp
    try simp only [Act.put,sa9,sb9,sc9]
    refine tk9 4 ⟨some 63,_,_,_,_,_⟩ (.agg #[.int .i64 7,.int .i64 lo,.int .i64 hi,.int .i64 nn,.slice (some ⟨tb,ab,none⟩) 2 ah,.string nm,.string ot,.float .f64 wt]) rfl ?_ hHeld ?_
    ·intro w aa
     obtain ⟨s0,s1,s2,s3,s4,s5,s6,s7,s8,s9,ae,af,ag,ad⟩:=(congrFun ac _).mpr aa; go_simp
    try simp only [Act.put,sa9,sb9,sc9]
    refine tk9 7 ⟨some 66,_,_,_,_,_⟩ (.int .i64 (i:Int)) rfl ?_ hHeld ?_
    ·intro w aa
     go_simp
    try simp only [Act.put,sa9,sb9,sc9]
    refine wpAnyH_ready (rs:=[5]) (by kernel_rfl) (by simp) ?_;refine AllReadyH.cons (o:=⟨some 64,_,_,_,_,_⟩) rfl (fun K hK=>?_) AllReadyH.nil;go_simp;refine (Uh K3).mono ?_;rintro e W3 ⟨rfl,aU⟩;have av:=x0b az aU;have aE:=Hd ((Uh HS) W3 av);refine hK.out _ _ ?_ (fun hHeld=>?_)
    ·exact Uh aE
    clear hK K
    try simp only [Act.put,sa9,sb9,sc9]
    refine tk9 6 ⟨some 65,_,_,_,_,_⟩ (.int .i64 fp) rfl ?_ hHeld ?_
    ·intro w aa
     obtain ⟨s0,s1,s2,s3,s4,s5,s6,s7,s8,s9,ae,af,ag,ad⟩:=(congrFun ac _).mpr aa; have hlk:=(Uh ar) _ (Uh ad); go_simp
    try simp only [Act.put,sa9,sb9,sc9]
    refine tk9 8 ⟨some 67,_,_,_,_,_⟩ (.bool (decide (fp<(i:Int)))) rfl ?_ hHeld ?_
    ·intro w aa
     go_simp
    try simp only [Act.put,sa9,sb9,sc9]
    refine tk9 9 ⟨some 68,_,_,_,_,_⟩ (.bool (decide (fp<(i:Int)))) rfl ?_ hHeld ?_
    ·intro w aa
     go_simp
    try simp only [Act.put,sa9,sb9,sc9]
    by_cases hlt:fp<(i:Int)
    ·have aQ:decide (fp<(i:Int))=true:=decide_eq_true hlt
     obtain rfl:R=74:=by
      rw [← Uh HR,aQ]; simp
     rw [aQ];refine tn9 10 ⟨some 69,_,_,_,_,_⟩ undef rfl hHeld ?_
     try simp only [Act.put,sa9,sb9,sc9]
     refine tn9 11 ⟨some 70,_,_,_,_,_⟩ undef rfl hHeld ?_
     try simp only [Act.put,sa9,sb9,sc9]
     refine tn9 12 ⟨some 71,_,_,_,_,_⟩ undef rfl hHeld ?_
     try simp only [Act.put,sa9,sb9,sc9]
     refine tn9 13 ⟨some 72,_,_,_,_,_⟩ undef rfl hHeld ?_
     try simp only [Act.put,sa9,sb9,sc9]
     refine tn9 14 ⟨some 73,_,_,_,_,_⟩ undef rfl hHeld ?_
     try simp only [Act.put,sa9,sb9,sc9]
     refine tn9 15 ⟨some 74,_,_,_,_,_⟩ undef rfl hHeld ?_
     try simp only [Act.put,sa9,sb9,sc9]
     refine tn9 16 ⟨some 75,_,_,_,_,_⟩ undef rfl hHeld ?_
     try simp only [Act.put,sa9,sb9,sc9]
     refine tn9 17 ⟨some 76,_,_,_,_,_⟩ undef rfl hHeld ?_
     try simp only [Act.put,sa9,sb9,sc9]
     refine tn9 18 ⟨some 77,_,_,_,_,_⟩ undef rfl hHeld ?_
     try simp only [Act.put,sa9,sb9,sc9]
     refine tn9 19 ⟨some 78,_,_,_,_,_⟩ undef rfl hHeld ?_
     try simp only [Act.put,sa9,sb9,sc9]
     refine tn9 20 ⟨some 79,_,_,_,_,_⟩ undef rfl hHeld ?_
     try simp only [Act.put,sa9,sb9,sc9]
     refine tn9 21 ⟨some 80,_,_,_,_,_⟩ undef rfl hHeld ?_
     try simp only [Act.put,sa9,sb9,sc9]
     refine tn9 22 ⟨some 81,_,_,_,_,_⟩ undef rfl hHeld ?_
     try simp only [Act.put,sa9,sb9,sc9]
     refine tk9 23 ⟨some 82,_,_,_,_,_⟩ (.bool true) rfl ?_ hHeld ?_
     ·intro w aa
      go_simp
     try simp only [Act.put,sa9,sb9,sc9]
     refine tk9 24 ⟨some 83,_,_,_,_,_⟩ (.bool true) rfl ?_ hHeld ?_
     ·intro w aa
      go_simp
     try simp only [Act.put,sa9,sb9,sc9]
     refine wpAnyH_done (by kernel_rfl) ?_ _;have HF:=(Uh ai) W3 74 av;clear HS aj ai K3 aE av hHeld HR ar KP au ay az ak;go_wp2;go_ret;exact HF
    ·have aI:decide (fp<(i:Int))=false:=decide_eq_false hlt
     rw [aI];have K4:=Hd ((Uh KP) W3 av);refine tk9 10 ⟨some 69,_,_,_,_,_⟩ (.agg #[.slice ax cs.length al,.slice aA os.length am,.map (some mr)]) rfl ?_ hHeld ?_
     ·intro w aa
      obtain ⟨s0,s1,s2,s3,s4,s5,s6,s7,s8,s9,ae,af,ag,ad⟩:=(congrFun ac _).mpr aa; go_simp
     try simp only [Act.put,sa9,sb9,sc9]
     refine tk9 11 ⟨some 70,_,_,_,_,_⟩ (.pointer (some ⟨w.heap.size+1,1,none⟩)) rfl ?_ hHeld ?_
     ·intro w aa
      obtain ⟨s0,s1,s2,s3,s4,s5,s6,s7,s8,s9,ae,af,ag,ad⟩:=(congrFun ac _).mpr aa; go_simp
     try simp only [Act.put,sa9,sb9,sc9]
     refine tk9 12 ⟨some 71,_,_,_,_,_⟩ (.int .i64 lo) rfl ?_ hHeld ?_
     ·intro w aa
      obtain ⟨s0,s1,s2,s3,s4,s5,s6,s7,s8,s9,ae,af,ag,ad⟩:=(congrFun ac _).mpr aa; go_simp
     try simp only [Act.put,sa9,sb9,sc9]
     refine tk9 13 ⟨some 72,_,_,_,_,_⟩ (.int .i32 lo) rfl ?_ hHeld ?_
     ·intro w aa
      obtain ⟨s0,s1,s2,s3,s4,s5,s6,s7,s8,s9,ae,af,ag,ad⟩:=(congrFun ac _).mpr aa; go_simp
     try simp only [Act.put,sa9,sb9,sc9]
     refine tk9 14 ⟨some 73,_,_,_,_,_⟩ (.pointer (some ⟨w.heap.size+1,4,none⟩)) rfl ?_ hHeld ?_
     ·intro w aa
      obtain ⟨s0,s1,s2,s3,s4,s5,s6,s7,s8,s9,ae,af,ag,ad⟩:=(congrFun ac _).mpr aa; go_simp
     try simp only [Act.put,sa9,sb9,sc9]
     refine tk9 15 ⟨some 74,_,_,_,_,_⟩ (.slice (some ⟨tb,ab,none⟩) 2 ah) rfl ?_ hHeld ?_
     ·intro w aa
      obtain ⟨s0,s1,s2,s3,s4,s5,s6,s7,s8,s9,ae,af,ag,ad⟩:=(congrFun ac _).mpr aa; go_simp
     try simp only [Act.put,sa9,sb9,sc9]
     refine tk9 16 ⟨some 75,_,_,_,_,_⟩ (.pointer (some ⟨tb,ab,none⟩)) rfl ?_ hHeld ?_
     ·intro w aa
      obtain ⟨s0,s1,s2,s3,s4,s5,s6,s7,s8,s9,ae,af,ag,ad⟩:=(congrFun ac _).mpr aa; go_simp
     try simp only [Act.put,sa9,sb9,sc9]
     refine tk9 17 ⟨some 76,_,_,_,_,_⟩ (.int .i32 pa) rfl ?_ hHeld ?_
     ·intro w aa
      obtain ⟨s0,s1,s2,s3,s4,s5,s6,s7,s8,s9,ae,af,ag,ad⟩:=(congrFun ac _).mpr aa; go_simp
     try simp only [Act.put,sa9,sb9,sc9]
     refine tk9 18 ⟨some 77,_,_,_,_,_⟩ (.pointer (some ⟨w.heap.size+1,4,none⟩)) rfl ?_ hHeld ?_
     ·intro w aa
      obtain ⟨s0,s1,s2,s3,s4,s5,s6,s7,s8,s9,ae,af,ag,ad⟩:=(congrFun ac _).mpr aa; go_simp
     try simp only [Act.put,sa9,sb9,sc9]
     refine tk9 19 ⟨some 78,_,_,_,_,_⟩ (.slice (some ⟨tb,ab,none⟩) 2 ah) rfl ?_ hHeld ?_
     ·intro w aa
      obtain ⟨s0,s1,s2,s3,s4,s5,s6,s7,s8,s9,ae,af,ag,ad⟩:=(congrFun ac _).mpr aa; go_simp
     try simp only [Act.put,sa9,sb9,sc9]
     refine tk9 20 ⟨some 79,_,_,_,_,_⟩ (.pointer (some ⟨tb,ab+1,none⟩)) rfl ?_ hHeld ?_
     ·intro w aa
      obtain ⟨s0,s1,s2,s3,s4,s5,s6,s7,s8,s9,ae,af,ag,ad⟩:=(congrFun ac _).mpr aa; go_simp
     try simp only [Act.put,sa9,sb9,sc9]
     refine tk9 21 ⟨some 80,_,_,_,_,_⟩ (.int .i32 pb) rfl ?_ hHeld ?_
     ·intro w aa
      obtain ⟨s0,s1,s2,s3,s4,s5,s6,s7,s8,s9,ae,af,ag,ad⟩:=(congrFun ac _).mpr aa; go_simp
     try simp only [Act.put,sa9,sb9,sc9]
     refine wpAnyH_ready (rs:=[22]) (by kernel_rfl) (by simp) ?_;refine AllReadyH.cons (o:=⟨some 81,_,_,_,_,_⟩) rfl (fun K hK=>?_) AllReadyH.nil;go_simp;refine (Uh K4).mono ?_;rintro e W4 ⟨rfl,aV⟩;have aB:=x0b av aV;have aG:=Hd ((Uh HS) W4 aB);refine hK.out _ _ ?_ (fun hHeld=>?_)
     ·exact Uh aG
     clear hK K
     try simp only [Act.put,sa9,sb9,sc9]
     refine tk9 23 ⟨some 82,_,_,_,_,_⟩ (.bool wp) rfl ?_ hHeld ?_
     ·intro w aa
      go_simp
     try simp only [Act.put,sa9,sb9,sc9]
     refine tk9 24 ⟨some 83,_,_,_,_,_⟩ (.bool wp) rfl ?_ hHeld ?_
     ·intro w aa
      go_simp
     try simp only [Act.put,sa9,sb9,sc9]
     refine wpAnyH_done (by kernel_rfl) ?_ _;cases wp
     ·obtain rfl:R=0:=by
       rw [← Uh HR,aI]; simp
      have HF:=(Uh ai) W4 0 aB;clear HS aj ai K3 K4 aE aG av aB hHeld HR ar KP au ay az ak;go_wp2;go_ret;exact HF
     ·obtain rfl:R=74:=by
       rw [← Uh HR,aI]; simp
      have HF:=(Uh ai) W4 74 aB;clear HS aj ai K3 K4 aE aG av aB hHeld HR ar KP au ay az ak;go_wp2;go_ret;exact HF
   ·have hzz:(wf != 0)=true:=by simp [hz]
    obtain rfl:R=wf:=(by rw [← Uh HR,if_pos hz]);have HF:=(Uh ai) W2 R ay;clear hz;clear HS ai ay HR ar KP au ak;go_wp2;go_ret;exact HF
  ·rw [if_pos rfl]
   go_enter Tryz.func73,Tryz.ntmps73;go_wp2;refine wp_region_held_drew (S:=fun w'=>SP w') (by kernel_rfl) (Uh aj) (fun hHeld=>?_);refine tk9 0 ⟨some 34,_,_,_,_,_⟩ (.agg #[.int .i64 7,.int .i64 lo,.int .i64 hi,.int .i64 nn,.slice (some ⟨tb,ab,none⟩) 2 ah,.string nm,.string ot,.float .f64 wt]) rfl ?_ hHeld ?_
   ·intro w aa
    obtain ⟨s0,s1,s2,s3,s4,s5,s6,s7,s8,s9,ae,af,ag,ad⟩:=(congrFun ac _).mpr aa; go_simp
   try simp only [Act.put,sa9,sb9,sc9]
   refine wpAnyH_ready (rs:=[1]) (by kernel_rfl) (by simp) ?_;refine AllReadyH.cons (o:=⟨some 35,_,_,_,_,_⟩) rfl (fun K hK=>?_) AllReadyH.nil;go_simp;refine (Uh aw).mono ?_;rintro e W1 ⟨rfl,aC⟩;have ak:=x0b aF aC;have an:=Hd ((Uh HS) W1 ak);refine hK.out _ _ ?_ (fun hHeld=>?_)
   ·exact Uh an
   clear hK K
   try simp only [Act.put,sa9,sb9,sc9]
   refine tk9 2 ⟨some 36,_,_,_,_,_⟩ (.bool false) rfl ?_ hHeld ?_
   ·intro w aa
    go_simp
   try simp only [Act.put,sa9,sb9,sc9]
   refine tk9 3 ⟨some 37,_,_,_,_,_⟩ (.bool true) rfl ?_ hHeld ?_
   ·intro w aa
    go_simp
   try simp only [Act.put,sa9,sb9,sc9]
   refine tk9 4 ⟨some 38,_,_,_,_,_⟩ (.bool true) rfl ?_ hHeld ?_
   ·intro w aa
    go_simp
   try simp only [Act.put,sa9,sb9,sc9]
   refine tk9 5 ⟨some 39,_,_,_,_,_⟩ (.pointer (some ⟨w.heap.size+1,4,none⟩)) rfl ?_ hHeld ?_
   ·intro w aa
    obtain ⟨s0,s1,s2,s3,s4,s5,s6,s7,s8,s9,ae,af,ag,ad⟩:=(congrFun ac _).mpr aa; go_simp
   try simp only [Act.put,sa9,sb9,sc9]
   refine tk9 6 ⟨some 40,_,_,_,_,_⟩ (.slice (some ⟨tb,ab,none⟩) 2 ah) rfl ?_ hHeld ?_
   ·intro w aa
    obtain ⟨s0,s1,s2,s3,s4,s5,s6,s7,s8,s9,ae,af,ag,ad⟩:=(congrFun ac _).mpr aa; go_simp
   try simp only [Act.put,sa9,sb9,sc9]
   refine tk9 7 ⟨some 41,_,_,_,_,_⟩ (.pointer (some ⟨tb,ab,none⟩)) rfl ?_ hHeld ?_
   ·intro w aa
    obtain ⟨s0,s1,s2,s3,s4,s5,s6,s7,s8,s9,ae,af,ag,ad⟩:=(congrFun ac _).mpr aa; go_simp
   try simp only [Act.put,sa9,sb9,sc9]
   refine tk9 8 ⟨some 42,_,_,_,_,_⟩ (.int .i32 pa) rfl ?_ hHeld ?_
   ·intro w aa
    obtain ⟨s0,s1,s2,s3,s4,s5,s6,s7,s8,s9,ae,af,ag,ad⟩:=(congrFun ac _).mpr aa; go_simp
   try simp only [Act.put,sa9,sb9,sc9]
   refine tk9 9 ⟨some 43,_,_,_,_,_⟩ (.pointer (some ⟨w.heap.size+1,4,none⟩)) rfl ?_ hHeld ?_
   ·intro w aa
    obtain ⟨s0,s1,s2,s3,s4,s5,s6,s7,s8,s9,ae,af,ag,ad⟩:=(congrFun ac _).mpr aa; go_simp
   try simp only [Act.put,sa9,sb9,sc9]
   refine tk9 10 ⟨some 44,_,_,_,_,_⟩ (.slice (some ⟨tb,ab,none⟩) 2 ah) rfl ?_ hHeld ?_
   ·intro w aa
    obtain ⟨s0,s1,s2,s3,s4,s5,s6,s7,s8,s9,ae,af,ag,ad⟩:=(congrFun ac _).mpr aa; go_simp
   try simp only [Act.put,sa9,sb9,sc9]
   refine tk9 11 ⟨some 45,_,_,_,_,_⟩ (.pointer (some ⟨tb,ab+1,none⟩)) rfl ?_ hHeld ?_
   ·intro w aa
    obtain ⟨s0,s1,s2,s3,s4,s5,s6,s7,s8,s9,ae,af,ag,ad⟩:=(congrFun ac _).mpr aa; go_simp
   try simp only [Act.put,sa9,sb9,sc9]
   refine tk9 12 ⟨some 46,_,_,_,_,_⟩ (.int .i32 pb) rfl ?_ hHeld ?_
   ·intro w aa
    obtain ⟨s0,s1,s2,s3,s4,s5,s6,s7,s8,s9,ae,af,ag,ad⟩:=(congrFun ac _).mpr aa; go_simp
   try simp only [Act.put,sa9,sb9,sc9]
   refine wpAnyH_ready (rs:=[13]) (by kernel_rfl) (by simp) ?_;refine AllReadyH.cons (o:=⟨some 47,_,_,_,_,_⟩) rfl (fun K hK=>?_) AllReadyH.nil;go_simp;refine ((Uh KM) _).mono ?_;rintro e aH ⟨rfl,aM⟩;subst aH;refine hK.out _ _ ?_ (fun hHeld=>?_)
   ·exact Uh an
   clear hK K
   try simp only [Act.put,sa9,sb9,sc9]
   refine tk9 14 ⟨some 48,_,_,_,_,_⟩ (.bool true) rfl ?_ hHeld ?_
   ·intro w aa
    go_simp
   try simp only [Act.put,sa9,sb9,sc9]
   refine tk9 15 ⟨some 49,_,_,_,_,_⟩ (.bool true) rfl ?_ hHeld ?_
   ·intro w aa
    go_simp
   try simp only [Act.put,sa9,sb9,sc9]
   refine tk9 16 ⟨some 33,_,_,_,_,_⟩ (.bool true) rfl ?_ hHeld ?_
   ·intro w aa
    go_simp
   try simp only [Act.put,sa9,sb9,sc9]
   refine wpAnyH_done (by kernel_rfl) ?_ _;have HF:=(Uh ai) W1 71 ak;clear HS aj ai KT aw KW KM KP au ar an ak hHeld;go_wp2;go_ret;exact HF
 ·rw [Bool.true_or,if_pos rfl]
  go_enter Tryz.func73,Tryz.ntmps73;go_wp2;refine wp_region_held_drew (S:=fun w'=>SP w') (by kernel_rfl) (Uh aj) (fun hHeld=>?_);refine tk9 0 ⟨some 34,_,_,_,_,_⟩ (.agg #[.int .i64 7,.int .i64 lo,.int .i64 hi,.int .i64 nn,.slice (some ⟨tb,ab,none⟩) 2 ah,.string nm,.string ot,.float .f64 wt]) rfl ?_ hHeld ?_
  ·intro w aa
   obtain ⟨s0,s1,s2,s3,s4,s5,s6,s7,s8,s9,ae,af,ag,ad⟩:=(congrFun ac _).mpr aa; go_simp
  try simp only [Act.put,sa9,sb9,sc9]
  refine wpAnyH_ready (rs:=[1]) (by kernel_rfl) (by simp) ?_;refine AllReadyH.cons (o:=⟨some 35,_,_,_,_,_⟩) rfl (fun K hK=>?_) AllReadyH.nil;go_simp;refine (Uh aw).mono ?_;rintro e W1 ⟨rfl,aC⟩;have ak:=x0b aF aC;have an:=Hd ((Uh HS) W1 ak);refine hK.out _ _ ?_ (fun hHeld=>?_)
  ·exact Uh an
  clear hK K
  try simp only [Act.put,sa9,sb9,sc9]
  refine tk9 2 ⟨some 36,_,_,_,_,_⟩ (.bool true) rfl ?_ hHeld ?_
  ·intro w aa
   go_simp
  try simp only [Act.put,sa9,sb9,sc9]
  refine tn9 3 ⟨some 37,_,_,_,_,_⟩ undef rfl hHeld ?_
  try simp only [Act.put,sa9,sb9,sc9]
  refine tn9 4 ⟨some 38,_,_,_,_,_⟩ undef rfl hHeld ?_
  try simp only [Act.put,sa9,sb9,sc9]
  refine tn9 5 ⟨some 39,_,_,_,_,_⟩ undef rfl hHeld ?_
  try simp only [Act.put,sa9,sb9,sc9]
  refine tn9 6 ⟨some 40,_,_,_,_,_⟩ undef rfl hHeld ?_
  try simp only [Act.put,sa9,sb9,sc9]
  refine tn9 7 ⟨some 41,_,_,_,_,_⟩ undef rfl hHeld ?_
  try simp only [Act.put,sa9,sb9,sc9]
  refine tn9 8 ⟨some 42,_,_,_,_,_⟩ undef rfl hHeld ?_
  try simp only [Act.put,sa9,sb9,sc9]
  refine tn9 9 ⟨some 43,_,_,_,_,_⟩ undef rfl hHeld ?_
  try simp only [Act.put,sa9,sb9,sc9]
  refine tn9 10 ⟨some 44,_,_,_,_,_⟩ undef rfl hHeld ?_
  try simp only [Act.put,sa9,sb9,sc9]
  refine tn9 11 ⟨some 45,_,_,_,_,_⟩ undef rfl hHeld ?_
  try simp only [Act.put,sa9,sb9,sc9]
  refine tn9 12 ⟨some 46,_,_,_,_,_⟩ undef rfl hHeld ?_
  try simp only [Act.put,sa9,sb9,sc9]
  refine tn9 13 ⟨some 47,_,_,_,_,_⟩ undef rfl hHeld ?_
  try simp only [Act.put,sa9,sb9,sc9]
  refine tn9 14 ⟨some 48,_,_,_,_,_⟩ undef rfl hHeld ?_
  try simp only [Act.put,sa9,sb9,sc9]
  refine tk9 15 ⟨some 49,_,_,_,_,_⟩ (.bool true) rfl ?_ hHeld ?_
  ·intro w aa
   go_simp
  try simp only [Act.put,sa9,sb9,sc9]
  refine tk9 16 ⟨some 33,_,_,_,_,_⟩ (.bool true) rfl ?_ hHeld ?_
  ·intro w aa
   go_simp
  try simp only [Act.put,sa9,sb9,sc9]
  refine wpAnyH_done (by kernel_rfl) ?_ _;have HF:=(Uh ai) W1 71 ak;clear HS aj ai KT aw KW KM KP au ar an ak hHeld;go_wp2;go_ret;exact HF
end Go.Proofs.YtkglkajjofidoaaGreatDoor
