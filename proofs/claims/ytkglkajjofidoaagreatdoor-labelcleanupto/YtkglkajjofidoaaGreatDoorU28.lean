/- CcT67 CcT87 CcV7 CcW7 -/
import Derived.Test.YtkglkajjofidoaaGreatDoorU29
import Derived.Test.YtkglkajjofidoaaGreatDoorU30
import Derived.Test.YtkglkajjofidoaaGreatDoorU26
set_option maxHeartbeats 16000000
set_option maxRecDepth 20000
namespace Go.Proofs.YtkglkajjofidoaaGreatDoor
open Go.RowKit
theorem z1w (l cs os:List Rec) (cv ov:Value) (mr i:Nat) (lo hi nn:Int) (tq:List Int) (nm ot:ByteArray) (wt:Nat) (vt:Value) (w:World) (h:Idx l w cv ov cs os) (hs:Sk .i32 w vt tq) (am:¬ lo<128) :
  Calls Tryz.prog 73 #[xV cv ov (.map (some mr)),.int .i64 (i:Int),recV (⟨6,lo,hi,nn,tq,nm,ot,wt⟩:Rec) vt] w (IntB w (if touches (⟨6,lo,hi,nn,tq,nm,ot,wt⟩:Rec)=true then 71 else 0)):=by
 obtain ⟨af,aa,rfl,_,_⟩:=h.rc.shape;obtain ⟨ah,ab,rfl,_,_⟩:=h.ro.shape;obtain ⟨aj,ac,rfl,_,_⟩:=hs.shape;obtain ⟨Q,hQ⟩:∃ Q,((w.alloc (.cells #[.slice af cs.length aa,.slice ah os.length ab,.map (some mr)] 118)).alloc (.cells #[.int .i64 6,.int .i64 lo,.int .i64 hi,.int .i64 nn,.slice aj tq.length ac,.string nm,.string ot,.float .f64 wt] 50))=Q:=⟨_,rfl⟩;have aM:Below w.heap.size w Q:=(by rw [← hQ]; exact ((Below.refl _ _).alloc (Nat.le_refl _) _).alloc (by simp) _);have bi:Q.heap.size=w.heap.size+2:=by rw [← hQ]; simp
 have aC:Q.heap[w.heap.size]?=some (.cells #[.slice af cs.length aa,.slice ah os.length ab,.map (some mr)] 118 (0,0)):=by
  rw [← hQ];show ((w.heap.push _).push _)[w.heap.size]?=_;rw [Array.getElem?_push,Array.getElem?_push]; simp
 have aQ:Q.heap[w.heap.size+1]?=some (.cells #[.int .i64 6,.int .i64 lo,.int .i64 hi,.int .i64 nn,.slice aj tq.length ac,.string nm,.string ot,.float .f64 wt] 50 (0,0)):=by
  rw [← hQ];show ((w.heap.push _).push _)[w.heap.size+1]?=_;rw [Array.getElem?_push]; simp
 have av:Hid (∀ W:World,Below Q.heap.size Q W→Below w.heap.size w W):=fun W hW=>aM.trans (hW.mono (by omega));obtain ⟨SP,aA⟩:∃ SP:World→Prop,(fun W=>(W.cell? ⟨w.heap.size+1,0,none⟩=some (.int .i64 6)∧W.cell? ⟨w.heap.size+1,1,none⟩=some (.int .i64 lo)∧W.cell? ⟨w.heap.size+1,2,none⟩=some (.int .i64 hi)∧W.cell? ⟨w.heap.size+1,3,none⟩=some (.int .i64 nn)∧W.cell? ⟨w.heap.size+1,4,none⟩=some (.slice aj tq.length ac)∧W.cell? ⟨w.heap.size+1,5,none⟩=some (.string nm)∧W.cell? ⟨w.heap.size+1,6,none⟩=some (.string ot)∧W.cell? ⟨w.heap.size+1,7,none⟩=some (.float .f64 wt)∧W.cell? ⟨w.heap.size,0,none⟩=some (.slice af cs.length aa)∧W.cell? ⟨w.heap.size,1,none⟩=some (.slice ah os.length ab)∧W.cell? ⟨w.heap.size,2,none⟩=some (.map (some mr))∧Hid (Below Q.heap.size Q W)))=SP:=⟨_,rfl⟩
 have HS:Hid (∀ W:World,Below Q.heap.size Q W→SP W):=fun W hW=>by
  rw [← aA];have hx:=(hW.block (w.heap.size) (by omega)).trans aC;have hr:=(hW.block (w.heap.size+1) (by omega)).trans aQ;exact ⟨cell_of (j:=0) hr (by show 0<8; omega),cell_of (j:=1) hr (by show 1<8; omega),cell_of (j:=2) hr (by show 2<8; omega),cell_of (j:=3) hr (by show 3<8; omega),cell_of (j:=4) hr (by show 4<8; omega),cell_of (j:=5) hr (by show 5<8; omega),cell_of (j:=6) hr (by show 6<8; omega),cell_of (j:=7) hr (by show 7<8; omega),cell_of (j:=0) hx (by show 0<3; omega),cell_of (j:=1) hx (by show 1<3; omega),cell_of (j:=2) hx (by show 2<3; omega),hW⟩
 have KT:Hid (∀ W:World,Calls Tryz.prog 112 #[.agg #[.int .i64 6,.int .i64 lo,.int .i64 hi,.int .i64 nn,.slice aj tq.length ac,.string nm,.string ot,.float .f64 wt]] W (x0d W (touches (⟨6,lo,hi,nn,tq,nm,ot,wt⟩:Rec)))):=fun W=>x2L (⟨6,lo,hi,nn,tq,nm,ot,wt⟩:Rec) _ _ _ W;have aI:Below Q.heap.size Q Q.drew:=x0l ⟨1,rfl⟩;have ai:=Hd ((Uh HS) _ aI);have ae:Hid (∀ W z,Below Q.heap.size Q W→IntB w z (.returned (.int .i64 z)) W):=fun W z hW=>⟨rfl,(Uh av) W hW⟩;have ax:=Hd ((Uh KT) Q.drew);generalize touches (⟨6,lo,hi,nn,tq,nm,ot,wt⟩:Rec)=tc at *;subst hQ;unfold xV recV;clear aC aQ aM h hs;cases tc
 ·rw [if_neg (by decide)]
  go_enter Tryz.func73,Tryz.ntmps73;go_wp2;refine wp_region_held_drew (S:=fun w'=>SP w') (by kernel_rfl) (Uh ai) (fun hHeld=>?_);refine tk9 0 ⟨some 34,_,_,_,_,_⟩ (.agg #[.int .i64 6,.int .i64 lo,.int .i64 hi,.int .i64 nn,.slice aj tq.length ac,.string nm,.string ot,.float .f64 wt]) rfl ?_ hHeld ?_
  ·intro w ad
   obtain ⟨s0,s1,s2,s3,s4,s5,s6,s7,s8,s9,a8,a9⟩:=(congrFun aA _).mpr ad; go_simp
  try simp only [Act.put,sa9,sb9,sc9]
  refine wpAnyH_ready (rs:=[1]) (by kernel_rfl) (by simp) ?_;refine AllReadyH.cons (o:=⟨some 35,_,_,_,_,_⟩) rfl (fun K hK=>?_) AllReadyH.nil;go_simp;refine (Uh ax).mono ?_;rintro e W1 ⟨rfl,al⟩;have ag:=x0b aI al;have an:=Hd ((Uh HS) W1 ag);refine hK.out _ _ ?_ (fun hHeld=>?_)
  ·exact Uh an
  clear hK K
  try simp only [Act.put,sa9,sb9,sc9]
  refine tk9 2 ⟨some 36,_,_,_,_,_⟩ (.bool false) rfl ?_ hHeld ?_
  ·intro w ad
   go_simp
  try simp only [Act.put,sa9,sb9,sc9]
  refine tk9 3 ⟨some 37,_,_,_,_,_⟩ (.bool false) rfl ?_ hHeld ?_
  ·intro w ad
   go_simp
  try simp only [Act.put,sa9,sb9,sc9]
  refine tk9 4 ⟨some 38,_,_,_,_,_⟩ (.bool false) rfl ?_ hHeld ?_
  ·intro w ad
   go_simp
  try simp only [Act.put,sa9,sb9,sc9]
  refine tn9 5 ⟨some 39,_,_,_,_,_⟩ undef rfl hHeld ?_
  try simp only [Act.put,sa9,sb9,sc9]
  refine tn9 6 ⟨some 40,_,_,_,_,_⟩ undef rfl hHeld ?_
  try simp only [Act.put,sa9,sb9,sc9]
  refine tn9 7 ⟨some 41,_,_,_,_,_⟩ undef rfl hHeld ?_
  try simp only [Act.put,sa9,sb9,sc9]
  refine tn9 8 ⟨some 42,_,_,_,_,_⟩ undef rfl hHeld ?_
  try simp only [Act.put,sa9,sb9,sc9]
  refine tn9 9 ⟨some 43,_,_,_,_,_⟩ undef rfl hHeld ?_
  try simp only [Act.put,sa9,sb9,sc9]
  refine tn9 10 ⟨some 44,_,_,_,_,_⟩ undef rfl hHeld ?_
  try simp only [Act.put,sa9,sb9,sc9]
  refine tn9 11 ⟨some 45,_,_,_,_,_⟩ undef rfl hHeld ?_
  try simp only [Act.put,sa9,sb9,sc9]
  refine tn9 12 ⟨some 46,_,_,_,_,_⟩ undef rfl hHeld ?_
  try simp only [Act.put,sa9,sb9,sc9]
  refine tn9 13 ⟨some 47,_,_,_,_,_⟩ undef rfl hHeld ?_
  try simp only [Act.put,sa9,sb9,sc9]
  refine tk9 14 ⟨some 48,_,_,_,_,_⟩ (.bool false) rfl ?_ hHeld ?_
  ·intro w ad
   go_simp
  try simp only [Act.put,sa9,sb9,sc9]
  refine tk9 15 ⟨some 49,_,_,_,_,_⟩ (.bool false) rfl ?_ hHeld ?_
  ·intro w ad
   go_simp
  try simp only [Act.put,sa9,sb9,sc9]
  refine tk9 16 ⟨some 33,_,_,_,_,_⟩ (.bool false) rfl ?_ hHeld ?_
  ·intro w ad
   go_simp
  try simp only [Act.put,sa9,sb9,sc9]
  refine wpAnyH_done (by kernel_rfl) ?_ _;go_wp2;refine wp_region_held_drew (S:=fun _=>True) (by kernel_rfl) trivial (fun hHeld=>?_);refine tk9 0 ⟨some 59,_,_,_,_,_⟩ (.bool false) rfl ?_ hHeld ?_
  ·intro w ad
   go_simp
  try simp only [Act.put,sa9,sb9,sc9]
  refine tk9 1 ⟨some 60,_,_,_,_,_⟩ (.bool false) rfl ?_ hHeld ?_
  ·intro w ad
   go_simp
  try simp only [Act.put,sa9,sb9,sc9]
  refine tn9 2 ⟨some 61,_,_,_,_,_⟩ undef rfl hHeld ?_
  try simp only [Act.put,sa9,sb9,sc9]
  refine tn9 3 ⟨some 62,_,_,_,_,_⟩ undef rfl hHeld ?_
  try simp only [Act.put,sa9,sb9,sc9]
  refine tn9 4 ⟨some 63,_,_,_,_,_⟩ undef rfl hHeld ?_
  try simp only [Act.put,sa9,sb9,sc9]
  refine tn9 5 ⟨some 64,_,_,_,_,_⟩ undef rfl hHeld ?_
  try simp only [Act.put,sa9,sb9,sc9]
  refine tn9 6 ⟨some 65,_,_,_,_,_⟩ undef rfl hHeld ?_
  try simp only [Act.put,sa9,sb9,sc9]
  refine tn9 7 ⟨some 66,_,_,_,_,_⟩ undef rfl hHeld ?_
  try simp only [Act.put,sa9,sb9,sc9]
  refine tn9 8 ⟨some 67,_,_,_,_,_⟩ undef rfl hHeld ?_
  try simp only [Act.put,sa9,sb9,sc9]
  refine tn9 9 ⟨some 68,_,_,_,_,_⟩ undef rfl hHeld ?_
  try simp only [Act.put,sa9,sb9,sc9]
  refine tn9 10 ⟨some 69,_,_,_,_,_⟩ undef rfl hHeld ?_
  try simp only [Act.put,sa9,sb9,sc9]
  refine tn9 11 ⟨some 70,_,_,_,_,_⟩ undef rfl hHeld ?_
  try simp only [Act.put,sa9,sb9,sc9]
  refine tn9 12 ⟨some 71,_,_,_,_,_⟩ undef rfl hHeld ?_
  try simp only [Act.put,sa9,sb9,sc9]
  refine tn9 13 ⟨some 72,_,_,_,_,_⟩ undef rfl hHeld ?_
  try simp only [Act.put,sa9,sb9,sc9]
  refine tn9 14 ⟨some 73,_,_,_,_,_⟩ undef rfl hHeld ?_
  try simp only [Act.put,sa9,sb9,sc9]
  refine tn9 15 ⟨some 74,_,_,_,_,_⟩ undef rfl hHeld ?_
  try simp only [Act.put,sa9,sb9,sc9]
  refine tn9 16 ⟨some 75,_,_,_,_,_⟩ undef rfl hHeld ?_
  try simp only [Act.put,sa9,sb9,sc9]
  refine tn9 17 ⟨some 76,_,_,_,_,_⟩ undef rfl hHeld ?_
  try simp only [Act.put,sa9,sb9,sc9]
  refine tn9 18 ⟨some 77,_,_,_,_,_⟩ undef rfl hHeld ?_
  try simp only [Act.put,sa9,sb9,sc9]
  refine tn9 19 ⟨some 78,_,_,_,_,_⟩ undef rfl hHeld ?_
  try simp only [Act.put,sa9,sb9,sc9]
  refine tn9 20 ⟨some 79,_,_,_,_,_⟩ undef rfl hHeld ?_
  try simp only [Act.put,sa9,sb9,sc9]
  refine tn9 21 ⟨some 80,_,_,_,_,_⟩ undef rfl hHeld ?_
  try simp only [Act.put,sa9,sb9,sc9]
  refine tn9 22 ⟨some 81,_,_,_,_,_⟩ undef rfl hHeld ?_
  try simp only [Act.put,sa9,sb9,sc9]
  refine tn9 23 ⟨some 82,_,_,_,_,_⟩ undef rfl hHeld ?_
  try simp only [Act.put,sa9,sb9,sc9]
  refine tk9 24 ⟨some 83,_,_,_,_,_⟩ (.bool false) rfl ?_ hHeld ?_
  ·intro w ad
   go_simp
  try simp only [Act.put,sa9,sb9,sc9]
  refine wpAnyH_done (by kernel_rfl) ?_ _;have HF:=(Uh ae) W1.drew 0 (x0b ag (x0l ⟨1,rfl⟩));clear HS ai ae KT ax an ag hHeld;go_wp2;go_ret;exact HF
 ·rw [if_pos rfl]
  go_enter Tryz.func73,Tryz.ntmps73;go_wp2;refine wp_region_held_drew (S:=fun w'=>SP w') (by kernel_rfl) (Uh ai) (fun hHeld=>?_);refine tk9 0 ⟨some 34,_,_,_,_,_⟩ (.agg #[.int .i64 6,.int .i64 lo,.int .i64 hi,.int .i64 nn,.slice aj tq.length ac,.string nm,.string ot,.float .f64 wt]) rfl ?_ hHeld ?_
  ·intro w ad
   obtain ⟨s0,s1,s2,s3,s4,s5,s6,s7,s8,s9,a8,a9⟩:=(congrFun aA _).mpr ad; go_simp
  try simp only [Act.put,sa9,sb9,sc9]
  refine wpAnyH_ready (rs:=[1]) (by kernel_rfl) (by simp) ?_;refine AllReadyH.cons (o:=⟨some 35,_,_,_,_,_⟩) rfl (fun K hK=>?_) AllReadyH.nil;go_simp;refine (Uh ax).mono ?_;rintro e W1 ⟨rfl,al⟩;have ag:=x0b aI al;have an:=Hd ((Uh HS) W1 ag);refine hK.out _ _ ?_ (fun hHeld=>?_)
  ·exact Uh an
  clear hK K
  try simp only [Act.put,sa9,sb9,sc9]
  refine tk9 2 ⟨some 36,_,_,_,_,_⟩ (.bool true) rfl ?_ hHeld ?_
  ·intro w ad
   go_simp
  try simp only [Act.put,sa9,sb9,sc9]
  refine tn9 3 ⟨some 37,_,_,_,_,_⟩ undef rfl hHeld ?_
  try simp only [Act.put,sa9,sb9,sc9]
  refine tn9 4 ⟨some 38,_,_,_,_,_⟩ undef rfl hHeld ?_
  try simp only [Act.put,sa9,sb9,sc9]
  refine tn9 5 ⟨some 39,_,_,_,_,_⟩ undef rfl hHeld ?_
  try simp only [Act.put,sa9,sb9,sc9]
  refine tn9 6 ⟨some 40,_,_,_,_,_⟩ undef rfl hHeld ?_
  try simp only [Act.put,sa9,sb9,sc9]
  refine tn9 7 ⟨some 41,_,_,_,_,_⟩ undef rfl hHeld ?_
  try simp only [Act.put,sa9,sb9,sc9]
  refine tn9 8 ⟨some 42,_,_,_,_,_⟩ undef rfl hHeld ?_
  try simp only [Act.put,sa9,sb9,sc9]
  refine tn9 9 ⟨some 43,_,_,_,_,_⟩ undef rfl hHeld ?_
  try simp only [Act.put,sa9,sb9,sc9]
  refine tn9 10 ⟨some 44,_,_,_,_,_⟩ undef rfl hHeld ?_
  try simp only [Act.put,sa9,sb9,sc9]
  refine tn9 11 ⟨some 45,_,_,_,_,_⟩ undef rfl hHeld ?_
  try simp only [Act.put,sa9,sb9,sc9]
  refine tn9 12 ⟨some 46,_,_,_,_,_⟩ undef rfl hHeld ?_
  try simp only [Act.put,sa9,sb9,sc9]
  refine tn9 13 ⟨some 47,_,_,_,_,_⟩ undef rfl hHeld ?_
  try simp only [Act.put,sa9,sb9,sc9]
  refine tn9 14 ⟨some 48,_,_,_,_,_⟩ undef rfl hHeld ?_
  try simp only [Act.put,sa9,sb9,sc9]
  refine tk9 15 ⟨some 49,_,_,_,_,_⟩ (.bool true) rfl ?_ hHeld ?_
  ·intro w ad
   go_simp
  try simp only [Act.put,sa9,sb9,sc9]
  refine tk9 16 ⟨some 33,_,_,_,_,_⟩ (.bool true) rfl ?_ hHeld ?_
  ·intro w ad
   go_simp
  try simp only [Act.put,sa9,sb9,sc9]
  refine wpAnyH_done (by kernel_rfl) ?_ _;have HF:=(Uh ae) W1 71 ag;clear HS ai ae KT ax an ag hHeld;go_wp2;go_ret;exact HF
theorem z1y (l cs os:List Rec) (cv ov:Value) (mr i:Nat) (lo hi nn:Int) (tq:List Int) (nm ot:ByteArray) (wt:Nat) (vt:Value) (w:World) (hg:Glob w) (h:Idx l w cv ov cs os) (hs:Sk .i32 w vt tq) (am:¬ lo<128) (aP:Rune lo) :
  Calls Tryz.prog 73 #[xV cv ov (.map (some mr)),.int .i64 (i:Int),recV (⟨8,lo,hi,nn,tq,nm,ot,wt⟩:Rec) vt] w (IntB w (if touches (⟨8,lo,hi,nn,tq,nm,ot,wt⟩:Rec)=true then 71 else Cn.wfull l lo)):=by
 obtain ⟨af,aa,rfl,_,_⟩:=h.rc.shape;obtain ⟨ah,ab,rfl,_,_⟩:=h.ro.shape;obtain ⟨aj,ac,rfl,_,_⟩:=hs.shape;obtain ⟨Q,hQ⟩:∃ Q,((w.alloc (.cells #[.slice af cs.length aa,.slice ah os.length ab,.map (some mr)] 118)).alloc (.cells #[.int .i64 8,.int .i64 lo,.int .i64 hi,.int .i64 nn,.slice aj tq.length ac,.string nm,.string ot,.float .f64 wt] 50))=Q:=⟨_,rfl⟩;have aM:Below w.heap.size w Q:=(by rw [← hQ]; exact ((Below.refl _ _).alloc (Nat.le_refl _) _).alloc (by simp) _);have bi:Q.heap.size=w.heap.size+2:=by rw [← hQ]; simp
 have aC:Q.heap[w.heap.size]?=some (.cells #[.slice af cs.length aa,.slice ah os.length ab,.map (some mr)] 118 (0,0)):=by
  rw [← hQ];show ((w.heap.push _).push _)[w.heap.size]?=_;rw [Array.getElem?_push,Array.getElem?_push]; simp
 have aQ:Q.heap[w.heap.size+1]?=some (.cells #[.int .i64 8,.int .i64 lo,.int .i64 hi,.int .i64 nn,.slice aj tq.length ac,.string nm,.string ot,.float .f64 wt] 50 (0,0)):=by
  rw [← hQ];show ((w.heap.push _).push _)[w.heap.size+1]?=_;rw [Array.getElem?_push]; simp
 have av:Hid (∀ W:World,Below Q.heap.size Q W→Below w.heap.size w W):=fun W hW=>aM.trans (hW.mono (by omega));obtain ⟨SP,aA⟩:∃ SP:World→Prop,(fun W=>(W.cell? ⟨w.heap.size+1,0,none⟩=some (.int .i64 8)∧W.cell? ⟨w.heap.size+1,1,none⟩=some (.int .i64 lo)∧W.cell? ⟨w.heap.size+1,2,none⟩=some (.int .i64 hi)∧W.cell? ⟨w.heap.size+1,3,none⟩=some (.int .i64 nn)∧W.cell? ⟨w.heap.size+1,4,none⟩=some (.slice aj tq.length ac)∧W.cell? ⟨w.heap.size+1,5,none⟩=some (.string nm)∧W.cell? ⟨w.heap.size+1,6,none⟩=some (.string ot)∧W.cell? ⟨w.heap.size+1,7,none⟩=some (.float .f64 wt)∧W.cell? ⟨w.heap.size,0,none⟩=some (.slice af cs.length aa)∧W.cell? ⟨w.heap.size,1,none⟩=some (.slice ah os.length ab)∧W.cell? ⟨w.heap.size,2,none⟩=some (.map (some mr))∧Hid (Below Q.heap.size Q W)))=SP:=⟨_,rfl⟩
 have HS:Hid (∀ W:World,Below Q.heap.size Q W→SP W):=fun W hW=>by
  rw [← aA];have hx:=(hW.block (w.heap.size) (by omega)).trans aC;have hr:=(hW.block (w.heap.size+1) (by omega)).trans aQ;exact ⟨cell_of (j:=0) hr (by show 0<8; omega),cell_of (j:=1) hr (by show 1<8; omega),cell_of (j:=2) hr (by show 2<8; omega),cell_of (j:=3) hr (by show 3<8; omega),cell_of (j:=4) hr (by show 4<8; omega),cell_of (j:=5) hr (by show 5<8; omega),cell_of (j:=6) hr (by show 6<8; omega),cell_of (j:=7) hr (by show 7<8; omega),cell_of (j:=0) hx (by show 0<3; omega),cell_of (j:=1) hx (by show 1<3; omega),cell_of (j:=2) hx (by show 2<3; omega),hW⟩
 have KT:Hid (∀ W:World,Calls Tryz.prog 112 #[.agg #[.int .i64 8,.int .i64 lo,.int .i64 hi,.int .i64 nn,.slice aj tq.length ac,.string nm,.string ot,.float .f64 wt]] W (x0d W (touches (⟨8,lo,hi,nn,tq,nm,ot,wt⟩:Rec)))):=fun W=>x2L (⟨8,lo,hi,nn,tq,nm,ot,wt⟩:Rec) _ _ _ W;have KW:Hid (∀ W:World,Below Q.heap.size Q W→Calls Tryz.prog 114 #[.agg #[.slice af cs.length aa,.slice ah os.length ab,.map (some mr)],.int .i32 lo] W (IntB W (Cn.wfull l lo))):=fun W hW=>x8m l cs os _ _ mr lo W (hg.on ((Uh av) W hW)) (h.below ((Uh av) W hW)) aP
 have hlw:IntKind.i32.wrap lo=lo:=by
  unfold Rune at aP;simp [IntKind.wrap,IntKind.bits,IntKind.signed]; omega
 have aI:Below Q.heap.size Q Q.drew:=x0l ⟨1,rfl⟩;have ai:=Hd ((Uh HS) _ aI);have ae:Hid (∀ W z,Below Q.heap.size Q W→IntB w z (.returned (.int .i64 z)) W):=fun W z hW=>⟨rfl,(Uh av) W hW⟩;have ax:=Hd ((Uh KT) Q.drew);generalize touches (⟨8,lo,hi,nn,tq,nm,ot,wt⟩:Rec)=tc at *;generalize Cn.wfull l lo=wf at *;subst hQ;unfold xV recV;clear aC aQ aM h hs hg;cases tc
 ·rw [if_neg (by decide)]
  go_enter Tryz.func73,Tryz.ntmps73;go_wp2;refine wp_region_held_drew (S:=fun w'=>SP w') (by kernel_rfl) (Uh ai) (fun hHeld=>?_);refine tk9 0 ⟨some 34,_,_,_,_,_⟩ (.agg #[.int .i64 8,.int .i64 lo,.int .i64 hi,.int .i64 nn,.slice aj tq.length ac,.string nm,.string ot,.float .f64 wt]) rfl ?_ hHeld ?_
  ·intro w ad
   obtain ⟨s0,s1,s2,s3,s4,s5,s6,s7,s8,s9,a8,a9⟩:=(congrFun aA _).mpr ad; go_simp
  try simp only [Act.put,sa9,sb9,sc9]
  refine wpAnyH_ready (rs:=[1]) (by kernel_rfl) (by simp) ?_;refine AllReadyH.cons (o:=⟨some 35,_,_,_,_,_⟩) rfl (fun K hK=>?_) AllReadyH.nil;go_simp;refine (Uh ax).mono ?_;rintro e W1 ⟨rfl,al⟩;have ag:=x0b aI al;have an:=Hd ((Uh HS) W1 ag);refine hK.out _ _ ?_ (fun hHeld=>?_)
  ·exact Uh an
  clear hK K
  try simp only [Act.put,sa9,sb9,sc9]
  refine tk9 2 ⟨some 36,_,_,_,_,_⟩ (.bool false) rfl ?_ hHeld ?_
  ·intro w ad
   go_simp
  try simp only [Act.put,sa9,sb9,sc9]
  refine tk9 3 ⟨some 37,_,_,_,_,_⟩ (.bool false) rfl ?_ hHeld ?_
  ·intro w ad
   go_simp
  try simp only [Act.put,sa9,sb9,sc9]
  refine tk9 4 ⟨some 38,_,_,_,_,_⟩ (.bool false) rfl ?_ hHeld ?_
  ·intro w ad
   go_simp
  try simp only [Act.put,sa9,sb9,sc9]
  refine tn9 5 ⟨some 39,_,_,_,_,_⟩ undef rfl hHeld ?_
  try simp only [Act.put,sa9,sb9,sc9]
  refine tn9 6 ⟨some 40,_,_,_,_,_⟩ undef rfl hHeld ?_
  try simp only [Act.put,sa9,sb9,sc9]
  refine tn9 7 ⟨some 41,_,_,_,_,_⟩ undef rfl hHeld ?_
  try simp only [Act.put,sa9,sb9,sc9]
  refine tn9 8 ⟨some 42,_,_,_,_,_⟩ undef rfl hHeld ?_
  try simp only [Act.put,sa9,sb9,sc9]
  refine tn9 9 ⟨some 43,_,_,_,_,_⟩ undef rfl hHeld ?_
  try simp only [Act.put,sa9,sb9,sc9]
  refine tn9 10 ⟨some 44,_,_,_,_,_⟩ undef rfl hHeld ?_
  try simp only [Act.put,sa9,sb9,sc9]
  refine tn9 11 ⟨some 45,_,_,_,_,_⟩ undef rfl hHeld ?_
  try simp only [Act.put,sa9,sb9,sc9]
  refine tn9 12 ⟨some 46,_,_,_,_,_⟩ undef rfl hHeld ?_
  try simp only [Act.put,sa9,sb9,sc9]
  refine tn9 13 ⟨some 47,_,_,_,_,_⟩ undef rfl hHeld ?_
  try simp only [Act.put,sa9,sb9,sc9]
  refine tk9 14 ⟨some 48,_,_,_,_,_⟩ (.bool false) rfl ?_ hHeld ?_
  ·intro w ad
   go_simp
  try simp only [Act.put,sa9,sb9,sc9]
  refine tk9 15 ⟨some 49,_,_,_,_,_⟩ (.bool false) rfl ?_ hHeld ?_
  ·intro w ad
   go_simp
  try simp only [Act.put,sa9,sb9,sc9]
  refine tk9 16 ⟨some 33,_,_,_,_,_⟩ (.bool false) rfl ?_ hHeld ?_
  ·intro w ad
   go_simp
  try simp only [Act.put,sa9,sb9,sc9]
  refine wpAnyH_done (by kernel_rfl) ?_ _;obtain ⟨q0,q1,q2,q3,q4,q5,q6,q7,q8,q9,bd,be⟩:=(congrFun aA _).mpr (Uh an);have K2:=Hd ((Uh KW) W1 ag);clear an ai KT ax KW hHeld;go_wp2_with fail;refine (Uh K2).mono ?_;rintro e W2 ⟨rfl,ap⟩;have az:=x0b ag ap;clear K2 ap;by_cases hz:wf=0
  ·subst hz
   go_wp2;refine wp_region_held_drew (S:=fun _=>True) (by kernel_rfl) trivial (fun hHeld=>?_);refine tk9 0 ⟨some 59,_,_,_,_,_⟩ (.bool false) rfl ?_ hHeld ?_
   ·intro w ad
    go_simp
   try simp only [Act.put,sa9,sb9,sc9]
   refine tk9 1 ⟨some 60,_,_,_,_,_⟩ (.bool false) rfl ?_ hHeld ?_
   ·intro w ad
    go_simp
   try simp only [Act.put,sa9,sb9,sc9]
   refine tn9 2 ⟨some 61,_,_,_,_,_⟩ undef rfl hHeld ?_
   try simp only [Act.put,sa9,sb9,sc9]
   refine tn9 3 ⟨some 62,_,_,_,_,_⟩ undef rfl hHeld ?_
   try simp only [Act.put,sa9,sb9,sc9]
   refine tn9 4 ⟨some 63,_,_,_,_,_⟩ undef rfl hHeld ?_
   try simp only [Act.put,sa9,sb9,sc9]
   refine tn9 5 ⟨some 64,_,_,_,_,_⟩ undef rfl hHeld ?_
   try simp only [Act.put,sa9,sb9,sc9]
   refine tn9 6 ⟨some 65,_,_,_,_,_⟩ undef rfl hHeld ?_
   try simp only [Act.put,sa9,sb9,sc9]
   refine tn9 7 ⟨some 66,_,_,_,_,_⟩ undef rfl hHeld ?_
   try simp only [Act.put,sa9,sb9,sc9]
   refine tn9 8 ⟨some 67,_,_,_,_,_⟩ undef rfl hHeld ?_
   try simp only [Act.put,sa9,sb9,sc9]
   refine tn9 9 ⟨some 68,_,_,_,_,_⟩ undef rfl hHeld ?_
   try simp only [Act.put,sa9,sb9,sc9]
   refine tn9 10 ⟨some 69,_,_,_,_,_⟩ undef rfl hHeld ?_
   try simp only [Act.put,sa9,sb9,sc9]
   refine tn9 11 ⟨some 70,_,_,_,_,_⟩ undef rfl hHeld ?_
   try simp only [Act.put,sa9,sb9,sc9]
   refine tn9 12 ⟨some 71,_,_,_,_,_⟩ undef rfl hHeld ?_
   try simp only [Act.put,sa9,sb9,sc9]
   refine tn9 13 ⟨some 72,_,_,_,_,_⟩ undef rfl hHeld ?_
   try simp only [Act.put,sa9,sb9,sc9]
   refine tn9 14 ⟨some 73,_,_,_,_,_⟩ undef rfl hHeld ?_
   try simp only [Act.put,sa9,sb9,sc9]
   refine tn9 15 ⟨some 74,_,_,_,_,_⟩ undef rfl hHeld ?_
   try simp only [Act.put,sa9,sb9,sc9]
   refine tn9 16 ⟨some 75,_,_,_,_,_⟩ undef rfl hHeld ?_
   try simp only [Act.put,sa9,sb9,sc9]
   refine tn9 17 ⟨some 76,_,_,_,_,_⟩ undef rfl hHeld ?_
   try simp only [Act.put,sa9,sb9,sc9]
   refine tn9 18 ⟨some 77,_,_,_,_,_⟩ undef rfl hHeld ?_
   try simp only [Act.put,sa9,sb9,sc9]
   refine tn9 19 ⟨some 78,_,_,_,_,_⟩ undef rfl hHeld ?_
   try simp only [Act.put,sa9,sb9,sc9]
   refine tn9 20 ⟨some 79,_,_,_,_,_⟩ undef rfl hHeld ?_
   try simp only [Act.put,sa9,sb9,sc9]
   refine tn9 21 ⟨some 80,_,_,_,_,_⟩ undef rfl hHeld ?_
   try simp only [Act.put,sa9,sb9,sc9]
   refine tn9 22 ⟨some 81,_,_,_,_,_⟩ undef rfl hHeld ?_
   try simp only [Act.put,sa9,sb9,sc9]
   refine tn9 23 ⟨some 82,_,_,_,_,_⟩ undef rfl hHeld ?_
   try simp only [Act.put,sa9,sb9,sc9]
   refine tk9 24 ⟨some 83,_,_,_,_,_⟩ (.bool false) rfl ?_ hHeld ?_
   ·intro w ad
    go_simp
   try simp only [Act.put,sa9,sb9,sc9]
   refine wpAnyH_done (by kernel_rfl) ?_ _;have HF:=(Uh ae) W2.drew 0 (x0b az (x0l ⟨1,rfl⟩));clear HS ae az hHeld ag q0 q1 q2 q3 q4 q5 q6 q7 q8 q9 bd be;go_wp2;go_ret;exact HF
  ·have hzz:(wf != 0)=true:=by simp [hz]
   have HF:=(Uh ae) W2 wf az;clear hz;clear HS ae az ag q0 q1 q2 q3 q4 q5 q6 q7 q8 q9 bd be;go_wp2;go_ret;exact HF
 ·rw [if_pos rfl]
  go_enter Tryz.func73,Tryz.ntmps73;go_wp2;refine wp_region_held_drew (S:=fun w'=>SP w') (by kernel_rfl) (Uh ai) (fun hHeld=>?_);refine tk9 0 ⟨some 34,_,_,_,_,_⟩ (.agg #[.int .i64 8,.int .i64 lo,.int .i64 hi,.int .i64 nn,.slice aj tq.length ac,.string nm,.string ot,.float .f64 wt]) rfl ?_ hHeld ?_
  ·intro w ad
   obtain ⟨s0,s1,s2,s3,s4,s5,s6,s7,s8,s9,a8,a9⟩:=(congrFun aA _).mpr ad; go_simp
  try simp only [Act.put,sa9,sb9,sc9]
  refine wpAnyH_ready (rs:=[1]) (by kernel_rfl) (by simp) ?_;refine AllReadyH.cons (o:=⟨some 35,_,_,_,_,_⟩) rfl (fun K hK=>?_) AllReadyH.nil;go_simp;refine (Uh ax).mono ?_;rintro e W1 ⟨rfl,al⟩;have ag:=x0b aI al;have an:=Hd ((Uh HS) W1 ag);refine hK.out _ _ ?_ (fun hHeld=>?_)
  ·exact Uh an
  clear hK K
  try simp only [Act.put,sa9,sb9,sc9]
  refine tk9 2 ⟨some 36,_,_,_,_,_⟩ (.bool true) rfl ?_ hHeld ?_
  ·intro w ad
   go_simp
  try simp only [Act.put,sa9,sb9,sc9]
  refine tn9 3 ⟨some 37,_,_,_,_,_⟩ undef rfl hHeld ?_
  try simp only [Act.put,sa9,sb9,sc9]
  refine tn9 4 ⟨some 38,_,_,_,_,_⟩ undef rfl hHeld ?_
  try simp only [Act.put,sa9,sb9,sc9]
  refine tn9 5 ⟨some 39,_,_,_,_,_⟩ undef rfl hHeld ?_
  try simp only [Act.put,sa9,sb9,sc9]
  refine tn9 6 ⟨some 40,_,_,_,_,_⟩ undef rfl hHeld ?_
  try simp only [Act.put,sa9,sb9,sc9]
  refine tn9 7 ⟨some 41,_,_,_,_,_⟩ undef rfl hHeld ?_
  try simp only [Act.put,sa9,sb9,sc9]
  refine tn9 8 ⟨some 42,_,_,_,_,_⟩ undef rfl hHeld ?_
  try simp only [Act.put,sa9,sb9,sc9]
  refine tn9 9 ⟨some 43,_,_,_,_,_⟩ undef rfl hHeld ?_
  try simp only [Act.put,sa9,sb9,sc9]
  refine tn9 10 ⟨some 44,_,_,_,_,_⟩ undef rfl hHeld ?_
  try simp only [Act.put,sa9,sb9,sc9]
  refine tn9 11 ⟨some 45,_,_,_,_,_⟩ undef rfl hHeld ?_
  try simp only [Act.put,sa9,sb9,sc9]
  refine tn9 12 ⟨some 46,_,_,_,_,_⟩ undef rfl hHeld ?_
  try simp only [Act.put,sa9,sb9,sc9]
  refine tn9 13 ⟨some 47,_,_,_,_,_⟩ undef rfl hHeld ?_
  try simp only [Act.put,sa9,sb9,sc9]
  refine tn9 14 ⟨some 48,_,_,_,_,_⟩ undef rfl hHeld ?_
  try simp only [Act.put,sa9,sb9,sc9]
  refine tk9 15 ⟨some 49,_,_,_,_,_⟩ (.bool true) rfl ?_ hHeld ?_
  ·intro w ad
   go_simp
  try simp only [Act.put,sa9,sb9,sc9]
  refine tk9 16 ⟨some 33,_,_,_,_,_⟩ (.bool true) rfl ?_ hHeld ?_
  ·intro w ad
   go_simp
  try simp only [Act.put,sa9,sb9,sc9]
  refine wpAnyH_done (by kernel_rfl) ?_ _;have HF:=(Uh ae) W1 71 ag;clear HS ai ae KT ax KW an ag hHeld;go_wp2;go_ret;exact HF
namespace Cn
def x3W (rs:List Rec) (k:Nat):Nat × Int:=match x0F rs k (rs.drop k) with
 | some x=>x
 | Option.none=>if baseA rs 78 45 then (0,0) else (rs.length,70)
theorem y4B {rs:List Rec} {k:Nat} (hk:k<rs.length) (h:record rs k (rs.getD k none)≠0):x3W rs k=(k,record rs k (rs.getD k none)):=by
 have e:rs.getD k none=rs[k]:=(by simp [List.getD,hk]);rw [e] at h ⊢;unfold x3W;rw [List.drop_eq_getElem_cons hk,x0F,if_neg h]
theorem y1A {rs:List Rec} {k:Nat} (hk:k<rs.length) (h:record rs k (rs.getD k none)=0):x3W rs k=x3W rs (k+1):=by
 have e:rs.getD k none=rs[k]:=(by simp [List.getD,hk]);rw [e] at h;unfold x3W;rw [List.drop_eq_getElem_cons hk,x0F,if_pos h]
theorem y4A (rs:List Rec):x3W rs rs.length=if baseA rs 78 45 then (0,0) else (rs.length,70):=by
 unfold x3W;rw [List.drop_length,x0F]
theorem y0w {rs:List Rec} (h:(check6 rs).2≠0):check rs=check6 rs:=by unfold check; rw [if_pos h]
theorem y2r {rs:List Rec} (h:(check6 rs).2=0):check rs=x3W rs 0:=by unfold check x3W; rw [if_neg (fun e=>e h)]; rfl
end Cn
theorem y4V (l cs os:List Rec) (cv ov:Value) (mr i:Nat) (vt:Value) (w:World) (hg:Glob w) (h:Idx l w cv ov cs os) (hp:PAt w mr (Cn.firstP l)) (hi:i<l.length) (hs:Sk .i32 w vt (l.getD i Cn.none).to) :
  Calls Tryz.prog 73 #[xV cv ov (.map (some mr)),.int .i64 (i:Int),recV (l.getD i Cn.none) vt] w (IntB w (Cn.record l i (l.getD i Cn.none))):=by
 obtain ⟨hl,aJ⟩:=Cn.x1m h.ok;have hm:l.getD i Cn.none∈l:=(by simp [List.getD,hi]);have hr:=aJ _ hm;have bf:=Cn.y6l (l:=l) (i:=i) hi;generalize l.getD i Cn.none=r at *;by_cases hk:r.kind=6∨r.kind=7∨r.kind=8
 ·have h15:r.kind≠15:=by omega
  obtain ⟨s0,s1,s2⟩:=Cn.x0n hr h15;have aP:Rune r.lo:=(by unfold Rune; omega);by_cases am:r.lo<128
  ·rw [Cn.y1m hr hk am]
   obtain ⟨af,aa,rfl,_,_⟩:=h.rc.shape;obtain ⟨ah,ab,rfl,_,_⟩:=h.ro.shape;obtain ⟨aj,ac,rfl,_,_⟩:=hs.shape;exact y6M _ _ _ _ _ _ _ _ _ _ _ r.kind r.lo r.hi r.n r.to r.name r.other r.wt w hk am
  ·obtain ⟨kd,lo,aB,nn,tt,nm,ot,wt⟩:=r
   rcases hk with k6 | k7 | k8
   ·simp only at k6
    subst k6;have:=z1w l cs os cv ov mr i lo aB nn tt nm ot wt vt w h hs am;by_cases ht:touches ⟨6,lo,aB,nn,tt,nm,ot,wt⟩=true
    ·rw [if_pos ht] at this
     rw [Cn.x1Q (.inl rfl) am (by rw [ht]; rfl)];exact this
    ·rw [if_neg ht] at this
     rw [Cn.x2H (.inl rfl) am (by simpa using ht),if_pos rfl];exact this
   ·simp only at k7
    subst k7;obtain ⟨⟨g1,g2⟩,g3⟩:=Cn.x0X (Cn.x0z hr rfl).2.2;simp only at g1 g2 g3
    have bg:Rune (tt.getD 0 0):=by
     have:=of_decide_eq_true (g3 (tt.getD 0 0) (x4g (by omega)));unfold Rune; omega
    have bh:Rune (tt.getD 1 0):=by
     have:=of_decide_eq_true (g3 (tt.getD 1 0) (x4g (by omega)));unfold Rune; omega
    have:=z1x l cs os cv ov mr i lo aB nn tt nm ot wt vt w hg h hs am aP (by omega) bg bh hp;by_cases ht:(touches ⟨7,lo,aB,nn,tt,nm,ot,wt⟩ || makes (tt.getD 0 0) (tt.getD 1 0))=true
    ·rw [if_pos ht] at this
     rw [Cn.x1Q (.inr (.inl rfl)) am (by simpa using ht)];exact this
    ·rw [if_neg ht] at this
     rw [Cn.x2H (.inr (.inl rfl)) am (by simpa using ht),if_neg (show ¬ (7:Int)=6 by decide)];by_cases hw:Cn.wfull l lo≠0
     ·rw [if_pos hw] at this
      rw [if_pos hw];exact this
     ·rw [if_neg hw] at this
      rw [if_neg hw,bf rfl];by_cases hb:Cn.bad7 l i ⟨7,lo,aB,nn,tt,nm,ot,wt⟩=true
      ·have ap:=hb
       unfold Cn.bad7 at ap;rw [if_pos ap] at this;rw [if_pos ⟨rfl,by rw [hb]; rfl⟩];exact this
      ·have ap:=hb
       unfold Cn.bad7 at ap;rw [if_neg ap] at this;rw [if_neg (fun q=>hb (by simpa using q.2))];exact this
   ·simp only at k8
    subst k8;have:=z1y l cs os cv ov mr i lo aB nn tt nm ot wt vt w hg h hs am aP;by_cases ht:touches ⟨8,lo,aB,nn,tt,nm,ot,wt⟩=true
    ·rw [if_pos ht] at this
     rw [Cn.x1Q (.inr (.inr rfl)) am (by rw [ht]; rfl)];exact this
    ·rw [if_neg ht] at this
     have e:Cn.record l i ⟨8,lo,aB,nn,tt,nm,ot,wt⟩=Cn.wfull l lo:=by
      rw [Cn.x2H (.inr (.inr rfl)) am (by simpa using ht),if_neg (show ¬ (8:Int)=6 by decide)];by_cases hw:Cn.wfull l lo≠0
      ·rw [if_pos hw]
      ·rw [if_neg hw,if_neg (fun q=>absurd q.1 (show ¬ (8:Int)=7 by decide))]
       exact (Decidable.not_not.1 hw).symm
     rw [e];exact this
 ·rw [Cn.x8Y (by omega) (by omega) (by omega)]
  obtain ⟨af,aa,rfl,_,_⟩:=h.rc.shape;obtain ⟨ah,ab,rfl,_,_⟩:=h.ro.shape;obtain ⟨aj,ac,rfl,_,_⟩:=hs.shape;exact y4U _ _ _ _ _ _ _ _ _ _ _ r.kind r.lo r.hi r.n r.to r.name r.other r.wt w (by omega) (by omega) (by omega)
theorem y9F:y9s:=by
 intro v l w hg hv;have K6:=Hd (y2s v l w hg hv);have aE:Hid ((Cn.check6 l).2≠0→Cn.check l=Cn.check6 l):=Cn.y0w;have aY:Hid ((Cn.check6 l).2=0→Cn.check l=Cn.x3W l 0∧∀ W,Below w.heap.size w W→Calls Tryz.prog 72 #[v] W (y1O W l)):=fun h=>⟨Cn.y2r h,fun W hW=>x7H v l W (hv.below hW) h⟩;have HV:Hid (∀ W,Below w.heap.size w W→Rcs W v l):=fun W hW=>hv.below hW;have HG:Hid (∀ W,Below w.heap.size w W→Glob W):=fun W hW=>hg.on hW;have KB:Hid (∀ W,Below w.heap.size w W→Calls Tryz.prog 74 #[v] W (x0d W (Cn.baseA l 78 45))):=fun W hW=>x8J v l W (hg.on hW) (hv.below hW);have aw:=Hd (Cn.y4A l);have aF:=Hd (fun i hi=>hv.fit (i:=i) hi);generalize Cn.check l=res at *;generalize Cn.check6 l=q at *;obtain ⟨q1,q2⟩:=q;have hlen:=hv.1;obtain ⟨ao,cap,rfl,_,_⟩:=hv.shape;clear hv hg;go_enter Tryz.func39,Tryz.ntmps39;go_wp2_with fail;refine (Uh K6).mono ?_;rintro e w1 ⟨rfl,al⟩;clear K6;by_cases hq:q2=0
 ·obtain ⟨au,aO⟩:=(Uh aY) hq
  obtain rfl:q2=0:=hq;have KI:=Hd (aO w1 al);have ak:=Hd au;clear aY aE aO au;go_wp2_with fail;refine (Uh KI).mono ?_;rintro e w2 ⟨cv,ov,cs,os,rfl,hI,hP,ap⟩;have az:=x0b al ap;obtain ⟨af,aa,rfl,_,_⟩:=hI.rc.shape;obtain ⟨ah,ab,rfl,_,_⟩:=hI.ro.shape;unfold xV;have bc:Below w2.heap.size w2 (w2.alloc (.cells #[.slice af cs.length aa,.slice ah os.length ab,.map (some (w1.heap.size+1))] 118)):=(Below.refl _ _).alloc (Nat.le_refl _) _
  have aC:(w2.alloc (.cells #[.slice af cs.length aa,.slice ah os.length ab,.map (some (w1.heap.size+1))] 118)).heap[w2.heap.size]?=some (.cells #[.slice af cs.length aa,.slice ah os.length ab,.map (some (w1.heap.size+1))] 118 (0,0)):=by
   show (w2.heap.push _)[w2.heap.size]?=_;simp
  have aK:(w2.alloc (.cells #[.slice af cs.length aa,.slice ah os.length ab,.map (some (w1.heap.size+1))] 118)).heap.size=w2.heap.size+1:=(by simp);have aS:Hid (∀ W,Below (w2.heap.size+1) (w2.alloc (.cells #[.slice af cs.length aa,.slice ah os.length ab,.map (some (w1.heap.size+1))] 118)) W→Below w2.heap.size w2 W):=fun W hW=>bc.trans (hW.mono (by omega))
  have a5:Hid (∀ W,Below (w2.heap.size+1) (w2.alloc (.cells #[.slice af cs.length aa,.slice ah os.length ab,.map (some (w1.heap.size+1))] 118)) W→W.cell? ⟨w2.heap.size,0,none⟩=some (.slice af cs.length aa)∧W.cell? ⟨w2.heap.size,1,none⟩=some (.slice ah os.length ab)∧W.cell? ⟨w2.heap.size,2,none⟩=some (.map (some (w1.heap.size+1)))):=fun W hW=>by
   have hx:=(hW.block (w2.heap.size) (by omega)).trans aC;exact ⟨cell_of (j:=0) hx (by show 0<3; omega),cell_of (j:=1) hx (by show 1<3; omega),cell_of (j:=2) hx (by show 2<3; omega)⟩
  have aZ:Hid (∀ i vt W,i<l.length→Below w2.heap.size w2 W→Sk .i32 W vt (l.getD i Cn.none).to→Calls Tryz.prog 73 #[.agg #[.slice af cs.length aa,.slice ah os.length ab,.map (some (w1.heap.size+1))],.int .i64 (i:Int),recV (l.getD i Cn.none) vt] W (IntB W (Cn.record l i (l.getD i Cn.none)))):=fun i vt W hi hW hs=>by
   obtain ⟨es,cl,p1,p2⟩:=hP;exact y4V l cs os _ _ _ i vt W ((Uh HG) W (x0b az hW)) (hI.below hW) ⟨es,cl,by rw [hW.block _ (x0u p1)]; exact p1,p2⟩ hi hs
  have aR:=Hd az;clear KI hI hP al ap az bc aC HG;go_wp2;go_loopw [7,8,9,23] (fun _ _ _ iv wr=>∃ k:Nat,iv=.int .i64 k∧k≤l.length∧Hid (res=Cn.x3W l k)∧Hid (Below (w2.heap.size+1) (w2.alloc (.cells #[.slice af cs.length aa,.slice ah os.length ab,.map (some (w1.heap.size+1))] 118)) wr)) (fun _ _ _ iv _=>l.length - (intOf iv).toNat)
  case atStart=>exact ⟨0,rfl,by omega,ak,Below.refl _ _⟩
  case round =>
   clear ak;obtain ⟨k,rfl,hk,ak,aL⟩:=hrel;have ay:=(Uh aS) wr (Uh aL);have aq:Below w.heap.size w wr:=x0b (Uh aR) ay;by_cases hlt:k<l.length
   ·obtain ⟨b,off,cap',ev,_,_,ar⟩:=((Uh HV) wr aq).place (by omega)
    simp only [Value.slice.injEq] at ev;obtain ⟨rfl,_,rfl⟩:=ev;obtain ⟨x0,x1,x2,x3,⟨vt,x4,a6⟩,x5,x6,x7⟩:=ar k hlt;obtain ⟨aj,ac,rfl,_,_⟩:=a6.shape;have ag:∀ o,Below wr.heap.size wr (wr.alloc o):=fun o=>(Below.refl _ _).alloc (Nat.le_refl _) _;have aH:∀ o,Below (w2.heap.size+1) (w2.alloc (.cells #[.slice af cs.length aa,.slice ah os.length ab,.map (some (w1.heap.size+1))] 118)) (wr.alloc o):=fun o=>(Uh aL).trans ((ag o).mono (by have:=(Uh aL).size; rw [aK] at this; omega));have KK:=Hd ((Uh aZ) k _ (wr.alloc (.cells #[.int .i64 (l.getD k Cn.none).kind,.int .i64 (l.getD k Cn.none).lo,.int .i64 (l.getD k Cn.none).hi,.int .i64 (l.getD k Cn.none).n,.slice aj (l.getD k Cn.none).to.length ac,.string (l.getD k Cn.none).name,.string (l.getD k Cn.none).other,.float .f64 (l.getD k Cn.none).wt] 50)) hlt (x0b ay (ag _)) (a6.below (ag _)));obtain ⟨y0,y1,y2⟩:=(Uh a5) _ (aH (.cells #[.int .i64 (l.getD k Cn.none).kind,.int .i64 (l.getD k Cn.none).lo,.int .i64 (l.getD k Cn.none).hi,.int .i64 (l.getD k Cn.none).n,.slice aj (l.getD k Cn.none).to.length ac,.string (l.getD k Cn.none).name,.string (l.getD k Cn.none).other,.float .f64 (l.getD k Cn.none).wt] 50));have aV:=Hd (aH (.cells #[.int .i64 (l.getD k Cn.none).kind,.int .i64 (l.getD k Cn.none).lo,.int .i64 (l.getD k Cn.none).hi,.int .i64 (l.getD k Cn.none).n,.slice aj (l.getD k Cn.none).to.length ac,.string (l.getD k Cn.none).name,.string (l.getD k Cn.none).other,.float .f64 (l.getD k Cn.none).wt] 50));have aG:Hid (Cn.record l k (l.getD k Cn.none)≠0→res=(k,Cn.record l k (l.getD k Cn.none))):=fun h=>(Uh ak).trans (Cn.y4B hlt h);have aX:Hid (Cn.record l k (l.getD k Cn.none)=0→res=Cn.x3W l (k+1)):=fun h=>(Uh ak).trans (Cn.y1A hlt h);have a7:=(Uh aL).size;rw [aK] at a7;unfold recV at KK;clear ar a6 ag aH ak aZ a5 HV aF ay aq aL;generalize Cn.record l k (l.getD k Cn.none)=y at *;generalize l.getD k Cn.none=r at *;have hfl:∀ W a m,(store a (.float .f64 r.wt) m).run Tryz.prog W=stored Tryz.prog W a (.float .f64 r.wt) m:=fun W a m=>run_store Tryz.prog W a _ m rfl;go_wp2_with fail;refine (Uh KK).mono ?_;rintro e w4 ⟨rfl,aN⟩;have aW:Hid (Below (w2.heap.size+1) (w2.alloc (.cells #[.slice af cs.length aa,.slice ah os.length ab,.map (some (w1.heap.size+1))] 118)) w4):=(Uh aV).trans (aN.mono (by have:=(Uh aV).size; rw [aK] at this; exact this));have av:Hid (Below w.heap.size w w4):=x0b (Uh aR) ((Uh aS) w4 (Uh aW));clear KK aN aV x0 x1 x2 x3 x4 x5 x6 x7 y0 y1 y2;by_cases hy:y=0
    ·have HN:=Hd ((Uh aX) hy)
     obtain rfl:y=0:=hy;clear aX aG av;go_wp2
     go_roundw
     case rel=>exact ⟨k+1,by go_num,by omega,HN,aW⟩
     case measure=>simp [intOf]; omega
    ·obtain rfl:=(Uh aG) hy
     have hyb:(y != 0)=true:=(by simp [hy]);have HF:x2M w (k,y) (.returned (.tuple #[.int .i64 (k:Int),.int .i64 y])) w4:=⟨rfl,Uh av⟩;clear aX aG aW av hy aR aS KB aw;go_wp2;go_ret2;exact HF
   ·obtain rfl:k=l.length:=by omega
    have ba:=Hd ((Uh KB) wr aq);have au:=(Uh ak).trans (Uh aw);have aT:=Hd au;have aD:=Hd aq;clear ak aZ a5 HV aF ay aq aL KB aw aS aR au;generalize Cn.baseA l 78 45=bb at *;go_wp2_with fail;refine (Uh ba).mono ?_;rintro e w4 ⟨rfl,aN⟩;have aU:=x0b (Uh aD) aN;clear ba aN;cases bb
    ·obtain rfl:res=(l.length,70):=Uh aT
     have HF:x2M w (l.length,70) (.returned (.tuple #[.int .i64 (l.length:Int),.int .i64 70])) w4:=⟨rfl,aU⟩;clear aT aD aU;go_wp2;go_ret2;exact HF
    ·obtain rfl:res=(0,0):=Uh aT
     have HF:x2M w (0,0) (.returned (.tuple #[.int .i64 0,.int .i64 0])) w4:=⟨rfl,aU⟩;clear aT aD aU;go_wp2;go_ret2;exact HF
 ·obtain rfl:=(Uh aE) hq
  have hqb:(q2 != 0)=true:=(by simp [hq]);have HF:x2M w (q1,q2) (.returned (.tuple #[.int .i64 (q1:Int),.int .i64 q2])) w1:=⟨rfl,al⟩;clear aE aY HV HG KB aw aF al hq;go_wp2;go_ret2;exact HF
end Go.Proofs.YtkglkajjofidoaaGreatDoor
