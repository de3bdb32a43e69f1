/- CcT77 -/
import Derived.Test.YtdjpjgjhiibpkaaGreatDoorW13
namespace Go.Proofs.YtdjpjgjhiibpkaaGreatDoor
open Go.RowKit
set_option maxRecDepth 20000 in
set_option maxHeartbeats 16000000 in
theorem wrong7 (l cs os:List Rec) (cv ov:Value) (mr i:Nat) (lo hi nn:Int) (tq:List Int) (nm ot:ByteArray) (wt:Nat) (vt:Value) (w:World) (hg:Glob w) (h:Idx l w cv ov cs os) (hs:Sk .i32 w vt tq) (hlo:¬ lo<128) (hlr:Rune lo) (hto2:tq.length=2) (hra:Rune (tq.getD 0 0)) (hrb:Rune (tq.getD 1 0)) (hp:PAt w mr (Cn.firstP l)) :
  Calls Tryz.prog 56 #[xV cv ov (.map (some mr)),.int .i64 (i:Int),recV (⟨7,lo,hi,nn,tq,nm,ot,wt⟩:Rec) vt] w (IntB w (if (touches (⟨7,lo,hi,nn,tq,nm,ot,wt⟩:Rec) || makes (tq.getD 0 0) (tq.getD 1 0))=true then 71 else if Cn.wfull l lo≠0 then Cn.wfull l lo else if (decide ((Cn.firstP l (tq.getD 0 0) (tq.getD 1 0)).getD 0<(i:Int)) || Cn.wpair l lo (tq.getD 0 0) (tq.getD 1 0))=true then 74 else 0)):=by
 obtain ⟨cao,ccap,rfl,_,_⟩:=h.rc.shape
 obtain ⟨oao,ocap,rfl,_,_⟩:=h.ro.shape
 obtain ⟨tb,toff,tcap,rfl,_,_,hcell⟩:=hs.place (by omega)
 have pp0:=hcell 0 (by omega)
 have pp1:=hcell 1 (by omega)
 rw [Nat.add_zero] at pp0
 have HSK:Hid (Sk .i32 w (.slice (some ⟨tb,toff,none⟩) 2 tcap) tq):=hto2 ▸ hs
 have hb0:Below w.heap.size w ((w.alloc (.cells #[.slice cao cs.length ccap,.slice oao os.length ocap,.map (some mr)] 116)).alloc (.cells #[.int .i64 7,.int .i64 lo,.int .i64 hi,.int .i64 nn,.slice (some ⟨tb,toff,none⟩) 2 tcap,.string nm,.string ot,.float .f64 wt] 50)):=((Below.refl _ _).alloc (Nat.le_refl _) _).alloc (by simp) _
 have hs0:((w.alloc (.cells #[.slice cao cs.length ccap,.slice oao os.length ocap,.map (some mr)] 116)).alloc (.cells #[.int .i64 7,.int .i64 lo,.int .i64 hi,.int .i64 nn,.slice (some ⟨tb,toff,none⟩) 2 tcap,.string nm,.string ot,.float .f64 wt] 50)).heap.size=w.heap.size+2:=by simp
 have hxh:((w.alloc (.cells #[.slice cao cs.length ccap,.slice oao os.length ocap,.map (some mr)] 116)).alloc (.cells #[.int .i64 7,.int .i64 lo,.int .i64 hi,.int .i64 nn,.slice (some ⟨tb,toff,none⟩) 2 tcap,.string nm,.string ot,.float .f64 wt] 50)).heap[w.heap.size]?=some (.cells #[.slice cao cs.length ccap,.slice oao os.length ocap,.map (some mr)] 116 (0,0)):=by
  show ((w.heap.push _).push _)[w.heap.size]?=_
  rw [Array.getElem?_push,Array.getElem?_push]; simp
 have hrh:((w.alloc (.cells #[.slice cao cs.length ccap,.slice oao os.length ocap,.map (some mr)] 116)).alloc (.cells #[.int .i64 7,.int .i64 lo,.int .i64 hi,.int .i64 nn,.slice (some ⟨tb,toff,none⟩) 2 tcap,.string nm,.string ot,.float .f64 wt] 50)).heap[w.heap.size+1]?=some (.cells #[.int .i64 7,.int .i64 lo,.int .i64 hi,.int .i64 nn,.slice (some ⟨tb,toff,none⟩) 2 tcap,.string nm,.string ot,.float .f64 wt] 50 (0,0)):=by
  show ((w.heap.push _).push _)[w.heap.size+1]?=_
  rw [Array.getElem?_push]; simp
 have HBW:Hid (∀ W:World,Below ((w.alloc (.cells #[.slice cao cs.length ccap,.slice oao os.length ocap,.map (some mr)] 116)).alloc (.cells #[.int .i64 7,.int .i64 lo,.int .i64 hi,.int .i64 nn,.slice (some ⟨tb,toff,none⟩) 2 tcap,.string nm,.string ot,.float .f64 wt] 50)).heap.size ((w.alloc (.cells #[.slice cao cs.length ccap,.slice oao os.length ocap,.map (some mr)] 116)).alloc (.cells #[.int .i64 7,.int .i64 lo,.int .i64 hi,.int .i64 nn,.slice (some ⟨tb,toff,none⟩) 2 tcap,.string nm,.string ot,.float .f64 wt] 50)) W→Below w.heap.size w W):=fun W hW=>hb0.trans (hW.mono (by omega))
 have HS:Hid (∀ W:World,Below ((w.alloc (.cells #[.slice cao cs.length ccap,.slice oao os.length ocap,.map (some mr)] 116)).alloc (.cells #[.int .i64 7,.int .i64 lo,.int .i64 hi,.int .i64 nn,.slice (some ⟨tb,toff,none⟩) 2 tcap,.string nm,.string ot,.float .f64 wt] 50)).heap.size ((w.alloc (.cells #[.slice cao cs.length ccap,.slice oao os.length ocap,.map (some mr)] 116)).alloc (.cells #[.int .i64 7,.int .i64 lo,.int .i64 hi,.int .i64 nn,.slice (some ⟨tb,toff,none⟩) 2 tcap,.string nm,.string ot,.float .f64 wt] 50)) W→(W.cell? ⟨w.heap.size+1,0,none⟩=some (.int .i64 7)∧W.cell? ⟨w.heap.size+1,1,none⟩=some (.int .i64 lo)∧W.cell? ⟨w.heap.size+1,2,none⟩=some (.int .i64 hi)∧W.cell? ⟨w.heap.size+1,3,none⟩=some (.int .i64 nn)∧W.cell? ⟨w.heap.size+1,4,none⟩=some (.slice (some ⟨tb,toff,none⟩) 2 tcap)∧W.cell? ⟨w.heap.size+1,5,none⟩=some (.string nm)∧W.cell? ⟨w.heap.size+1,6,none⟩=some (.string ot)∧W.cell? ⟨w.heap.size+1,7,none⟩=some (.float .f64 wt)∧W.cell? ⟨w.heap.size,0,none⟩=some (.slice cao cs.length ccap)∧W.cell? ⟨w.heap.size,1,none⟩=some (.slice oao os.length ocap)∧W.cell? ⟨w.heap.size,2,none⟩=some (.map (some mr))∧W.cell? ⟨tb,toff,none⟩=some (.int .i32 (tq.getD 0 0))∧W.cell? ⟨tb,toff+1,none⟩=some (.int .i32 (tq.getD 1 0))∧Hid (Below ((w.alloc (.cells #[.slice cao cs.length ccap,.slice oao os.length ocap,.map (some mr)] 116)).alloc (.cells #[.int .i64 7,.int .i64 lo,.int .i64 hi,.int .i64 nn,.slice (some ⟨tb,toff,none⟩) 2 tcap,.string nm,.string ot,.float .f64 wt] 50)).heap.size ((w.alloc (.cells #[.slice cao cs.length ccap,.slice oao os.length ocap,.map (some mr)] 116)).alloc (.cells #[.int .i64 7,.int .i64 lo,.int .i64 hi,.int .i64 nn,.slice (some ⟨tb,toff,none⟩) 2 tcap,.string nm,.string ot,.float .f64 wt] 50)) W))):=fun W hW=>by
  have hx:=(hW.block (w.heap.size) (by omega)).trans hxh
  have hr:=(hW.block (w.heap.size+1) (by omega)).trans hrh
  exact ⟨cell_of (j:=0) hr (by show 0<8; omega),cell_of (j:=1) hr (by show 1<8; omega),cell_of (j:=2) hr (by show 2<8; omega),cell_of (j:=3) hr (by show 3<8; omega),cell_of (j:=4) hr (by show 4<8; omega),cell_of (j:=5) hr (by show 5<8; omega),cell_of (j:=6) hr (by show 6<8; omega),cell_of (j:=7) hr (by show 7<8; omega),cell_of (j:=0) hx (by show 0<3; omega),cell_of (j:=1) hx (by show 1<3; omega),cell_of (j:=2) hx (by show 2<3; omega),by rw [((Uh HBW) W hW).cell (lt_of_cell? pp0)]; exact pp0,by rw [((Uh HBW) W hW).cell (lt_of_cell? pp0)]; exact pp1,hW⟩
 have KT:Hid (∀ W:World,Calls Tryz.prog 88 #[.agg #[.int .i64 7,.int .i64 lo,.int .i64 hi,.int .i64 nn,.slice (some ⟨tb,toff,none⟩) 2 tcap,.string nm,.string ot,.float .f64 wt]] W (BoolB W (touches (⟨7,lo,hi,nn,tq,nm,ot,wt⟩:Rec)))):=fun W=>touches_any (⟨7,lo,hi,nn,tq,nm,ot,wt⟩:Rec) _ _ _ W
 have KW:Hid (∀ W:World,Below ((w.alloc (.cells #[.slice cao cs.length ccap,.slice oao os.length ocap,.map (some mr)] 116)).alloc (.cells #[.int .i64 7,.int .i64 lo,.int .i64 hi,.int .i64 nn,.slice (some ⟨tb,toff,none⟩) 2 tcap,.string nm,.string ot,.float .f64 wt] 50)).heap.size ((w.alloc (.cells #[.slice cao cs.length ccap,.slice oao os.length ocap,.map (some mr)] 116)).alloc (.cells #[.int .i64 7,.int .i64 lo,.int .i64 hi,.int .i64 nn,.slice (some ⟨tb,toff,none⟩) 2 tcap,.string nm,.string ot,.float .f64 wt] 50)) W→Calls Tryz.prog 90 #[.agg #[.slice cao cs.length ccap,.slice oao os.length ocap,.map (some mr)],.int .i32 lo] W (IntB W (Cn.wfull l lo))):=fun W hW=>wfull_any l cs os _ _ mr lo W (hg.on ((Uh HBW) W hW)) (h.below ((Uh HBW) W hW)) hlr
 have hlw:IntKind.i32.wrap lo=lo:=by
  unfold Rune at hlr
  simp [IntKind.wrap,IntKind.bits,IntKind.signed]; omega
 have KM:Hid (∀ W:World,Calls Tryz.prog 89 #[.int .i32 (tq.getD 0 0),.int .i32 (tq.getD 1 0)] W (fun e w'=>e=.returned (.bool (makes (tq.getD 0 0) (tq.getD 1 0)))∧w'=W)):=fun W=>makes_any _ _ W
 have KPO:Hid (∀ W:World,Below ((w.alloc (.cells #[.slice cao cs.length ccap,.slice oao os.length ocap,.map (some mr)] 116)).alloc (.cells #[.int .i64 7,.int .i64 lo,.int .i64 hi,.int .i64 nn,.slice (some ⟨tb,toff,none⟩) 2 tcap,.string nm,.string ot,.float .f64 wt] 50)).heap.size ((w.alloc (.cells #[.slice cao cs.length ccap,.slice oao os.length ocap,.map (some mr)] 116)).alloc (.cells #[.int .i64 7,.int .i64 lo,.int .i64 hi,.int .i64 nn,.slice (some ⟨tb,toff,none⟩) 2 tcap,.string nm,.string ot,.float .f64 wt] 50)) W→Calls Tryz.prog 85 #[.agg #[.int .i64 7,.int .i64 lo,.int .i64 hi,.int .i64 nn,.slice (some ⟨tb,toff,none⟩) 2 tcap,.string nm,.string ot,.float .f64 wt]] W (fun e w'=>e=.returned (pk2 (tq.getD 0 0) (tq.getD 1 0))∧Below W.heap.size W w')):=fun W hW=>pairOf_any (⟨7,lo,hi,nn,tq,nm,ot,wt⟩:Rec) _ W ((Uh HSK).below ((Uh HBW) W hW)) hto2
 have KP:Hid (∀ W:World,Below ((w.alloc (.cells #[.slice cao cs.length ccap,.slice oao os.length ocap,.map (some mr)] 116)).alloc (.cells #[.int .i64 7,.int .i64 lo,.int .i64 hi,.int .i64 nn,.slice (some ⟨tb,toff,none⟩) 2 tcap,.string nm,.string ot,.float .f64 wt] 50)).heap.size ((w.alloc (.cells #[.slice cao cs.length ccap,.slice oao os.length ocap,.map (some mr)] 116)).alloc (.cells #[.int .i64 7,.int .i64 lo,.int .i64 hi,.int .i64 nn,.slice (some ⟨tb,toff,none⟩) 2 tcap,.string nm,.string ot,.float .f64 wt] 50)) W→Calls Tryz.prog 91 #[.agg #[.slice cao cs.length ccap,.slice oao os.length ocap,.map (some mr)],.int .i32 lo,.int .i32 (tq.getD 0 0),.int .i32 (tq.getD 1 0)] W (BoolB W (Cn.wpair l lo (tq.getD 0 0) (tq.getD 1 0)))):=fun W hW=>wpair_any l cs os _ _ mr lo _ _ W (hg.on ((Uh HBW) W hW)) (h.below ((Uh HBW) W hW)) hlr hra hrb
 have HLK:Hid (∀ W:World,Below ((w.alloc (.cells #[.slice cao cs.length ccap,.slice oao os.length ocap,.map (some mr)] 116)).alloc (.cells #[.int .i64 7,.int .i64 lo,.int .i64 hi,.int .i64 nn,.slice (some ⟨tb,toff,none⟩) 2 tcap,.string nm,.string ot,.float .f64 wt] 50)).heap.size ((w.alloc (.cells #[.slice cao cs.length ccap,.slice oao os.length ocap,.map (some mr)] 116)).alloc (.cells #[.int .i64 7,.int .i64 lo,.int .i64 hi,.int .i64 nn,.slice (some ⟨tb,toff,none⟩) 2 tcap,.string nm,.string ot,.float .f64 wt] 50)) W→(Instr.lookup 114 (.map (some mr)) (pk2 (tq.getD 0 0) (tq.getD 1 0)) false).run Tryz.prog W=.ok (.int .i64 ((Cn.firstP l (tq.getD 0 0) (tq.getD 1 0)).getD 0)) W):=fun W hW=>by
  obtain ⟨es,cl,q1,q2⟩:=hp
  exact (look_ok ⟨es,cl,by rw [((Uh HBW) W hW).block _ (heap_lt q1)]; exact q1,q2⟩ hra hrb).2
 have hd0:Below ((w.alloc (.cells #[.slice cao cs.length ccap,.slice oao os.length ocap,.map (some mr)] 116)).alloc (.cells #[.int .i64 7,.int .i64 lo,.int .i64 hi,.int .i64 nn,.slice (some ⟨tb,toff,none⟩) 2 tcap,.string nm,.string ot,.float .f64 wt] 50)).heap.size ((w.alloc (.cells #[.slice cao cs.length ccap,.slice oao os.length ocap,.map (some mr)] 116)).alloc (.cells #[.int .i64 7,.int .i64 lo,.int .i64 hi,.int .i64 nn,.slice (some ⟨tb,toff,none⟩) 2 tcap,.string nm,.string ot,.float .f64 wt] 50)) ((w.alloc (.cells #[.slice cao cs.length ccap,.slice oao os.length ocap,.map (some mr)] 116)).alloc (.cells #[.int .i64 7,.int .i64 lo,.int .i64 hi,.int .i64 nn,.slice (some ⟨tb,toff,none⟩) 2 tcap,.string nm,.string ot,.float .f64 wt] 50)).drew:=drewB ⟨1,rfl⟩
 have HFST:=Hd ((Uh HS) _ hd0)
 have HFIN:Hid (∀ W z,Below ((w.alloc (.cells #[.slice cao cs.length ccap,.slice oao os.length ocap,.map (some mr)] 116)).alloc (.cells #[.int .i64 7,.int .i64 lo,.int .i64 hi,.int .i64 nn,.slice (some ⟨tb,toff,none⟩) 2 tcap,.string nm,.string ot,.float .f64 wt] 50)).heap.size ((w.alloc (.cells #[.slice cao cs.length ccap,.slice oao os.length ocap,.map (some mr)] 116)).alloc (.cells #[.int .i64 7,.int .i64 lo,.int .i64 hi,.int .i64 nn,.slice (some ⟨tb,toff,none⟩) 2 tcap,.string nm,.string ot,.float .f64 wt] 50)) W→IntB w z (.returned (.int .i64 z)) W):=fun W z hW=>⟨rfl,(Uh HBW) W hW⟩
 have KT0:=Hd ((Uh KT) ((w.alloc (.cells #[.slice cao cs.length ccap,.slice oao os.length ocap,.map (some mr)] 116)).alloc (.cells #[.int .i64 7,.int .i64 lo,.int .i64 hi,.int .i64 nn,.slice (some ⟨tb,toff,none⟩) 2 tcap,.string nm,.string ot,.float .f64 wt] 50)).drew)
 rw [hto2]
 clear hto2 hs hp hra hrb hcell pp0 pp1 HSK
 generalize Cn.wpair l lo (tq.getD 0 0) (tq.getD 1 0)=wp at *
 generalize (Cn.firstP l (tq.getD 0 0) (tq.getD 1 0)).getD 0=fp at *
 generalize makes (tq.getD 0 0) (tq.getD 1 0)=mk at *
 generalize tq.getD 0 0=pa at *
 generalize tq.getD 1 0=pb at *
 unfold pk2 at *
 generalize touches (⟨7,lo,hi,nn,tq,nm,ot,wt⟩:Rec)=tc at *
 generalize Cn.wfull l lo=wf at *
 unfold xV recV
 clear hxh hrh hb0 h hg
 cases tc
 ·rw [Bool.false_or]
  cases mk
  ·rw [if_neg (by decide)]
   obtain ⟨R,hR⟩:∃ R,(if wf≠0 then wf else if (decide (fp<(i:Int)) || wp)=true then 74 else 0)=R:=⟨_,rfl⟩
   rw [hR]
   have HR:=Hd hR
   clear hR
   go_enter Tryz.func56,Tryz.ntmps56
   go_wp2
   refine wp_region_held_drew (S:=fun w'=>w'.cell? ⟨w.heap.size+1,0,none⟩=some (.int .i64 7)∧w'.cell? ⟨w.heap.size+1,1,none⟩=some (.int .i64 lo)∧w'.cell? ⟨w.heap.size+1,2,none⟩=some (.int .i64 hi)∧w'.cell? ⟨w.heap.size+1,3,none⟩=some (.int .i64 nn)∧w'.cell? ⟨w.heap.size+1,4,none⟩=some (.slice (some ⟨tb,toff,none⟩) 2 tcap)∧w'.cell? ⟨w.heap.size+1,5,none⟩=some (.string nm)∧w'.cell? ⟨w.heap.size+1,6,none⟩=some (.string ot)∧w'.cell? ⟨w.heap.size+1,7,none⟩=some (.float .f64 wt)∧w'.cell? ⟨w.heap.size,0,none⟩=some (.slice cao cs.length ccap)∧w'.cell? ⟨w.heap.size,1,none⟩=some (.slice oao os.length ocap)∧w'.cell? ⟨w.heap.size,2,none⟩=some (.map (some mr))∧w'.cell? ⟨tb,toff,none⟩=some (.int .i32 pa)∧w'.cell? ⟨tb,toff+1,none⟩=some (.int .i32 pb)∧Hid (Below ((w.alloc (.cells #[.slice cao cs.length ccap,.slice oao os.length ocap,.map (some mr)] 116)).alloc (.cells #[.int .i64 7,.int .i64 lo,.int .i64 hi,.int .i64 nn,.slice (some ⟨tb,toff,none⟩) 2 tcap,.string nm,.string ot,.float .f64 wt] 50)).heap.size ((w.alloc (.cells #[.slice cao cs.length ccap,.slice oao os.length ocap,.map (some mr)] 116)).alloc (.cells #[.int .i64 7,.int .i64 lo,.int .i64 hi,.int .i64 nn,.slice (some ⟨tb,toff,none⟩) 2 tcap,.string nm,.string ot,.float .f64 wt] 50)) w')) (by kernel_rfl) (Uh HFST) (fun hHeld=>?_)
   refine tk9 0 ⟨some 34,_,_,_,_,_⟩ (.agg #[.int .i64 7,.int .i64 lo,.int .i64 hi,.int .i64 nn,.slice (some ⟨tb,toff,none⟩) 2 tcap,.string nm,.string ot,.float .f64 wt]) rfl ?_ hHeld ?_
   ·intro w hSw
    obtain ⟨s0,s1,s2,s3,s4,s5,s6,s7,s8,s9,s10,s11,s12,s13⟩:=hSw; go_simp
   try simp only [Act.put,sa9,sb9,sc9]
   refine wpAnyH_ready (rs:=[1]) (by kernel_rfl) (by simp) ?_
   refine AllReadyH.cons (o:=⟨some 35,_,_,_,_,_⟩) rfl (fun K hK=>?_) AllReadyH.nil
   go_simp
   refine (Uh KT0).mono ?_
   rintro e W1 ⟨rfl,hb1⟩
   have hB1:Below ((w.alloc (.cells #[.slice cao cs.length ccap,.slice oao os.length ocap,.map (some mr)] 116)).alloc (.cells #[.int .i64 7,.int .i64 lo,.int .i64 hi,.int .i64 nn,.slice (some ⟨tb,toff,none⟩) 2 tcap,.string nm,.string ot,.float .f64 wt] 50)).heap.size ((w.alloc (.cells #[.slice cao cs.length ccap,.slice oao os.length ocap,.map (some mr)] 116)).alloc (.cells #[.int .i64 7,.int .i64 lo,.int .i64 hi,.int .i64 nn,.slice (some ⟨tb,toff,none⟩) 2 tcap,.string nm,.string ot,.float .f64 wt] 50)) W1:=bthen hd0 hb1
   have HF1:=Hd ((Uh HS) W1 hB1)
   refine hK.out _ _ ?_ (fun hHeld=>?_)
   ·exact Uh HF1
   clear hK K
   try simp only [Act.put,sa9,sb9,sc9]
   refine tk9 2 ⟨some 36,_,_,_,_,_⟩ (.bool false) rfl ?_ hHeld ?_
   ·intro w hSw
    go_simp
   try simp only [Act.put,sa9,sb9,sc9]
   refine tk9 3 ⟨some 37,_,_,_,_,_⟩ (.bool true) rfl ?_ hHeld ?_
   ·intro w hSw
    go_simp
   try simp only [Act.put,sa9,sb9,sc9]
   refine tk9 4 ⟨some 38,_,_,_,_,_⟩ (.bool true) rfl ?_ hHeld ?_
   ·intro w hSw
    go_simp
   try simp only [Act.put,sa9,sb9,sc9]
   refine tk9 5 ⟨some 39,_,_,_,_,_⟩ (.pointer (some ⟨w.heap.size+1,4,none⟩)) rfl ?_ hHeld ?_
   ·intro w hSw
    obtain ⟨s0,s1,s2,s3,s4,s5,s6,s7,s8,s9,s10,s11,s12,s13⟩:=hSw; go_simp
   try simp only [Act.put,sa9,sb9,sc9]
   refine tk9 6 ⟨some 40,_,_,_,_,_⟩ (.slice (some ⟨tb,toff,none⟩) 2 tcap) rfl ?_ hHeld ?_
   ·intro w hSw
    obtain ⟨s0,s1,s2,s3,s4,s5,s6,s7,s8,s9,s10,s11,s12,s13⟩:=hSw; go_simp
   try simp only [Act.put,sa9,sb9,sc9]
   refine tk9 7 ⟨some 41,_,_,_,_,_⟩ (.pointer (some ⟨tb,toff,none⟩)) rfl ?_ hHeld ?_
   ·intro w hSw
    obtain ⟨s0,s1,s2,s3,s4,s5,s6,s7,s8,s9,s10,s11,s12,s13⟩:=hSw; go_simp
   try simp only [Act.put,sa9,sb9,sc9]
   refine tk9 8 ⟨some 42,_,_,_,_,_⟩ (.int .i32 pa) rfl ?_ hHeld ?_
   ·intro w hSw
    obtain ⟨s0,s1,s2,s3,s4,s5,s6,s7,s8,s9,s10,s11,s12,s13⟩:=hSw; go_simp
   try simp only [Act.put,sa9,sb9,sc9]
   refine tk9 9 ⟨some 43,_,_,_,_,_⟩ (.pointer (some ⟨w.heap.size+1,4,none⟩)) rfl ?_ hHeld ?_
   ·intro w hSw
    obtain ⟨s0,s1,s2,s3,s4,s5,s6,s7,s8,s9,s10,s11,s12,s13⟩:=hSw; go_simp
   try simp only [Act.put,sa9,sb9,sc9]
   refine tk9 10 ⟨some 44,_,_,_,_,_⟩ (.slice (some ⟨tb,toff,none⟩) 2 tcap) rfl ?_ hHeld ?_
   ·intro w hSw
    obtain ⟨s0,s1,s2,s3,s4,s5,s6,s7,s8,s9,s10,s11,s12,s13⟩:=hSw; go_simp
   try simp only [Act.put,sa9,sb9,sc9]
   refine tk9 11 ⟨some 45,_,_,_,_,_⟩ (.pointer (some ⟨tb,toff+1,none⟩)) rfl ?_ hHeld ?_
   ·intro w hSw
    obtain ⟨s0,s1,s2,s3,s4,s5,s6,s7,s8,s9,s10,s11,s12,s13⟩:=hSw; go_simp
   try simp only [Act.put,sa9,sb9,sc9]
   refine tk9 12 ⟨some 46,_,_,_,_,_⟩ (.int .i32 pb) rfl ?_ hHeld ?_
   ·intro w hSw
    obtain ⟨s0,s1,s2,s3,s4,s5,s6,s7,s8,s9,s10,s11,s12,s13⟩:=hSw; go_simp
   try simp only [Act.put,sa9,sb9,sc9]
   refine wpAnyH_ready (rs:=[13]) (by kernel_rfl) (by simp) ?_
   refine AllReadyH.cons (o:=⟨some 47,_,_,_,_,_⟩) rfl (fun K hK=>?_) AllReadyH.nil
   go_simp
   refine ((Uh KM) _).mono ?_
   rintro e W1' ⟨rfl,hw1'⟩
   subst W1'
   refine hK.out _ _ ?_ (fun hHeld=>?_)
   ·exact Uh HF1
   clear hK K
   try simp only [Act.put,sa9,sb9,sc9]
   refine tk9 14 ⟨some 48,_,_,_,_,_⟩ (.bool false) rfl ?_ hHeld ?_
   ·intro w hSw
    go_simp
   try simp only [Act.put,sa9,sb9,sc9]
   refine tk9 15 ⟨some 49,_,_,_,_,_⟩ (.bool false) rfl ?_ hHeld ?_
   ·intro w hSw
    go_simp
   try simp only [Act.put,sa9,sb9,sc9]
   refine tk9 16 ⟨some 33,_,_,_,_,_⟩ (.bool false) rfl ?_ hHeld ?_
   ·intro w hSw
    go_simp
   try simp only [Act.put,sa9,sb9,sc9]
   refine wpAnyH_done (by kernel_rfl) ?_ _
   obtain ⟨q0,q1,q2,q3,q4,q5,q6,q7,q8,q9,q10,q11,q12,q13⟩:=Uh HF1
   have K2:=Hd ((Uh KW) W1 hB1)
   clear HF1 HFST KT KT0 KW KM hHeld
   go_wp2_with fail
   refine (Uh K2).mono ?_
   rintro e W2 ⟨rfl,hb2⟩
   have hB2:=bthen hB1 hb2
   clear K2 hb2 q0 q1 q2 q3 q4 q5 q6 q7 q8 q9 q10 q11 q12 q13
   by_cases hz:wf=0
   ·subst hz
    have hd2:Below ((w.alloc (.cells #[.slice cao cs.length ccap,.slice oao os.length ocap,.map (some mr)] 116)).alloc (.cells #[.int .i64 7,.int .i64 lo,.int .i64 hi,.int .i64 nn,.slice (some ⟨tb,toff,none⟩) 2 tcap,.string nm,.string ot,.float .f64 wt] 50)).heap.size ((w.alloc (.cells #[.slice cao cs.length ccap,.slice oao os.length ocap,.map (some mr)] 116)).alloc (.cells #[.int .i64 7,.int .i64 lo,.int .i64 hi,.int .i64 nn,.slice (some ⟨tb,toff,none⟩) 2 tcap,.string nm,.string ot,.float .f64 wt] 50)) W2.drew:=bthen hB2 (drewB ⟨1,rfl⟩)
    have HFST:=Hd ((Uh HS) _ hd2)
    have K3:=Hd ((Uh KPO) _ hd2)
    go_wp2
    refine wp_region_held_drew (S:=fun w'=>w'.cell? ⟨w.heap.size+1,0,none⟩=some (.int .i64 7)∧w'.cell? ⟨w.heap.size+1,1,none⟩=some (.int .i64 lo)∧w'.cell? ⟨w.heap.size+1,2,none⟩=some (.int .i64 hi)∧w'.cell? ⟨w.heap.size+1,3,none⟩=some (.int .i64 nn)∧w'.cell? ⟨w.heap.size+1,4,none⟩=some (.slice (some ⟨tb,toff,none⟩) 2 tcap)∧w'.cell? ⟨w.heap.size+1,5,none⟩=some (.string nm)∧w'.cell? ⟨w.heap.size+1,6,none⟩=some (.string ot)∧w'.cell? ⟨w.heap.size+1,7,none⟩=some (.float .f64 wt)∧w'.cell? ⟨w.heap.size,0,none⟩=some (.slice cao cs.length ccap)∧w'.cell? ⟨w.heap.size,1,none⟩=some (.slice oao os.length ocap)∧w'.cell? ⟨w.heap.size,2,none⟩=some (.map (some mr))∧w'.cell? ⟨tb,toff,none⟩=some (.int .i32 pa)∧w'.cell? ⟨tb,toff+1,none⟩=some (.int .i32 pb)∧Hid (Below ((w.alloc (.cells #[.slice cao cs.length ccap,.slice oao os.length ocap,.map (some mr)] 116)).alloc (.cells #[.int .i64 7,.int .i64 lo,.int .i64 hi,.int .i64 nn,.slice (some ⟨tb,toff,none⟩) 2 tcap,.string nm,.string ot,.float .f64 wt] 50)).heap.size ((w.alloc (.cells #[.slice cao cs.length ccap,.slice oao os.length ocap,.map (some mr)] 116)).alloc (.cells #[.int .i64 7,.int .i64 lo,.int .i64 hi,.int .i64 nn,.slice (some ⟨tb,toff,none⟩) 2 tcap,.string nm,.string ot,.float .f64 wt] 50)) w')) (by kernel_rfl) (Uh HFST) (fun hHeld=>?_)
    refine tk9 0 ⟨some 59,_,_,_,_,_⟩ (.bool true) rfl ?_ hHeld ?_
    ·intro w hSw
     go_simp
    try simp only [Act.put,sa9,sb9,sc9]
    refine tk9 1 ⟨some 60,_,_,_,_,_⟩ (.bool true) rfl ?_ hHeld ?_
    ·intro w hSw
     go_simp
    try simp only [Act.put,sa9,sb9,sc9]
    refine tk9 2 ⟨some 61,_,_,_,_,_⟩ (.pointer (some ⟨w.heap.size,2,none⟩)) rfl ?_ hHeld ?_
    ·intro w hSw
     obtain ⟨s0,s1,s2,s3,s4,s5,s6,s7,s8,s9,s10,s11,s12,s13⟩:=hSw; go_simp
    try simp only [Act.put,sa9,sb9,sc9]
    refine tk9 3 ⟨some 62,_,_,_,_,_⟩ (.map (some mr)) rfl ?_ hHeld ?_
    ·intro w hSw
     obtain ⟨s0,s1,s2,s3,s4,s5,s6,s7,s8,s9,s10,s11,s12,s13⟩:=hSw; go_simp
    try simp only [Act.put,sa9,sb9,sc9]
    refine tk9 4 ⟨some 63,_,_,_,_,_⟩ (.agg #[.int .i64 7,.int .i64 lo,.int .i64 hi,.int .i64 nn,.slice (some ⟨tb,toff,none⟩) 2 tcap,.string nm,.string ot,.float .f64 wt]) rfl ?_ hHeld ?_
    ·intro w hSw
     obtain ⟨s0,s1,s2,s3,s4,s5,s6,s7,s8,s9,s10,s11,s12,s13⟩:=hSw; go_simp
    try simp only [Act.put,sa9,sb9,sc9]
    refine tk9 7 ⟨some 66,_,_,_,_,_⟩ (.int .i64 (i:Int)) rfl ?_ hHeld ?_
    ·intro w hSw
     go_simp
    try simp only [Act.put,sa9,sb9,sc9]
    refine wpAnyH_ready (rs:=[5]) (by kernel_rfl) (by simp) ?_
    refine AllReadyH.cons (o:=⟨some 64,_,_,_,_,_⟩) rfl (fun K hK=>?_) AllReadyH.nil
    go_simp
    refine (Uh K3).mono ?_
    rintro e W3 ⟨rfl,hb3⟩
    have hB3:Below ((w.alloc (.cells #[.slice cao cs.length ccap,.slice oao os.length ocap,.map (some mr)] 116)).alloc (.cells #[.int .i64 7,.int .i64 lo,.int .i64 hi,.int .i64 nn,.slice (some ⟨tb,toff,none⟩) 2 tcap,.string nm,.string ot,.float .f64 wt] 50)).heap.size ((w.alloc (.cells #[.slice cao cs.length ccap,.slice oao os.length ocap,.map (some mr)] 116)).alloc (.cells #[.int .i64 7,.int .i64 lo,.int .i64 hi,.int .i64 nn,.slice (some ⟨tb,toff,none⟩) 2 tcap,.string nm,.string ot,.float .f64 wt] 50)) W3:=bthen hd2 hb3
    have HF3:=Hd ((Uh HS) W3 hB3)
    refine hK.out _ _ ?_ (fun hHeld=>?_)
    ·exact Uh HF3
    clear hK K
    try simp only [Act.put,sa9,sb9,sc9]
    refine tk9 6 ⟨some 65,_,_,_,_,_⟩ (.int .i64 fp) rfl ?_ hHeld ?_
    ·intro w hSw
     obtain ⟨s0,s1,s2,s3,s4,s5,s6,s7,s8,s9,s10,s11,s12,s13⟩:=hSw; have hlk:=(Uh HLK) _ (Uh s13); go_simp
    try simp only [Act.put,sa9,sb9,sc9]
    refine tk9 8 ⟨some 67,_,_,_,_,_⟩ (.bool (decide (fp<(i:Int)))) rfl ?_ hHeld ?_
    ·intro w hSw
     go_simp
    try simp only [Act.put,sa9,sb9,sc9]
    refine tk9 9 ⟨some 68,_,_,_,_,_⟩ (.bool (decide (fp<(i:Int)))) rfl ?_ hHeld ?_
    ·intro w hSw
     go_simp
    try simp only [Act.put,sa9,sb9,sc9]
    by_cases hlt:fp<(i:Int)
    ·have hdt:decide (fp<(i:Int))=true:=decide_eq_true hlt
     obtain rfl:R=74:=by
      rw [← Uh HR,hdt]; simp
     rw [hdt]
     refine tn9 10 ⟨some 69,_,_,_,_,_⟩ undef rfl hHeld ?_
     try simp only [Act.put,sa9,sb9,sc9]
     refine tn9 11 ⟨some 70,_,_,_,_,_⟩ undef rfl hHeld ?_
     try simp only [Act.put,sa9,sb9,sc9]
     refine tn9 12 ⟨some 71,_,_,_,_,_⟩ undef rfl hHeld ?_
     try simp only [Act.put,sa9,sb9,sc9]
     refine tn9 13 ⟨some 72,_,_,_,_,_⟩ undef rfl hHeld ?_
     try simp only [Act.put,sa9,sb9,sc9]
     refine tn9 14 ⟨some 73,_,_,_,_,_⟩ undef rfl hHeld ?_
     try simp only [Act.put,sa9,sb9,sc9]
     refine tn9 15 ⟨some 74,_,_,_,_,_⟩ undef rfl hHeld ?_
     try simp only [Act.put,sa9,sb9,sc9]
     refine tn9 16 ⟨some 75,_,_,_,_,_⟩ undef rfl hHeld ?_
     try simp only [Act.put,sa9,sb9,sc9]
     refine tn9 17 ⟨some 76,_,_,_,_,_⟩ undef rfl hHeld ?_
     try simp only [Act.put,sa9,sb9,sc9]
     refine tn9 18 ⟨some 77,_,_,_,_,_⟩ undef rfl hHeld ?_
     try simp only [Act.put,sa9,sb9,sc9]
     refine tn9 19 ⟨some 78,_,_,_,_,_⟩ undef rfl hHeld ?_
     try simp only [Act.put,sa9,sb9,sc9]
     refine tn9 20 ⟨some 79,_,_,_,_,_⟩ undef rfl hHeld ?_
     try simp only [Act.put,sa9,sb9,sc9]
     refine tn9 21 ⟨some 80,_,_,_,_,_⟩ undef rfl hHeld ?_
     try simp only [Act.put,sa9,sb9,sc9]
     refine tn9 22 ⟨some 81,_,_,_,_,_⟩ undef rfl hHeld ?_
     try simp only [Act.put,sa9,sb9,sc9]
     refine tk9 23 ⟨some 82,_,_,_,_,_⟩ (.bool true) rfl ?_ hHeld ?_
     ·intro w hSw
      go_simp
     try simp only [Act.put,sa9,sb9,sc9]
     refine tk9 24 ⟨some 83,_,_,_,_,_⟩ (.bool true) rfl ?_ hHeld ?_
     ·intro w hSw
      go_simp
     try simp only [Act.put,sa9,sb9,sc9]
     refine wpAnyH_done (by kernel_rfl) ?_ _
     have HF:=(Uh HFIN) W3 74 hB3
     clear HS HFST HFIN K3 HF3 hB3 hHeld HR HLK KP KPO hB2 hd2 hB1
     go_wp2
     go_ret
     exact HF
    ·have hdf:decide (fp<(i:Int))=false:=decide_eq_false hlt
     rw [hdf]
     have K4:=Hd ((Uh KP) W3 hB3)
     refine tk9 10 ⟨some 69,_,_,_,_,_⟩ (.agg #[.slice cao cs.length ccap,.slice oao os.length ocap,.map (some mr)]) rfl ?_ hHeld ?_
     ·intro w hSw
      obtain ⟨s0,s1,s2,s3,s4,s5,s6,s7,s8,s9,s10,s11,s12,s13⟩:=hSw; go_simp
     try simp only [Act.put,sa9,sb9,sc9]
     refine tk9 11 ⟨some 70,_,_,_,_,_⟩ (.pointer (some ⟨w.heap.size+1,1,none⟩)) rfl ?_ hHeld ?_
     ·intro w hSw
      obtain ⟨s0,s1,s2,s3,s4,s5,s6,s7,s8,s9,s10,s11,s12,s13⟩:=hSw; go_simp
     try simp only [Act.put,sa9,sb9,sc9]
     refine tk9 12 ⟨some 71,_,_,_,_,_⟩ (.int .i64 lo) rfl ?_ hHeld ?_
     ·intro w hSw
      obtain ⟨s0,s1,s2,s3,s4,s5,s6,s7,s8,s9,s10,s11,s12,s13⟩:=hSw; go_simp
     try simp only [Act.put,sa9,sb9,sc9]
     refine tk9 13 ⟨some 72,_,_,_,_,_⟩ (.int .i32 lo) rfl ?_ hHeld ?_
     ·intro w hSw
      obtain ⟨s0,s1,s2,s3,s4,s5,s6,s7,s8,s9,s10,s11,s12,s13⟩:=hSw; go_simp
     try simp only [Act.put,sa9,sb9,sc9]
     refine tk9 14 ⟨some 73,_,_,_,_,_⟩ (.pointer (some ⟨w.heap.size+1,4,none⟩)) rfl ?_ hHeld ?_
     ·intro w hSw
      obtain ⟨s0,s1,s2,s3,s4,s5,s6,s7,s8,s9,s10,s11,s12,s13⟩:=hSw; go_simp
     try simp only [Act.put,sa9,sb9,sc9]
     refine tk9 15 ⟨some 74,_,_,_,_,_⟩ (.slice (some ⟨tb,toff,none⟩) 2 tcap) rfl ?_ hHeld ?_
     ·intro w hSw
      obtain ⟨s0,s1,s2,s3,s4,s5,s6,s7,s8,s9,s10,s11,s12,s13⟩:=hSw; go_simp
     try simp only [Act.put,sa9,sb9,sc9]
     refine tk9 16 ⟨some 75,_,_,_,_,_⟩ (.pointer (some ⟨tb,toff,none⟩)) rfl ?_ hHeld ?_
     ·intro w hSw
      obtain ⟨s0,s1,s2,s3,s4,s5,s6,s7,s8,s9,s10,s11,s12,s13⟩:=hSw; go_simp
     try simp only [Act.put,sa9,sb9,sc9]
     refine tk9 17 ⟨some 76,_,_,_,_,_⟩ (.int .i32 pa) rfl ?_ hHeld ?_
     ·intro w hSw
      obtain ⟨s0,s1,s2,s3,s4,s5,s6,s7,s8,s9,s10,s11,s12,s13⟩:=hSw; go_simp
     try simp only [Act.put,sa9,sb9,sc9]
     refine tk9 18 ⟨some 77,_,_,_,_,_⟩ (.pointer (some ⟨w.heap.size+1,4,none⟩)) rfl ?_ hHeld ?_
     ·intro w hSw
      obtain ⟨s0,s1,s2,s3,s4,s5,s6,s7,s8,s9,s10,s11,s12,s13⟩:=hSw; go_simp
     try simp only [Act.put,sa9,sb9,sc9]
     refine tk9 19 ⟨some 78,_,_,_,_,_⟩ (.slice (some ⟨tb,toff,none⟩) 2 tcap) rfl ?_ hHeld ?_
     ·intro w hSw
      obtain ⟨s0,s1,s2,s3,s4,s5,s6,s7,s8,s9,s10,s11,s12,s13⟩:=hSw; go_simp
     try simp only [Act.put,sa9,sb9,sc9]
     refine tk9 20 ⟨some 79,_,_,_,_,_⟩ (.pointer (some ⟨tb,toff+1,none⟩)) rfl ?_ hHeld ?_
     ·intro w hSw
      obtain ⟨s0,s1,s2,s3,s4,s5,s6,s7,s8,s9,s10,s11,s12,s13⟩:=hSw; go_simp
     try simp only [Act.put,sa9,sb9,sc9]
     refine tk9 21 ⟨some 80,_,_,_,_,_⟩ (.int .i32 pb) rfl ?_ hHeld ?_
     ·intro w hSw
      obtain ⟨s0,s1,s2,s3,s4,s5,s6,s7,s8,s9,s10,s11,s12,s13⟩:=hSw; go_simp
     try simp only [Act.put,sa9,sb9,sc9]
     refine wpAnyH_ready (rs:=[22]) (by kernel_rfl) (by simp) ?_
     refine AllReadyH.cons (o:=⟨some 81,_,_,_,_,_⟩) rfl (fun K hK=>?_) AllReadyH.nil
     go_simp
     refine (Uh K4).mono ?_
     rintro e W4 ⟨rfl,hb4⟩
     have hB4:Below ((w.alloc (.cells #[.slice cao cs.length ccap,.slice oao os.length ocap,.map (some mr)] 116)).alloc (.cells #[.int .i64 7,.int .i64 lo,.int .i64 hi,.int .i64 nn,.slice (some ⟨tb,toff,none⟩) 2 tcap,.string nm,.string ot,.float .f64 wt] 50)).heap.size ((w.alloc (.cells #[.slice cao cs.length ccap,.slice oao os.length ocap,.map (some mr)] 116)).alloc (.cells #[.int .i64 7,.int .i64 lo,.int .i64 hi,.int .i64 nn,.slice (some ⟨tb,toff,none⟩) 2 tcap,.string nm,.string ot,.float .f64 wt] 50)) W4:=bthen hB3 hb4
     have HF4:=Hd ((Uh HS) W4 hB4)
     refine hK.out _ _ ?_ (fun hHeld=>?_)
     ·exact Uh HF4
     clear hK K
     try simp only [Act.put,sa9,sb9,sc9]
     refine tk9 23 ⟨some 82,_,_,_,_,_⟩ (.bool wp) rfl ?_ hHeld ?_
     ·intro w hSw
      go_simp
     try simp only [Act.put,sa9,sb9,sc9]
     refine tk9 24 ⟨some 83,_,_,_,_,_⟩ (.bool wp) rfl ?_ hHeld ?_
     ·intro w hSw
      go_simp
     try simp only [Act.put,sa9,sb9,sc9]
     refine wpAnyH_done (by kernel_rfl) ?_ _
     cases wp
     ·obtain rfl:R=0:=by
       rw [← Uh HR,hdf]; simp
      have HF:=(Uh HFIN) W4 0 hB4
      clear HS HFST HFIN K3 K4 HF3 HF4 hB3 hB4 hHeld HR HLK KP KPO hB2 hd2 hB1
      go_wp2
      go_ret
      exact HF
     ·obtain rfl:R=74:=by
       rw [← Uh HR,hdf]; simp
      have HF:=(Uh HFIN) W4 74 hB4
      clear HS HFST HFIN K3 K4 HF3 HF4 hB3 hB4 hHeld HR HLK KP KPO hB2 hd2 hB1
      go_wp2
      go_ret
      exact HF
   ·have hzz:(wf != 0)=true:=by simp [hz]
    obtain rfl:R=wf:=by rw [← Uh HR,if_pos hz]
    have HF:=(Uh HFIN) W2 R hB2
    clear hz
    clear HS HFIN hB2 HR HLK KP KPO hB1
    go_wp2
    go_ret
    exact HF
  ·rw [if_pos rfl]
   go_enter Tryz.func56,Tryz.ntmps56
   go_wp2
   refine wp_region_held_drew (S:=fun w'=>w'.cell? ⟨w.heap.size+1,0,none⟩=some (.int .i64 7)∧w'.cell? ⟨w.heap.size+1,1,none⟩=some (.int .i64 lo)∧w'.cell? ⟨w.heap.size+1,2,none⟩=some (.int .i64 hi)∧w'.cell? ⟨w.heap.size+1,3,none⟩=some (.int .i64 nn)∧w'.cell? ⟨w.heap.size+1,4,none⟩=some (.slice (some ⟨tb,toff,none⟩) 2 tcap)∧w'.cell? ⟨w.heap.size+1,5,none⟩=some (.string nm)∧w'.cell? ⟨w.heap.size+1,6,none⟩=some (.string ot)∧w'.cell? ⟨w.heap.size+1,7,none⟩=some (.float .f64 wt)∧w'.cell? ⟨w.heap.size,0,none⟩=some (.slice cao cs.length ccap)∧w'.cell? ⟨w.heap.size,1,none⟩=some (.slice oao os.length ocap)∧w'.cell? ⟨w.heap.size,2,none⟩=some (.map (some mr))∧w'.cell? ⟨tb,toff,none⟩=some (.int .i32 pa)∧w'.cell? ⟨tb,toff+1,none⟩=some (.int .i32 pb)∧Hid (Below ((w.alloc (.cells #[.slice cao cs.length ccap,.slice oao os.length ocap,.map (some mr)] 116)).alloc (.cells #[.int .i64 7,.int .i64 lo,.int .i64 hi,.int .i64 nn,.slice (some ⟨tb,toff,none⟩) 2 tcap,.string nm,.string ot,.float .f64 wt] 50)).heap.size ((w.alloc (.cells #[.slice cao cs.length ccap,.slice oao os.length ocap,.map (some mr)] 116)).alloc (.cells #[.int .i64 7,.int .i64 lo,.int .i64 hi,.int .i64 nn,.slice (some ⟨tb,toff,none⟩) 2 tcap,.string nm,.string ot,.float .f64 wt] 50)) w')) (by kernel_rfl) (Uh HFST) (fun hHeld=>?_)
   refine tk9 0 ⟨some 34,_,_,_,_,_⟩ (.agg #[.int .i64 7,.int .i64 lo,.int .i64 hi,.int .i64 nn,.slice (some ⟨tb,toff,none⟩) 2 tcap,.string nm,.string ot,.float .f64 wt]) rfl ?_ hHeld ?_
   ·intro w hSw
    obtain ⟨s0,s1,s2,s3,s4,s5,s6,s7,s8,s9,s10,s11,s12,s13⟩:=hSw; go_simp
   try simp only [Act.put,sa9,sb9,sc9]
   refine wpAnyH_ready (rs:=[1]) (by kernel_rfl) (by simp) ?_
   refine AllReadyH.cons (o:=⟨some 35,_,_,_,_,_⟩) rfl (fun K hK=>?_) AllReadyH.nil
   go_simp
   refine (Uh KT0).mono ?_
   rintro e W1 ⟨rfl,hb1⟩
   have hB1:Below ((w.alloc (.cells #[.slice cao cs.length ccap,.slice oao os.length ocap,.map (some mr)] 116)).alloc (.cells #[.int .i64 7,.int .i64 lo,.int .i64 hi,.int .i64 nn,.slice (some ⟨tb,toff,none⟩) 2 tcap,.string nm,.string ot,.float .f64 wt] 50)).heap.size ((w.alloc (.cells #[.slice cao cs.length ccap,.slice oao os.length ocap,.map (some mr)] 116)).alloc (.cells #[.int .i64 7,.int .i64 lo,.int .i64 hi,.int .i64 nn,.slice (some ⟨tb,toff,none⟩) 2 tcap,.string nm,.string ot,.float .f64 wt] 50)) W1:=bthen hd0 hb1
   have HF1:=Hd ((Uh HS) W1 hB1)
   refine hK.out _ _ ?_ (fun hHeld=>?_)
   ·exact Uh HF1
   clear hK K
   try simp only [Act.put,sa9,sb9,sc9]
   refine tk9 2 ⟨some 36,_,_,_,_,_⟩ (.bool false) rfl ?_ hHeld ?_
   ·intro w hSw
    go_simp
   try simp only [Act.put,sa9,sb9,sc9]
   refine tk9 3 ⟨some 37,_,_,_,_,_⟩ (.bool true) rfl ?_ hHeld ?_
   ·intro w hSw
    go_simp
   try simp only [Act.put,sa9,sb9,sc9]
   refine tk9 4 ⟨some 38,_,_,_,_,_⟩ (.bool true) rfl ?_ hHeld ?_
   ·intro w hSw
    go_simp
   try simp only [Act.put,sa9,sb9,sc9]
   refine tk9 5 ⟨some 39,_,_,_,_,_⟩ (.pointer (some ⟨w.heap.size+1,4,none⟩)) rfl ?_ hHeld ?_
   ·intro w hSw
    obtain ⟨s0,s1,s2,s3,s4,s5,s6,s7,s8,s9,s10,s11,s12,s13⟩:=hSw; go_simp
   try simp only [Act.put,sa9,sb9,sc9]
   refine tk9 6 ⟨some 40,_,_,_,_,_⟩ (.slice (some ⟨tb,toff,none⟩) 2 tcap) rfl ?_ hHeld ?_
   ·intro w hSw
    obtain ⟨s0,s1,s2,s3,s4,s5,s6,s7,s8,s9,s10,s11,s12,s13⟩:=hSw; go_simp
   try simp only [Act.put,sa9,sb9,sc9]
   refine tk9 7 ⟨some 41,_,_,_,_,_⟩ (.pointer (some ⟨tb,toff,none⟩)) rfl ?_ hHeld ?_
   ·intro w hSw
    obtain ⟨s0,s1,s2,s3,s4,s5,s6,s7,s8,s9,s10,s11,s12,s13⟩:=hSw; go_simp
   try simp only [Act.put,sa9,sb9,sc9]
   refine tk9 8 ⟨some 42,_,_,_,_,_⟩ (.int .i32 pa) rfl ?_ hHeld ?_
   ·intro w hSw
    obtain ⟨s0,s1,s2,s3,s4,s5,s6,s7,s8,s9,s10,s11,s12,s13⟩:=hSw; go_simp
   try simp only [Act.put,sa9,sb9,sc9]
   refine tk9 9 ⟨some 43,_,_,_,_,_⟩ (.pointer (some ⟨w.heap.size+1,4,none⟩)) rfl ?_ hHeld ?_
   ·intro w hSw
    obtain ⟨s0,s1,s2,s3,s4,s5,s6,s7,s8,s9,s10,s11,s12,s13⟩:=hSw; go_simp
   try simp only [Act.put,sa9,sb9,sc9]
   refine tk9 10 ⟨some 44,_,_,_,_,_⟩ (.slice (some ⟨tb,toff,none⟩) 2 tcap) rfl ?_ hHeld ?_
   ·intro w hSw
    obtain ⟨s0,s1,s2,s3,s4,s5,s6,s7,s8,s9,s10,s11,s12,s13⟩:=hSw; go_simp
   try simp only [Act.put,sa9,sb9,sc9]
   refine tk9 11 ⟨some 45,_,_,_,_,_⟩ (.pointer (some ⟨tb,toff+1,none⟩)) rfl ?_ hHeld ?_
   ·intro w hSw
    obtain ⟨s0,s1,s2,s3,s4,s5,s6,s7,s8,s9,s10,s11,s12,s13⟩:=hSw; go_simp
   try simp only [Act.put,sa9,sb9,sc9]
   refine tk9 12 ⟨some 46,_,_,_,_,_⟩ (.int .i32 pb) rfl ?_ hHeld ?_
   ·intro w hSw
    obtain ⟨s0,s1,s2,s3,s4,s5,s6,s7,s8,s9,s10,s11,s12,s13⟩:=hSw; go_simp
   try simp only [Act.put,sa9,sb9,sc9]
   refine wpAnyH_ready (rs:=[13]) (by kernel_rfl) (by simp) ?_
   refine AllReadyH.cons (o:=⟨some 47,_,_,_,_,_⟩) rfl (fun K hK=>?_) AllReadyH.nil
   go_simp
   refine ((Uh KM) _).mono ?_
   rintro e W1' ⟨rfl,hw1'⟩
   subst W1'
   refine hK.out _ _ ?_ (fun hHeld=>?_)
   ·exact Uh HF1
   clear hK K
   try simp only [Act.put,sa9,sb9,sc9]
   refine tk9 14 ⟨some 48,_,_,_,_,_⟩ (.bool true) rfl ?_ hHeld ?_
   ·intro w hSw
    go_simp
   try simp only [Act.put,sa9,sb9,sc9]
   refine tk9 15 ⟨some 49,_,_,_,_,_⟩ (.bool true) rfl ?_ hHeld ?_
   ·intro w hSw
    go_simp
   try simp only [Act.put,sa9,sb9,sc9]
   refine tk9 16 ⟨some 33,_,_,_,_,_⟩ (.bool true) rfl ?_ hHeld ?_
   ·intro w hSw
    go_simp
   try simp only [Act.put,sa9,sb9,sc9]
   refine wpAnyH_done (by kernel_rfl) ?_ _
   have HF:=(Uh HFIN) W1 71 hB1
   clear HS HFST HFIN KT KT0 KW KM KP KPO HLK HF1 hB1 hHeld
   go_wp2
   go_ret
   exact HF
 ·rw [Bool.true_or,if_pos rfl]
  go_enter Tryz.func56,Tryz.ntmps56
  go_wp2
  refine wp_region_held_drew (S:=fun w'=>w'.cell? ⟨w.heap.size+1,0,none⟩=some (.int .i64 7)∧w'.cell? ⟨w.heap.size+1,1,none⟩=some (.int .i64 lo)∧w'.cell? ⟨w.heap.size+1,2,none⟩=some (.int .i64 hi)∧w'.cell? ⟨w.heap.size+1,3,none⟩=some (.int .i64 nn)∧w'.cell? ⟨w.heap.size+1,4,none⟩=some (.slice (some ⟨tb,toff,none⟩) 2 tcap)∧w'.cell? ⟨w.heap.size+1,5,none⟩=some (.string nm)∧w'.cell? ⟨w.heap.size+1,6,none⟩=some (.string ot)∧w'.cell? ⟨w.heap.size+1,7,none⟩=some (.float .f64 wt)∧w'.cell? ⟨w.heap.size,0,none⟩=some (.slice cao cs.length ccap)∧w'.cell? ⟨w.heap.size,1,none⟩=some (.slice oao os.length ocap)∧w'.cell? ⟨w.heap.size,2,none⟩=some (.map (some mr))∧w'.cell? ⟨tb,toff,none⟩=some (.int .i32 pa)∧w'.cell? ⟨tb,toff+1,none⟩=some (.int .i32 pb)∧Hid (Below ((w.alloc (.cells #[.slice cao cs.length ccap,.slice oao os.length ocap,.map (some mr)] 116)).alloc (.cells #[.int .i64 7,.int .i64 lo,.int .i64 hi,.int .i64 nn,.slice (some ⟨tb,toff,none⟩) 2 tcap,.string nm,.string ot,.float .f64 wt] 50)).heap.size ((w.alloc (.cells #[.slice cao cs.length ccap,.slice oao os.length ocap,.map (some mr)] 116)).alloc (.cells #[.int .i64 7,.int .i64 lo,.int .i64 hi,.int .i64 nn,.slice (some ⟨tb,toff,none⟩) 2 tcap,.string nm,.string ot,.float .f64 wt] 50)) w')) (by kernel_rfl) (Uh HFST) (fun hHeld=>?_)
  refine tk9 0 ⟨some 34,_,_,_,_,_⟩ (.agg #[.int .i64 7,.int .i64 lo,.int .i64 hi,.int .i64 nn,.slice (some ⟨tb,toff,none⟩) 2 tcap,.string nm,.string ot,.float .f64 wt]) rfl ?_ hHeld ?_
  ·intro w hSw
   obtain ⟨s0,s1,s2,s3,s4,s5,s6,s7,s8,s9,s10,s11,s12,s13⟩:=hSw; go_simp
  try simp only [Act.put,sa9,sb9,sc9]
  refine wpAnyH_ready (rs:=[1]) (by kernel_rfl) (by simp) ?_
  refine AllReadyH.cons (o:=⟨some 35,_,_,_,_,_⟩) rfl (fun K hK=>?_) AllReadyH.nil
  go_simp
  refine (Uh KT0).mono ?_
  rintro e W1 ⟨rfl,hb1⟩
  have hB1:Below ((w.alloc (.cells #[.slice cao cs.length ccap,.slice oao os.length ocap,.map (some mr)] 116)).alloc (.cells #[.int .i64 7,.int .i64 lo,.int .i64 hi,.int .i64 nn,.slice (some ⟨tb,toff,none⟩) 2 tcap,.string nm,.string ot,.float .f64 wt] 50)).heap.size ((w.alloc (.cells #[.slice cao cs.length ccap,.slice oao os.length ocap,.map (some mr)] 116)).alloc (.cells #[.int .i64 7,.int .i64 lo,.int .i64 hi,.int .i64 nn,.slice (some ⟨tb,toff,none⟩) 2 tcap,.string nm,.string ot,.float .f64 wt] 50)) W1:=bthen hd0 hb1
  have HF1:=Hd ((Uh HS) W1 hB1)
  refine hK.out _ _ ?_ (fun hHeld=>?_)
  ·exact Uh HF1
  clear hK K
  try simp only [Act.put,sa9,sb9,sc9]
  refine tk9 2 ⟨some 36,_,_,_,_,_⟩ (.bool true) rfl ?_ hHeld ?_
  ·intro w hSw
   go_simp
  try simp only [Act.put,sa9,sb9,sc9]
  refine tn9 3 ⟨some 37,_,_,_,_,_⟩ undef rfl hHeld ?_
  try simp only [Act.put,sa9,sb9,sc9]
  refine tn9 4 ⟨some 38,_,_,_,_,_⟩ undef rfl hHeld ?_
  try simp only [Act.put,sa9,sb9,sc9]
  refine tn9 5 ⟨some 39,_,_,_,_,_⟩ undef rfl hHeld ?_
  try simp only [Act.put,sa9,sb9,sc9]
  refine tn9 6 ⟨some 40,_,_,_,_,_⟩ undef rfl hHeld ?_
  try simp only [Act.put,sa9,sb9,sc9]
  refine tn9 7 ⟨some 41,_,_,_,_,_⟩ undef rfl hHeld ?_
  try simp only [Act.put,sa9,sb9,sc9]
  refine tn9 8 ⟨some 42,_,_,_,_,_⟩ undef rfl hHeld ?_
  try simp only [Act.put,sa9,sb9,sc9]
  refine tn9 9 ⟨some 43,_,_,_,_,_⟩ undef rfl hHeld ?_
  try simp only [Act.put,sa9,sb9,sc9]
  refine tn9 10 ⟨some 44,_,_,_,_,_⟩ undef rfl hHeld ?_
  try simp only [Act.put,sa9,sb9,sc9]
  refine tn9 11 ⟨some 45,_,_,_,_,_⟩ undef rfl hHeld ?_
  try simp only [Act.put,sa9,sb9,sc9]
  refine tn9 12 ⟨some 46,_,_,_,_,_⟩ undef rfl hHeld ?_
  try simp only [Act.put,sa9,sb9,sc9]
  refine tn9 13 ⟨some 47,_,_,_,_,_⟩ undef rfl hHeld ?_
  try simp only [Act.put,sa9,sb9,sc9]
  refine tn9 14 ⟨some 48,_,_,_,_,_⟩ undef rfl hHeld ?_
  try simp only [Act.put,sa9,sb9,sc9]
  refine tk9 15 ⟨some 49,_,_,_,_,_⟩ (.bool true) rfl ?_ hHeld ?_
  ·intro w hSw
   go_simp
  try simp only [Act.put,sa9,sb9,sc9]
  refine tk9 16 ⟨some 33,_,_,_,_,_⟩ (.bool true) rfl ?_ hHeld ?_
  ·intro w hSw
   go_simp
  try simp only [Act.put,sa9,sb9,sc9]
  refine wpAnyH_done (by kernel_rfl) ?_ _
  have HF:=(Uh HFIN) W1 71 hB1
  clear HS HFST HFIN KT KT0 KW KM KP KPO HLK HF1 hB1 hHeld
  go_wp2
  go_ret
  exact HF
end Go.Proofs.YtdjpjgjhiibpkaaGreatDoor
