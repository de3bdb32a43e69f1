/- CcT77 -/
import Derived.Test.YtkbmhpinfmognaaGreatDoorW11
namespace Go.Proofs.YtkbmhpinfmognaaGreatDoor
open Go.RowKit
set_option maxRecDepth 20000 in
set_option maxHeartbeats 16000000 in
theorem wrong7 (l cs os : List Rec) (cv ov : Value) (mr i : Nat) (lo hi nn : Int) (tq : List Int) (nm ot : ByteArray) (wt : Nat) (vt : Value) (w : World) (hg : Glob w) (h : Idx l w cv ov cs os) (hs : Sk .i32 w vt tq) (hlo : ¬ lo < 128) (hlr : Rune lo) (hto2 : tq.length = 2) (hra : Rune (tq.getD 0 0)) (hrb : Rune (tq.getD 1 0)) (hp : PAt w mr (Cn.firstP l)) :
  Calls Tryz.prog 105 #[xV cv ov (.map (some mr)),.int .i64 (i : Int),recV (⟨7,lo,hi,nn,tq,nm,ot,wt⟩ : Rec) vt] w (IntB w (if (touches (⟨7,lo,hi,nn,tq,nm,ot,wt⟩ : Rec) || makes (tq.getD 0 0) (tq.getD 1 0)) = true then 71 else if Cn.wfull l lo ≠ 0 then Cn.wfull l lo else if (decide ((Cn.firstP l (tq.getD 0 0) (tq.getD 1 0)).getD 0 < (i : Int)) || Cn.wpair l lo (tq.getD 0 0) (tq.getD 1 0)) = true then 74 else 0)):=by
 obtain ⟨cao,ccap,rfl,_,_⟩:=h.rc.shape
 obtain ⟨oao,ocap,rfl,_,_⟩:=h.ro.shape
 obtain ⟨tb,toff,tcap,rfl,_,_,hcell⟩:=hs.place (by omega)
 have pp0:=hcell 0 (by omega)
 have pp1:=hcell 1 (by omega)
 rw [Nat.add_zero] at pp0
 have HSK : Hid (Sk .i32 w (.slice (some ⟨tb,toff,none⟩) 2 tcap) tq):=hto2 ▸ hs
 have hb0 : Below w.heap.size w ((w.alloc (.cells #[.slice cao cs.length ccap,.slice oao os.length ocap,.map (some mr)] 137)).alloc (.cells #[.int .i64 7,.int .i64 lo,.int .i64 hi,.int .i64 nn,.slice (some ⟨tb,toff,none⟩) 2 tcap,.string nm,.string ot,.float .f64 wt] 63)):=((Below.refl _ _).alloc (Nat.le_refl _) _).alloc (by simp) _
 have hs0 : ((w.alloc (.cells #[.slice cao cs.length ccap,.slice oao os.length ocap,.map (some mr)] 137)).alloc (.cells #[.int .i64 7,.int .i64 lo,.int .i64 hi,.int .i64 nn,.slice (some ⟨tb,toff,none⟩) 2 tcap,.string nm,.string ot,.float .f64 wt] 63)).heap.size = w.heap.size + 2:=by simp
 have hxh : ((w.alloc (.cells #[.slice cao cs.length ccap,.slice oao os.length ocap,.map (some mr)] 137)).alloc (.cells #[.int .i64 7,.int .i64 lo,.int .i64 hi,.int .i64 nn,.slice (some ⟨tb,toff,none⟩) 2 tcap,.string nm,.string ot,.float .f64 wt] 63)).heap[w.heap.size]? = some (.cells #[.slice cao cs.length ccap,.slice oao os.length ocap,.map (some mr)] 137 (0,0)):=by
  show ((w.heap.push _).push _)[w.heap.size]? = _
  rw [Array.getElem?_push,Array.getElem?_push]; simp
 have hrh : ((w.alloc (.cells #[.slice cao cs.length ccap,.slice oao os.length ocap,.map (some mr)] 137)).alloc (.cells #[.int .i64 7,.int .i64 lo,.int .i64 hi,.int .i64 nn,.slice (some ⟨tb,toff,none⟩) 2 tcap,.string nm,.string ot,.float .f64 wt] 63)).heap[w.heap.size + 1]? = some (.cells #[.int .i64 7,.int .i64 lo,.int .i64 hi,.int .i64 nn,.slice (some ⟨tb,toff,none⟩) 2 tcap,.string nm,.string ot,.float .f64 wt] 63 (0,0)):=by
  show ((w.heap.push _).push _)[w.heap.size + 1]? = _
  rw [Array.getElem?_push]; simp
 have HBW : Hid (∀ W : World,Below ((w.alloc (.cells #[.slice cao cs.length ccap,.slice oao os.length ocap,.map (some mr)] 137)).alloc (.cells #[.int .i64 7,.int .i64 lo,.int .i64 hi,.int .i64 nn,.slice (some ⟨tb,toff,none⟩) 2 tcap,.string nm,.string ot,.float .f64 wt] 63)).heap.size ((w.alloc (.cells #[.slice cao cs.length ccap,.slice oao os.length ocap,.map (some mr)] 137)).alloc (.cells #[.int .i64 7,.int .i64 lo,.int .i64 hi,.int .i64 nn,.slice (some ⟨tb,toff,none⟩) 2 tcap,.string nm,.string ot,.float .f64 wt] 63)) W → Below w.heap.size w W):=fun W hW => hb0.trans (hW.mono (by omega))
 have HS : Hid (∀ W : World,Below ((w.alloc (.cells #[.slice cao cs.length ccap,.slice oao os.length ocap,.map (some mr)] 137)).alloc (.cells #[.int .i64 7,.int .i64 lo,.int .i64 hi,.int .i64 nn,.slice (some ⟨tb,toff,none⟩) 2 tcap,.string nm,.string ot,.float .f64 wt] 63)).heap.size ((w.alloc (.cells #[.slice cao cs.length ccap,.slice oao os.length ocap,.map (some mr)] 137)).alloc (.cells #[.int .i64 7,.int .i64 lo,.int .i64 hi,.int .i64 nn,.slice (some ⟨tb,toff,none⟩) 2 tcap,.string nm,.string ot,.float .f64 wt] 63)) W → (W.cell? ⟨w.heap.size + 1,0,none⟩ = some (.int .i64 7) ∧ W.cell? ⟨w.heap.size + 1,1,none⟩ = some (.int .i64 lo) ∧ W.cell? ⟨w.heap.size + 1,2,none⟩ = some (.int .i64 hi) ∧ W.cell? ⟨w.heap.size + 1,3,none⟩ = some (.int .i64 nn) ∧ W.cell? ⟨w.heap.size + 1,4,none⟩ = some (.slice (some ⟨tb,toff,none⟩) 2 tcap) ∧ W.cell? ⟨w.heap.size + 1,5,none⟩ = some (.string nm) ∧ W.cell? ⟨w.heap.size + 1,6,none⟩ = some (.string ot) ∧ W.cell? ⟨w.heap.size + 1,7,none⟩ = some (.float .f64 wt) ∧ W.cell? ⟨w.heap.size,0,none⟩ = some (.slice cao cs.length ccap) ∧ W.cell? ⟨w.heap.size,1,none⟩ = some (.slice oao os.length ocap) ∧ W.cell? ⟨w.heap.size,2,none⟩ = some (.map (some mr)) ∧ W.cell? ⟨tb,toff,none⟩ = some (.int .i32 (tq.getD 0 0)) ∧ W.cell? ⟨tb,toff + 1,none⟩ = some (.int .i32 (tq.getD 1 0)) ∧ Hid (Below ((w.alloc (.cells #[.slice cao cs.length ccap,.slice oao os.length ocap,.map (some mr)] 137)).alloc (.cells #[.int .i64 7,.int .i64 lo,.int .i64 hi,.int .i64 nn,.slice (some ⟨tb,toff,none⟩) 2 tcap,.string nm,.string ot,.float .f64 wt] 63)).heap.size ((w.alloc (.cells #[.slice cao cs.length ccap,.slice oao os.length ocap,.map (some mr)] 137)).alloc (.cells #[.int .i64 7,.int .i64 lo,.int .i64 hi,.int .i64 nn,.slice (some ⟨tb,toff,none⟩) 2 tcap,.string nm,.string ot,.float .f64 wt] 63)) W))):=fun W hW => by
  have hx:=(hW.block (w.heap.size) (by omega)).trans hxh
  have hr:=(hW.block (w.heap.size + 1) (by omega)).trans hrh
  exact ⟨cell_of (j:=0) hr (by show 0 < 8; omega),cell_of (j:=1) hr (by show 1 < 8; omega),cell_of (j:=2) hr (by show 2 < 8; omega),cell_of (j:=3) hr (by show 3 < 8; omega),cell_of (j:=4) hr (by show 4 < 8; omega),cell_of (j:=5) hr (by show 5 < 8; omega),cell_of (j:=6) hr (by show 6 < 8; omega),cell_of (j:=7) hr (by show 7 < 8; omega),cell_of (j:=0) hx (by show 0 < 3; omega),cell_of (j:=1) hx (by show 1 < 3; omega),cell_of (j:=2) hx (by show 2 < 3; omega),by rw [((unhide HBW) W hW).cell (lt_of_cell? pp0)]; exact pp0,by rw [((unhide HBW) W hW).cell (lt_of_cell? pp0)]; exact pp1,hW⟩
 have KT : Hid (∀ W : World,Calls Tryz.prog 128 #[.agg #[.int .i64 7,.int .i64 lo,.int .i64 hi,.int .i64 nn,.slice (some ⟨tb,toff,none⟩) 2 tcap,.string nm,.string ot,.float .f64 wt]] W (BoolB W (touches (⟨7,lo,hi,nn,tq,nm,ot,wt⟩ : Rec)))):=fun W => touches_any (⟨7,lo,hi,nn,tq,nm,ot,wt⟩ : Rec) _ _ _ W
 have KW : Hid (∀ W : World,Below ((w.alloc (.cells #[.slice cao cs.length ccap,.slice oao os.length ocap,.map (some mr)] 137)).alloc (.cells #[.int .i64 7,.int .i64 lo,.int .i64 hi,.int .i64 nn,.slice (some ⟨tb,toff,none⟩) 2 tcap,.string nm,.string ot,.float .f64 wt] 63)).heap.size ((w.alloc (.cells #[.slice cao cs.length ccap,.slice oao os.length ocap,.map (some mr)] 137)).alloc (.cells #[.int .i64 7,.int .i64 lo,.int .i64 hi,.int .i64 nn,.slice (some ⟨tb,toff,none⟩) 2 tcap,.string nm,.string ot,.float .f64 wt] 63)) W → Calls Tryz.prog 130 #[.agg #[.slice cao cs.length ccap,.slice oao os.length ocap,.map (some mr)],.int .i32 lo] W (IntB W (Cn.wfull l lo))):=fun W hW => wfull_any l cs os _ _ mr lo W (hg.on ((unhide HBW) W hW)) (h.below ((unhide HBW) W hW)) hlr
 have hlw : IntKind.i32.wrap lo = lo:=by
  unfold Rune at hlr
  simp [IntKind.wrap,IntKind.bits,IntKind.signed]; omega
 have KM : Hid (∀ W : World,Calls Tryz.prog 129 #[.int .i32 (tq.getD 0 0),.int .i32 (tq.getD 1 0)] W (fun e w' => e = .returned (.bool (makes (tq.getD 0 0) (tq.getD 1 0))) ∧ w' = W)):=fun W => makes_any _ _ W
 have KPO : Hid (∀ W : World,Below ((w.alloc (.cells #[.slice cao cs.length ccap,.slice oao os.length ocap,.map (some mr)] 137)).alloc (.cells #[.int .i64 7,.int .i64 lo,.int .i64 hi,.int .i64 nn,.slice (some ⟨tb,toff,none⟩) 2 tcap,.string nm,.string ot,.float .f64 wt] 63)).heap.size ((w.alloc (.cells #[.slice cao cs.length ccap,.slice oao os.length ocap,.map (some mr)] 137)).alloc (.cells #[.int .i64 7,.int .i64 lo,.int .i64 hi,.int .i64 nn,.slice (some ⟨tb,toff,none⟩) 2 tcap,.string nm,.string ot,.float .f64 wt] 63)) W → Calls Tryz.prog 125 #[.agg #[.int .i64 7,.int .i64 lo,.int .i64 hi,.int .i64 nn,.slice (some ⟨tb,toff,none⟩) 2 tcap,.string nm,.string ot,.float .f64 wt]] W (fun e w' => e = .returned (pk2 (tq.getD 0 0) (tq.getD 1 0)) ∧ Below W.heap.size W w')):=fun W hW => pairOf_any (⟨7,lo,hi,nn,tq,nm,ot,wt⟩ : Rec) _ W ((unhide HSK).below ((unhide HBW) W hW)) hto2
 have KP : Hid (∀ W : World,Below ((w.alloc (.cells #[.slice cao cs.length ccap,.slice oao os.length ocap,.map (some mr)] 137)).alloc (.cells #[.int .i64 7,.int .i64 lo,.int .i64 hi,.int .i64 nn,.slice (some ⟨tb,toff,none⟩) 2 tcap,.string nm,.string ot,.float .f64 wt] 63)).heap.size ((w.alloc (.cells #[.slice cao cs.length ccap,.slice oao os.length ocap,.map (some mr)] 137)).alloc (.cells #[.int .i64 7,.int .i64 lo,.int .i64 hi,.int .i64 nn,.slice (some ⟨tb,toff,none⟩) 2 tcap,.string nm,.string ot,.float .f64 wt] 63)) W → Calls Tryz.prog 131 #[.agg #[.slice cao cs.length ccap,.slice oao os.length ocap,.map (some mr)],.int .i32 lo,.int .i32 (tq.getD 0 0),.int .i32 (tq.getD 1 0)] W (BoolB W (Cn.wpair l lo (tq.getD 0 0) (tq.getD 1 0)))):=fun W hW => wpair_any l cs os _ _ mr lo _ _ W (hg.on ((unhide HBW) W hW)) (h.below ((unhide HBW) W hW)) hlr hra hrb
 have HLK : Hid (∀ W : World,Below ((w.alloc (.cells #[.slice cao cs.length ccap,.slice oao os.length ocap,.map (some mr)] 137)).alloc (.cells #[.int .i64 7,.int .i64 lo,.int .i64 hi,.int .i64 nn,.slice (some ⟨tb,toff,none⟩) 2 tcap,.string nm,.string ot,.float .f64 wt] 63)).heap.size ((w.alloc (.cells #[.slice cao cs.length ccap,.slice oao os.length ocap,.map (some mr)] 137)).alloc (.cells #[.int .i64 7,.int .i64 lo,.int .i64 hi,.int .i64 nn,.slice (some ⟨tb,toff,none⟩) 2 tcap,.string nm,.string ot,.float .f64 wt] 63)) W → (Instr.lookup 135 (.map (some mr)) (pk2 (tq.getD 0 0) (tq.getD 1 0)) false).run Tryz.prog W = .ok (.int .i64 ((Cn.firstP l (tq.getD 0 0) (tq.getD 1 0)).getD 0)) W):=fun W hW => by
  obtain ⟨es,cl,q1,q2⟩:=hp
  exact (look_ok ⟨es,cl,by rw [((unhide HBW) W hW).block _ (heap_lt q1)]; exact q1,q2⟩ hra hrb).2
 have hd0 : Below ((w.alloc (.cells #[.slice cao cs.length ccap,.slice oao os.length ocap,.map (some mr)] 137)).alloc (.cells #[.int .i64 7,.int .i64 lo,.int .i64 hi,.int .i64 nn,.slice (some ⟨tb,toff,none⟩) 2 tcap,.string nm,.string ot,.float .f64 wt] 63)).heap.size ((w.alloc (.cells #[.slice cao cs.length ccap,.slice oao os.length ocap,.map (some mr)] 137)).alloc (.cells #[.int .i64 7,.int .i64 lo,.int .i64 hi,.int .i64 nn,.slice (some ⟨tb,toff,none⟩) 2 tcap,.string nm,.string ot,.float .f64 wt] 63)) ((w.alloc (.cells #[.slice cao cs.length ccap,.slice oao os.length ocap,.map (some mr)] 137)).alloc (.cells #[.int .i64 7,.int .i64 lo,.int .i64 hi,.int .i64 nn,.slice (some ⟨tb,toff,none⟩) 2 tcap,.string nm,.string ot,.float .f64 wt] 63)).drew:=drewB ⟨1,rfl⟩
 have HFST:=hide ((unhide HS) _ hd0)
 have HFIN : Hid (∀ W z,Below ((w.alloc (.cells #[.slice cao cs.length ccap,.slice oao os.length ocap,.map (some mr)] 137)).alloc (.cells #[.int .i64 7,.int .i64 lo,.int .i64 hi,.int .i64 nn,.slice (some ⟨tb,toff,none⟩) 2 tcap,.string nm,.string ot,.float .f64 wt] 63)).heap.size ((w.alloc (.cells #[.slice cao cs.length ccap,.slice oao os.length ocap,.map (some mr)] 137)).alloc (.cells #[.int .i64 7,.int .i64 lo,.int .i64 hi,.int .i64 nn,.slice (some ⟨tb,toff,none⟩) 2 tcap,.string nm,.string ot,.float .f64 wt] 63)) W → IntB w z (.returned (.int .i64 z)) W):=fun W z hW => ⟨rfl,(unhide HBW) W hW⟩
 have KT0:=hide ((unhide KT) ((w.alloc (.cells #[.slice cao cs.length ccap,.slice oao os.length ocap,.map (some mr)] 137)).alloc (.cells #[.int .i64 7,.int .i64 lo,.int .i64 hi,.int .i64 nn,.slice (some ⟨tb,toff,none⟩) 2 tcap,.string nm,.string ot,.float .f64 wt] 63)).drew)
 rw [hto2]
 clear hto2 hs hp hra hrb hcell pp0 pp1 HSK
 generalize Cn.wpair l lo (tq.getD 0 0) (tq.getD 1 0) = wp at *
 generalize (Cn.firstP l (tq.getD 0 0) (tq.getD 1 0)).getD 0 = fp at *
 generalize makes (tq.getD 0 0) (tq.getD 1 0) = mk at *
 generalize tq.getD 0 0 = pa at *
 generalize tq.getD 1 0 = pb at *
 unfold pk2 at *
 generalize touches (⟨7,lo,hi,nn,tq,nm,ot,wt⟩ : Rec) = tc at *
 generalize Cn.wfull l lo = wf at *
 unfold xV recV
 clear hxh hrh hb0 h hg
 cases tc
 ·rw [Bool.false_or]
  cases mk
  ·rw [if_neg (by decide)]
   obtain ⟨R,hR⟩ : ∃ R,(if wf ≠ 0 then wf else if (decide (fp < (i : Int)) || wp) = true then 74 else 0) = R:=⟨_,rfl⟩
   rw [hR]
   have HR:=hide hR
   clear hR
   go_enter Tryz.func105,Tryz.ntmps105
   go_wp2
   refine wp_region_held_drew (S:=fun w' => w'.cell? ⟨w.heap.size + 1,0,none⟩ = some (.int .i64 7) ∧ w'.cell? ⟨w.heap.size + 1,1,none⟩ = some (.int .i64 lo) ∧ w'.cell? ⟨w.heap.size + 1,2,none⟩ = some (.int .i64 hi) ∧ w'.cell? ⟨w.heap.size + 1,3,none⟩ = some (.int .i64 nn) ∧ w'.cell? ⟨w.heap.size + 1,4,none⟩ = some (.slice (some ⟨tb,toff,none⟩) 2 tcap) ∧ w'.cell? ⟨w.heap.size + 1,5,none⟩ = some (.string nm) ∧ w'.cell? ⟨w.heap.size + 1,6,none⟩ = some (.string ot) ∧ w'.cell? ⟨w.heap.size + 1,7,none⟩ = some (.float .f64 wt) ∧ w'.cell? ⟨w.heap.size,0,none⟩ = some (.slice cao cs.length ccap) ∧ w'.cell? ⟨w.heap.size,1,none⟩ = some (.slice oao os.length ocap) ∧ w'.cell? ⟨w.heap.size,2,none⟩ = some (.map (some mr)) ∧ w'.cell? ⟨tb,toff,none⟩ = some (.int .i32 pa) ∧ w'.cell? ⟨tb,toff + 1,none⟩ = some (.int .i32 pb) ∧ Hid (Below ((w.alloc (.cells #[.slice cao cs.length ccap,.slice oao os.length ocap,.map (some mr)] 137)).alloc (.cells #[.int .i64 7,.int .i64 lo,.int .i64 hi,.int .i64 nn,.slice (some ⟨tb,toff,none⟩) 2 tcap,.string nm,.string ot,.float .f64 wt] 63)).heap.size ((w.alloc (.cells #[.slice cao cs.length ccap,.slice oao os.length ocap,.map (some mr)] 137)).alloc (.cells #[.int .i64 7,.int .i64 lo,.int .i64 hi,.int .i64 nn,.slice (some ⟨tb,toff,none⟩) 2 tcap,.string nm,.string ot,.float .f64 wt] 63)) w')) (by kernel_rfl) (unhide HFST) (fun hHeld => ?_)
   refine wpAnyH_take (i:=0) (oi:=⟨some 34,_,_,_,_,_⟩) (v:=.agg #[.int .i64 7,.int .i64 lo,.int .i64 hi,.int .i64 nn,.slice (some ⟨tb,toff,none⟩) 2 tcap,.string nm,.string ot,.float .f64 wt]) rfl (by kernel_rfl) (by kernel_rfl) (by kernel_rfl) (fun _ _ _ h => h) (Or.inl ⟨by rfl,?_⟩) hHeld ?_
   ·intro w hSw
    obtain ⟨s0,s1,s2,s3,s4,s5,s6,s7,s8,s9,s10,s11,s12,s13⟩:=hSw; go_simp
   try simp only [Act.put,sa9,sb9,sc9]
   refine wpAnyH_ready (rs:=[1]) (by kernel_rfl) (by simp) ?_
   refine AllReadyH.cons (o:=⟨some 35,_,_,_,_,_⟩) rfl (fun K hK => ?_) AllReadyH.nil
   go_simp
   refine (unhide KT0).mono ?_
   rintro e W1 ⟨rfl,hb1⟩
   have hB1 : Below ((w.alloc (.cells #[.slice cao cs.length ccap,.slice oao os.length ocap,.map (some mr)] 137)).alloc (.cells #[.int .i64 7,.int .i64 lo,.int .i64 hi,.int .i64 nn,.slice (some ⟨tb,toff,none⟩) 2 tcap,.string nm,.string ot,.float .f64 wt] 63)).heap.size ((w.alloc (.cells #[.slice cao cs.length ccap,.slice oao os.length ocap,.map (some mr)] 137)).alloc (.cells #[.int .i64 7,.int .i64 lo,.int .i64 hi,.int .i64 nn,.slice (some ⟨tb,toff,none⟩) 2 tcap,.string nm,.string ot,.float .f64 wt] 63)) W1:=bthen hd0 hb1
   have HF1:=hide ((unhide HS) W1 hB1)
   refine hK.out _ _ ?_ (fun hHeld => ?_)
   ·exact unhide HF1
   clear hK K
   try simp only [Act.put,sa9,sb9,sc9]
   refine wpAnyH_take (i:=2) (oi:=⟨some 36,_,_,_,_,_⟩) (v:=.bool false) rfl (by kernel_rfl) (by kernel_rfl) (by kernel_rfl) (fun _ _ _ h => h) (Or.inl ⟨by rfl,?_⟩) hHeld ?_
   ·intro w hSw
    go_simp
   try simp only [Act.put,sa9,sb9,sc9]
   refine wpAnyH_take (i:=3) (oi:=⟨some 37,_,_,_,_,_⟩) (v:=.bool true) rfl (by kernel_rfl) (by kernel_rfl) (by kernel_rfl) (fun _ _ _ h => h) (Or.inl ⟨by rfl,?_⟩) hHeld ?_
   ·intro w hSw
    go_simp
   try simp only [Act.put,sa9,sb9,sc9]
   refine wpAnyH_take (i:=4) (oi:=⟨some 38,_,_,_,_,_⟩) (v:=.bool true) rfl (by kernel_rfl) (by kernel_rfl) (by kernel_rfl) (fun _ _ _ h => h) (Or.inl ⟨by rfl,?_⟩) hHeld ?_
   ·intro w hSw
    go_simp
   try simp only [Act.put,sa9,sb9,sc9]
   refine wpAnyH_take (i:=5) (oi:=⟨some 39,_,_,_,_,_⟩) (v:=.pointer (some ⟨w.heap.size + 1,4,none⟩)) rfl (by kernel_rfl) (by kernel_rfl) (by kernel_rfl) (fun _ _ _ h => h) (Or.inl ⟨by rfl,?_⟩) hHeld ?_
   ·intro w hSw
    obtain ⟨s0,s1,s2,s3,s4,s5,s6,s7,s8,s9,s10,s11,s12,s13⟩:=hSw; go_simp
   try simp only [Act.put,sa9,sb9,sc9]
   refine wpAnyH_take (i:=6) (oi:=⟨some 40,_,_,_,_,_⟩) (v:=.slice (some ⟨tb,toff,none⟩) 2 tcap) rfl (by kernel_rfl) (by kernel_rfl) (by kernel_rfl) (fun _ _ _ h => h) (Or.inl ⟨by rfl,?_⟩) hHeld ?_
   ·intro w hSw
    obtain ⟨s0,s1,s2,s3,s4,s5,s6,s7,s8,s9,s10,s11,s12,s13⟩:=hSw; go_simp
   try simp only [Act.put,sa9,sb9,sc9]
   refine wpAnyH_take (i:=7) (oi:=⟨some 41,_,_,_,_,_⟩) (v:=.pointer (some ⟨tb,toff,none⟩)) rfl (by kernel_rfl) (by kernel_rfl) (by kernel_rfl) (fun _ _ _ h => h) (Or.inl ⟨by rfl,?_⟩) hHeld ?_
   ·intro w hSw
    obtain ⟨s0,s1,s2,s3,s4,s5,s6,s7,s8,s9,s10,s11,s12,s13⟩:=hSw; go_simp
   try simp only [Act.put,sa9,sb9,sc9]
   refine wpAnyH_take (i:=8) (oi:=⟨some 42,_,_,_,_,_⟩) (v:=.int .i32 pa) rfl (by kernel_rfl) (by kernel_rfl) (by kernel_rfl) (fun _ _ _ h => h) (Or.inl ⟨by rfl,?_⟩) hHeld ?_
   ·intro w hSw
    obtain ⟨s0,s1,s2,s3,s4,s5,s6,s7,s8,s9,s10,s11,s12,s13⟩:=hSw; go_simp
   try simp only [Act.put,sa9,sb9,sc9]
   refine wpAnyH_take (i:=9) (oi:=⟨some 43,_,_,_,_,_⟩) (v:=.pointer (some ⟨w.heap.size + 1,4,none⟩)) rfl (by kernel_rfl) (by kernel_rfl) (by kernel_rfl) (fun _ _ _ h => h) (Or.inl ⟨by rfl,?_⟩) hHeld ?_
   ·intro w hSw
    obtain ⟨s0,s1,s2,s3,s4,s5,s6,s7,s8,s9,s10,s11,s12,s13⟩:=hSw; go_simp
   try simp only [Act.put,sa9,sb9,sc9]
   refine wpAnyH_take (i:=10) (oi:=⟨some 44,_,_,_,_,_⟩) (v:=.slice (some ⟨tb,toff,none⟩) 2 tcap) rfl (by kernel_rfl) (by kernel_rfl) (by kernel_rfl) (fun _ _ _ h => h) (Or.inl ⟨by rfl,?_⟩) hHeld ?_
   ·intro w hSw
    obtain ⟨s0,s1,s2,s3,s4,s5,s6,s7,s8,s9,s10,s11,s12,s13⟩:=hSw; go_simp
   try simp only [Act.put,sa9,sb9,sc9]
   refine wpAnyH_take (i:=11) (oi:=⟨some 45,_,_,_,_,_⟩) (v:=.pointer (some ⟨tb,toff + 1,none⟩)) rfl (by kernel_rfl) (by kernel_rfl) (by kernel_rfl) (fun _ _ _ h => h) (Or.inl ⟨by rfl,?_⟩) hHeld ?_
   ·intro w hSw
    obtain ⟨s0,s1,s2,s3,s4,s5,s6,s7,s8,s9,s10,s11,s12,s13⟩:=hSw; go_simp
   try simp only [Act.put,sa9,sb9,sc9]
   refine wpAnyH_take (i:=12) (oi:=⟨some 46,_,_,_,_,_⟩) (v:=.int .i32 pb) rfl (by kernel_rfl) (by kernel_rfl) (by kernel_rfl) (fun _ _ _ h => h) (Or.inl ⟨by rfl,?_⟩) hHeld ?_
   ·intro w hSw
    obtain ⟨s0,s1,s2,s3,s4,s5,s6,s7,s8,s9,s10,s11,s12,s13⟩:=hSw; go_simp
   try simp only [Act.put,sa9,sb9,sc9]
   refine wpAnyH_ready (rs:=[13]) (by kernel_rfl) (by simp) ?_
   refine AllReadyH.cons (o:=⟨some 47,_,_,_,_,_⟩) rfl (fun K hK => ?_) AllReadyH.nil
   go_simp
   refine ((unhide KM) _).mono ?_
   rintro e W1' ⟨rfl,hw1'⟩
   subst W1'
   refine hK.out _ _ ?_ (fun hHeld => ?_)
   ·exact unhide HF1
   clear hK K
   try simp only [Act.put,sa9,sb9,sc9]
   refine wpAnyH_take (i:=14) (oi:=⟨some 48,_,_,_,_,_⟩) (v:=.bool false) rfl (by kernel_rfl) (by kernel_rfl) (by kernel_rfl) (fun _ _ _ h => h) (Or.inl ⟨by rfl,?_⟩) hHeld ?_
   ·intro w hSw
    go_simp
   try simp only [Act.put,sa9,sb9,sc9]
   refine wpAnyH_take (i:=15) (oi:=⟨some 49,_,_,_,_,_⟩) (v:=.bool false) rfl (by kernel_rfl) (by kernel_rfl) (by kernel_rfl) (fun _ _ _ h => h) (Or.inl ⟨by rfl,?_⟩) hHeld ?_
   ·intro w hSw
    go_simp
   try simp only [Act.put,sa9,sb9,sc9]
   refine wpAnyH_take (i:=16) (oi:=⟨some 33,_,_,_,_,_⟩) (v:=.bool false) rfl (by kernel_rfl) (by kernel_rfl) (by kernel_rfl) (fun _ _ _ h => h) (Or.inl ⟨by rfl,?_⟩) hHeld ?_
   ·intro w hSw
    go_simp
   try simp only [Act.put,sa9,sb9,sc9]
   refine wpAnyH_done (by kernel_rfl) ?_ _
   obtain ⟨q0,q1,q2,q3,q4,q5,q6,q7,q8,q9,q10,q11,q12,q13⟩:=unhide HF1
   have K2:=hide ((unhide KW) W1 hB1)
   clear HF1 HFST KT KT0 KW KM hHeld
   go_wp2_with fail
   refine (unhide K2).mono ?_
   rintro e W2 ⟨rfl,hb2⟩
   have hB2:=bthen hB1 hb2
   clear K2 hb2 q0 q1 q2 q3 q4 q5 q6 q7 q8 q9 q10 q11 q12 q13
   by_cases hz : wf = 0
   ·subst hz
    have hd2 : Below ((w.alloc (.cells #[.slice cao cs.length ccap,.slice oao os.length ocap,.map (some mr)] 137)).alloc (.cells #[.int .i64 7,.int .i64 lo,.int .i64 hi,.int .i64 nn,.slice (some ⟨tb,toff,none⟩) 2 tcap,.string nm,.string ot,.float .f64 wt] 63)).heap.size ((w.alloc (.cells #[.slice cao cs.length ccap,.slice oao os.length ocap,.map (some mr)] 137)).alloc (.cells #[.int .i64 7,.int .i64 lo,.int .i64 hi,.int .i64 nn,.slice (some ⟨tb,toff,none⟩) 2 tcap,.string nm,.string ot,.float .f64 wt] 63)) W2.drew:=bthen hB2 (drewB ⟨1,rfl⟩)
    have HFST:=hide ((unhide HS) _ hd2)
    have K3:=hide ((unhide KPO) _ hd2)
    go_wp2
    refine wp_region_held_drew (S:=fun w' => w'.cell? ⟨w.heap.size + 1,0,none⟩ = some (.int .i64 7) ∧ w'.cell? ⟨w.heap.size + 1,1,none⟩ = some (.int .i64 lo) ∧ w'.cell? ⟨w.heap.size + 1,2,none⟩ = some (.int .i64 hi) ∧ w'.cell? ⟨w.heap.size + 1,3,none⟩ = some (.int .i64 nn) ∧ w'.cell? ⟨w.heap.size + 1,4,none⟩ = some (.slice (some ⟨tb,toff,none⟩) 2 tcap) ∧ w'.cell? ⟨w.heap.size + 1,5,none⟩ = some (.string nm) ∧ w'.cell? ⟨w.heap.size + 1,6,none⟩ = some (.string ot) ∧ w'.cell? ⟨w.heap.size + 1,7,none⟩ = some (.float .f64 wt) ∧ w'.cell? ⟨w.heap.size,0,none⟩ = some (.slice cao cs.length ccap) ∧ w'.cell? ⟨w.heap.size,1,none⟩ = some (.slice oao os.length ocap) ∧ w'.cell? ⟨w.heap.size,2,none⟩ = some (.map (some mr)) ∧ w'.cell? ⟨tb,toff,none⟩ = some (.int .i32 pa) ∧ w'.cell? ⟨tb,toff + 1,none⟩ = some (.int .i32 pb) ∧ Hid (Below ((w.alloc (.cells #[.slice cao cs.length ccap,.slice oao os.length ocap,.map (some mr)] 137)).alloc (.cells #[.int .i64 7,.int .i64 lo,.int .i64 hi,.int .i64 nn,.slice (some ⟨tb,toff,none⟩) 2 tcap,.string nm,.string ot,.float .f64 wt] 63)).heap.size ((w.alloc (.cells #[.slice cao cs.length ccap,.slice oao os.length ocap,.map (some mr)] 137)).alloc (.cells #[.int .i64 7,.int .i64 lo,.int .i64 hi,.int .i64 nn,.slice (some ⟨tb,toff,none⟩) 2 tcap,.string nm,.string ot,.float .f64 wt] 63)) w')) (by kernel_rfl) (unhide HFST) (fun hHeld => ?_)
    refine wpAnyH_take (i:=0) (oi:=⟨some 59,_,_,_,_,_⟩) (v:=.bool true) rfl (by kernel_rfl) (by kernel_rfl) (by kernel_rfl) (fun _ _ _ h => h) (Or.inl ⟨by rfl,?_⟩) hHeld ?_
    ·intro w hSw
     go_simp
    try simp only [Act.put,sa9,sb9,sc9]
    refine wpAnyH_take (i:=1) (oi:=⟨some 60,_,_,_,_,_⟩) (v:=.bool true) rfl (by kernel_rfl) (by kernel_rfl) (by kernel_rfl) (fun _ _ _ h => h) (Or.inl ⟨by rfl,?_⟩) hHeld ?_
    ·intro w hSw
     go_simp
    try simp only [Act.put,sa9,sb9,sc9]
    refine wpAnyH_take (i:=2) (oi:=⟨some 61,_,_,_,_,_⟩) (v:=.pointer (some ⟨w.heap.size,2,none⟩)) rfl (by kernel_rfl) (by kernel_rfl) (by kernel_rfl) (fun _ _ _ h => h) (Or.inl ⟨by rfl,?_⟩) hHeld ?_
    ·intro w hSw
     obtain ⟨s0,s1,s2,s3,s4,s5,s6,s7,s8,s9,s10,s11,s12,s13⟩:=hSw; go_simp
    try simp only [Act.put,sa9,sb9,sc9]
    refine wpAnyH_take (i:=3) (oi:=⟨some 62,_,_,_,_,_⟩) (v:=.map (some mr)) rfl (by kernel_rfl) (by kernel_rfl) (by kernel_rfl) (fun _ _ _ h => h) (Or.inl ⟨by rfl,?_⟩) hHeld ?_
    ·intro w hSw
     obtain ⟨s0,s1,s2,s3,s4,s5,s6,s7,s8,s9,s10,s11,s12,s13⟩:=hSw; go_simp
    try simp only [Act.put,sa9,sb9,sc9]
    refine wpAnyH_take (i:=4) (oi:=⟨some 63,_,_,_,_,_⟩) (v:=.agg #[.int .i64 7,.int .i64 lo,.int .i64 hi,.int .i64 nn,.slice (some ⟨tb,toff,none⟩) 2 tcap,.string nm,.string ot,.float .f64 wt]) rfl (by kernel_rfl) (by kernel_rfl) (by kernel_rfl) (fun _ _ _ h => h) (Or.inl ⟨by rfl,?_⟩) hHeld ?_
    ·intro w hSw
     obtain ⟨s0,s1,s2,s3,s4,s5,s6,s7,s8,s9,s10,s11,s12,s13⟩:=hSw; go_simp
    try simp only [Act.put,sa9,sb9,sc9]
    refine wpAnyH_take (i:=7) (oi:=⟨some 66,_,_,_,_,_⟩) (v:=.int .i64 (i : Int)) rfl (by kernel_rfl) (by kernel_rfl) (by kernel_rfl) (fun _ _ _ h => h) (Or.inl ⟨by rfl,?_⟩) hHeld ?_
    ·intro w hSw
     go_simp
    try simp only [Act.put,sa9,sb9,sc9]
    refine wpAnyH_ready (rs:=[5]) (by kernel_rfl) (by simp) ?_
    refine AllReadyH.cons (o:=⟨some 64,_,_,_,_,_⟩) rfl (fun K hK => ?_) AllReadyH.nil
    go_simp
    refine (unhide K3).mono ?_
    rintro e W3 ⟨rfl,hb3⟩
    have hB3 : Below ((w.alloc (.cells #[.slice cao cs.length ccap,.slice oao os.length ocap,.map (some mr)] 137)).alloc (.cells #[.int .i64 7,.int .i64 lo,.int .i64 hi,.int .i64 nn,.slice (some ⟨tb,toff,none⟩) 2 tcap,.string nm,.string ot,.float .f64 wt] 63)).heap.size ((w.alloc (.cells #[.slice cao cs.length ccap,.slice oao os.length ocap,.map (some mr)] 137)).alloc (.cells #[.int .i64 7,.int .i64 lo,.int .i64 hi,.int .i64 nn,.slice (some ⟨tb,toff,none⟩) 2 tcap,.string nm,.string ot,.float .f64 wt] 63)) W3:=bthen hd2 hb3
    have HF3:=hide ((unhide HS) W3 hB3)
    refine hK.out _ _ ?_ (fun hHeld => ?_)
    ·exact unhide HF3
    clear hK K
    try simp only [Act.put,sa9,sb9,sc9]
    refine wpAnyH_take (i:=6) (oi:=⟨some 65,_,_,_,_,_⟩) (v:=.int .i64 fp) rfl (by kernel_rfl) (by kernel_rfl) (by kernel_rfl) (fun _ _ _ h => h) (Or.inl ⟨by rfl,?_⟩) hHeld ?_
    ·intro w hSw
     obtain ⟨s0,s1,s2,s3,s4,s5,s6,s7,s8,s9,s10,s11,s12,s13⟩:=hSw; have hlk:=(unhide HLK) _ (unhide s13); go_simp
    try simp only [Act.put,sa9,sb9,sc9]
    refine wpAnyH_take (i:=8) (oi:=⟨some 67,_,_,_,_,_⟩) (v:=.bool (decide (fp < (i : Int)))) rfl (by kernel_rfl) (by kernel_rfl) (by kernel_rfl) (fun _ _ _ h => h) (Or.inl ⟨by rfl,?_⟩) hHeld ?_
    ·intro w hSw
     go_simp
    try simp only [Act.put,sa9,sb9,sc9]
    refine wpAnyH_take (i:=9) (oi:=⟨some 68,_,_,_,_,_⟩) (v:=.bool (decide (fp < (i : Int)))) rfl (by kernel_rfl) (by kernel_rfl) (by kernel_rfl) (fun _ _ _ h => h) (Or.inl ⟨by rfl,?_⟩) hHeld ?_
    ·intro w hSw
     go_simp
    try simp only [Act.put,sa9,sb9,sc9]
    by_cases hlt : fp < (i : Int)
    ·have hdt : decide (fp < (i : Int)) = true:=decide_eq_true hlt
     obtain rfl : R = 74:=by
      rw [← unhide HR,hdt]; simp
     rw [hdt]
     refine wpAnyH_take (i:=10) (oi:=⟨some 69,_,_,_,_,_⟩) (v:=undef) rfl (by kernel_rfl) (by kernel_rfl) (by kernel_rfl) (fun _ _ _ h => h) (Or.inr ⟨by rfl,rfl⟩) hHeld ?_
     try simp only [Act.put,sa9,sb9,sc9]
     refine wpAnyH_take (i:=11) (oi:=⟨some 70,_,_,_,_,_⟩) (v:=undef) rfl (by kernel_rfl) (by kernel_rfl) (by kernel_rfl) (fun _ _ _ h => h) (Or.inr ⟨by rfl,rfl⟩) hHeld ?_
     try simp only [Act.put,sa9,sb9,sc9]
     refine wpAnyH_take (i:=12) (oi:=⟨some 71,_,_,_,_,_⟩) (v:=undef) rfl (by kernel_rfl) (by kernel_rfl) (by kernel_rfl) (fun _ _ _ h => h) (Or.inr ⟨by rfl,rfl⟩) hHeld ?_
     try simp only [Act.put,sa9,sb9,sc9]
     refine wpAnyH_take (i:=13) (oi:=⟨some 72,_,_,_,_,_⟩) (v:=undef) rfl (by kernel_rfl) (by kernel_rfl) (by kernel_rfl) (fun _ _ _ h => h) (Or.inr ⟨by rfl,rfl⟩) hHeld ?_
     try simp only [Act.put,sa9,sb9,sc9]
     refine wpAnyH_take (i:=14) (oi:=⟨some 73,_,_,_,_,_⟩) (v:=undef) rfl (by kernel_rfl) (by kernel_rfl) (by kernel_rfl) (fun _ _ _ h => h) (Or.inr ⟨by rfl,rfl⟩) hHeld ?_
     try simp only [Act.put,sa9,sb9,sc9]
     refine wpAnyH_take (i:=15) (oi:=⟨some 74,_,_,_,_,_⟩) (v:=undef) rfl (by kernel_rfl) (by kernel_rfl) (by kernel_rfl) (fun _ _ _ h => h) (Or.inr ⟨by rfl,rfl⟩) hHeld ?_
     try simp only [Act.put,sa9,sb9,sc9]
     refine wpAnyH_take (i:=16) (oi:=⟨some 75,_,_,_,_,_⟩) (v:=undef) rfl (by kernel_rfl) (by kernel_rfl) (by kernel_rfl) (fun _ _ _ h => h) (Or.inr ⟨by rfl,rfl⟩) hHeld ?_
     try simp only [Act.put,sa9,sb9,sc9]
     refine wpAnyH_take (i:=17) (oi:=⟨some 76,_,_,_,_,_⟩) (v:=undef) rfl (by kernel_rfl) (by kernel_rfl) (by kernel_rfl) (fun _ _ _ h => h) (Or.inr ⟨by rfl,rfl⟩) hHeld ?_
     try simp only [Act.put,sa9,sb9,sc9]
     refine wpAnyH_take (i:=18) (oi:=⟨some 77,_,_,_,_,_⟩) (v:=undef) rfl (by kernel_rfl) (by kernel_rfl) (by kernel_rfl) (fun _ _ _ h => h) (Or.inr ⟨by rfl,rfl⟩) hHeld ?_
     try simp only [Act.put,sa9,sb9,sc9]
     refine wpAnyH_take (i:=19) (oi:=⟨some 78,_,_,_,_,_⟩) (v:=undef) rfl (by kernel_rfl) (by kernel_rfl) (by kernel_rfl) (fun _ _ _ h => h) (Or.inr ⟨by rfl,rfl⟩) hHeld ?_
     try simp only [Act.put,sa9,sb9,sc9]
     refine wpAnyH_take (i:=20) (oi:=⟨some 79,_,_,_,_,_⟩) (v:=undef) rfl (by kernel_rfl) (by kernel_rfl) (by kernel_rfl) (fun _ _ _ h => h) (Or.inr ⟨by rfl,rfl⟩) hHeld ?_
     try simp only [Act.put,sa9,sb9,sc9]
     refine wpAnyH_take (i:=21) (oi:=⟨some 80,_,_,_,_,_⟩) (v:=undef) rfl (by kernel_rfl) (by kernel_rfl) (by kernel_rfl) (fun _ _ _ h => h) (Or.inr ⟨by rfl,rfl⟩) hHeld ?_
     try simp only [Act.put,sa9,sb9,sc9]
     refine wpAnyH_take (i:=22) (oi:=⟨some 81,_,_,_,_,_⟩) (v:=undef) rfl (by kernel_rfl) (by kernel_rfl) (by kernel_rfl) (fun _ _ _ h => h) (Or.inr ⟨by rfl,rfl⟩) hHeld ?_
     try simp only [Act.put,sa9,sb9,sc9]
     refine wpAnyH_take (i:=23) (oi:=⟨some 82,_,_,_,_,_⟩) (v:=.bool true) rfl (by kernel_rfl) (by kernel_rfl) (by kernel_rfl) (fun _ _ _ h => h) (Or.inl ⟨by rfl,?_⟩) hHeld ?_
     ·intro w hSw
      go_simp
     try simp only [Act.put,sa9,sb9,sc9]
     refine wpAnyH_take (i:=24) (oi:=⟨some 83,_,_,_,_,_⟩) (v:=.bool true) rfl (by kernel_rfl) (by kernel_rfl) (by kernel_rfl) (fun _ _ _ h => h) (Or.inl ⟨by rfl,?_⟩) hHeld ?_
     ·intro w hSw
      go_simp
     try simp only [Act.put,sa9,sb9,sc9]
     refine wpAnyH_done (by kernel_rfl) ?_ _
     have HF:=(unhide HFIN) W3 74 hB3
     clear HS HFST HFIN K3 HF3 hB3 hHeld HR HLK KP KPO hB2 hd2 hB1
     go_wp2
     go_ret
     exact HF
    ·have hdf : decide (fp < (i : Int)) = false:=decide_eq_false hlt
     rw [hdf]
     have K4:=hide ((unhide KP) W3 hB3)
     refine wpAnyH_take (i:=10) (oi:=⟨some 69,_,_,_,_,_⟩) (v:=.agg #[.slice cao cs.length ccap,.slice oao os.length ocap,.map (some mr)]) rfl (by kernel_rfl) (by kernel_rfl) (by kernel_rfl) (fun _ _ _ h => h) (Or.inl ⟨by rfl,?_⟩) hHeld ?_
     ·intro w hSw
      obtain ⟨s0,s1,s2,s3,s4,s5,s6,s7,s8,s9,s10,s11,s12,s13⟩:=hSw; go_simp
     try simp only [Act.put,sa9,sb9,sc9]
     refine wpAnyH_take (i:=11) (oi:=⟨some 70,_,_,_,_,_⟩) (v:=.pointer (some ⟨w.heap.size + 1,1,none⟩)) rfl (by kernel_rfl) (by kernel_rfl) (by kernel_rfl) (fun _ _ _ h => h) (Or.inl ⟨by rfl,?_⟩) hHeld ?_
     ·intro w hSw
      obtain ⟨s0,s1,s2,s3,s4,s5,s6,s7,s8,s9,s10,s11,s12,s13⟩:=hSw; go_simp
     try simp only [Act.put,sa9,sb9,sc9]
     refine wpAnyH_take (i:=12) (oi:=⟨some 71,_,_,_,_,_⟩) (v:=.int .i64 lo) rfl (by kernel_rfl) (by kernel_rfl) (by kernel_rfl) (fun _ _ _ h => h) (Or.inl ⟨by rfl,?_⟩) hHeld ?_
     ·intro w hSw
      obtain ⟨s0,s1,s2,s3,s4,s5,s6,s7,s8,s9,s10,s11,s12,s13⟩:=hSw; go_simp
     try simp only [Act.put,sa9,sb9,sc9]
     refine wpAnyH_take (i:=13) (oi:=⟨some 72,_,_,_,_,_⟩) (v:=.int .i32 lo) rfl (by kernel_rfl) (by kernel_rfl) (by kernel_rfl) (fun _ _ _ h => h) (Or.inl ⟨by rfl,?_⟩) hHeld ?_
     ·intro w hSw
      obtain ⟨s0,s1,s2,s3,s4,s5,s6,s7,s8,s9,s10,s11,s12,s13⟩:=hSw; go_simp
     try simp only [Act.put,sa9,sb9,sc9]
     refine wpAnyH_take (i:=14) (oi:=⟨some 73,_,_,_,_,_⟩) (v:=.pointer (some ⟨w.heap.size + 1,4,none⟩)) rfl (by kernel_rfl) (by kernel_rfl) (by kernel_rfl) (fun _ _ _ h => h) (Or.inl ⟨by rfl,?_⟩) hHeld ?_
     ·intro w hSw
      obtain ⟨s0,s1,s2,s3,s4,s5,s6,s7,s8,s9,s10,s11,s12,s13⟩:=hSw; go_simp
     try simp only [Act.put,sa9,sb9,sc9]
     refine wpAnyH_take (i:=15) (oi:=⟨some 74,_,_,_,_,_⟩) (v:=.slice (some ⟨tb,toff,none⟩) 2 tcap) rfl (by kernel_rfl) (by kernel_rfl) (by kernel_rfl) (fun _ _ _ h => h) (Or.inl ⟨by rfl,?_⟩) hHeld ?_
     ·intro w hSw
      obtain ⟨s0,s1,s2,s3,s4,s5,s6,s7,s8,s9,s10,s11,s12,s13⟩:=hSw; go_simp
     try simp only [Act.put,sa9,sb9,sc9]
     refine wpAnyH_take (i:=16) (oi:=⟨some 75,_,_,_,_,_⟩) (v:=.pointer (some ⟨tb,toff,none⟩)) rfl (by kernel_rfl) (by kernel_rfl) (by kernel_rfl) (fun _ _ _ h => h) (Or.inl ⟨by rfl,?_⟩) hHeld ?_
     ·intro w hSw
      obtain ⟨s0,s1,s2,s3,s4,s5,s6,s7,s8,s9,s10,s11,s12,s13⟩:=hSw; go_simp
     try simp only [Act.put,sa9,sb9,sc9]
     refine wpAnyH_take (i:=17) (oi:=⟨some 76,_,_,_,_,_⟩) (v:=.int .i32 pa) rfl (by kernel_rfl) (by kernel_rfl) (by kernel_rfl) (fun _ _ _ h => h) (Or.inl ⟨by rfl,?_⟩) hHeld ?_
     ·intro w hSw
      obtain ⟨s0,s1,s2,s3,s4,s5,s6,s7,s8,s9,s10,s11,s12,s13⟩:=hSw; go_simp
     try simp only [Act.put,sa9,sb9,sc9]
     refine wpAnyH_take (i:=18) (oi:=⟨some 77,_,_,_,_,_⟩) (v:=.pointer (some ⟨w.heap.size + 1,4,none⟩)) rfl (by kernel_rfl) (by kernel_rfl) (by kernel_rfl) (fun _ _ _ h => h) (Or.inl ⟨by rfl,?_⟩) hHeld ?_
     ·intro w hSw
      obtain ⟨s0,s1,s2,s3,s4,s5,s6,s7,s8,s9,s10,s11,s12,s13⟩:=hSw; go_simp
     try simp only [Act.put,sa9,sb9,sc9]
     refine wpAnyH_take (i:=19) (oi:=⟨some 78,_,_,_,_,_⟩) (v:=.slice (some ⟨tb,toff,none⟩) 2 tcap) rfl (by kernel_rfl) (by kernel_rfl) (by kernel_rfl) (fun _ _ _ h => h) (Or.inl ⟨by rfl,?_⟩) hHeld ?_
     ·intro w hSw
      obtain ⟨s0,s1,s2,s3,s4,s5,s6,s7,s8,s9,s10,s11,s12,s13⟩:=hSw; go_simp
     try simp only [Act.put,sa9,sb9,sc9]
     refine wpAnyH_take (i:=20) (oi:=⟨some 79,_,_,_,_,_⟩) (v:=.pointer (some ⟨tb,toff + 1,none⟩)) rfl (by kernel_rfl) (by kernel_rfl) (by kernel_rfl) (fun _ _ _ h => h) (Or.inl ⟨by rfl,?_⟩) hHeld ?_
     ·intro w hSw
      obtain ⟨s0,s1,s2,s3,s4,s5,s6,s7,s8,s9,s10,s11,s12,s13⟩:=hSw; go_simp
     try simp only [Act.put,sa9,sb9,sc9]
     refine wpAnyH_take (i:=21) (oi:=⟨some 80,_,_,_,_,_⟩) (v:=.int .i32 pb) rfl (by kernel_rfl) (by kernel_rfl) (by kernel_rfl) (fun _ _ _ h => h) (Or.inl ⟨by rfl,?_⟩) hHeld ?_
     ·intro w hSw
      obtain ⟨s0,s1,s2,s3,s4,s5,s6,s7,s8,s9,s10,s11,s12,s13⟩:=hSw; go_simp
     try simp only [Act.put,sa9,sb9,sc9]
     refine wpAnyH_ready (rs:=[22]) (by kernel_rfl) (by simp) ?_
     refine AllReadyH.cons (o:=⟨some 81,_,_,_,_,_⟩) rfl (fun K hK => ?_) AllReadyH.nil
     go_simp
     refine (unhide K4).mono ?_
     rintro e W4 ⟨rfl,hb4⟩
     have hB4 : Below ((w.alloc (.cells #[.slice cao cs.length ccap,.slice oao os.length ocap,.map (some mr)] 137)).alloc (.cells #[.int .i64 7,.int .i64 lo,.int .i64 hi,.int .i64 nn,.slice (some ⟨tb,toff,none⟩) 2 tcap,.string nm,.string ot,.float .f64 wt] 63)).heap.size ((w.alloc (.cells #[.slice cao cs.length ccap,.slice oao os.length ocap,.map (some mr)] 137)).alloc (.cells #[.int .i64 7,.int .i64 lo,.int .i64 hi,.int .i64 nn,.slice (some ⟨tb,toff,none⟩) 2 tcap,.string nm,.string ot,.float .f64 wt] 63)) W4:=bthen hB3 hb4
     have HF4:=hide ((unhide HS) W4 hB4)
     refine hK.out _ _ ?_ (fun hHeld => ?_)
     ·exact unhide HF4
     clear hK K
     try simp only [Act.put,sa9,sb9,sc9]
     refine wpAnyH_take (i:=23) (oi:=⟨some 82,_,_,_,_,_⟩) (v:=.bool wp) rfl (by kernel_rfl) (by kernel_rfl) (by kernel_rfl) (fun _ _ _ h => h) (Or.inl ⟨by rfl,?_⟩) hHeld ?_
     ·intro w hSw
      go_simp
     try simp only [Act.put,sa9,sb9,sc9]
     refine wpAnyH_take (i:=24) (oi:=⟨some 83,_,_,_,_,_⟩) (v:=.bool wp) rfl (by kernel_rfl) (by kernel_rfl) (by kernel_rfl) (fun _ _ _ h => h) (Or.inl ⟨by rfl,?_⟩) hHeld ?_
     ·intro w hSw
      go_simp
     try simp only [Act.put,sa9,sb9,sc9]
     refine wpAnyH_done (by kernel_rfl) ?_ _
     cases wp
     ·obtain rfl : R = 0:=by
       rw [← unhide HR,hdf]; simp
      have HF:=(unhide HFIN) W4 0 hB4
      clear HS HFST HFIN K3 K4 HF3 HF4 hB3 hB4 hHeld HR HLK KP KPO hB2 hd2 hB1
      go_wp2
      go_ret
      exact HF
     ·obtain rfl : R = 74:=by
       rw [← unhide HR,hdf]; simp
      have HF:=(unhide HFIN) W4 74 hB4
      clear HS HFST HFIN K3 K4 HF3 HF4 hB3 hB4 hHeld HR HLK KP KPO hB2 hd2 hB1
      go_wp2
      go_ret
      exact HF
   ·have hzz : (wf != 0) = true:=by simp [hz]
    obtain rfl : R = wf:=by rw [← unhide HR,if_pos hz]
    have HF:=(unhide HFIN) W2 R hB2
    clear hz
    clear HS HFIN hB2 HR HLK KP KPO hB1
    go_wp2
    go_ret
    exact HF
  ·rw [if_pos rfl]
   go_enter Tryz.func105,Tryz.ntmps105
   go_wp2
   refine wp_region_held_drew (S:=fun w' => w'.cell? ⟨w.heap.size + 1,0,none⟩ = some (.int .i64 7) ∧ w'.cell? ⟨w.heap.size + 1,1,none⟩ = some (.int .i64 lo) ∧ w'.cell? ⟨w.heap.size + 1,2,none⟩ = some (.int .i64 hi) ∧ w'.cell? ⟨w.heap.size + 1,3,none⟩ = some (.int .i64 nn) ∧ w'.cell? ⟨w.heap.size + 1,4,none⟩ = some (.slice (some ⟨tb,toff,none⟩) 2 tcap) ∧ w'.cell? ⟨w.heap.size + 1,5,none⟩ = some (.string nm) ∧ w'.cell? ⟨w.heap.size + 1,6,none⟩ = some (.string ot) ∧ w'.cell? ⟨w.heap.size + 1,7,none⟩ = some (.float .f64 wt) ∧ w'.cell? ⟨w.heap.size,0,none⟩ = some (.slice cao cs.length ccap) ∧ w'.cell? ⟨w.heap.size,1,none⟩ = some (.slice oao os.length ocap) ∧ w'.cell? ⟨w.heap.size,2,none⟩ = some (.map (some mr)) ∧ w'.cell? ⟨tb,toff,none⟩ = some (.int .i32 pa) ∧ w'.cell? ⟨tb,toff + 1,none⟩ = some (.int .i32 pb) ∧ Hid (Below ((w.alloc (.cells #[.slice cao cs.length ccap,.slice oao os.length ocap,.map (some mr)] 137)).alloc (.cells #[.int .i64 7,.int .i64 lo,.int .i64 hi,.int .i64 nn,.slice (some ⟨tb,toff,none⟩) 2 tcap,.string nm,.string ot,.float .f64 wt] 63)).heap.size ((w.alloc (.cells #[.slice cao cs.length ccap,.slice oao os.length ocap,.map (some mr)] 137)).alloc (.cells #[.int .i64 7,.int .i64 lo,.int .i64 hi,.int .i64 nn,.slice (some ⟨tb,toff,none⟩) 2 tcap,.string nm,.string ot,.float .f64 wt] 63)) w')) (by kernel_rfl) (unhide HFST) (fun hHeld => ?_)
   refine wpAnyH_take (i:=0) (oi:=⟨some 34,_,_,_,_,_⟩) (v:=.agg #[.int .i64 7,.int .i64 lo,.int .i64 hi,.int .i64 nn,.slice (some ⟨tb,toff,none⟩) 2 tcap,.string nm,.string ot,.float .f64 wt]) rfl (by kernel_rfl) (by kernel_rfl) (by kernel_rfl) (fun _ _ _ h => h) (Or.inl ⟨by rfl,?_⟩) hHeld ?_
   ·intro w hSw
    obtain ⟨s0,s1,s2,s3,s4,s5,s6,s7,s8,s9,s10,s11,s12,s13⟩:=hSw; go_simp
   try simp only [Act.put,sa9,sb9,sc9]
   refine wpAnyH_ready (rs:=[1]) (by kernel_rfl) (by simp) ?_
   refine AllReadyH.cons (o:=⟨some 35,_,_,_,_,_⟩) rfl (fun K hK => ?_) AllReadyH.nil
   go_simp
   refine (unhide KT0).mono ?_
   rintro e W1 ⟨rfl,hb1⟩
   have hB1 : Below ((w.alloc (.cells #[.slice cao cs.length ccap,.slice oao os.length ocap,.map (some mr)] 137)).alloc (.cells #[.int .i64 7,.int .i64 lo,.int .i64 hi,.int .i64 nn,.slice (some ⟨tb,toff,none⟩) 2 tcap,.string nm,.string ot,.float .f64 wt] 63)).heap.size ((w.alloc (.cells #[.slice cao cs.length ccap,.slice oao os.length ocap,.map (some mr)] 137)).alloc (.cells #[.int .i64 7,.int .i64 lo,.int .i64 hi,.int .i64 nn,.slice (some ⟨tb,toff,none⟩) 2 tcap,.string nm,.string ot,.float .f64 wt] 63)) W1:=bthen hd0 hb1
   have HF1:=hide ((unhide HS) W1 hB1)
   refine hK.out _ _ ?_ (fun hHeld => ?_)
   ·exact unhide HF1
   clear hK K
   try simp only [Act.put,sa9,sb9,sc9]
   refine wpAnyH_take (i:=2) (oi:=⟨some 36,_,_,_,_,_⟩) (v:=.bool false) rfl (by kernel_rfl) (by kernel_rfl) (by kernel_rfl) (fun _ _ _ h => h) (Or.inl ⟨by rfl,?_⟩) hHeld ?_
   ·intro w hSw
    go_simp
   try simp only [Act.put,sa9,sb9,sc9]
   refine wpAnyH_take (i:=3) (oi:=⟨some 37,_,_,_,_,_⟩) (v:=.bool true) rfl (by kernel_rfl) (by kernel_rfl) (by kernel_rfl) (fun _ _ _ h => h) (Or.inl ⟨by rfl,?_⟩) hHeld ?_
   ·intro w hSw
    go_simp
   try simp only [Act.put,sa9,sb9,sc9]
   refine wpAnyH_take (i:=4) (oi:=⟨some 38,_,_,_,_,_⟩) (v:=.bool true) rfl (by kernel_rfl) (by kernel_rfl) (by kernel_rfl) (fun _ _ _ h => h) (Or.inl ⟨by rfl,?_⟩) hHeld ?_
   ·intro w hSw
    go_simp
   try simp only [Act.put,sa9,sb9,sc9]
   refine wpAnyH_take (i:=5) (oi:=⟨some 39,_,_,_,_,_⟩) (v:=.pointer (some ⟨w.heap.size + 1,4,none⟩)) rfl (by kernel_rfl) (by kernel_rfl) (by kernel_rfl) (fun _ _ _ h => h) (Or.inl ⟨by rfl,?_⟩) hHeld ?_
   ·intro w hSw
    obtain ⟨s0,s1,s2,s3,s4,s5,s6,s7,s8,s9,s10,s11,s12,s13⟩:=hSw; go_simp
   try simp only [Act.put,sa9,sb9,sc9]
   refine wpAnyH_take (i:=6) (oi:=⟨some 40,_,_,_,_,_⟩) (v:=.slice (some ⟨tb,toff,none⟩) 2 tcap) rfl (by kernel_rfl) (by kernel_rfl) (by kernel_rfl) (fun _ _ _ h => h) (Or.inl ⟨by rfl,?_⟩) hHeld ?_
   ·intro w hSw
    obtain ⟨s0,s1,s2,s3,s4,s5,s6,s7,s8,s9,s10,s11,s12,s13⟩:=hSw; go_simp
   try simp only [Act.put,sa9,sb9,sc9]
   refine wpAnyH_take (i:=7) (oi:=⟨some 41,_,_,_,_,_⟩) (v:=.pointer (some ⟨tb,toff,none⟩)) rfl (by kernel_rfl) (by kernel_rfl) (by kernel_rfl) (fun _ _ _ h => h) (Or.inl ⟨by rfl,?_⟩) hHeld ?_
   ·intro w hSw
    obtain ⟨s0,s1,s2,s3,s4,s5,s6,s7,s8,s9,s10,s11,s12,s13⟩:=hSw; go_simp
   try simp only [Act.put,sa9,sb9,sc9]
   refine wpAnyH_take (i:=8) (oi:=⟨some 42,_,_,_,_,_⟩) (v:=.int .i32 pa) rfl (by kernel_rfl) (by kernel_rfl) (by kernel_rfl) (fun _ _ _ h => h) (Or.inl ⟨by rfl,?_⟩) hHeld ?_
   ·intro w hSw
    obtain ⟨s0,s1,s2,s3,s4,s5,s6,s7,s8,s9,s10,s11,s12,s13⟩:=hSw; go_simp
   try simp only [Act.put,sa9,sb9,sc9]
   refine wpAnyH_take (i:=9) (oi:=⟨some 43,_,_,_,_,_⟩) (v:=.pointer (some ⟨w.heap.size + 1,4,none⟩)) rfl (by kernel_rfl) (by kernel_rfl) (by kernel_rfl) (fun _ _ _ h => h) (Or.inl ⟨by rfl,?_⟩) hHeld ?_
   ·intro w hSw
    obtain ⟨s0,s1,s2,s3,s4,s5,s6,s7,s8,s9,s10,s11,s12,s13⟩:=hSw; go_simp
   try simp only [Act.put,sa9,sb9,sc9]
   refine wpAnyH_take (i:=10) (oi:=⟨some 44,_,_,_,_,_⟩) (v:=.slice (some ⟨tb,toff,none⟩) 2 tcap) rfl (by kernel_rfl) (by kernel_rfl) (by kernel_rfl) (fun _ _ _ h => h) (Or.inl ⟨by rfl,?_⟩) hHeld ?_
   ·intro w hSw
    obtain ⟨s0,s1,s2,s3,s4,s5,s6,s7,s8,s9,s10,s11,s12,s13⟩:=hSw; go_simp
   try simp only [Act.put,sa9,sb9,sc9]
   refine wpAnyH_take (i:=11) (oi:=⟨some 45,_,_,_,_,_⟩) (v:=.pointer (some ⟨tb,toff + 1,none⟩)) rfl (by kernel_rfl) (by kernel_rfl) (by kernel_rfl) (fun _ _ _ h => h) (Or.inl ⟨by rfl,?_⟩) hHeld ?_
   ·intro w hSw
    obtain ⟨s0,s1,s2,s3,s4,s5,s6,s7,s8,s9,s10,s11,s12,s13⟩:=hSw; go_simp
   try simp only [Act.put,sa9,sb9,sc9]
   refine wpAnyH_take (i:=12) (oi:=⟨some 46,_,_,_,_,_⟩) (v:=.int .i32 pb) rfl (by kernel_rfl) (by kernel_rfl) (by kernel_rfl) (fun _ _ _ h => h) (Or.inl ⟨by rfl,?_⟩) hHeld ?_
   ·intro w hSw
    obtain ⟨s0,s1,s2,s3,s4,s5,s6,s7,s8,s9,s10,s11,s12,s13⟩:=hSw; go_simp
   try simp only [Act.put,sa9,sb9,sc9]
   refine wpAnyH_ready (rs:=[13]) (by kernel_rfl) (by simp) ?_
   refine AllReadyH.cons (o:=⟨some 47,_,_,_,_,_⟩) rfl (fun K hK => ?_) AllReadyH.nil
   go_simp
   refine ((unhide KM) _).mono ?_
   rintro e W1' ⟨rfl,hw1'⟩
   subst W1'
   refine hK.out _ _ ?_ (fun hHeld => ?_)
   ·exact unhide HF1
   clear hK K
   try simp only [Act.put,sa9,sb9,sc9]
   refine wpAnyH_take (i:=14) (oi:=⟨some 48,_,_,_,_,_⟩) (v:=.bool true) rfl (by kernel_rfl) (by kernel_rfl) (by kernel_rfl) (fun _ _ _ h => h) (Or.inl ⟨by rfl,?_⟩) hHeld ?_
   ·intro w hSw
    go_simp
   try simp only [Act.put,sa9,sb9,sc9]
   refine wpAnyH_take (i:=15) (oi:=⟨some 49,_,_,_,_,_⟩) (v:=.bool true) rfl (by kernel_rfl) (by kernel_rfl) (by kernel_rfl) (fun _ _ _ h => h) (Or.inl ⟨by rfl,?_⟩) hHeld ?_
   ·intro w hSw
    go_simp
   try simp only [Act.put,sa9,sb9,sc9]
   refine wpAnyH_take (i:=16) (oi:=⟨some 33,_,_,_,_,_⟩) (v:=.bool true) rfl (by kernel_rfl) (by kernel_rfl) (by kernel_rfl) (fun _ _ _ h => h) (Or.inl ⟨by rfl,?_⟩) hHeld ?_
   ·intro w hSw
    go_simp
   try simp only [Act.put,sa9,sb9,sc9]
   refine wpAnyH_done (by kernel_rfl) ?_ _
   have HF:=(unhide HFIN) W1 71 hB1
   clear HS HFST HFIN KT KT0 KW KM KP KPO HLK HF1 hB1 hHeld
   go_wp2
   go_ret
   exact HF
 ·rw [Bool.true_or,if_pos rfl]
  go_enter Tryz.func105,Tryz.ntmps105
  go_wp2
  refine wp_region_held_drew (S:=fun w' => w'.cell? ⟨w.heap.size + 1,0,none⟩ = some (.int .i64 7) ∧ w'.cell? ⟨w.heap.size + 1,1,none⟩ = some (.int .i64 lo) ∧ w'.cell? ⟨w.heap.size + 1,2,none⟩ = some (.int .i64 hi) ∧ w'.cell? ⟨w.heap.size + 1,3,none⟩ = some (.int .i64 nn) ∧ w'.cell? ⟨w.heap.size + 1,4,none⟩ = some (.slice (some ⟨tb,toff,none⟩) 2 tcap) ∧ w'.cell? ⟨w.heap.size + 1,5,none⟩ = some (.string nm) ∧ w'.cell? ⟨w.heap.size + 1,6,none⟩ = some (.string ot) ∧ w'.cell? ⟨w.heap.size + 1,7,none⟩ = some (.float .f64 wt) ∧ w'.cell? ⟨w.heap.size,0,none⟩ = some (.slice cao cs.length ccap) ∧ w'.cell? ⟨w.heap.size,1,none⟩ = some (.slice oao os.length ocap) ∧ w'.cell? ⟨w.heap.size,2,none⟩ = some (.map (some mr)) ∧ w'.cell? ⟨tb,toff,none⟩ = some (.int .i32 pa) ∧ w'.cell? ⟨tb,toff + 1,none⟩ = some (.int .i32 pb) ∧ Hid (Below ((w.alloc (.cells #[.slice cao cs.length ccap,.slice oao os.length ocap,.map (some mr)] 137)).alloc (.cells #[.int .i64 7,.int .i64 lo,.int .i64 hi,.int .i64 nn,.slice (some ⟨tb,toff,none⟩) 2 tcap,.string nm,.string ot,.float .f64 wt] 63)).heap.size ((w.alloc (.cells #[.slice cao cs.length ccap,.slice oao os.length ocap,.map (some mr)] 137)).alloc (.cells #[.int .i64 7,.int .i64 lo,.int .i64 hi,.int .i64 nn,.slice (some ⟨tb,toff,none⟩) 2 tcap,.string nm,.string ot,.float .f64 wt] 63)) w')) (by kernel_rfl) (unhide HFST) (fun hHeld => ?_)
  refine wpAnyH_take (i:=0) (oi:=⟨some 34,_,_,_,_,_⟩) (v:=.agg #[.int .i64 7,.int .i64 lo,.int .i64 hi,.int .i64 nn,.slice (some ⟨tb,toff,none⟩) 2 tcap,.string nm,.string ot,.float .f64 wt]) rfl (by kernel_rfl) (by kernel_rfl) (by kernel_rfl) (fun _ _ _ h => h) (Or.inl ⟨by rfl,?_⟩) hHeld ?_
  ·intro w hSw
   obtain ⟨s0,s1,s2,s3,s4,s5,s6,s7,s8,s9,s10,s11,s12,s13⟩:=hSw; go_simp
  try simp only [Act.put,sa9,sb9,sc9]
  refine wpAnyH_ready (rs:=[1]) (by kernel_rfl) (by simp) ?_
  refine AllReadyH.cons (o:=⟨some 35,_,_,_,_,_⟩) rfl (fun K hK => ?_) AllReadyH.nil
  go_simp
  refine (unhide KT0).mono ?_
  rintro e W1 ⟨rfl,hb1⟩
  have hB1 : Below ((w.alloc (.cells #[.slice cao cs.length ccap,.slice oao os.length ocap,.map (some mr)] 137)).alloc (.cells #[.int .i64 7,.int .i64 lo,.int .i64 hi,.int .i64 nn,.slice (some ⟨tb,toff,none⟩) 2 tcap,.string nm,.string ot,.float .f64 wt] 63)).heap.size ((w.alloc (.cells #[.slice cao cs.length ccap,.slice oao os.length ocap,.map (some mr)] 137)).alloc (.cells #[.int .i64 7,.int .i64 lo,.int .i64 hi,.int .i64 nn,.slice (some ⟨tb,toff,none⟩) 2 tcap,.string nm,.string ot,.float .f64 wt] 63)) W1:=bthen hd0 hb1
  have HF1:=hide ((unhide HS) W1 hB1)
  refine hK.out _ _ ?_ (fun hHeld => ?_)
  ·exact unhide HF1
  clear hK K
  try simp only [Act.put,sa9,sb9,sc9]
  refine wpAnyH_take (i:=2) (oi:=⟨some 36,_,_,_,_,_⟩) (v:=.bool true) rfl (by kernel_rfl) (by kernel_rfl) (by kernel_rfl) (fun _ _ _ h => h) (Or.inl ⟨by rfl,?_⟩) hHeld ?_
  ·intro w hSw
   go_simp
  try simp only [Act.put,sa9,sb9,sc9]
  refine wpAnyH_take (i:=3) (oi:=⟨some 37,_,_,_,_,_⟩) (v:=undef) rfl (by kernel_rfl) (by kernel_rfl) (by kernel_rfl) (fun _ _ _ h => h) (Or.inr ⟨by rfl,rfl⟩) hHeld ?_
  try simp only [Act.put,sa9,sb9,sc9]
  refine wpAnyH_take (i:=4) (oi:=⟨some 38,_,_,_,_,_⟩) (v:=undef) rfl (by kernel_rfl) (by kernel_rfl) (by kernel_rfl) (fun _ _ _ h => h) (Or.inr ⟨by rfl,rfl⟩) hHeld ?_
  try simp only [Act.put,sa9,sb9,sc9]
  refine wpAnyH_take (i:=5) (oi:=⟨some 39,_,_,_,_,_⟩) (v:=undef) rfl (by kernel_rfl) (by kernel_rfl) (by kernel_rfl) (fun _ _ _ h => h) (Or.inr ⟨by rfl,rfl⟩) hHeld ?_
  try simp only [Act.put,sa9,sb9,sc9]
  refine wpAnyH_take (i:=6) (oi:=⟨some 40,_,_,_,_,_⟩) (v:=undef) rfl (by kernel_rfl) (by kernel_rfl) (by kernel_rfl) (fun _ _ _ h => h) (Or.inr ⟨by rfl,rfl⟩) hHeld ?_
  try simp only [Act.put,sa9,sb9,sc9]
  refine wpAnyH_take (i:=7) (oi:=⟨some 41,_,_,_,_,_⟩) (v:=undef) rfl (by kernel_rfl) (by kernel_rfl) (by kernel_rfl) (fun _ _ _ h => h) (Or.inr ⟨by rfl,rfl⟩) hHeld ?_
  try simp only [Act.put,sa9,sb9,sc9]
  refine wpAnyH_take (i:=8) (oi:=⟨some 42,_,_,_,_,_⟩) (v:=undef) rfl (by kernel_rfl) (by kernel_rfl) (by kernel_rfl) (fun _ _ _ h => h) (Or.inr ⟨by rfl,rfl⟩) hHeld ?_
  try simp only [Act.put,sa9,sb9,sc9]
  refine wpAnyH_take (i:=9) (oi:=⟨some 43,_,_,_,_,_⟩) (v:=undef) rfl (by kernel_rfl) (by kernel_rfl) (by kernel_rfl) (fun _ _ _ h => h) (Or.inr ⟨by rfl,rfl⟩) hHeld ?_
  try simp only [Act.put,sa9,sb9,sc9]
  refine wpAnyH_take (i:=10) (oi:=⟨some 44,_,_,_,_,_⟩) (v:=undef) rfl (by kernel_rfl) (by kernel_rfl) (by kernel_rfl) (fun _ _ _ h => h) (Or.inr ⟨by rfl,rfl⟩) hHeld ?_
  try simp only [Act.put,sa9,sb9,sc9]
  refine wpAnyH_take (i:=11) (oi:=⟨some 45,_,_,_,_,_⟩) (v:=undef) rfl (by kernel_rfl) (by kernel_rfl) (by kernel_rfl) (fun _ _ _ h => h) (Or.inr ⟨by rfl,rfl⟩) hHeld ?_
  try simp only [Act.put,sa9,sb9,sc9]
  refine wpAnyH_take (i:=12) (oi:=⟨some 46,_,_,_,_,_⟩) (v:=undef) rfl (by kernel_rfl) (by kernel_rfl) (by kernel_rfl) (fun _ _ _ h => h) (Or.inr ⟨by rfl,rfl⟩) hHeld ?_
  try simp only [Act.put,sa9,sb9,sc9]
  refine wpAnyH_take (i:=13) (oi:=⟨some 47,_,_,_,_,_⟩) (v:=undef) rfl (by kernel_rfl) (by kernel_rfl) (by kernel_rfl) (fun _ _ _ h => h) (Or.inr ⟨by rfl,rfl⟩) hHeld ?_
  try simp only [Act.put,sa9,sb9,sc9]
  refine wpAnyH_take (i:=14) (oi:=⟨some 48,_,_,_,_,_⟩) (v:=undef) rfl (by kernel_rfl) (by kernel_rfl) (by kernel_rfl) (fun _ _ _ h => h) (Or.inr ⟨by rfl,rfl⟩) hHeld ?_
  try simp only [Act.put,sa9,sb9,sc9]
  refine wpAnyH_take (i:=15) (oi:=⟨some 49,_,_,_,_,_⟩) (v:=.bool true) rfl (by kernel_rfl) (by kernel_rfl) (by kernel_rfl) (fun _ _ _ h => h) (Or.inl ⟨by rfl,?_⟩) hHeld ?_
  ·intro w hSw
   go_simp
  try simp only [Act.put,sa9,sb9,sc9]
  refine wpAnyH_take (i:=16) (oi:=⟨some 33,_,_,_,_,_⟩) (v:=.bool true) rfl (by kernel_rfl) (by kernel_rfl) (by kernel_rfl) (fun _ _ _ h => h) (Or.inl ⟨by rfl,?_⟩) hHeld ?_
  ·intro w hSw
   go_simp
  try simp only [Act.put,sa9,sb9,sc9]
  refine wpAnyH_done (by kernel_rfl) ?_ _
  have HF:=(unhide HFIN) W1 71 hB1
  clear HS HFST HFIN KT KT0 KW KM KP KPO HLK HF1 hB1 hHeld
  go_wp2
  go_ret
  exact HF
end Go.Proofs.YtkbmhpinfmognaaGreatDoor
