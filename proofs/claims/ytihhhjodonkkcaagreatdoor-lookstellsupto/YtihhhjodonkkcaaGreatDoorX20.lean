/- TbW7 TbX7 TbY7 TbZ7 -/
import Derived.Test.YtihhhjodonkkcaaGreatDoorX9
import Derived.Deep.DeepCutAuto
import Derived.Deep.CutBlock
import Derived.Lib.MinMaxS
namespace Go.Proofs.YtihhhjodonkkcaaGreatDoor
open Go.RowKit
theorem infoRun:(Tryz.prog.info? 208).map (fun i=>(i.zero,i.size,i.bytes))=some (some (.agg #[.int .i64 0,.int .i64 0,.int .i64 0]),3,24):=by kernel_rfl
def TwB (w:World) (B L rr:Nat) (fs:Nat→List Run) (c:ByteArray→ByteArray→Int) (f:Nat) (x:Run) (e:Ending) (w':World):Prop:=e=.returned (.bool ((fs f).any fun y=>x.meets y))∧(∃ vs',LG w' B L rr vs' (upd fs f (fs f++[x])) c)∧Below B w w'
set_option maxRecDepth 20000 in
set_option maxHeartbeats 8000000 in
theorem twice_core (T fp:Nat) (r:Rec) (vt:Value) (w:World) (B L rr f:Nat) (vs:Nat→Value) (fs:Nat→List Run) (c:ByteArray→ByteArray→Int)
  (hlg:LG w B L rr vs fs c) (hBw:B≤w.heap.size) (hf:f<11) (hlen:(fs f).length<100000) (h15:r.kind≠15) (hx:(runR r).ok) (hxs:∀ y∈fs f,y.ok)
  (KF:∀ W,Below w.heap.size w W→Calls Tryz.prog 122 #[.int .i64 r.kind] W (IntB W (f:Int)))
  (KSH:∀ W,Calls Tryz.prog 153 #[.int .i64 r.kind] W (fun e w'=>e=.returned (.iface T (.agg #[.int .i64 r.kind]))∧Below W.heap.size W w'))
  (hm : ∀ W, (method 407 T (.agg #[.int .i64 r.kind]) "endonym/table.spoken").run Tryz.prog W = .ok (fp, .agg #[.int .i64 r.kind]) W)
  (eg:∀ args W,(callFunc fp args).run Tryz.prog W=.ok (.enter fp args) W)
  (KP:∀ W,Calls Tryz.prog fp #[shV r.kind,recV r vt] W (fun e w'=>e=.returned (runV r.lo r.hi (stepP r))∧Below W.heap.size W w')) :
  Calls Tryz.prog 141 #[.pointer (some ⟨L,0,none⟩),recV r vt] w (TwB w B L rr fs c f (runR r)):=by
 have KC:Hid (∀ W,Below w.heap.size w W→Calls Tryz.prog 166 #[vs f,.func (.func 167) #[runV r.lo r.hi (stepP r)] #[]] W (BoolB W ((fs f).any fun y=>(runR r).meets y))):=fun W h=>containsRuns_any (runR r) (vs f) (fs f) W (((hlg.on h).rows f hf).rns) hx hxs
 have HLG:=Hd hlg
 have HM:Hid (∀ (W w8:World) (gg cap:Nat),(∀ k,k<w.heap.size→W.heap[k]?=w.heap[k]?)→w.heap.size≤W.heap.size→W.grownBy w8 (vs f).ownBlock→((vs f).ownBlock=some gg∨gg=W.heap.size)→w8.ownsRow B 208 3 (.slice (some ⟨gg,0,none⟩) ((fs f).length+1) cap) ((fs f).length+1) (ncells (fs f)++[.int .i64 r.lo,.int .i64 r.hi,.int .i64 (stepP r)]) →
   LG (w8.setCell ⟨L,f,none⟩ (.slice (some ⟨gg,0,none⟩) ((fs f).length+1) cap)) B L rr (upd vs f (.slice (some ⟨gg,0,none⟩) ((fs f).length+1) cap)) (upd fs f (fs f++[runR r])) c):=fun W w8 gg cap a1 a2 a3 a4 a5=>hlg.more (x:=runR r) hf hlen a1 a2 a3 a4 a5
 replace KF:=Hd KF
 replace KSH:=Hd KSH
 replace KP:=Hd KP
 have hq:(r.kind==15)=false:=beq_eq_false_iff_ne.2 h15
 have eg2:=enters_meets
 clear hx hxs h15
 have HT:Hid (∀ w',(∃ vs',LG w' B L rr vs' (upd fs f (fs f++[runR r])) c)→Below B w w'→TwB w B L rr fs c f (runR r) (.returned (.bool ((fs f).any fun y=>(runR r).meets y))) w'):=fun w' a b=>⟨rfl,a,b⟩
 generalize (fs f).any (fun y=>(runR r).meets y)=known at KC HT
 generalize runR r=rx at *
 generalize TwB w B L rr fs c f rx=PP at *
 generalize hst:stepP r=st at *
 unfold recV shV runV at *
 generalize r.kind=kd at *
 generalize r.n=n at *
 generalize r.lo=lo at *
 generalize r.hi=hi at *
 generalize r.name=nm at *
 generalize r.other=ot at *
 generalize r.wt=wt at *
 have hb0:Below w.heap.size w (w.alloc (.cells #[.int .i64 kd,.int .i64 lo,.int .i64 hi,.int .i64 n,vt,.string nm,.string ot,.float .f64 wt] 59)):=(Below.refl _ _).alloc (Nat.le_refl _) _
 have hh0:(w.alloc (.cells #[.int .i64 kd,.int .i64 lo,.int .i64 hi,.int .i64 n,vt,.string nm,.string ot,.float .f64 wt] 59)).heap[w.heap.size]?=some (.cells #[.int .i64 kd,.int .i64 lo,.int .i64 hi,.int .i64 n,vt,.string nm,.string ot,.float .f64 wt] 59 (0,0)):=by
  show (w.heap.push _)[w.heap.size]?=_
  simp
 have hsz:(w.alloc (.cells #[.int .i64 kd,.int .i64 lo,.int .i64 hi,.int .i64 n,vt,.string nm,.string ot,.float .f64 wt] 59)).heap.size=w.heap.size+1:=by simp
 replace hsz:=Hd hsz
 go_enter Tryz.func141,Tryz.ntmps141
 go_upto_region 3 with fail
 generalize (w.alloc (.cells #[.int .i64 kd,.int .i64 lo,.int .i64 hi,.int .i64 n,vt,.string nm,.string ot,.float .f64 wt] 59))=W1 at *
 have SM:Hid (∀ W,Below W1.heap.size W1 W→W.cell? ⟨w.heap.size,0,none⟩=some (.int .i64 kd)∧W.cell? ⟨w.heap.size,1,none⟩=some (.int .i64 lo)∧W.cell? ⟨w.heap.size,2,none⟩=some (.int .i64 hi)∧W.cell? ⟨w.heap.size,3,none⟩=some (.int .i64 n)∧W.cell? ⟨w.heap.size,4,none⟩=some (vt)∧W.cell? ⟨w.heap.size,5,none⟩=some (.string nm)∧W.cell? ⟨w.heap.size,6,none⟩=some (.string ot)∧W.cell? ⟨w.heap.size,7,none⟩=some (.float .f64 wt)∧Hid (Below W1.heap.size W1 W)):=fun W h=>by
  have h2:W.heap[w.heap.size]?=_:=(h.block _ (by have:=Uh hsz; omega)).trans hh0
  exact ⟨cell_of (j:=0) h2 (by simp),cell_of (j:=1) h2 (by simp),cell_of (j:=2) h2 (by simp),cell_of (j:=3) h2 (by simp),cell_of (j:=4) h2 (by simp),cell_of (j:=5) h2 (by simp),cell_of (j:=6) h2 (by simp),cell_of (j:=7) h2 (by simp),h⟩
 have SI:Hid (∀ W,(W.cell? ⟨w.heap.size,0,none⟩=some (.int .i64 kd)∧W.cell? ⟨w.heap.size,1,none⟩=some (.int .i64 lo)∧W.cell? ⟨w.heap.size,2,none⟩=some (.int .i64 hi)∧W.cell? ⟨w.heap.size,3,none⟩=some (.int .i64 n)∧W.cell? ⟨w.heap.size,4,none⟩=some (vt)∧W.cell? ⟨w.heap.size,5,none⟩=some (.string nm)∧W.cell? ⟨w.heap.size,6,none⟩=some (.string ot)∧W.cell? ⟨w.heap.size,7,none⟩=some (.float .f64 wt)∧Hid (Below W1.heap.size W1 W))→Below W1.heap.size W1 W):=fun W h=>h.2.2.2.2.2.2.2.2
 go_cut [5,6] (fun fv pv wx=>fv=.int .i64 (f:Int)∧∃ g,pv=.pointer (some ⟨g,0,none⟩)∧W1.heap.size≤g∧wx.heap[g]?=some (.cells #[.int .i64 lo,.int .i64 hi,.int .i64 st] 208 (0,0))∧Below W1.heap.size W1 wx)
 case first =>
  refine wp_region_held_drew (S:=fun w'=>w'.cell? ⟨w.heap.size,0,none⟩=some (.int .i64 kd)∧w'.cell? ⟨w.heap.size,1,none⟩=some (.int .i64 lo)∧w'.cell? ⟨w.heap.size,2,none⟩=some (.int .i64 hi)∧w'.cell? ⟨w.heap.size,3,none⟩=some (.int .i64 n)∧w'.cell? ⟨w.heap.size,4,none⟩=some (vt)∧w'.cell? ⟨w.heap.size,5,none⟩=some (.string nm)∧w'.cell? ⟨w.heap.size,6,none⟩=some (.string ot)∧w'.cell? ⟨w.heap.size,7,none⟩=some (.float .f64 wt)∧Hid (Below W1.heap.size W1 w')) (by kernel_rfl) ((Uh SM) _ (drewB ⟨1,rfl⟩)) (fun hHeld=>?_)
  refine tk9 0 (.pointer (some ⟨w.heap.size,0,none⟩)) ?_
  refine tk9 1 (.int .i64 kd) ?_
  refine tk9 3 (.pointer (some ⟨w.heap.size,0,none⟩)) ?_
  refine tk9 4 (.int .i64 kd) ?_
  refine tk9 6 (.agg #[.int .i64 kd,.int .i64 lo,.int .i64 hi,.int .i64 n,vt,.string nm,.string ot,.float .f64 wt]) ?_
  refine wpAnyH_ready (rs:=[2,8]) (by kernel_rfl) (by simp) ?_
  refine AllReadyH.cons (o:=⟨some 25,_,_,_,_,_⟩) rfl (fun K hK=>?_) (AllReadyH.cons (o:=⟨some 6,_,_,_,_,_⟩) rfl (fun K hK=>?_) AllReadyH.nil)
  ·go_simp
   refine ((Uh KF) _ (bthen hb0 ((Uh SI) _ hHeld))).mono ?_
   rintro e w2 ⟨rfl,hb2⟩
   go_wp2_with fail
   refine hK.out _ _ ?_ (fun hHeld=>?_)
   ·exact (Uh SM) _ (bthen ((Uh SI) _ hHeld) hb2)
   clear hK K
   try simp only [Act.put,sa9,sb9,sc9]
   refine wpAnyH_ready (rs:=[5,8]) (by kernel_rfl) (by simp) ?_
   refine AllReadyH.cons (o:=⟨some 28,_,_,_,_,_⟩) rfl (fun K hK=>?_) (AllReadyH.cons (o:=⟨some 6,_,_,_,_,_⟩) rfl (fun K hK=>?_) AllReadyH.nil)
   ·go_simp
    refine ((Uh KSH) _).mono ?_
    rintro e w3 ⟨rfl,hb3⟩
    go_wp2_with fail
    refine hK.out _ _ ?_ (fun hHeld=>?_)
    ·exact (Uh SM) _ (bthen ((Uh SI) _ hHeld) hb3)
    clear hK K
    try simp only [Act.put,sa9,sb9,sc9]
    refine wpAnyH_ready (rs:=[7,8]) (by kernel_rfl) (by simp) ?_
    refine AllReadyH.cons (o:=⟨some 30,_,_,_,_,_⟩) rfl (fun K hK=>?_) (AllReadyH.cons (o:=⟨some 6,_,_,_,_,_⟩) rfl (fun K hK=>?_) AllReadyH.nil)
    ·go_simp
     refine ((Uh KP) _).mono ?_
     rintro e w4 ⟨rfl,hb4⟩
     go_wp2_with fail
     refine hK.out _ _ ?_ (fun hHeld=>?_)
     ·exact (Uh SM) _ (bthen ((Uh SI) _ hHeld) hb4)
     clear hK K
     try simp only [Act.put,sa9,sb9,sc9]
     refine rd9 8 fun K hK=>?_
     have hOld:=hHeld
     have hge:W1.heap.size≤w4.heap.size:=((Uh SI) _ hHeld).size
     have hg:(w4.alloc (.cells #[.int .i64 0,.int .i64 0,.int .i64 0] 208)).heap[w4.heap.size]?=some (.cells #[.int .i64 0,.int .i64 0,.int .i64 0] 208 (0,0)):=alloc_at w4 _
     go_simp
     refine hK.out _ _ ?_ (fun hHeld=>?_)
     ·exact (Uh SM) _ (((Uh SI) _ hHeld).alloc ((Uh SI) _ hHeld).size _)
     clear hK K
     try simp only [Act.put,sa9,sb9,sc9]
     refine tk9 9 (.int .i64 (f:Int)) ?_
     have c0:=cell_of (j:=0) hg (by simp)
     have z0:=frozen_of (j:=0) hg
     have c1:=cell_of (j:=1) hg (by simp)
     have z1:=frozen_of (j:=1) hg
     have c2:=cell_of (j:=2) hg (by simp)
     have z2:=frozen_of (j:=2) hg
     refine rd9 10 fun K hK=>?_
     have hBf:Below W1.heap.size W1 (w4.alloc (.cells #[.int .i64 lo,.int .i64 hi,.int .i64 st] 208)):=((Uh SI) _ hOld).alloc ((Uh SI) _ hOld).size _
     have hgf:=alloc_at w4 (.cells #[.int .i64 lo,.int .i64 hi,.int .i64 st] 208)
     go_simp
     refine hK.out _ _ ?_ (fun hHeld=>?_)
     ·exact (Uh SM) _ hBf
     clear hK K
     try simp only [Act.put,sa9,sb9,sc9]
     refine wpAnyH_done (by kernel_rfl) ?_ _
     go_wp2_with fail
     go_meet
     case rel=>exact ⟨rfl,_,rfl,hge,hgf,hBf⟩
    ·have hOld:=hHeld
     have hge:W1.heap.size≤w3.heap.size:=((Uh SI) _ hHeld).size
     have hg:(w3.alloc (.cells #[.int .i64 0,.int .i64 0,.int .i64 0] 208)).heap[w3.heap.size]?=some (.cells #[.int .i64 0,.int .i64 0,.int .i64 0] 208 (0,0)):=alloc_at w3 _
     go_simp
     refine hK.out _ _ ?_ (fun hHeld=>?_)
     ·exact (Uh SM) _ (((Uh SI) _ hHeld).alloc ((Uh SI) _ hHeld).size _)
     clear hK K
     try simp only [Act.put,sa9,sb9,sc9]
     refine rd9 7 fun K hK=>?_
     go_simp
     refine ((Uh KP) _).mono ?_
     rintro e w4 ⟨rfl,hb4⟩
     go_wp2_with fail
     refine hK.out _ _ ?_ (fun hHeld=>?_)
     ·exact (Uh SM) _ (bthen ((Uh SI) _ hHeld) hb4)
     clear hK K
     try simp only [Act.put,sa9,sb9,sc9]
     have hg:=(hb4.block _ (lt_of_block hg)).trans hg
     refine tk9 9 (.int .i64 (f:Int)) ?_
     have c0:=cell_of (j:=0) hg (by simp)
     have z0:=frozen_of (j:=0) hg
     have c1:=cell_of (j:=1) hg (by simp)
     have z1:=frozen_of (j:=1) hg
     have c2:=cell_of (j:=2) hg (by simp)
     have z2:=frozen_of (j:=2) hg
     refine rd9 10 fun K hK=>?_
     have hBf:=below_set (j:=2) (below_set (j:=1) (below_set (j:=0) ((Uh SI) _ hHeld) hge (.int .i64 lo)) hge (.int .i64 hi)) hge (.int .i64 st)
     have hgf:=set_block (j:=2) (set_block (j:=1) (set_block (j:=0) hg (.int .i64 lo)) (.int .i64 hi)) (.int .i64 st)
     go_simp
     refine hK.out _ _ ?_ (fun hHeld=>?_)
     ·exact (Uh SM) _ hBf
     clear hK K
     try simp only [Act.put,sa9,sb9,sc9]
     refine wpAnyH_done (by kernel_rfl) ?_ _
     go_wp2_with fail
     go_meet
     case rel=>exact ⟨rfl,_,rfl,hge,hgf,hBf⟩
   ·have hOld:=hHeld
    have hge:W1.heap.size≤w2.heap.size:=((Uh SI) _ hHeld).size
    have hg:(w2.alloc (.cells #[.int .i64 0,.int .i64 0,.int .i64 0] 208)).heap[w2.heap.size]?=some (.cells #[.int .i64 0,.int .i64 0,.int .i64 0] 208 (0,0)):=alloc_at w2 _
    go_simp
    refine hK.out _ _ ?_ (fun hHeld=>?_)
    ·exact (Uh SM) _ (((Uh SI) _ hHeld).alloc ((Uh SI) _ hHeld).size _)
    clear hK K
    try simp only [Act.put,sa9,sb9,sc9]
    refine rd9 5 fun K hK=>?_
    go_simp
    refine ((Uh KSH) _).mono ?_
    rintro e w3 ⟨rfl,hb3⟩
    go_wp2_with fail
    refine hK.out _ _ ?_ (fun hHeld=>?_)
    ·exact (Uh SM) _ (bthen ((Uh SI) _ hHeld) hb3)
    clear hK K
    try simp only [Act.put,sa9,sb9,sc9]
    have hg:=(hb3.block _ (lt_of_block hg)).trans hg
    refine rd9 7 fun K hK=>?_
    go_simp
    refine ((Uh KP) _).mono ?_
    rintro e w4 ⟨rfl,hb4⟩
    go_wp2_with fail
    refine hK.out _ _ ?_ (fun hHeld=>?_)
    ·exact (Uh SM) _ (bthen ((Uh SI) _ hHeld) hb4)
    clear hK K
    try simp only [Act.put,sa9,sb9,sc9]
    have hg:=(hb4.block _ (lt_of_block hg)).trans hg
    refine tk9 9 (.int .i64 (f:Int)) ?_
    have c0:=cell_of (j:=0) hg (by simp)
    have z0:=frozen_of (j:=0) hg
    have c1:=cell_of (j:=1) hg (by simp)
    have z1:=frozen_of (j:=1) hg
    have c2:=cell_of (j:=2) hg (by simp)
    have z2:=frozen_of (j:=2) hg
    refine rd9 10 fun K hK=>?_
    have hBf:=below_set (j:=2) (below_set (j:=1) (below_set (j:=0) ((Uh SI) _ hHeld) hge (.int .i64 lo)) hge (.int .i64 hi)) hge (.int .i64 st)
    have hgf:=set_block (j:=2) (set_block (j:=1) (set_block (j:=0) hg (.int .i64 lo)) (.int .i64 hi)) (.int .i64 st)
    go_simp
    refine hK.out _ _ ?_ (fun hHeld=>?_)
    ·exact (Uh SM) _ hBf
    clear hK K
    try simp only [Act.put,sa9,sb9,sc9]
    refine wpAnyH_done (by kernel_rfl) ?_ _
    go_wp2_with fail
    go_meet
    case rel=>exact ⟨rfl,_,rfl,hge,hgf,hBf⟩
  ·have hOld:=hHeld
   have hge:W1.heap.size≤W1.heap.size:=((Uh SI) _ hHeld).size
   have hg:(W1.drew.alloc (.cells #[.int .i64 0,.int .i64 0,.int .i64 0] 208)).heap[W1.heap.size]?=some (.cells #[.int .i64 0,.int .i64 0,.int .i64 0] 208 (0,0)):=alloc_at W1.drew _
   go_simp
   refine hK.out _ _ ?_ (fun hHeld=>?_)
   ·exact (Uh SM) _ (((Uh SI) _ hHeld).alloc ((Uh SI) _ hHeld).size _)
   clear hK K
   try simp only [Act.put,sa9,sb9,sc9]
   refine rd9 2 fun K hK=>?_
   go_simp
   refine ((Uh KF) _ (bthen hb0 ((Uh SI) _ hHeld))).mono ?_
   rintro e w2 ⟨rfl,hb2⟩
   go_wp2_with fail
   refine hK.out _ _ ?_ (fun hHeld=>?_)
   ·exact (Uh SM) _ (bthen ((Uh SI) _ hHeld) hb2)
   clear hK K
   try simp only [Act.put,sa9,sb9,sc9]
   have hg:=(hb2.block _ (lt_of_block hg)).trans hg
   refine rd9 5 fun K hK=>?_
   go_simp
   refine ((Uh KSH) _).mono ?_
   rintro e w3 ⟨rfl,hb3⟩
   go_wp2_with fail
   refine hK.out _ _ ?_ (fun hHeld=>?_)
   ·exact (Uh SM) _ (bthen ((Uh SI) _ hHeld) hb3)
   clear hK K
   try simp only [Act.put,sa9,sb9,sc9]
   have hg:=(hb3.block _ (lt_of_block hg)).trans hg
   refine rd9 7 fun K hK=>?_
   go_simp
   refine ((Uh KP) _).mono ?_
   rintro e w4 ⟨rfl,hb4⟩
   go_wp2_with fail
   refine hK.out _ _ ?_ (fun hHeld=>?_)
   ·exact (Uh SM) _ (bthen ((Uh SI) _ hHeld) hb4)
   clear hK K
   try simp only [Act.put,sa9,sb9,sc9]
   have hg:=(hb4.block _ (lt_of_block hg)).trans hg
   refine tk9 9 (.int .i64 (f:Int)) ?_
   have c0:=cell_of (j:=0) hg (by simp)
   have z0:=frozen_of (j:=0) hg
   have c1:=cell_of (j:=1) hg (by simp)
   have z1:=frozen_of (j:=1) hg
   have c2:=cell_of (j:=2) hg (by simp)
   have z2:=frozen_of (j:=2) hg
   refine rd9 10 fun K hK=>?_
   have hBf:=below_set (j:=2) (below_set (j:=1) (below_set (j:=0) ((Uh SI) _ hHeld) hge (.int .i64 lo)) hge (.int .i64 hi)) hge (.int .i64 st)
   have hgf:=set_block (j:=2) (set_block (j:=1) (set_block (j:=0) hg (.int .i64 lo)) (.int .i64 hi)) (.int .i64 st)
   go_simp
   refine hK.out _ _ ?_ (fun hHeld=>?_)
   ·exact (Uh SM) _ hBf
   clear hK K
   try simp only [Act.put,sa9,sb9,sc9]
   refine wpAnyH_done (by kernel_rfl) ?_ _
   go_wp2_with fail
   go_meet
   case rel=>exact ⟨rfl,_,rfl,hge,hgf,hBf⟩
 case rest =>
  obtain ⟨rfl,g,rfl,hgW,hgc,hBc⟩:=hcut
  obtain ⟨w5,hw5⟩:∃ x:World,x=wc:=⟨wc,rfl⟩
  subst hw5
  have hbwc:=bthen hb0 hBc
  have SM4:Hid (∀ W,Below w5.heap.size w5 W→W.cell? ⟨L,f,none⟩=some (vs f)∧W.cell? ⟨g,0,none⟩=some (.int .i64 lo)∧W.cell? ⟨g,1,none⟩=some (.int .i64 hi)∧W.cell? ⟨g,2,none⟩=some (.int .i64 st)∧Hid (Below w5.heap.size w5 W)):=fun W h=>by
   have h2:W.heap[g]?=_:=(h.block _ (lt_of_block hgc)).trans hgc
   exact ⟨((Uh HLG).on (bthen hbwc h)).cell hf,cell_of (j:=0) h2 (by simp),cell_of (j:=1) h2 (by simp),cell_of (j:=2) h2 (by simp),h⟩
  have hgl:=lt_of_block hgc
  replace hgc:=Hd hgc
  replace hbwc:=Hd hbwc
  clear KF KSH KP SM SI hBc hb0 hh0 hsz hgW
  have i0:(0:Int)≤(f:Int):=by omega
  have i1:(f:Int)<11:=by omega
  go_upto_region 4 with fail
  go_cut [7] (fun kv wx=>kv=.bool known∧Below w5.heap.size w5 wx)
  case first =>
   refine wp_region_held_drew (S:=fun w'=>w'.cell? ⟨L,f,none⟩=some (vs f)∧w'.cell? ⟨g,0,none⟩=some (.int .i64 lo)∧w'.cell? ⟨g,1,none⟩=some (.int .i64 hi)∧w'.cell? ⟨g,2,none⟩=some (.int .i64 st)∧Hid (Below w5.heap.size w5 w')) (by kernel_rfl) ((Uh SM4) _ (drewB ⟨1,rfl⟩)) (fun hHeld=>?_)
   refine tk9 0 (.pointer (some ⟨L,0,none⟩)) ?_
   refine tk9 1 (.int .i64 (f:Int)) ?_
   refine tk9 2 (.pointer (some ⟨L,0,none⟩)) ?_
   refine tk9 3 (.pointer (some ⟨L,0,none⟩)) ?_
   refine tk9 4 (.pointer (some ⟨L,f,none⟩)) ?_
   refine tk9 5 (vs f) ?_
   refine tk9 6 (.agg #[.int .i64 lo,.int .i64 hi,.int .i64 st]) ?_
   refine tk9 7 (.func (.func 167) #[.agg #[.int .i64 lo,.int .i64 hi,.int .i64 st]] #[]) ?_
   refine rd9 8 fun K hK=>?_
   go_simp
   refine ((Uh KC) _ (bthen (Uh hbwc) (Uh hHeld.2.2.2.2))).mono ?_
   rintro e w2 ⟨rfl,hb2⟩
   go_wp2_with fail
   refine hK.out _ _ ?_ (fun hHeld=>?_)
   ·exact (Uh SM4) _ (bthen (Uh hHeld.2.2.2.2) hb2)
   clear hK K
   try simp only [Act.put,sa9,sb9,sc9]
   refine tk9 9 (.bool known) ?_
   refine wpAnyH_done (by kernel_rfl) ?_ _
   go_wp2_with fail
   go_meet
   case rel=>exact ⟨rfl,Uh hHeld.2.2.2.2⟩
  case rest =>
   obtain ⟨rfl,hBd⟩:=hcut
   obtain ⟨wd,hwd⟩:∃ x:World,x=wc:=⟨wc,rfl⟩
   subst hwd
   have hbd:=bthen (Uh hbwc) hBd
   have hbe:Below w.heap.size w (wd.alloc (.cells #[.int .i64 lo,.int .i64 hi,.int .i64 st] 208)).drew:=bthen (hbd.alloc hbd.size _) (drewB ⟨1,rfl⟩)
   have hdW:Below w5.heap.size w5 wd.drew:=bthen hBd (drewB ⟨1,rfl⟩)
   obtain ⟨yd,r0,r1,r2,_⟩:=(Uh SM4) wd.drew hdW
   obtain ⟨ye,_⟩:=(Uh SM4) (wd.alloc (.cells #[.int .i64 lo,.int .i64 hi,.int .i64 st] 208)).drew (bthen (hBd.alloc hBd.size _) (drewB ⟨1,rfl⟩))
   have hrow:=(((Uh HLG).on hbe).rows f hf).2
   have hown:∀ k,(vs f).ownBlock=some k→k<w.heap.size∧B≤k:=fun k hk=>own_lt ((Uh HLG).rows f hf).2 hk
   have hLlt:L<w.heap.size:=lt_of_cell? ((Uh HLG).cell hf)
   have hLne:some L≠(vs f).ownBlock:=fun e=>((Uh HLG).far f hf L e.symm).1 rfl
   have hBL:=(Uh HLG).bl
   have hsize:w.heap.size≤wd.heap.size:=hbd.size
   have hkept:=hbe.block
   have hLc:=((Uh HLG).on hbe).blk
   obtain ⟨i9,hi0,hz0,hz1,hz2⟩:=info_parts infoRun
   have hnews:∀ j u,[Value.int .i64 lo,.int .i64 hi,.int .i64 st][j]?=some u→(wd.alloc (.cells #[.int .i64 lo,.int .i64 hi,.int .i64 st] 208)).drew.cell? ((⟨wd.heap.size,0,none⟩:Addr).add j)=some u:=World.news_of_block (cs:=#[.int .i64 lo,.int .i64 hi,.int .i64 st]) (t:=208) (fr:=(0,0)) (alloc_at wd _)
   have hH:(wd.alloc (.cells #[.int .i64 lo,.int .i64 hi,.int .i64 st] 208)).drew.heap.size=wd.heap.size+1:=by
    show (wd.heap.push _).size=_
    simp
   replace hLc:=Hd hLc
   have hBE:Hid (B≤(wd.alloc (.cells #[.int .i64 lo,.int .i64 hi,.int .i64 st] 208)).drew.heap.size):=by
    show B≤_
    rw [hH]; omega
   have hLE:Hid (L<(wd.alloc (.cells #[.int .i64 lo,.int .i64 hi,.int .i64 st] 208)).drew.heap.size):=by
    show L<_
    rw [hH]; omega
   have ye2:(wd.alloc (.cells #[.int .i64 lo,.int .i64 hi,.int .i64 st] 208)).cell? ⟨L,f,none⟩=some (vs f):=ye
   replace hH:=Hd hH
   replace hown:=Hd hown
   replace hkept:=Hd hkept
   replace hbe:=Hd hbe
   clear KC SM4 HLG hlg hgc hbwc hBd hdW hbd eg2 hm eg
   go_upto_region 5 with fail
   refine wp_region_any (by kernel_rfl) ?_
   change wpAny _ _ _ _ _ _ _ (World.drew _)
   refine wpAny_take (i:=0) (oi:=⟨some 40,_,_,_,_,_⟩) (v:=.pointer (some ⟨L,0,none⟩)) rfl (by kernel_rfl) (by kernel_rfl) (by kernel_rfl) (fun _ _ _ h=>h) (Or.inl ⟨by rfl,?_⟩) ?_
   ·intro w; go_simp
   try simp only [Act.put,sa9,sb9,sc9]
   refine wpAny_take (i:=1) (oi:=⟨some 41,_,_,_,_,_⟩) (v:=.int .i64 (f:Int)) rfl (by kernel_rfl) (by kernel_rfl) (by kernel_rfl) (fun _ _ _ h=>h) (Or.inl ⟨by rfl,?_⟩) ?_
   ·intro w; go_simp
   try simp only [Act.put,sa9,sb9,sc9]
   refine wpAny_take (i:=2) (oi:=⟨some 42,_,_,_,_,_⟩) (v:=.pointer (some ⟨L,0,none⟩)) rfl (by kernel_rfl) (by kernel_rfl) (by kernel_rfl) (fun _ _ _ h=>h) (Or.inl ⟨by rfl,?_⟩) ?_
   ·intro w; go_simp
   try simp only [Act.put,sa9,sb9,sc9]
   refine wpAny_take (i:=3) (oi:=⟨some 43,_,_,_,_,_⟩) (v:=.int .i64 (f:Int)) rfl (by kernel_rfl) (by kernel_rfl) (by kernel_rfl) (fun _ _ _ h=>h) (Or.inl ⟨by rfl,?_⟩) ?_
   ·intro w; go_simp
   try simp only [Act.put,sa9,sb9,sc9]
   refine wpAny_take (i:=4) (oi:=⟨some 44,_,_,_,_,_⟩) (v:=.pointer (some ⟨L,0,none⟩)) rfl (by kernel_rfl) (by kernel_rfl) (by kernel_rfl) (fun _ _ _ h=>h) (Or.inl ⟨by rfl,?_⟩) ?_
   ·intro w; go_simp
   try simp only [Act.put,sa9,sb9,sc9]
   refine wpAny_take (i:=5) (oi:=⟨some 45,_,_,_,_,_⟩) (v:=.pointer (some ⟨L,0,none⟩)) rfl (by kernel_rfl) (by kernel_rfl) (by kernel_rfl) (fun _ _ _ h=>h) (Or.inl ⟨by rfl,?_⟩) ?_
   ·intro w; go_simp
   try simp only [Act.put,sa9,sb9,sc9]
   refine wpAny_take (i:=6) (oi:=⟨some 46,_,_,_,_,_⟩) (v:=.pointer (some ⟨L,f,none⟩)) rfl (by kernel_rfl) (by kernel_rfl) (by kernel_rfl) (fun _ _ _ h=>h) (Or.inl ⟨by rfl,?_⟩) ?_
   ·intro w; go_simp
   try simp only [Act.put,sa9,sb9,sc9]
   refine wpAny_take (i:=11) (oi:=⟨some 51,_,_,_,_,_⟩) (v:=.pointer (some ⟨L,0,none⟩)) rfl (by kernel_rfl) (by kernel_rfl) (by kernel_rfl) (fun _ _ _ h=>h) (Or.inl ⟨by rfl,?_⟩) ?_
   ·intro w; go_simp
   try simp only [Act.put,sa9,sb9,sc9]
   refine wpAny_take (i:=12) (oi:=⟨some 52,_,_,_,_,_⟩) (v:=.pointer (some ⟨L,0,none⟩)) rfl (by kernel_rfl) (by kernel_rfl) (by kernel_rfl) (fun _ _ _ h=>h) (Or.inl ⟨by rfl,?_⟩) ?_
   ·intro w; go_simp
   try simp only [Act.put,sa9,sb9,sc9]
   refine wpAny_ready (rs:=[7,8]) (by kernel_rfl) (by simp) ?_
   refine AllReady.cons (o:=⟨some 47,_,_,_,_,_⟩) rfl (fun K hK=>?sa) (AllReady.cons (o:=⟨some 48,_,_,_,_,_⟩) rfl (fun K hK=>?sb) AllReady.nil)
   case' sa =>
    go_simp
    refine hK _ _ ?_
    clear hK K
    try simp only [Act.put,sa9,sb9,sc9]
    refine wpAny_ready (rs:=[8]) (by kernel_rfl) (by simp) ?_
    refine AllReady.cons (o:=⟨some 48,_,_,_,_,_⟩) rfl (fun K hK=>?_) AllReady.nil
    go_simp
    refine hK _ _ ?_
    clear hK K
    try simp only [Act.put,sa9,sb9,sc9]
    refine wpAny_ready (rs:=[9]) (by kernel_rfl) (by simp) ?_
    refine AllReady.cons (o:=⟨some 49,_,_,_,_,_⟩) rfl (fun K hK=>?_) AllReady.nil
    go_simp
    refine hK _ _ ?_
    clear hK K
    try simp only [Act.put,sa9,sb9,sc9]
   case' sb =>
    go_simp
    refine hK _ _ ?_
    clear hK K
    try simp only [Act.put,sa9,sb9,sc9]
    refine wpAny_ready (rs:=[7,9]) (by kernel_rfl) (by simp) ?_
    refine AllReady.cons (o:=⟨some 47,_,_,_,_,_⟩) rfl (fun K hK=>?sc) (AllReady.cons (o:=⟨some 49,_,_,_,_,_⟩) rfl (fun K hK=>?sd) AllReady.nil)
   case' sc =>
    go_simp
    refine hK _ _ ?_
    clear hK K
    try simp only [Act.put,sa9,sb9,sc9]
    refine wpAny_ready (rs:=[9]) (by kernel_rfl) (by simp) ?_
    refine AllReady.cons (o:=⟨some 49,_,_,_,_,_⟩) rfl (fun K hK=>?_) AllReady.nil
    go_simp
    refine hK _ _ ?_
    clear hK K
    try simp only [Act.put,sa9,sb9,sc9]
   case' sd =>
    go_simp
    refine hK _ _ ?_
    clear hK K
    try simp only [Act.put,sa9,sb9,sc9]
    refine wpAny_ready (rs:=[7]) (by kernel_rfl) (by simp) ?_
    refine AllReady.cons (o:=⟨some 47,_,_,_,_,_⟩) rfl (fun K hK=>?_) AllReady.nil
    go_simp
    refine hK _ _ ?_
    clear hK K
    try simp only [Act.put,sa9,sb9,sc9]
   all_goals
    refine wpAny_ready (rs:=[10]) (by kernel_rfl) (by simp) ?_
    refine AllReady.cons (o:=⟨some 50,_,_,_,_,_⟩) rfl (fun K hK=>?_) AllReady.nil
    refine step_append_lies _ (by rfl) _ _ _ (by rfl) B 208 i9 _ 3 24 Tryz.underlying197 hi0 hz0 hz1 hz2 rfl (by omega) (vs f) (fs f).length (ncells (fs f)) (by rfl) hrow ⟨wd.heap.size,0,none⟩ 1 1 [.int .i64 lo,.int .i64 hi,.int .i64 st] (by rfl) (by rfl) hnews (by simp [Value.oneCell']) (by omega) (by unfold maxLen; omega) (by omega) (Uh hBE) (wd.heap.size+1) (Uh hH) ?_
    intro gg cap w8 hrow8 hgrow hat _
    refine hK _ _ ?_
    clear hK K
    try simp only [Act.put,sa9,sb9,sc9]
    have hLG:=(Uh HM) (wd.alloc (.cells #[.int .i64 lo,.int .i64 hi,.int .i64 st] 208)).drew w8 gg cap (Uh hkept) (Uh hbe).size hgrow (by rw [Uh hH]; exact hat) hrow8
    have hb8:Below B w w8:=((Uh hbe).mono hBw).grown hgrow (Uh hBE) (fun k hk=>((Uh hown) k hk).2)
    have hb9:=below_set (j:=f) hb8 hBL (.slice (some ⟨gg,0,none⟩) ((fs f).length+1) cap)
    obtain ⟨cur,q1,q2,_,_⟩:=Uh hLc
    have q8:w8.heap[L]?=_:=(hgrow.block L (Uh hLE) hLne).trans q1
    have c8:=cell_of (j:=f) q8 (by omega)
    have z8:=frozen_of (j:=f) q8
    have HF:=Hd ((Uh HT) _ ⟨_,hLG⟩ hb9)
    clear hLG hb8 hb9 q8 q1 hrow8 hgrow hat
    refine wpAny_take (i:=13) (oi:=⟨some 53,_,_,_,_,_⟩) (v:=.pointer (some ⟨L,f,none⟩)) rfl (by kernel_rfl) (by kernel_rfl) (by kernel_rfl) (fun _ _ _ h=>h) (Or.inl ⟨by rfl,?_⟩) ?_
    ·intro w; go_simp
    try simp only [Act.put,sa9,sb9,sc9]
    refine wpAny_ready (rs:=[14]) (by kernel_rfl) (by simp) ?_
    refine AllReady.cons (o:=⟨none,_,_,_,_,_⟩) rfl (fun K hK=>?_) AllReady.nil
    go_simp
    refine hK _ _ ?_
    clear hK K
    try simp only [Act.put,sa9,sb9,sc9]
    refine wpAny_done (by kernel_rfl) ?_ _
    clear HM HT yd ye ye2 r0 r1 r2 hrow hnews
    go_wp2
    exact Uh HF
open Go.Lib (minS maxS run_min_strs run_max_strs)
theorem ba_inj {a b:ByteArray} (h:a.data.toList=b.data.toList):a=b:=by
 cases a; cases b
 simp_all
theorem kp_two a b:(minS a b=a∧maxS a b=b)∨(minS a b=b∧maxS a b=a):=by
 unfold minS maxS
 by_cases h:a.data.toList<b.data.toList
 ·grind
 ·by_cases h2:a.data.toList=b.data.toList
  ·rw [if_pos (.inr h2),if_neg h]; exact .inl ⟨rfl,ba_inj h2⟩
  ·grind
theorem kp_symm a b:minS a b=minS b a∧maxS a b=maxS b a:=by
 unfold minS maxS
 by_cases h:a.data.toList<b.data.toList
 ·grind
 ·by_cases h2:a.data.toList=b.data.toList
  ·obtain rfl:=ba_inj h2; exact ⟨rfl,rfl⟩
  ·have h3:b.data.toList<a.data.toList:=by
    rcases Std.le_total (a:=a.data.toList) (b:=b.data.toList) with hh | hh
    ·grind
    ·grind
   rw [if_neg (fun e=>e.elim h h2),if_neg h,if_pos (.inl h3),if_pos h3]; exact ⟨rfl,rfl⟩
theorem kp_iff a b a' b':(minS a b=minS a' b'∧maxS a b=maxS a' b')↔((a=a'∧b=b')∨(a=b'∧b=a')):=by
 constructor
 ·rintro ⟨h1,h2⟩
  rcases kp_two a b with ⟨x,y⟩ | ⟨x,y⟩ <;> rcases kp_two a' b' with ⟨x',y'⟩ | ⟨x',y'⟩ <;> rw [x,x'] at h1 <;> rw [y,y'] at h2
  ·exact .inl ⟨h1,h2⟩
  ·exact .inr ⟨h1,h2⟩
  ·exact .inr ⟨h2,h1⟩
  ·exact .inl ⟨h2,h1⟩
 ·rintro (⟨rfl,rfl⟩ | ⟨rfl,rfl⟩)
  ·exact ⟨rfl,rfl⟩
  ·exact kp_symm a b
def TwM (w:World) (B L rr:Nat) (fs:Nat→List Run) (c:ByteArray→ByteArray→Int) (a b:ByteArray) (e:Ending) (w':World):Prop:=e=.returned (.bool (decide (0<c (minS a b) (maxS a b))))∧(∃ vs',LG w' B L rr vs' fs (incr c (minS a b) (maxS a b)))∧Below B w w'
theorem sh_min {a b} (ha:Sh a) (hb:Sh b):Sh (minS a b)∧Sh (maxS a b):=by
 rcases kp_two a b with ⟨x,y⟩ | ⟨x,y⟩ <;> rw [x,y]
 ·exact ⟨ha,hb⟩
 ·exact ⟨hb,ha⟩
set_option maxRecDepth 20000 in
set_option maxHeartbeats 4000000 in
theorem twiceMix_any r vt w B L rr (vs:Nat→Value) (fs:Nat→List Run) (c:ByteArray→ByteArray→Int)
  (hlg:LG w B L rr vs fs c) (hBw:B≤w.heap.size) (h15:r.kind=15) (ha:Sh r.name) (hb:Sh r.other) (hc:∀ x y,0≤c x y∧c x y≤100000):Calls Tryz.prog 141 #[.pointer (some ⟨L,0,none⟩),recV r vt] w (TwM w B L rr fs c r.name r.other):=by
 unfold recV
 rw [h15]
 obtain ⟨s1,s2⟩:=sh_min ha hb
 generalize r.n=n
 generalize r.lo=lo
 generalize r.hi=hi
 generalize r.name=nm at *
 generalize r.other=ot at *
 generalize r.wt=wt
 have hb0:Below w.heap.size w (w.alloc (.cells #[.int .i64 15,.int .i64 lo,.int .i64 hi,.int .i64 n,vt,.string nm,.string ot,.float .f64 wt] 59)):=(Below.refl _ _).alloc (Nat.le_refl _) _
 have hlg1:=hlg.on hb0
 have K:=Hd (mixed_any L rr (minS nm ot) (maxS nm ot) c _ hlg1.mcell hlg1.lr hlg1.map s1 s2 (hc _ _))
 have HM:Hid (∀ W,MAt W rr (incr c (minS nm ot) (maxS nm ot))→But rr (w.alloc (.cells #[.int .i64 15,.int .i64 lo,.int .i64 hi,.int .i64 n,vt,.string nm,.string ot,.float .f64 wt] 59)) W→TwM w B L rr fs c nm ot (.returned (.bool (decide (0<c (minS nm ot) (maxS nm ot))))) W):=fun W m b=>⟨rfl,⟨vs,hlg1.mixed m b⟩,(hb0.mono hBw).trans (b.below B hlg.br)⟩
 have e1:=fun W ts t=>run_min_strs (P:=Tryz.prog) W ts t nm ot
 have e2:=fun W ts t=>run_max_strs (P:=Tryz.prog) W ts t nm ot
 go_enter Tryz.func141,Tryz.ntmps141
 go_wp2_with fail
 refine (Uh K).mono ?_
 rintro e w1 ⟨rfl,m1,b1⟩
 have HF:=Hd ((Uh HM) w1 m1 b1)
 go_wp2
 go_ret
 exact Uh HF
open Go.Lib (minS maxS)
def ledF (l:List Rec) (f:Nat):List Run:=(l.filter fun r=>decide (r.kind≠15∧Cn.fam r.kind=(f:Int))).map runR
def ledC:List Rec→ByteArray→ByteArray→Int
 | [],_,_=>0
 | r :: l,a,b=>(if r.kind=15∧minS r.name r.other=a∧maxS r.name r.other=b then 1 else 0)+ledC l a b
theorem ledC_app (r:Rec) (a b:ByteArray):∀ l:List Rec,ledC (l++[r]) a b=ledC l a b+(if r.kind=15∧minS r.name r.other=a∧maxS r.name r.other=b then 1 else 0)
 | []=>by simp [ledC]
 | x :: l=>by simp only [List.cons_append,ledC,ledC_app r a b l]; omega
theorem ledC_bound (a b:ByteArray):∀ l:List Rec,0≤ledC l a b∧ledC l a b≤l.length
 | []=>by simp [ledC]
 | x :: l=>by
  have:=ledC_bound a b l
  simp only [ledC,List.length_cons]
  split <;> omega
theorem ledC_pos (a b:ByteArray):∀ l:List Rec,0<ledC l a b↔∃ k∈l,k.kind=15∧minS k.name k.other=a∧maxS k.name k.other=b
 | []=>by simp [ledC]
 | x :: l=>by
  have h0:=ledC_bound a b l
  have ih:=ledC_pos a b l
  simp only [ledC]
  by_cases hx:x.kind=15∧minS x.name x.other=a∧maxS x.name x.other=b
  ·rw [if_pos hx]
   exact ⟨fun _=>⟨x,by simp,hx⟩,fun _=>by omega⟩
  ·rw [if_neg hx,Int.zero_add,ih]
   constructor
   ·rintro ⟨k,hk,h⟩; exact ⟨k,List.mem_cons_of_mem _ hk,h⟩
   ·rintro ⟨k,hk,h⟩
    rcases List.mem_cons.1 hk with rfl | hk
    ·exact absurd h hx
    ·exact ⟨k,hk,h⟩
theorem ledF_app l r f:ledF (l++[r]) f=ledF l f++(if r.kind≠15∧Cn.fam r.kind=(f:Int) then [runR r] else []):=by
 unfold ledF
 rw [List.filter_append,List.map_append]
 congr 1
 by_cases h:r.kind≠15∧Cn.fam r.kind=(f:Int)
 ·grind
 ·grind
theorem ledF_len l f:(ledF l f).length≤l.length:=by
 unfold ledF
 rw [List.length_map]
 exact List.length_filter_le _ _
theorem ledF_mix {l r} (h:r.kind=15):ledF (l++[r])=ledF l:=by
 funext f
 rw [ledF_app,if_neg (fun a=>a.1 h),List.append_nil]
theorem ledC_mix {l r} (h:r.kind=15):ledC (l++[r])=incr (ledC l) (minS r.name r.other) (maxS r.name r.other):=by
 funext a b
 rw [ledC_app]
 unfold incr
 by_cases e:a=minS r.name r.other∧b=maxS r.name r.other
 ·grind
 ·grind
theorem ledF_run {l r} {f:Nat} (h:r.kind≠15) (hf:Cn.fam r.kind=(f:Int)):ledF (l++[r])=upd (ledF l) f (ledF l f++[runR r]):=by
 funext g
 rw [ledF_app]
 by_cases e:g=f
 ·subst e
  rw [upd_same,if_pos ⟨h,hf⟩]
 ·rw [upd_other _ _ e,if_neg (fun a=>e (by omega)),List.append_nil]
theorem ledC_run {l r} (h:r.kind≠15):ledC (l++[r])=ledC l:=by
 funext a b
 rw [ledC_app,if_neg (fun x=>h x.1),Int.add_zero]
theorem any_mix {l r} (h:r.kind=15):decide (0<ledC l (minS r.name r.other) (maxS r.name r.other))=l.any fun k=>Cn.clash k r:=by
 rw [Bool.eq_iff_iff,decide_eq_true_eq,ledC_pos,List.any_eq_true]
 constructor
 ·rintro ⟨k,hk,h1,h2,h3⟩
  refine ⟨k,hk,?_⟩
  unfold Cn.clash
  rw [if_neg (by rw [h,h1]; simp),if_pos h1]
  exact decide_eq_true ((kp_iff _ _ _ _).1 ⟨h2,h3⟩)
 ·rintro ⟨k,hk,hc⟩
  unfold Cn.clash at hc
  split at hc
  ·cases hc
  ·next hf =>
   have h1:k.kind=15:=Cn.fam_ten (by have:=Decidable.not_not.1 hf; rw [this,h]; decide)
   rw [if_pos h1] at hc
   obtain ⟨h2,h3⟩:=(kp_iff _ _ _ _).2 (of_decide_eq_true hc)
   exact ⟨k,hk,h1,h2,h3⟩
theorem any_run {l r} {f:Nat} (hl:∀ k∈l,Cn.right k=0) (hr:Cn.right r=0) (h:r.kind≠15) (hf:Cn.fam r.kind=(f:Int)):((ledF l f).any fun y=>(runR r).meets y)=l.any fun k=>Cn.clash k r:=by
 rw [Bool.eq_iff_iff,List.any_eq_true,List.any_eq_true]
 unfold ledF
 constructor
 ·rintro ⟨y,hy,hm⟩
  obtain ⟨k,hk,rfl⟩:=List.mem_map.1 hy
  rw [List.mem_filter,decide_eq_true_eq] at hk
  refine ⟨k,hk.1,?_⟩
  rw [clash_meets (hl k hk.1) hr (hk.2.2.trans hf.symm) hk.2.1 h]
  exact hm
 ·rintro ⟨k,hk,hc⟩
  have hfam:Cn.fam k.kind=Cn.fam r.kind:=by
   unfold Cn.clash at hc
   split at hc
   ·cases hc
   ·omega
  have hk15:k.kind≠15:=fun e=>h (Cn.fam_ten (by rw [← hfam,e]; decide))
  rw [clash_meets (hl k hk) hr hfam hk15 h] at hc
  exact ⟨runR k,List.mem_map.2 ⟨k,List.mem_filter.2 ⟨hk,decide_eq_true ⟨hk15,hfam.trans hf⟩⟩,rfl⟩,hc⟩
theorem ledF_ok {l} (hl:∀ k∈l,Cn.right k=0) {f}:∀ y∈ledF l f,y.ok:=by
 intro y hy
 unfold ledF at hy
 obtain ⟨k,hk,rfl⟩:=List.mem_map.1 hy
 rw [List.mem_filter,decide_eq_true_eq] at hk
 exact runR_ok (hl k hk.1) hk.2.1
theorem mix_names {r} (h:Cn.right r=0) (h15:r.kind=15):Sh r.name∧Sh r.other:=by
 have hn:∀ s:ByteArray,Cn.nameL s=true→Sh s:=fun s hs=>by
  unfold Cn.nameL at hs
  split at hs
  ·next a b c d e =>
   have:(s.data.toList.map (·.toNat)).length=4:=by rw [e]; rfl
   rw [List.length_map] at this
   have h2:s.size=4:=by simp_all
   unfold Sh; omega
  ·cases hs
 have hf:=Cn.right_kind h
 unfold Cn.right at h
 rw [if_neg hf,if_pos h15] at h
 have hc:=Cn.if_zero h
 exact ⟨hn _ hc.2.2.2.1,hn _ hc.2.2.2.2.1⟩
def TwA (w:World) (B L rr:Nat) (l:List Rec) (r:Rec) (e:Ending) (w':World):Prop:=e=.returned (.bool (l.any fun k=>Cn.clash k r))∧(∃ vs',LG w' B L rr vs' (ledF (l++[r])) (ledC (l++[r])))∧Below B w w'
theorem twice_any r vt w B L rr (vs:Nat→Value) l (hg:Glob w) (hlg:LG w B L rr vs (ledF l) (ledC l)) (hBw:B≤w.heap.size) (hfit:RecFit r) (hl:∀ k∈l,Cn.right k=0) (hr:Cn.right r=0) (hlen:l.length≤5000) :
  Calls Tryz.prog 141 #[.pointer (some ⟨L,0,none⟩),recV r vt] w (TwA w B L rr l r):=by
 by_cases h15:r.kind=15
 ·obtain ⟨s1,s2⟩:=mix_names hr h15
  refine (twiceMix_any r vt w B L rr vs _ _ hlg hBw h15 s1 s2 (fun x y=>by have:=ledC_bound x y l; omega)).mono ?_
  rintro e w' ⟨rfl,h2,h3⟩
  exact ⟨by rw [any_mix h15],by rw [ledF_mix h15,ledC_mix h15]; exact h2,h3⟩
 ·obtain ⟨f,hf⟩:∃ f:Nat,Cn.fam r.kind=(f:Int):=⟨(Cn.fam r.kind).toNat,by have:=Cn.fam_small r.kind; omega⟩
  have hf11:f<11:=by have:=Cn.fam_small r.kind; omega
  have hflen:(ledF l f).length<100000:=by have:=ledF_len l f; omega
  have key : ∀ (T fp : Nat), shape r.kind = .iface T (.agg #[.int .i64 r.kind]) → (∀ W, (method 407 T (.agg #[.int .i64 r.kind]) "endonym/table.spoken").run Tryz.prog W = .ok (fp, .agg #[.int .i64 r.kind]) W) → (∀ args W, (callFunc fp args).run Tryz.prog W = .ok (.enter fp args) W) → (∀ W, Calls Tryz.prog fp #[shV r.kind, recV r vt] W (fun e w' => e = .returned (runV r.lo r.hi (stepP r)) ∧ Below W.heap.size W w')) → Calls Tryz.prog 141 #[.pointer (some ⟨L, 0, none⟩), recV r vt] w (TwA w B L rr l r) := by
   intro T fp es hm eg KP
   refine (twice_core T fp r vt w B L rr f vs _ _ hlg hBw hf11 hflen h15 (runR_ok hr h15) (ledF_ok hl) (fun W h=>hf ▸ family_any r.kind W (hg.on h) hfit.kind) (fun W=>es ▸ shapeOf_any r.kind W hfit.kind) hm eg KP).mono ?_
   rintro e w' ⟨rfl,h2,h3⟩
   exact ⟨by rw [any_run hl hr h15 hf],by rw [ledF_run h15 hf,ledC_run h15]; exact h2,h3⟩
  by_cases h4:r.kind=4
  ·refine key 246 256 (by unfold shape shV; rw [if_pos h4]) (mSpokenShifted _) enters_sp4 (fun W=>?_)
   have:=spoken_any r.kind r vt W rfl
   unfold spokenF at this
   rwa [if_pos h4] at this
  ·have hsp:∀ W,Calls Tryz.prog 240 #[shV r.kind,recV r vt] W (fun e w'=>e=.returned (runV r.lo r.hi (stepP r))∧Below W.heap.size W w'):=fun W=>by
    have:=spoken_any r.kind r vt W rfl
    unfold spokenF at this
    rwa [if_neg h4] at this
   by_cases h5:r.kind=5∨r.kind=7∨r.kind=8∨r.kind=13
   ·exact key 247 240 (by unfold shape shV; rw [if_neg h4,if_pos h5]) (mSpokenSingle _) enters_sp hsp
   ·exact key 244 240 (by unfold shape shV; rw [if_neg h4,if_neg h5,if_neg h15]) (mSpokenSpanned _) enters_sp hsp
def idxT (rs:List Rec) (k:Nat):Int:=match Cn.twiceA rs k (rs.drop k) with
 | some i=>(i:Int)
 | Option.none=>-1
theorem idx_hit {rs k} (hk:k<rs.length) (h:((rs.take k).any fun j=>Cn.clash j (rs.getD k Cn.none))=true):idxT rs k=(k:Int):=by
 have e:rs.getD k Cn.none=rs[k]:=by grind
 rw [e] at h
 unfold idxT
 rw [List.drop_eq_getElem_cons hk,Cn.twiceA,if_pos h]
theorem idx_next {rs k} (hk:k<rs.length) (h:((rs.take k).any fun j=>Cn.clash j (rs.getD k Cn.none))=false):idxT rs k=idxT rs (k+1):=by
 have e:rs.getD k Cn.none=rs[k]:=by grind
 rw [e] at h
 unfold idxT
 rw [List.drop_eq_getElem_cons hk,Cn.twiceA,if_neg (by rw [h]; decide)]
theorem idx_end rs:idxT rs rs.length=-1:=by
 unfold idxT
 rw [List.drop_length,Cn.twiceA]
theorem take_next {rs:List Rec} {k} (hk:k<rs.length):rs.take k++[rs.getD k Cn.none]=rs.take (k+1):=by simp_all
theorem enters_twice:∀ args w,(callFunc 141 args).run Tryz.prog w=.ok (.enter 141 args) w:=by simp_all
def TIn (w0:World) (L rr:Nat) (rs:List Rec) (k:Nat) (W:World):Prop:=(∃ vs,LG W w0.heap.size L rr vs (ledF (rs.take k)) (ledC (rs.take k)))∧Below w0.heap.size w0 W
set_option maxRecDepth 8000 in
set_option maxHeartbeats 4000000 in
theorem indexTwice_any L rr v rs w0 w (hg:Glob w0) (hv:Rcs w0 v rs) (hr:∀ r∈rs,Cn.right r=0) (hlen:rs.length≤4096) (hin0:TIn w0 L rr rs 0 w) :
  Calls Tryz.prog 140 #[v,.func (.func 141) #[.pointer (some ⟨L,0,none⟩)] #[]] w (fun e w'=>e=.returned (.int .i64 (idxT rs 0))∧Below w0.heap.size w0 w'):=by
 have eg:=enters_twice
 have HI0:=Hd hin0
 have HP:Hid (∀ (k:Nat) (vt:Value) (W:World),k<rs.length→TIn w0 L rr rs k W→Calls Tryz.prog 141 #[.pointer (some ⟨L,0,none⟩),recV (rs.getD k Cn.none) vt] W (fun e w'=>e=.returned (.bool ((rs.take k).any fun j=>Cn.clash j (rs.getD k Cn.none)))∧TIn w0 L rr rs (k+1) w')):=fun k vt W hk hin=>by
  obtain ⟨⟨vs,hlg⟩,hb⟩:=hin
  refine (twice_any (rs.getD k Cn.none) vt W w0.heap.size L rr vs (rs.take k) (hg.on hb) hlg hb.size (hv.fit hk) (fun j hj=>hr j (List.mem_of_mem_take hj)) (hr _ (by simp [List.getD,hk])) (by simp; omega)).mono ?_
  rintro e w' ⟨h1,h2,h3⟩
  rw [take_next hk] at h2
  exact ⟨h1,h2,hb.trans h3⟩
 have HC:Hid (∀ W k,TIn w0 L rr rs k W→Rcs W v rs):=fun W k h=>hv.below h.2
 have HB:Hid (∀ W k,TIn w0 L rr rs k W→Below w0.heap.size w0 W):=fun W k h=>h.2
 obtain ⟨ao,cap,rfl,h1,h2⟩:=hv.shape
 generalize hq:idxT rs 0=z at *
 have HR0:=Hd hq.symm
 go_enter Tryz.func140,Tryz.ntmps140
 go_wp2
 go_loopw [5,8] (fun _ i wr=>∃ k:Nat,i=.int .i64 k∧k≤rs.length∧z=idxT rs k∧TIn w0 L rr rs k wr) (fun _ i _=>rs.length - (intOf i).toNat)
 case atStart=>exact ⟨0,rfl,by omega,Uh HR0,Uh HI0⟩
 case round =>
  obtain ⟨k,rfl,hk,hz,hin⟩:=hrel
  by_cases hlt:k<rs.length
  ·have hrc:=(Uh HC) wr k hin
   obtain ⟨b,off,cap',he,hc1,hc2,hc⟩:=hrc.place (by omega)
   obtain ⟨rfl,rfl⟩:ao=some ⟨b,off,none⟩∧cap=cap':=by simpa using he
   obtain ⟨x0,x1,x2,x3,⟨vt,x4,sk⟩,x5,x6,x7⟩:=hc k hlt
   have HV:=Hd ((Uh HP) k vt wr hlt hin)
   have HH:Hid (((rs.take k).any fun j=>Cn.clash j (rs.getD k Cn.none))=true→z=(k:Int)):=fun h=>hz.trans (idx_hit hlt h)
   have HN:Hid (((rs.take k).any fun j=>Cn.clash j (rs.getD k Cn.none))=false→z=idxT rs (k+1)):=fun h=>hz.trans (idx_next hlt h)
   obtain ⟨tp,tc,rfl,_,_⟩:=sk.shape
   clear hz hin hc he sk HP hrc HC
   unfold recV at HV
   generalize ((rs.take k).any fun j=>Cn.clash j (rs.getD k Cn.none))=y at HV HH HN
   generalize (rs.getD k Cn.none).kind=kd at *
   generalize (rs.getD k Cn.none).lo=lo at *
   generalize (rs.getD k Cn.none).hi=hi at *
   generalize (rs.getD k Cn.none).n=n at *
   generalize (rs.getD k Cn.none).name=nm at *
   generalize (rs.getD k Cn.none).other=ot at *
   generalize (rs.getD k Cn.none).wt=wt at *
   generalize (rs.getD k Cn.none).to.length=tl at *
   cases y with
   | true =>
    obtain rfl:=(Uh HH) rfl
    go_wp2_with (go_at_fn 141; refine (Uh HV).mono ?_; rintro e w1 ⟨rfl,hb1⟩)
    have HF:=Hd ((Uh HB) w1 _ hb1)
    go_ret
    exact ⟨rfl,Uh HF⟩
   | false =>
    have HN2:=Hd ((Uh HN) rfl)
    go_wp2_with (go_at_fn 141; refine (Uh HV).mono ?_; rintro e w1 ⟨rfl,hb1⟩)
    have HF:=Hd hb1
    go_round
    case rel=>exact ⟨k+1,by go_num,by omega,Uh HN2,Uh HF⟩
    case measure=>simp [intOf]; omega
  ·obtain rfl:k=rs.length:=by omega
   obtain rfl:=hz.trans (idx_end rs)
   have HF:=Hd hin.2
   go_wp2
   go_ret
   exact ⟨rfl,Uh HF⟩
theorem make_map w:(Instr.makeMap 196 none).run Tryz.prog w=.ok (.map (some w.heap.size)) (w.alloc (.map #[] 0)):=by kernel_rfl
def ledRow (r:Nat):Array Value:=#[.slice none 0 0,.slice none 0 0,.slice none 0 0,.slice none 0 0,.slice none 0 0,.slice none 0 0,.slice none 0 0,.slice none 0 0,.slice none 0 0,.slice none 0 0,.slice none 0 0,.map (some r)]
theorem led_new (w:World):LG ((w.alloc (.map #[] 0)).alloc (.cells (ledRow w.heap.size) 200)) w.heap.size (w.heap.size+1) w.heap.size (fun _=>.slice none 0 0) (ledF []) (ledC []):=by
 have h1:((w.alloc (.map #[] 0)).alloc (.cells (ledRow w.heap.size) 200)).heap[w.heap.size+1]?=some (.cells (ledRow w.heap.size) 200 (0,0)):=by
  show ((w.heap.push _).push _)[w.heap.size+1]?=_
  rw [Array.getElem?_push]
  simp
 have h2:((w.alloc (.map #[] 0)).alloc (.cells (ledRow w.heap.size) 200)).heap[w.heap.size]?=some (.map #[] 0):=by
  show ((w.heap.push _).push _)[w.heap.size]?=_
  rw [Array.getElem?_push_lt (by simp)]
  simp
 refine ⟨by omega,Nat.le_refl _,by omega,⟨ledRow w.heap.size,h1,rfl,fun f hf=>?_,rfl⟩,⟨#[],0,h2,⟨MapKept.stamped_empty 0,fun x hx=>by simp at hx,fun a b _=>rfl⟩⟩,fun f _=>⟨by simp [ledF],World.ownsRow_nil _ _ _ _⟩,fun f _ k hk=>(by cases hk),fun f g _ _ _ k hk=>(by cases hk)⟩
 obtain rfl | rfl | rfl | rfl | rfl | rfl | rfl | rfl | rfl | rfl | rfl:f=0∨f=1∨f=2∨f=3∨f=4∨f=5∨f=6∨f=7∨f=8∨f=9∨f=10:=by omega
 all_goals rfl
def firstT (rs:List Rec):Nat × Int:=match Cn.twiceA rs 0 rs with | some i=>(i,62) | Option.none=>(0,0)
set_option maxRecDepth 8000 in
set_option maxHeartbeats 4000000 in
theorem firstTwice_any v rs w (hg:Glob w) (hv:Rcs w v rs) (hr:∀ r∈rs,Cn.right r=0) (hlen:rs.length≤4096):Calls Tryz.prog 113 #[v] w (PairIB w (firstT rs)):=by
 have hmk:=make_map
 have hb0:=below2 w (.map #[] 0) (.cells (ledRow w.heap.size) 200)
 have K:=Hd (indexTwice_any (w.heap.size+1) w.heap.size v rs w _ hg hv hr hlen ⟨⟨_,led_new w⟩,hb0⟩)
 have HX:Hid (idxT rs 0=match Cn.twiceA rs 0 rs with | some i=>(i:Int) | Option.none=>-1):=by
  show idxT rs 0=_
  unfold idxT
  rw [List.drop_zero]
 obtain ⟨ao,cap,rfl,h1,h2⟩:=hv.shape
 unfold firstT
 generalize idxT rs 0=z at *
 unfold ledRow at *
 cases ht:Cn.twiceA rs 0 rs with
 | some i =>
  rw [ht] at HX
  obtain rfl:z=(i:Int):=Uh HX
  go_enter Tryz.func113,Tryz.ntmps113
  go_wp2_with fail
  refine (Uh K).mono ?_
  rintro e w1 ⟨rfl,hb1⟩
  go_wp2
  go_ret2
  exact ⟨rfl,hb1⟩
 | none =>
  rw [ht] at HX
  obtain rfl:z=-1:=Uh HX
  go_enter Tryz.func113,Tryz.ntmps113
  go_wp2_with fail
  refine (Uh K).mono ?_
  rintro e w1 ⟨rfl,hb1⟩
  go_wp2
  go_ret2
  exact ⟨rfl,hb1⟩
def CheckT:Prop:=∀ (v:Value) (rs:List Rec) (w:World),Glob w→Rcs w v rs→Calls Tryz.prog 74 #[v] w (PairIB w (Cn.check6 rs))
theorem check6_parts rs:Cn.check6 rs=if (firstW rs).2≠0 then firstW rs else firstT rs:=by
 unfold Cn.check6 firstW firstT
 split
 ·rfl
 ·cases h:Cn.rightA 0 rs with
  | some x=>simp only; rw [if_pos (Cn.rightA_err _ _ _ h)]
  | none=>grind
theorem firstW_ok {rs} (h:(firstW rs).2=0):(∀ r∈rs,Cn.right r=0)∧rs.length≤4096:=by
 unfold firstW at h
 split at h
 ·exact absurd h (by decide)
 ·next hl =>
  cases e:Cn.rightA 0 rs with
  | some x=>rw [e] at h; exact absurd h (Cn.rightA_err _ _ _ e)
  | none=>exact ⟨Cn.rightA_all _ _ e,by omega⟩
set_option maxRecDepth 8000 in
set_option maxHeartbeats 4000000 in
theorem check_any:CheckT:=by
 intro v rs w hg hv
 have K1:=Hd (firstWrong_any v rs w hg hv)
 have K2:Hid ((firstW rs).2=0→∀ W,Below w.heap.size w W→Calls Tryz.prog 113 #[v] W (PairIB W (firstT rs))):=fun h W hb=>firstTwice_any v rs W (hg.on hb) (hv.below hb) (firstW_ok h).1 (firstW_ok h).2
 rw [check6_parts]
 obtain ⟨ao,cap,rfl,h1,h2⟩:=hv.shape
 generalize firstW rs=x at *
 generalize firstT rs=y at *
 obtain ⟨xi,xe⟩:=x
 obtain ⟨yi,ye⟩:=y
 by_cases he:xe=0
 ·subst he
  rw [if_neg (by simp)]
  go_enter Tryz.func74,Tryz.ntmps74
  go_wp2_with fail
  refine (Uh K1).mono ?_
  rintro e w1 ⟨rfl,hb1⟩
  have J:=Hd ((Uh K2) trivial w1 hb1)
  go_wp2_with fail
  refine (Uh J).mono ?_
  rintro e w2 ⟨rfl,hb2⟩
  have HF:=Hd (bthen hb1 hb2)
  go_wp2
  go_ret2
  exact ⟨rfl,Uh HF⟩
 ·rw [if_pos (by simpa using he)]
  have d1:(xe != 0)=true:=by simp [he]
  have d2:(xe==0)=false:=beq_eq_false_iff_ne.2 he
  go_enter Tryz.func74,Tryz.ntmps74
  go_wp2_with fail
  refine (Uh K1).mono ?_
  rintro e w1 ⟨rfl,hb1⟩
  go_wp2
  go_ret2
  exact ⟨rfl,hb1⟩
end Go.Proofs.YtihhhjodonkkcaaGreatDoor
