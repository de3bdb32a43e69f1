/- TbW7 TbX7 TbY7 TbZ7 -/
import Derived.Test.YtkglkajjofidoaaGreatDoorV15
import Derived.Deep.DeepCutAuto
import Derived.Deep.CutBlock
import Derived.Lib.MinMaxS
set_option maxHeartbeats 8000000
set_option maxRecDepth 20000
namespace Go.Proofs.YtkglkajjofidoaaGreatDoor
open Go.Proofs.Tryz
open Go.RowKit
theorem y9J:(prog.info? 199).map (fun i=>(i.zero,i.size,i.bytes))=some (some (.agg #[.int .i64 0,.int .i64 0,.int .i64 0]),3,24):=by kernel_rfl
def TwB (w:World) (B L rr:Nat) (fs:Nat->List Run) (c:ByteArray->ByteArray->Int) (f:Nat) (x:Run) (e:Ending) (w':World):Prop:=e=.returned (.bool ((fs f).any fun y=>x.meets y))/\(∃ vs',LG w' B L rr vs' (upd fs f (fs f++[x])) c)/\Below B w w'
theorem y2A (T fp:Nat) (r:Rec) (vt:Value) (w:World) (B L rr f:Nat) (vs:Nat->Value) (fs:Nat->List Run) (c:ByteArray->ByteArray->Int)
  (ah:LG w B L rr vs fs c) (aw:B<=w.heap.size) (hf:f<11) (am:(fs f).length<100000) (h15:r.kind≠15) (hx:(runR r).ok) (be:∀ y∈fs f,y.ok)
  (KF:∀ W,Bw w W->Calls prog 117 #[.int .i64 r.kind] W (IntB W (f:Int)))
  (aG:∀ W,Calls prog 154 #[.int .i64 r.kind] W (fun e w'=>e=.returned (.iface T (.agg #[.int .i64 r.kind]))/\Bw W w'))
  (hm : ∀ W, (method 421 T (.agg #[.int .i64 r.kind]) "endonym/table.spoken").run Tryz.prog W = .ok (fp, .agg #[.int .i64 r.kind]) W)
  (eg:∀ args W,(callFunc fp args).run prog W=.ok (.enter fp args) W)
  (KP:∀ W,Calls prog fp #[shV r.kind,recV r vt] W (fun e w'=>e=.returned (runV r.lo r.hi (stepP r))/\Bw W w')) :
  Calls prog 141 #[.pointer (some ⟨L,0,none⟩),recV r vt] w (TwB w B L rr fs c f (runR r)):=by
 have KC:Hid (∀ W,Bw w W->Calls prog 173 #[vs f,.func (.func 174) #[runV r.lo r.hi (stepP r)] #[]] W (x0d W ((fs f).any fun y=>(runR r).meets y))):=fun W h=>x3Z (runR r) (vs f) (fs f) W (((ah.on h).rows f hf).rns) hx be;have av:=O ah
 have HM:Hid (∀ (W w8:World) (gg cap:Nat),(∀ k,k<w.heap.size->W.heap[k]?=w.heap[k]?)->w.heap.size<=W.heap.size->W.grownBy w8 (vs f).ownBlock->((vs f).ownBlock=some gg\/gg=W.heap.size)->w8.ownsRow B 199 3 (.slice (some ⟨gg,0,none⟩) ((fs f).length+1) cap) ((fs f).length+1) (x1p (fs f)++[.int .i64 r.lo,.int .i64 r.hi,.int .i64 (stepP r)]) ->
   LG (w8.setCell ⟨L,f,none⟩ (.slice (some ⟨gg,0,none⟩) ((fs f).length+1) cap)) B L rr (upd vs f (.slice (some ⟨gg,0,none⟩) ((fs f).length+1) cap)) (upd fs f (fs f++[runR r])) c):=fun W w8 gg cap a1 a2 a3 a4 a5=>ah.more (x:=runR r) hf am a1 a2 a3 a4 a5
 replace KF:=O KF;replace aG:=O aG;replace KP:=O KP;have hq:(r.kind==15)=false:=b0f h15;have bg:=x3P;clear hx be h15;have HT:Hid (∀ w',(∃ vs',LG w' B L rr vs' (upd fs f (fs f++[runR r])) c)->Below B w w'->TwB w B L rr fs c f (runR r) (.returned (.bool ((fs f).any fun y=>(runR r).meets y))) w'):=fun w' a b=>⟨rfl,a,b⟩;generalize (fs f).any (fun y=>(runR r).meets y)=known at KC HT;generalize runR r=rx at *;generalize TwB w B L rr fs c f rx=PP at *;generalize hst:stepP r=st at *;unfold recV shV runV at *;generalize r.kind=kd at *;generalize r.n=n at *;generalize r.lo=lo at *;generalize r.hi=hi at *;generalize r.name=nm at *;generalize r.other=ot at *;generalize r.wt=wt at *;have ar:Bw w (w.alloc (.cells #[.int .i64 kd,.int .i64 lo,.int .i64 hi,.int .i64 n,vt,.string nm,.string ot,.float .f64 wt] 50)):=(b0r).alloc (l0r _) _
 have bb:(w.alloc (.cells #[.int .i64 kd,.int .i64 lo,.int .i64 hi,.int .i64 n,vt,.string nm,.string ot,.float .f64 wt] 50)).heap[w.heap.size]?=some (.cells #[.int .i64 kd,.int .i64 lo,.int .i64 hi,.int .i64 n,vt,.string nm,.string ot,.float .f64 wt] 50 (0,0)):=by
  show (w.heap.push _)[w.heap.size]?=_;simp
 have aQ:(w.alloc (.cells #[.int .i64 kd,.int .i64 lo,.int .i64 hi,.int .i64 n,vt,.string nm,.string ot,.float .f64 wt] 50)).heap.size=w.heap.size+1:=(by simp);replace aQ:=O aQ;go_enter func141,ntmps141;go_upto_region 3 with fail;generalize (w.alloc (.cells #[.int .i64 kd,.int .i64 lo,.int .i64 hi,.int .i64 n,vt,.string nm,.string ot,.float .f64 wt] 50))=W1 at *
 have SM:Hid (∀ W,Bw W1 W->W.cell? ⟨w.heap.size,0,none⟩=some (.int .i64 kd)/\W.cell? ⟨w.heap.size,1,none⟩=some (.int .i64 lo)/\W.cell? ⟨w.heap.size,2,none⟩=some (.int .i64 hi)/\W.cell? ⟨w.heap.size,3,none⟩=some (.int .i64 n)/\W.cell? ⟨w.heap.size,4,none⟩=some (vt)/\W.cell? ⟨w.heap.size,5,none⟩=some (.string nm)/\W.cell? ⟨w.heap.size,6,none⟩=some (.string ot)/\W.cell? ⟨w.heap.size,7,none⟩=some (.float .f64 wt)/\Hid (Bw W1 W)):=fun W h=>by
  have h2:W.heap[w.heap.size]?=_:=(h.block _ (by have:=V aQ; omega)).trans bb;exact ⟨cell_of (j:=0) h2 (by simp),cell_of (j:=1) h2 (by simp),cell_of (j:=2) h2 (by simp),cell_of (j:=3) h2 (by simp),cell_of (j:=4) h2 (by simp),cell_of (j:=5) h2 (by simp),cell_of (j:=6) h2 (by simp),cell_of (j:=7) h2 (by simp),h⟩
 have SI:Hid (∀ W,(W.cell? ⟨w.heap.size,0,none⟩=some (.int .i64 kd)/\W.cell? ⟨w.heap.size,1,none⟩=some (.int .i64 lo)/\W.cell? ⟨w.heap.size,2,none⟩=some (.int .i64 hi)/\W.cell? ⟨w.heap.size,3,none⟩=some (.int .i64 n)/\W.cell? ⟨w.heap.size,4,none⟩=some (vt)/\W.cell? ⟨w.heap.size,5,none⟩=some (.string nm)/\W.cell? ⟨w.heap.size,6,none⟩=some (.string ot)/\W.cell? ⟨w.heap.size,7,none⟩=some (.float .f64 wt)/\Hid (Bw W1 W))->Bw W1 W):=fun W h=>h.2.2.2.2.2.2.2.2;go_cut [5,6] (fun fv pv wx=>fv=.int .i64 (f:Int)/\∃ g,pv=.pointer (some ⟨g,0,none⟩)/\W1.heap.size<=g/\wx.heap[g]?=some (.cells #[.int .i64 lo,.int .i64 hi,.int .i64 st] 199 (0,0))/\Bw W1 wx)
 case first =>
  refine wp_region_held_drew (S:=fun w'=>w'.cell? ⟨w.heap.size,0,none⟩=some (.int .i64 kd)/\w'.cell? ⟨w.heap.size,1,none⟩=some (.int .i64 lo)/\w'.cell? ⟨w.heap.size,2,none⟩=some (.int .i64 hi)/\w'.cell? ⟨w.heap.size,3,none⟩=some (.int .i64 n)/\w'.cell? ⟨w.heap.size,4,none⟩=some (vt)/\w'.cell? ⟨w.heap.size,5,none⟩=some (.string nm)/\w'.cell? ⟨w.heap.size,6,none⟩=some (.string ot)/\w'.cell? ⟨w.heap.size,7,none⟩=some (.float .f64 wt)/\Hid (Bw W1 w')) (by kernel_rfl) (V SM _ (x0k ⟨1,rfl⟩)) (fun hHeld=>?_);refine tk9 0 (.pointer (some ⟨w.heap.size,0,none⟩)) ?_;refine tk9 1 (.int .i64 kd) ?_;refine tk9 3 (.pointer (some ⟨w.heap.size,0,none⟩)) ?_;refine tk9 4 (.int .i64 kd) ?_;refine tk9 6 (.agg #[.int .i64 kd,.int .i64 lo,.int .i64 hi,.int .i64 n,vt,.string nm,.string ot,.float .f64 wt]) ?_;refine wpAnyH_ready (rs:=[2,8]) (by kernel_rfl) (by simp) ?_;refine AllReadyH.cons (o:=⟨some 25,_,_,_,_,_⟩) rfl (fun K hK=>?_) (AllReadyH.cons (o:=⟨some 6,_,_,_,_,_⟩) rfl (fun K hK=>?_) AllReadyH.nil)
  ·go_simp;refine (V KF _ (x0b ar (V SI _ hHeld))).mono ?_;rintro e w2 ⟨rfl,au⟩;go_wp2_with fail;refine hK.out _ _ ?_ (fun hHeld=>?_)
   ·exact V SM _ (x0b (V SI _ hHeld) au)
   clear hK K
   try simp only [Act.put,sa9,sb9,sc9]
   refine wpAnyH_ready (rs:=[5,8]) (by kernel_rfl) (by simp) ?_;refine AllReadyH.cons (o:=⟨some 28,_,_,_,_,_⟩) rfl (fun K hK=>?_) (AllReadyH.cons (o:=⟨some 6,_,_,_,_,_⟩) rfl (fun K hK=>?_) AllReadyH.nil)
   ·go_simp;refine (V aG _).mono ?_;rintro e w3 ⟨rfl,aC⟩;go_wp2_with fail;refine hK.out _ _ ?_ (fun hHeld=>?_)
    ·exact V SM _ (x0b (V SI _ hHeld) aC)
    clear hK K
    try simp only [Act.put,sa9,sb9,sc9]
    refine wpAnyH_ready (rs:=[7,8]) (by kernel_rfl) (by simp) ?_;refine AllReadyH.cons (o:=⟨some 30,_,_,_,_,_⟩) rfl (fun K hK=>?_) (AllReadyH.cons (o:=⟨some 6,_,_,_,_,_⟩) rfl (fun K hK=>?_) AllReadyH.nil)
    ·go_simp;refine (V KP _).mono ?_;rintro e w4 ⟨rfl,aq⟩;go_wp2_with fail;refine hK.out _ _ ?_ (fun hHeld=>?_)
     ·exact V SM _ (x0b (V SI _ hHeld) aq)
     clear hK K
     try simp only [Act.put,sa9,sb9,sc9]
     refine rd9 8 fun K hK=>?_;have ak:=hHeld;have ae:W1.heap.size<=w4.heap.size:=(V SI _ hHeld).size;have hg:(w4.alloc (.cells #[.int .i64 0,.int .i64 0,.int .i64 0] 199)).heap[w4.heap.size]?=some (.cells #[.int .i64 0,.int .i64 0,.int .i64 0] 199 (0,0)):=alloc_at w4 _;go_simp;refine hK.out _ _ ?_ (fun hHeld=>?_)
     ·exact V SM _ ((V SI _ hHeld).alloc (V SI _ hHeld).size _)
     clear hK K
     try simp only [Act.put,sa9,sb9,sc9]
     refine tk9 9 (.int .i64 (f:Int)) ?_;have c0:=cell_of (j:=0) hg (by simp);have z0:=x0e (j:=0) hg;have c1:=cell_of (j:=1) hg (by simp);have z1:=x0e (j:=1) hg;have c2:=cell_of (j:=2) hg (by simp);have z2:=x0e (j:=2) hg;refine rd9 10 fun K hK=>?_;have aj:Bw W1 (w4.alloc (.cells #[.int .i64 lo,.int .i64 hi,.int .i64 st] 199)):=(V SI _ ak).alloc (V SI _ ak).size _;have aE:=alloc_at w4 (.cells #[.int .i64 lo,.int .i64 hi,.int .i64 st] 199);go_simp;refine hK.out _ _ ?_ (fun hHeld=>?_)
     ·exact V SM _ aj
     clear hK K
     try simp only [Act.put,sa9,sb9,sc9]
     refine wpAnyH_done (by kernel_rfl) ?_ _;go_wp2_with fail
     go_meet
     case rel=>exact ⟨rfl,_,rfl,ae,aE,aj⟩
    ·have ak:=hHeld;have ae:W1.heap.size<=w3.heap.size:=(V SI _ hHeld).size;have hg:(w3.alloc (.cells #[.int .i64 0,.int .i64 0,.int .i64 0] 199)).heap[w3.heap.size]?=some (.cells #[.int .i64 0,.int .i64 0,.int .i64 0] 199 (0,0)):=alloc_at w3 _;go_simp;refine hK.out _ _ ?_ (fun hHeld=>?_)
     ·exact V SM _ ((V SI _ hHeld).alloc (V SI _ hHeld).size _)
     clear hK K
     try simp only [Act.put,sa9,sb9,sc9]
     refine rd9 7 fun K hK=>?_;go_simp;refine (V KP _).mono ?_;rintro e w4 ⟨rfl,aq⟩;go_wp2_with fail;refine hK.out _ _ ?_ (fun hHeld=>?_)
     ·exact V SM _ (x0b (V SI _ hHeld) aq)
     clear hK K
     try simp only [Act.put,sa9,sb9,sc9]
     have hg:=(aq.block _ (lt_of_block hg)).trans hg;refine tk9 9 (.int .i64 (f:Int)) ?_;have c0:=cell_of (j:=0) hg (by simp);have z0:=x0e (j:=0) hg;have c1:=cell_of (j:=1) hg (by simp);have z1:=x0e (j:=1) hg;have c2:=cell_of (j:=2) hg (by simp);have z2:=x0e (j:=2) hg;refine rd9 10 fun K hK=>?_;have aj:=x0c (j:=2) (x0c (j:=1) (x0c (j:=0) (V SI _ hHeld) ae (.int .i64 lo)) ae (.int .i64 hi)) ae (.int .i64 st);have aE:=x0f (j:=2) (x0f (j:=1) (x0f (j:=0) hg (.int .i64 lo)) (.int .i64 hi)) (.int .i64 st);go_simp;refine hK.out _ _ ?_ (fun hHeld=>?_)
     ·exact V SM _ aj
     clear hK K
     try simp only [Act.put,sa9,sb9,sc9]
     refine wpAnyH_done (by kernel_rfl) ?_ _;go_wp2_with fail
     go_meet
     case rel=>exact ⟨rfl,_,rfl,ae,aE,aj⟩
   ·have ak:=hHeld;have ae:W1.heap.size<=w2.heap.size:=(V SI _ hHeld).size;have hg:(w2.alloc (.cells #[.int .i64 0,.int .i64 0,.int .i64 0] 199)).heap[w2.heap.size]?=some (.cells #[.int .i64 0,.int .i64 0,.int .i64 0] 199 (0,0)):=alloc_at w2 _;go_simp;refine hK.out _ _ ?_ (fun hHeld=>?_)
    ·exact V SM _ ((V SI _ hHeld).alloc (V SI _ hHeld).size _)
    clear hK K
    try simp only [Act.put,sa9,sb9,sc9]
    refine rd9 5 fun K hK=>?_;go_simp;refine (V aG _).mono ?_;rintro e w3 ⟨rfl,aC⟩;go_wp2_with fail;refine hK.out _ _ ?_ (fun hHeld=>?_)
    ·exact V SM _ (x0b (V SI _ hHeld) aC)
    clear hK K
    try simp only [Act.put,sa9,sb9,sc9]
    have hg:=(aC.block _ (lt_of_block hg)).trans hg;refine rd9 7 fun K hK=>?_;go_simp;refine (V KP _).mono ?_;rintro e w4 ⟨rfl,aq⟩;go_wp2_with fail;refine hK.out _ _ ?_ (fun hHeld=>?_)
    ·exact V SM _ (x0b (V SI _ hHeld) aq)
    clear hK K
    try simp only [Act.put,sa9,sb9,sc9]
    have hg:=(aq.block _ (lt_of_block hg)).trans hg;refine tk9 9 (.int .i64 (f:Int)) ?_;have c0:=cell_of (j:=0) hg (by simp);have z0:=x0e (j:=0) hg;have c1:=cell_of (j:=1) hg (by simp);have z1:=x0e (j:=1) hg;have c2:=cell_of (j:=2) hg (by simp);have z2:=x0e (j:=2) hg;refine rd9 10 fun K hK=>?_;have aj:=x0c (j:=2) (x0c (j:=1) (x0c (j:=0) (V SI _ hHeld) ae (.int .i64 lo)) ae (.int .i64 hi)) ae (.int .i64 st);have aE:=x0f (j:=2) (x0f (j:=1) (x0f (j:=0) hg (.int .i64 lo)) (.int .i64 hi)) (.int .i64 st);go_simp;refine hK.out _ _ ?_ (fun hHeld=>?_)
    ·exact V SM _ aj
    clear hK K
    try simp only [Act.put,sa9,sb9,sc9]
    refine wpAnyH_done (by kernel_rfl) ?_ _;go_wp2_with fail
    go_meet
    case rel=>exact ⟨rfl,_,rfl,ae,aE,aj⟩
  ·have ak:=hHeld;have ae:W1.heap.size<=W1.heap.size:=(V SI _ hHeld).size;have hg:(W1.drew.alloc (.cells #[.int .i64 0,.int .i64 0,.int .i64 0] 199)).heap[W1.heap.size]?=some (.cells #[.int .i64 0,.int .i64 0,.int .i64 0] 199 (0,0)):=alloc_at W1.drew _;go_simp;refine hK.out _ _ ?_ (fun hHeld=>?_)
   ·exact V SM _ ((V SI _ hHeld).alloc (V SI _ hHeld).size _)
   clear hK K
   try simp only [Act.put,sa9,sb9,sc9]
   refine rd9 2 fun K hK=>?_;go_simp;refine (V KF _ (x0b ar (V SI _ hHeld))).mono ?_;rintro e w2 ⟨rfl,au⟩;go_wp2_with fail;refine hK.out _ _ ?_ (fun hHeld=>?_)
   ·exact V SM _ (x0b (V SI _ hHeld) au)
   clear hK K
   try simp only [Act.put,sa9,sb9,sc9]
   have hg:=(au.block _ (lt_of_block hg)).trans hg;refine rd9 5 fun K hK=>?_;go_simp;refine (V aG _).mono ?_;rintro e w3 ⟨rfl,aC⟩;go_wp2_with fail;refine hK.out _ _ ?_ (fun hHeld=>?_)
   ·exact V SM _ (x0b (V SI _ hHeld) aC)
   clear hK K
   try simp only [Act.put,sa9,sb9,sc9]
   have hg:=(aC.block _ (lt_of_block hg)).trans hg;refine rd9 7 fun K hK=>?_;go_simp;refine (V KP _).mono ?_;rintro e w4 ⟨rfl,aq⟩;go_wp2_with fail;refine hK.out _ _ ?_ (fun hHeld=>?_)
   ·exact V SM _ (x0b (V SI _ hHeld) aq)
   clear hK K
   try simp only [Act.put,sa9,sb9,sc9]
   have hg:=(aq.block _ (lt_of_block hg)).trans hg;refine tk9 9 (.int .i64 (f:Int)) ?_;have c0:=cell_of (j:=0) hg (by simp);have z0:=x0e (j:=0) hg;have c1:=cell_of (j:=1) hg (by simp);have z1:=x0e (j:=1) hg;have c2:=cell_of (j:=2) hg (by simp);have z2:=x0e (j:=2) hg;refine rd9 10 fun K hK=>?_;have aj:=x0c (j:=2) (x0c (j:=1) (x0c (j:=0) (V SI _ hHeld) ae (.int .i64 lo)) ae (.int .i64 hi)) ae (.int .i64 st);have aE:=x0f (j:=2) (x0f (j:=1) (x0f (j:=0) hg (.int .i64 lo)) (.int .i64 hi)) (.int .i64 st);go_simp;refine hK.out _ _ ?_ (fun hHeld=>?_)
   ·exact V SM _ aj
   clear hK K
   try simp only [Act.put,sa9,sb9,sc9]
   refine wpAnyH_done (by kernel_rfl) ?_ _;go_wp2_with fail
   go_meet
   case rel=>exact ⟨rfl,_,rfl,ae,aE,aj⟩
 case rest =>
  obtain ⟨rfl,g,rfl,bh,aI,a9⟩:=hcut;obtain ⟨w5,bi⟩:∃ x:World,x=wc:=⟨wc,rfl⟩;subst bi;have ag:=x0b ar a9
  have aJ:Hid (∀ W,Bw w5 W->W.cell? ⟨L,f,none⟩=some (vs f)/\W.cell? ⟨g,0,none⟩=some (.int .i64 lo)/\W.cell? ⟨g,1,none⟩=some (.int .i64 hi)/\W.cell? ⟨g,2,none⟩=some (.int .i64 st)/\Hid (Bw w5 W)):=fun W h=>by
   have h2:W.heap[g]?=_:=(h.block _ (lt_of_block aI)).trans aI;exact ⟨((V av).on (x0b ag h)).cell hf,cell_of (j:=0) h2 (by simp),cell_of (j:=1) h2 (by simp),cell_of (j:=2) h2 (by simp),h⟩
  have hgl:=lt_of_block aI;replace aI:=O aI;replace ag:=O ag;clear KF aG KP SM SI a9 ar bb aQ bh;have i0:(0:Int)<=(f:Int):=(by omega);have i1:(f:Int)<11:=(by omega);go_upto_region 4 with fail;go_cut [7] (fun kv wx=>kv=.bool known/\Bw w5 wx)
  case first =>
   refine wp_region_held_drew (S:=fun w'=>w'.cell? ⟨L,f,none⟩=some (vs f)/\w'.cell? ⟨g,0,none⟩=some (.int .i64 lo)/\w'.cell? ⟨g,1,none⟩=some (.int .i64 hi)/\w'.cell? ⟨g,2,none⟩=some (.int .i64 st)/\Hid (Bw w5 w')) (by kernel_rfl) (V aJ _ (x0k ⟨1,rfl⟩)) (fun hHeld=>?_);refine tk9 0 (.pointer (some ⟨L,0,none⟩)) ?_;refine tk9 1 (.int .i64 (f:Int)) ?_;refine tk9 2 (.pointer (some ⟨L,0,none⟩)) ?_;refine tk9 3 (.pointer (some ⟨L,0,none⟩)) ?_;refine tk9 4 (.pointer (some ⟨L,f,none⟩)) ?_;refine tk9 5 (vs f) ?_;refine tk9 6 (.agg #[.int .i64 lo,.int .i64 hi,.int .i64 st]) ?_;refine tk9 7 (.func (.func 174) #[.agg #[.int .i64 lo,.int .i64 hi,.int .i64 st]] #[]) ?_;refine rd9 8 fun K hK=>?_;go_simp;refine (V KC _ (x0b (V ag) (V hHeld.2.2.2.2))).mono ?_;rintro e w2 ⟨rfl,au⟩;go_wp2_with fail;refine hK.out _ _ ?_ (fun hHeld=>?_)
   ·exact V aJ _ (x0b (V hHeld.2.2.2.2) au)
   clear hK K
   try simp only [Act.put,sa9,sb9,sc9]
   refine tk9 9 (.bool known) ?_;refine wpAnyH_done (by kernel_rfl) ?_ _;go_wp2_with fail
   go_meet
   case rel=>exact ⟨rfl,V hHeld.2.2.2.2⟩
  case rest =>
   obtain ⟨rfl,aK⟩:=hcut;obtain ⟨wd,bj⟩:∃ x:World,x=wc:=⟨wc,rfl⟩;subst bj;have hbd:=x0b (V ag) aK;have al:Bw w (wd.alloc (.cells #[.int .i64 lo,.int .i64 hi,.int .i64 st] 199)).drew:=x0b (hbd.alloc hbd.size _) (x0k ⟨1,rfl⟩);have ba:Bw w5 wd.drew:=x0b aK (x0k ⟨1,rfl⟩);obtain ⟨yd,r0,r1,r2,_⟩:=V aJ wd.drew ba;obtain ⟨ye,_⟩:=V aJ (wd.alloc (.cells #[.int .i64 lo,.int .i64 hi,.int .i64 st] 199)).drew (x0b (aK.alloc aK.size _) (x0k ⟨1,rfl⟩));have ai:=(((V av).on al).rows f hf).2;have ap:∀ k,(vs f).ownBlock=some k->k<w.heap.size/\B<=k:=fun k hk=>x3T ((V av).rows f hf).2 hk;have hLlt:L<w.heap.size:=x0a ((V av).cell hf);have aB:some L≠(vs f).ownBlock:=fun e=>((V av).far f hf L e.symm).1 rfl;have aS:=(V av).bl;have hsize:w.heap.size<=wd.heap.size:=hbd.size;have ad:=al.block;have aL:=((V av).on al).blk;obtain ⟨i9,aV,aW,aX,aY⟩:=info_parts y9J;have ac:∀ j u,[Value.int .i64 lo,.int .i64 hi,.int .i64 st][j]?=some u->(wd.alloc (.cells #[.int .i64 lo,.int .i64 hi,.int .i64 st] 199)).drew.cell? ((⟨wd.heap.size,0,none⟩:Addr).add j)=some u:=World.news_of_block (cs:=#[.int .i64 lo,.int .i64 hi,.int .i64 st]) (t:=199) (fr:=(0,0)) (alloc_at wd _)
   have hH:(wd.alloc (.cells #[.int .i64 lo,.int .i64 hi,.int .i64 st] 199)).drew.heap.size=wd.heap.size+1:=by
    show (wd.heap.push _).size=_;simp
   replace aL:=O aL
   have aH:Hid (B<=(wd.alloc (.cells #[.int .i64 lo,.int .i64 hi,.int .i64 st] 199)).drew.heap.size):=by
    show B<=_;rw [hH]; omega
   have aT:Hid (L<(wd.alloc (.cells #[.int .i64 lo,.int .i64 hi,.int .i64 st] 199)).drew.heap.size):=by
    show L<_;rw [hH]; omega
   have a6:(wd.alloc (.cells #[.int .i64 lo,.int .i64 hi,.int .i64 st] 199)).cell? ⟨L,f,none⟩=some (vs f):=ye;replace hH:=O hH;replace ap:=O ap;replace ad:=O ad;replace al:=O al;clear KC aJ av ah aI ag aK ba hbd bg hm eg;go_upto_region 5 with fail;refine wp_region_any (by kernel_rfl) ?_;change wpAny _ _ _ _ _ _ _ (World.drew _);refine wpAny_take (i:=0) (oi:=⟨some 40,_,_,_,_,_⟩) (v:=.pointer (some ⟨L,0,none⟩)) rfl (by kernel_rfl) (by kernel_rfl) (by kernel_rfl) (fun _ _ _ h=>h) (Or.inl ⟨by rfl,?_⟩) ?_
   ·intro w; go_simp
   try simp only [Act.put,sa9,sb9,sc9]
   refine wpAny_take (i:=1) (oi:=⟨some 41,_,_,_,_,_⟩) (v:=.int .i64 (f:Int)) rfl (by kernel_rfl) (by kernel_rfl) (by kernel_rfl) (fun _ _ _ h=>h) (Or.inl ⟨by rfl,?_⟩) ?_
   ·intro w; go_simp
   try simp only [Act.put,sa9,sb9,sc9]
   refine wpAny_take (i:=2) (oi:=⟨some 42,_,_,_,_,_⟩) (v:=.pointer (some ⟨L,0,none⟩)) rfl (by kernel_rfl) (by kernel_rfl) (by kernel_rfl) (fun _ _ _ h=>h) (Or.inl ⟨by rfl,?_⟩) ?_
   ·intro w; go_simp
   try simp only [Act.put,sa9,sb9,sc9]
   refine wpAny_take (i:=3) (oi:=⟨some 43,_,_,_,_,_⟩) (v:=.int .i64 (f:Int)) rfl (by kernel_rfl) (by kernel_rfl) (by kernel_rfl) (fun _ _ _ h=>h) (Or.inl ⟨by rfl,?_⟩) ?_
   ·intro w; go_simp
   try simp only [Act.put,sa9,sb9,sc9]
   refine wpAny_take (i:=4) (oi:=⟨some 44,_,_,_,_,_⟩) (v:=.pointer (some ⟨L,0,none⟩)) rfl (by kernel_rfl) (by kernel_rfl) (by kernel_rfl) (fun _ _ _ h=>h) (Or.inl ⟨by rfl,?_⟩) ?_
   ·intro w; go_simp
   try simp only [Act.put,sa9,sb9,sc9]
   refine wpAny_take (i:=5) (oi:=⟨some 45,_,_,_,_,_⟩) (v:=.pointer (some ⟨L,0,none⟩)) rfl (by kernel_rfl) (by kernel_rfl) (by kernel_rfl) (fun _ _ _ h=>h) (Or.inl ⟨by rfl,?_⟩) ?_
   ·intro w; go_simp
   try simp only [Act.put,sa9,sb9,sc9]
   refine wpAny_take (i:=6) (oi:=⟨some 46,_,_,_,_,_⟩) (v:=.pointer (some ⟨L,f,none⟩)) rfl (by kernel_rfl) (by kernel_rfl) (by kernel_rfl) (fun _ _ _ h=>h) (Or.inl ⟨by rfl,?_⟩) ?_
   ·intro w; go_simp
   try simp only [Act.put,sa9,sb9,sc9]
   refine wpAny_take (i:=11) (oi:=⟨some 51,_,_,_,_,_⟩) (v:=.pointer (some ⟨L,0,none⟩)) rfl (by kernel_rfl) (by kernel_rfl) (by kernel_rfl) (fun _ _ _ h=>h) (Or.inl ⟨by rfl,?_⟩) ?_
   ·intro w; go_simp
   try simp only [Act.put,sa9,sb9,sc9]
   refine wpAny_take (i:=12) (oi:=⟨some 52,_,_,_,_,_⟩) (v:=.pointer (some ⟨L,0,none⟩)) rfl (by kernel_rfl) (by kernel_rfl) (by kernel_rfl) (fun _ _ _ h=>h) (Or.inl ⟨by rfl,?_⟩) ?_
   ·intro w; go_simp
   try simp only [Act.put,sa9,sb9,sc9]
   refine wpAny_ready (rs:=[7,8]) (by kernel_rfl) (by simp) ?_;refine AllReady.cons (o:=⟨some 47,_,_,_,_,_⟩) rfl (fun K hK=>?_) (AllReady.cons (o:=⟨some 48,_,_,_,_,_⟩) rfl (fun K hK=>?_) AllReady.nil)
   ·go_simp;refine hK _ _ ?_;clear hK K
    try simp only [Act.put,sa9,sb9,sc9]
    refine wpAny_ready (rs:=[8]) (by kernel_rfl) (by simp) ?_;refine AllReady.cons (o:=⟨some 48,_,_,_,_,_⟩) rfl (fun K hK=>?_) AllReady.nil;go_simp;refine hK _ _ ?_;clear hK K
    try simp only [Act.put,sa9,sb9,sc9]
    refine wpAny_ready (rs:=[9]) (by kernel_rfl) (by simp) ?_;refine AllReady.cons (o:=⟨some 49,_,_,_,_,_⟩) rfl (fun K hK=>?_) AllReady.nil;go_simp;refine hK _ _ ?_;clear hK K
    try simp only [Act.put,sa9,sb9,sc9]
    refine wpAny_ready (rs:=[10]) (by kernel_rfl) (by simp) ?_;refine AllReady.cons (o:=⟨some 50,_,_,_,_,_⟩) rfl (fun K hK=>?_) AllReady.nil;refine step_append_lies _ (by rfl) _ _ _ (by rfl) B 199 i9 _ 3 24 underlying186 aV aW aX aY rfl (by omega) (vs f) (fs f).length (x1p (fs f)) (by rfl) ai ⟨wd.heap.size,0,none⟩ 1 1 [.int .i64 lo,.int .i64 hi,.int .i64 st] (by rfl) (by rfl) ac (by simp [Value.oneCell']) (by omega) (by unfold maxLen; omega) (by omega) (V aH) (wd.heap.size+1) (V hH) ?_;intro gg cap w8 ab aa ay _;refine hK _ _ ?_;clear hK K
    try simp only [Act.put,sa9,sb9,sc9]
    have ax:=V HM (wd.alloc (.cells #[.int .i64 lo,.int .i64 hi,.int .i64 st] 199)).drew w8 gg cap (V ad) (V al).size aa (by rw [V hH]; exact ay) ab;have az:Below B w w8:=((V al).mono aw).grown aa (V aH) (fun k hk=>(V ap k hk).2);have aA:=x0c (j:=f) az aS (.slice (some ⟨gg,0,none⟩) ((fs f).length+1) cap);obtain ⟨cur,q1,q2,_,_⟩:=V aL;have q8:w8.heap[L]?=_:=(aa.block L (V aT) aB).trans q1;have c8:=cell_of (j:=f) q8 (by omega);have z8:=x0e (j:=f) q8;have HF:=O (V HT _ ⟨_,ax⟩ aA);clear ax az aA q8 q1 ab aa ay;refine wpAny_take (i:=13) (oi:=⟨some 53,_,_,_,_,_⟩) (v:=.pointer (some ⟨L,f,none⟩)) rfl (by kernel_rfl) (by kernel_rfl) (by kernel_rfl) (fun _ _ _ h=>h) (Or.inl ⟨by rfl,?_⟩) ?_
    ·intro w; go_simp
    try simp only [Act.put,sa9,sb9,sc9]
    refine wpAny_ready (rs:=[14]) (by kernel_rfl) (by simp) ?_;refine AllReady.cons (o:=⟨none,_,_,_,_,_⟩) rfl (fun K hK=>?_) AllReady.nil;go_simp;refine hK _ _ ?_;clear hK K
    try simp only [Act.put,sa9,sb9,sc9]
    refine wpAny_done (by kernel_rfl) ?_ _;clear HM HT yd ye a6 r0 r1 r2 ai ac;go_wp2;exact V HF
   ·go_simp;refine hK _ _ ?_;clear hK K
    try simp only [Act.put,sa9,sb9,sc9]
    refine wpAny_ready (rs:=[7,9]) (by kernel_rfl) (by simp) ?_;refine AllReady.cons (o:=⟨some 47,_,_,_,_,_⟩) rfl (fun K hK=>?_) (AllReady.cons (o:=⟨some 49,_,_,_,_,_⟩) rfl (fun K hK=>?_) AllReady.nil)
    ·go_simp;refine hK _ _ ?_;clear hK K
     try simp only [Act.put,sa9,sb9,sc9]
     refine wpAny_ready (rs:=[9]) (by kernel_rfl) (by simp) ?_;refine AllReady.cons (o:=⟨some 49,_,_,_,_,_⟩) rfl (fun K hK=>?_) AllReady.nil;go_simp;refine hK _ _ ?_;clear hK K
     try simp only [Act.put,sa9,sb9,sc9]
     refine wpAny_ready (rs:=[10]) (by kernel_rfl) (by simp) ?_;refine AllReady.cons (o:=⟨some 50,_,_,_,_,_⟩) rfl (fun K hK=>?_) AllReady.nil;refine step_append_lies _ (by rfl) _ _ _ (by rfl) B 199 i9 _ 3 24 underlying186 aV aW aX aY rfl (by omega) (vs f) (fs f).length (x1p (fs f)) (by rfl) ai ⟨wd.heap.size,0,none⟩ 1 1 [.int .i64 lo,.int .i64 hi,.int .i64 st] (by rfl) (by rfl) ac (by simp [Value.oneCell']) (by omega) (by unfold maxLen; omega) (by omega) (V aH) (wd.heap.size+1) (V hH) ?_;intro gg cap w8 ab aa ay _;refine hK _ _ ?_;clear hK K
     try simp only [Act.put,sa9,sb9,sc9]
     have ax:=V HM (wd.alloc (.cells #[.int .i64 lo,.int .i64 hi,.int .i64 st] 199)).drew w8 gg cap (V ad) (V al).size aa (by rw [V hH]; exact ay) ab;have az:Below B w w8:=((V al).mono aw).grown aa (V aH) (fun k hk=>(V ap k hk).2);have aA:=x0c (j:=f) az aS (.slice (some ⟨gg,0,none⟩) ((fs f).length+1) cap);obtain ⟨cur,q1,q2,_,_⟩:=V aL;have q8:w8.heap[L]?=_:=(aa.block L (V aT) aB).trans q1;have c8:=cell_of (j:=f) q8 (by omega);have z8:=x0e (j:=f) q8;have HF:=O (V HT _ ⟨_,ax⟩ aA);clear ax az aA q8 q1 ab aa ay;refine wpAny_take (i:=13) (oi:=⟨some 53,_,_,_,_,_⟩) (v:=.pointer (some ⟨L,f,none⟩)) rfl (by kernel_rfl) (by kernel_rfl) (by kernel_rfl) (fun _ _ _ h=>h) (Or.inl ⟨by rfl,?_⟩) ?_
     ·intro w; go_simp
     try simp only [Act.put,sa9,sb9,sc9]
     refine wpAny_ready (rs:=[14]) (by kernel_rfl) (by simp) ?_;refine AllReady.cons (o:=⟨none,_,_,_,_,_⟩) rfl (fun K hK=>?_) AllReady.nil;go_simp;refine hK _ _ ?_;clear hK K
     try simp only [Act.put,sa9,sb9,sc9]
     refine wpAny_done (by kernel_rfl) ?_ _;clear HM HT yd ye a6 r0 r1 r2 ai ac;go_wp2;exact V HF
    ·go_simp;refine hK _ _ ?_;clear hK K
     try simp only [Act.put,sa9,sb9,sc9]
     refine wpAny_ready (rs:=[7]) (by kernel_rfl) (by simp) ?_;refine AllReady.cons (o:=⟨some 47,_,_,_,_,_⟩) rfl (fun K hK=>?_) AllReady.nil;go_simp;refine hK _ _ ?_;clear hK K
     try simp only [Act.put,sa9,sb9,sc9]
     refine wpAny_ready (rs:=[10]) (by kernel_rfl) (by simp) ?_;refine AllReady.cons (o:=⟨some 50,_,_,_,_,_⟩) rfl (fun K hK=>?_) AllReady.nil;refine step_append_lies _ (by rfl) _ _ _ (by rfl) B 199 i9 _ 3 24 underlying186 aV aW aX aY rfl (by omega) (vs f) (fs f).length (x1p (fs f)) (by rfl) ai ⟨wd.heap.size,0,none⟩ 1 1 [.int .i64 lo,.int .i64 hi,.int .i64 st] (by rfl) (by rfl) ac (by simp [Value.oneCell']) (by omega) (by unfold maxLen; omega) (by omega) (V aH) (wd.heap.size+1) (V hH) ?_;intro gg cap w8 ab aa ay _;refine hK _ _ ?_;clear hK K
     try simp only [Act.put,sa9,sb9,sc9]
     have ax:=V HM (wd.alloc (.cells #[.int .i64 lo,.int .i64 hi,.int .i64 st] 199)).drew w8 gg cap (V ad) (V al).size aa (by rw [V hH]; exact ay) ab;have az:Below B w w8:=((V al).mono aw).grown aa (V aH) (fun k hk=>(V ap k hk).2);have aA:=x0c (j:=f) az aS (.slice (some ⟨gg,0,none⟩) ((fs f).length+1) cap);obtain ⟨cur,q1,q2,_,_⟩:=V aL;have q8:w8.heap[L]?=_:=(aa.block L (V aT) aB).trans q1;have c8:=cell_of (j:=f) q8 (by omega);have z8:=x0e (j:=f) q8;have HF:=O (V HT _ ⟨_,ax⟩ aA);clear ax az aA q8 q1 ab aa ay;refine wpAny_take (i:=13) (oi:=⟨some 53,_,_,_,_,_⟩) (v:=.pointer (some ⟨L,f,none⟩)) rfl (by kernel_rfl) (by kernel_rfl) (by kernel_rfl) (fun _ _ _ h=>h) (Or.inl ⟨by rfl,?_⟩) ?_
     ·intro w; go_simp
     try simp only [Act.put,sa9,sb9,sc9]
     refine wpAny_ready (rs:=[14]) (by kernel_rfl) (by simp) ?_;refine AllReady.cons (o:=⟨none,_,_,_,_,_⟩) rfl (fun K hK=>?_) AllReady.nil;go_simp;refine hK _ _ ?_;clear hK K
     try simp only [Act.put,sa9,sb9,sc9]
     refine wpAny_done (by kernel_rfl) ?_ _;clear HM HT yd ye a6 r0 r1 r2 ai ac;go_wp2;exact V HF
open Go.Lib (minS maxS run_min_strs run_max_strs)
theorem y7Y {a b:ByteArray} (h:a.data.toList=b.data.toList):a=b:=by
 cases a; cases b;simp_all
theorem kp_two (a b:ByteArray):(minS a b=a/\maxS a b=b)\/(minS a b=b/\maxS a b=a):=by
 unfold minS maxS;by_cases h:a.data.toList<b.data.toList
 ·rw [if_pos (.inl h),if_pos h]; exact .inl ⟨rfl,rfl⟩
 ·by_cases h2:a.data.toList=b.data.toList
  ·rw [if_pos (.inr h2),if_neg h]; exact .inl ⟨rfl,y7Y h2⟩
  ·rw [if_neg (fun e=>e.elim h h2),if_neg h]; exact .inr ⟨rfl,rfl⟩
theorem y9M (a b:ByteArray):minS a b=minS b a/\maxS a b=maxS b a:=by
 unfold minS maxS;by_cases h:a.data.toList<b.data.toList
 ·have h2:¬ b.data.toList<a.data.toList:=fun e=>List.lt_irrefl _ (List.lt_trans h e);have h3:¬ b.data.toList=a.data.toList:=fun e=>(by rw [e] at h; exact List.lt_irrefl _ h);rw [if_pos (.inl h),if_pos h,if_neg (fun e=>e.elim h2 h3),if_neg h2]; exact ⟨rfl,rfl⟩
 ·by_cases h2:a.data.toList=b.data.toList
  ·obtain rfl:=y7Y h2; exact ⟨rfl,rfl⟩
  ·have h3:b.data.toList<a.data.toList:=by
    rcases Std.le_total (a:=a.data.toList) (b:=b.data.toList) with hh | hh
    ·exact absurd (Std.lt_of_le_of_ne hh h2) h
    ·exact Std.lt_of_le_of_ne hh (fun e=>h2 e.symm)
   rw [if_neg (fun e=>e.elim h h2),if_neg h,if_pos (.inl h3),if_pos h3]; exact ⟨rfl,rfl⟩
theorem y8o (a b a' b':ByteArray):(minS a b=minS a' b'/\maxS a b=maxS a' b')↔((a=a'/\b=b')\/(a=b'/\b=a')):=by
 constructor
 ·rintro ⟨h1,h2⟩;rcases kp_two a b with ⟨x,y⟩ | ⟨x,y⟩ <;> rcases kp_two a' b' with ⟨x',y'⟩ | ⟨x',y'⟩ <;> rw [x,x'] at h1 <;> rw [y,y'] at h2
  ·exact .inl ⟨h1,h2⟩
  ·exact .inr ⟨h1,h2⟩
  ·exact .inr ⟨h2,h1⟩
  ·exact .inl ⟨h2,h1⟩
 ·rintro (⟨rfl,rfl⟩ | ⟨rfl,rfl⟩)
  ·exact ⟨rfl,rfl⟩
  ·exact y9M a b
def TwM (w:World) (B L rr:Nat) (fs:Nat->List Run) (c:ByteArray->ByteArray->Int) (a b:ByteArray) (e:Ending) (w':World):Prop:=e=.returned (.bool (decide (0<c (minS a b) (maxS a b))))/\(∃ vs',LG w' B L rr vs' fs (incr c (minS a b) (maxS a b)))/\Below B w w'
theorem y8C {a b:ByteArray} (ha:Sh a) (hb:Sh b):Sh (minS a b)/\Sh (maxS a b):=by
 rcases kp_two a b with ⟨x,y⟩ | ⟨x,y⟩ <;> rw [x,y]
 ·exact ⟨ha,hb⟩
 ·exact ⟨hb,ha⟩
theorem x8H (r:Rec) (vt:Value) (w:World) (B L rr:Nat) (vs:Nat->Value) (fs:Nat->List Run) (c:ByteArray->ByteArray->Int)
  (ah:LG w B L rr vs fs c) (aw:B<=w.heap.size) (h15:r.kind=15) (ha:Sh r.name) (hb:Sh r.other) (hc:∀ x y,0<=c x y/\c x y<=100000):Calls prog 141 #[.pointer (some ⟨L,0,none⟩),recV r vt] w (TwM w B L rr fs c r.name r.other):=by
 unfold recV;rw [h15];obtain ⟨s1,s2⟩:=y8C ha hb;generalize r.n=n;generalize r.lo=lo;generalize r.hi=hi;generalize r.name=nm at *;generalize r.other=ot at *;generalize r.wt=wt;have ar:Bw w (w.alloc (.cells #[.int .i64 15,.int .i64 lo,.int .i64 hi,.int .i64 n,vt,.string nm,.string ot,.float .f64 wt] 50)):=(b0r).alloc (l0r _) _;have an:=ah.on ar;have K:=O (y4y L rr (minS nm ot) (maxS nm ot) c _ an.mcell an.lr an.map s1 s2 (hc _ _));have HM:Hid (∀ W,MAt W rr (incr c (minS nm ot) (maxS nm ot))->But rr (w.alloc (.cells #[.int .i64 15,.int .i64 lo,.int .i64 hi,.int .i64 n,vt,.string nm,.string ot,.float .f64 wt] 50)) W->TwM w B L rr fs c nm ot (.returned (.bool (decide (0<c (minS nm ot) (maxS nm ot))))) W):=fun W m b=>⟨rfl,⟨vs,an.mixed m b⟩,(ar.mono aw).trans (b.below B ah.br)⟩;have e1:=fun W ts t=>run_min_strs (P:=prog) W ts t nm ot;have e2:=fun W ts t=>run_max_strs (P:=prog) W ts t nm ot;clear ah an hc s1 s2 ha hb;go_enter func141,ntmps141;go_wp2_with fail;refine (V K).mono ?_;rintro e w1 ⟨rfl,m1,b1⟩;have HF:=O (V HM w1 m1 b1);clear K HM m1 b1;go_wp2;go_ret;exact V HF
open Go.Lib (minS maxS)
def ledF (l:List Rec) (f:Nat):List Run:=(l.filter fun r=>decide (r.kind≠15/\Cn.fam r.kind=(f:Int))).map runR
def ledC:List Rec->ByteArray->ByteArray->Int
 | [],_,_=>0
 | r :: l,a,b=>(if r.kind=15/\minS r.name r.other=a/\maxS r.name r.other=b then 1 else 0)+ledC l a b
theorem x6L (r:Rec) (a b:ByteArray):∀ l:List Rec,ledC (l++[r]) a b=ledC l a b+(if r.kind=15/\minS r.name r.other=a/\maxS r.name r.other=b then 1 else 0)
 | []=>by simp [ledC]
 | x :: l=>by simp only [List.cons_append,ledC,x6L r a b l]; omega
theorem x3y (a b:ByteArray):∀ l:List Rec,0<=ledC l a b/\ledC l a b<=l.length
 | []=>by simp [ledC]
 | x :: l=>by
  have:=x3y a b l;simp only [ledC,List.length_cons];split <;> omega
theorem y0C (a b:ByteArray):∀ l:List Rec,0<ledC l a b↔∃ k∈l,k.kind=15/\minS k.name k.other=a/\maxS k.name k.other=b
 | []=>by simp [ledC]
 | x :: l=>by
  have h0:=x3y a b l;have ih:=y0C a b l;simp only [ledC];by_cases hx:x.kind=15/\minS x.name x.other=a/\maxS x.name x.other=b
  ·rw [if_pos hx];exact ⟨fun _=>⟨x,by simp,hx⟩,fun _=>by omega⟩
  ·rw [if_neg hx,Int.zero_add,ih];constructor
   ·rintro ⟨k,hk,h⟩; exact ⟨k,List.mem_cons_of_mem _ hk,h⟩
   ·rintro ⟨k,hk,h⟩;rcases List.mem_cons.1 hk with rfl | hk
    ·exact absurd h hx
    ·exact ⟨k,hk,h⟩
theorem y0D (l:List Rec) (r:Rec) (f:Nat):ledF (l++[r]) f=ledF l f++(if r.kind≠15/\Cn.fam r.kind=(f:Int) then [runR r] else []):=by
 unfold ledF;rw [List.filter_append,List.map_append];congr 1;by_cases h:r.kind≠15/\Cn.fam r.kind=(f:Int)
 ·rw [if_pos h]
  have:List.filter (fun r=>decide (r.kind≠15/\Cn.fam r.kind=(f:Int))) [r]=[r]:=by
   rw [List.filter_cons,if_pos (d0t h)]; rfl
  rw [this]; rfl
 ·rw [if_neg h]
  have:List.filter (fun r=>decide (r.kind≠15/\Cn.fam r.kind=(f:Int))) [r]=[]:=by
   rw [List.filter_cons,if_neg (fun e=>h (o0d e))]; rfl
  rw [this]; rfl
theorem y6T (l:List Rec) (f:Nat):(ledF l f).length<=l.length:=by
 unfold ledF;rw [List.length_map];exact List.length_filter_le _ _
theorem y6U {l:List Rec} {r:Rec} (h:r.kind=15):ledF (l++[r])=ledF l:=by
 funext f;rw [y0D,if_neg (fun a=>a.1 h),List.append_nil]
theorem y6R {l:List Rec} {r:Rec} (h:r.kind=15):ledC (l++[r])=incr (ledC l) (minS r.name r.other) (maxS r.name r.other):=by
 funext a b;rw [x6L];unfold incr;by_cases e:a=minS r.name r.other/\b=maxS r.name r.other
 ·rw [if_pos ⟨h,e.1.symm,e.2.symm⟩,if_pos e,e.1,e.2]
 ·rw [if_neg (fun x=>e ⟨x.2.1.symm,x.2.2.symm⟩),if_neg e,Int.add_zero]
theorem y6V {l:List Rec} {r:Rec} {f:Nat} (h:r.kind≠15) (hf:Cn.fam r.kind=(f:Int)):ledF (l++[r])=upd (ledF l) f (ledF l f++[runR r]):=by
 funext g;rw [y0D];by_cases e:g=f
 ·subst e;rw [upd_same,if_pos ⟨h,hf⟩]
 ·rw [x1k _ _ e,if_neg (fun a=>e (by omega)),List.append_nil]
theorem y6S {l:List Rec} {r:Rec} (h:r.kind≠15):ledC (l++[r])=ledC l:=by
 funext a b;rw [x6L,if_neg (fun x=>h x.1),Int.add_zero]
theorem y8S {l:List Rec} {r:Rec} (h:r.kind=15):decide (0<ledC l (minS r.name r.other) (maxS r.name r.other))=l.any fun k=>Cn.clash k r:=by
 rw [Bool.eq_iff_iff,decide_eq_true_eq,y0C,List.any_eq_true];constructor
 ·rintro ⟨k,hk,h1,h2,h3⟩;refine ⟨k,hk,?_⟩;unfold Cn.clash;rw [if_neg (by rw [h,h1]; simp),if_pos h1];exact d0t ((y8o _ _ _ _).1 ⟨h2,h3⟩)
 ·rintro ⟨k,hk,hc⟩;unfold Cn.clash at hc;split at hc
  ·cases hc
  ·next hf =>
   have h1:k.kind=15:=Cn.x6C (by have:=Decidable.not_not.1 hf; rw [this,h]; decide);rw [if_pos h1] at hc;obtain ⟨h2,h3⟩:=(y8o _ _ _ _).2 (o0d hc);exact ⟨k,hk,h1,h2,h3⟩
theorem y8U {l:List Rec} {r:Rec} {f:Nat} (hl:∀ k∈l,Cn.right k=0) (hr:Cn.right r=0) (h:r.kind≠15) (hf:Cn.fam r.kind=(f:Int)):((ledF l f).any fun y=>(runR r).meets y)=l.any fun k=>Cn.clash k r:=by
 rw [Bool.eq_iff_iff,List.any_eq_true,List.any_eq_true];unfold ledF;constructor
 ·rintro ⟨y,hy,hm⟩;obtain ⟨k,hk,rfl⟩:=List.mem_map.1 hy;rw [List.mem_filter,decide_eq_true_eq] at hk;refine ⟨k,hk.1,?_⟩;rw [x4G (hl k hk.1) hr (hk.2.2.trans hf.symm) hk.2.1 h];exact hm
 ·rintro ⟨k,hk,hc⟩
  have aD:Cn.fam k.kind=Cn.fam r.kind:=by
   unfold Cn.clash at hc;split at hc
   ·cases hc
   ·next hh=>exact Decidable.not_not.1 hh
  have aP:k.kind≠15:=fun e=>h (Cn.x6C (by rw [<- aD,e]; decide));rw [x4G (hl k hk) hr aD aP h] at hc;exact ⟨runR k,List.mem_map.2 ⟨k,List.mem_filter.2 ⟨hk,d0t ⟨aP,aD.trans hf⟩⟩,rfl⟩,hc⟩
theorem y9P {l:List Rec} (hl:∀ k∈l,Cn.right k=0) {f:Nat}:∀ y∈ledF l f,y.ok:=by
 intro y hy;unfold ledF at hy;obtain ⟨k,hk,rfl⟩:=List.mem_map.1 hy;rw [List.mem_filter,decide_eq_true_eq] at hk;exact x7k (hl k hk.1) hk.2.1
theorem y4x {r:Rec} (h:Cn.right r=0) (h15:r.kind=15):Sh r.name/\Sh r.other:=by
 have hn:∀ s:ByteArray,Cn.nameL s=true->Sh s:=fun s hs=>by
  unfold Cn.nameL at hs;split at hs
  ·next a b c d e =>
   have:(s.data.toList.map (·.toNat)).length=4:=(by rw [e]; rfl);rw [List.length_map] at this
   have h2:s.size=4:=by
    show s.data.size=4;rw [<- Array.length_toList];exact this
   unfold Sh; omega
  ·cases hs
 have hf:=Cn.x0H h;unfold Cn.right at h;rw [if_neg hf,if_pos h15] at h;have hc:=Cn.x1Y h;exact ⟨hn _ hc.2.2.2.1,hn _ hc.2.2.2.2.1⟩
theorem x7H:∀ args w,(callFunc 270 args).run prog w=.ok (.enter 270 args) w:=enters_of func270 (by kernel_rfl) rfl
theorem enters_sp4:∀ args w,(callFunc 286 args).run prog w=.ok (.enter 286 args) w:=enters_of func286 (by kernel_rfl) rfl
def TwA (w:World) (B L rr:Nat) (l:List Rec) (r:Rec) (e:Ending) (w':World):Prop:=e=.returned (.bool (l.any fun k=>Cn.clash k r))/\(∃ vs',LG w' B L rr vs' (ledF (l++[r])) (ledC (l++[r])))/\Below B w w'
theorem y5E (r:Rec) (vt:Value) (w:World) (B L rr:Nat) (vs:Nat->Value) (l:List Rec) (hg:Glob w) (ah:LG w B L rr vs (ledF l) (ledC l)) (aw:B<=w.heap.size) (aM:RecFit r) (hl:∀ k∈l,Cn.right k=0) (hr:Cn.right r=0) (am:l.length<=5000) :
  Calls prog 141 #[.pointer (some ⟨L,0,none⟩),recV r vt] w (TwA w B L rr l r):=by
 by_cases h15:r.kind=15
 ·obtain ⟨s1,s2⟩:=y4x hr h15;refine (x8H r vt w B L rr vs _ _ ah aw h15 s1 s2 (fun x y=>by have:=x3y x y l; omega)).mono ?_;rintro e w' ⟨rfl,h2,h3⟩;exact ⟨by rw [y8S h15],by rw [y6U h15,y6R h15]; exact h2,h3⟩
 ·obtain ⟨f,hf⟩:∃ f:Nat,Cn.fam r.kind=(f:Int):=⟨(Cn.fam r.kind).toNat,by have:=Cn.x4N r.kind; omega⟩;have aU:f<11:=(by have:=Cn.x4N r.kind; omega);have aN:(ledF l f).length<100000:=by have:=y6T l f; omega
  have aZ : ∀ (T fp : Nat), shape r.kind = .iface T (.agg #[.int .i64 r.kind]) → (∀ W, (method 421 T (.agg #[.int .i64 r.kind]) "endonym/table.spoken").run Tryz.prog W = .ok (fp, .agg #[.int .i64 r.kind]) W) → (∀ args W, (callFunc fp args).run Tryz.prog W = .ok (.enter fp args) W) → (∀ W, Calls Tryz.prog fp #[shV r.kind, recV r vt] W (fun e w' => e = .returned (runV r.lo r.hi (stepP r)) ∧ Below W.heap.size W w')) → Calls Tryz.prog 141 #[.pointer (some ⟨L, 0, none⟩), recV r vt] w (TwA w B L rr l r) := by
   intro T fp es hm eg KP;refine (y2A T fp r vt w B L rr f vs _ _ ah aw aU aN h15 (x7k hr h15) (y9P hl) (fun W h=>hf ▸ x1a r.kind W (hg.on h) aM.kind) (fun W=>es ▸ x1d r.kind W aM.kind) hm eg KP).mono ?_;rintro e w' ⟨rfl,h2,h3⟩;exact ⟨by rw [y8U hl hr h15 hf],by rw [y6V h15 hf,y6S h15]; exact h2,h3⟩
  by_cases h4:r.kind=4
  ·refine aZ 249 286 (by unfold shape shV; rw [if_pos h4]) (x2I _) enters_sp4 (fun W=>?_);have:=x3I r.kind r vt W rfl;unfold x2f at this;rwa [if_pos h4] at this
  ·have bd:∀ W,Calls prog 270 #[shV r.kind,recV r vt] W (fun e w'=>e=.returned (runV r.lo r.hi (stepP r))/\Bw W w'):=fun W=>by
    have:=x3I r.kind r vt W rfl;unfold x2f at this;rwa [if_neg h4] at this
   by_cases h5:r.kind=5\/r.kind=7\/r.kind=8\/r.kind=13
   ·exact aZ 250 270 (by unfold shape shV; rw [if_neg h4,if_pos h5]) (x3h _) x7H bd
   ·exact aZ 247 270 (by unfold shape shV; rw [if_neg h4,if_neg h5,if_neg h15]) (x2J _) x7H bd
def idxT (rs:List Rec) (k:Nat):Int:=match Cn.x1q rs k (rs.drop k) with
 | some i=>(i:Int)
 | Option.none=>-1
theorem y9H {rs:List Rec} {k:Nat} (hk:k<rs.length) (h:((rs.take k).any fun j=>Cn.clash j (rs.getD k Cn.none))=true):idxT rs k=(k:Int):=by
 have e:rs.getD k Cn.none=rs[k]:=(by simp [List.getD,hk]);rw [e] at h;unfold idxT;rw [List.drop_eq_getElem_cons hk,Cn.x1q,if_pos h]
theorem y6L {rs:List Rec} {k:Nat} (hk:k<rs.length) (h:((rs.take k).any fun j=>Cn.clash j (rs.getD k Cn.none))=false):idxT rs k=idxT rs (k+1):=by
 have e:rs.getD k Cn.none=rs[k]:=(by simp [List.getD,hk]);rw [e] at h;unfold idxT;rw [List.drop_eq_getElem_cons hk,Cn.x1q,if_neg (by rw [h]; decide)]
theorem y9G (rs:List Rec):idxT rs rs.length=-1:=by
 unfold idxT;rw [List.drop_length,Cn.x1q]
theorem y5C {rs:List Rec} {k:Nat} (hk:k<rs.length):rs.take k++[rs.getD k Cn.none]=rs.take (k+1):=by
 have e:rs.getD k Cn.none=rs[k]:=(by simp [List.getD,hk]);rw [e,List.take_succ_eq_append_getElem hk]
theorem x7I:∀ args w,(callFunc 141 args).run prog w=.ok (.enter 141 args) w:=enters_of func141 (by kernel_rfl) rfl
def TIn (w0:World) (L rr:Nat) (rs:List Rec) (k:Nat) (W:World):Prop:=(∃ vs,LG W w0.heap.size L rr vs (ledF (rs.take k)) (ledC (rs.take k)))/\Below w0.heap.size w0 W
theorem x5F (L rr:Nat) (v:Value) (rs:List Rec) (w0 w:World) (hg:Glob w0) (hv:Rcs w0 v rs) (hr:∀ r∈rs,Cn.right r=0) (am:rs.length<=4096) (aO:TIn w0 L rr rs 0 w) :
  Calls prog 140 #[v,.func (.func 141) #[.pointer (some ⟨L,0,none⟩)] #[]] w (fun e w'=>e=.returned (.int .i64 (idxT rs 0))/\Bw w0 w'):=by
 have eg:=x7I;have a7:=O aO
 have HP:Hid (∀ (k:Nat) (vt:Value) (W:World),k<rs.length->TIn w0 L rr rs k W->Calls prog 141 #[.pointer (some ⟨L,0,none⟩),recV (rs.getD k Cn.none) vt] W (fun e w'=>e=.returned (.bool ((rs.take k).any fun j=>Cn.clash j (rs.getD k Cn.none)))/\TIn w0 L rr rs (k+1) w')):=fun k vt W hk aF=>by
  obtain ⟨⟨vs,ah⟩,hb⟩:=aF;refine (y5E (rs.getD k Cn.none) vt W w0.heap.size L rr vs (rs.take k) (hg.on hb) ah hb.size (hv.fit hk) (fun j hj=>hr j (List.mem_of_mem_take hj)) (hr _ (by simp [List.getD,hk])) (by simp; omega)).mono ?_;rintro e w' ⟨h1,h2,h3⟩;rw [y5C hk] at h2;exact ⟨h1,h2,hb.trans h3⟩
 have HC:Hid (∀ W k,TIn w0 L rr rs k W->Rcs W v rs):=fun W k h=>hv.below h.2;have HB:Hid (∀ W k,TIn w0 L rr rs k W->Bw w0 W):=fun W k h=>h.2;obtain ⟨ao,cap,rfl,h1,h2⟩:=hv.shape;clear hv hr hg aO;generalize hq:idxT rs 0=z at *;have a8:=O hq.symm;clear hq;go_enter func140,ntmps140;go_wp2;go_loopw [5,8] (fun _ i wr=>∃ k:Nat,i=.int .i64 k/\k<=rs.length/\z=idxT rs k/\TIn w0 L rr rs k wr) (fun _ i _=>rs.length - (intOf i).toNat)
 case atStart=>exact ⟨0,rfl,by omega,V a8,V a7⟩
 case round =>
  obtain ⟨k,rfl,hk,hz,aF⟩:=hrel;clear a8 a7;by_cases hlt:k<rs.length
  ·have bc:=V HC wr k aF;obtain ⟨b,off,aR,he,hc1,hc2,hc⟩:=bc.place (by omega);obtain ⟨rfl,rfl⟩:ao=some ⟨b,off,none⟩/\cap=aR:=(by simpa using he);obtain ⟨x0,x1,x2,x3,⟨vt,x4,sk⟩,x5,x6,x7⟩:=hc k hlt;have HV:=O (V HP k vt wr hlt aF);have HH:Hid (((rs.take k).any fun j=>Cn.clash j (rs.getD k Cn.none))=true->z=(k:Int)):=fun h=>hz.trans (y9H hlt h);have HN:Hid (((rs.take k).any fun j=>Cn.clash j (rs.getD k Cn.none))=false->z=idxT rs (k+1)):=fun h=>hz.trans (y6L hlt h);obtain ⟨tp,tc,rfl,_,_⟩:=sk.shape;clear hz aF hc he sk HP bc HC;unfold recV at HV;generalize ((rs.take k).any fun j=>Cn.clash j (rs.getD k Cn.none))=y at HV HH HN;generalize (rs.getD k Cn.none).kind=kd at *;generalize (rs.getD k Cn.none).lo=lo at *;generalize (rs.getD k Cn.none).hi=hi at *;generalize (rs.getD k Cn.none).n=n at *;generalize (rs.getD k Cn.none).name=nm at *;generalize (rs.getD k Cn.none).other=ot at *;generalize (rs.getD k Cn.none).wt=wt at *;generalize (rs.getD k Cn.none).to.length=tl at *
   cases y with
   | true =>
    obtain rfl:=V HH rfl;clear HH HN;go_wp2_with (go_at_fn 141; refine (V HV).mono ?_; rintro e w1 ⟨rfl,af⟩);have HF:=O (V HB w1 _ af);clear HV HB;go_ret;exact ⟨rfl,V HF⟩
   | false =>
    have bf:=O (V HN rfl);clear HH HN HB;go_wp2_with (go_at_fn 141; refine (V HV).mono ?_; rintro e w1 ⟨rfl,af⟩);have HF:=O af;clear HV af;go_round
    case rel=>exact ⟨k+1,by go_num,by omega,V bf,V HF⟩
    case measure=>simp [intOf]; omega
  ·obtain rfl:k=rs.length:=(by omega);obtain rfl:=hz.trans (y9G rs);have HF:=O aF.2;clear hz aF HP HC HB;go_wp2;go_ret;exact ⟨rfl,V HF⟩
theorem y6Y (w:World):(Instr.makeMap 185 none).run prog w=.ok (.map (some w.heap.size)) (w.alloc (.map #[] 0)):=by kernel_rfl
def x4W (r:Nat):Array Value:=#[.slice none 0 0,.slice none 0 0,.slice none 0 0,.slice none 0 0,.slice none 0 0,.slice none 0 0,.slice none 0 0,.slice none 0 0,.slice none 0 0,.slice none 0 0,.slice none 0 0,.map (some r)]
theorem y9Q (w:World):LG ((w.alloc (.map #[] 0)).alloc (.cells (x4W w.heap.size) 189)) w.heap.size (w.heap.size+1) w.heap.size (fun _=>.slice none 0 0) (ledF []) (ledC []):=by
 have h1:((w.alloc (.map #[] 0)).alloc (.cells (x4W w.heap.size) 189)).heap[w.heap.size+1]?=some (.cells (x4W w.heap.size) 189 (0,0)):=by
  show ((w.heap.push _).push _)[w.heap.size+1]?=_;rw [Array.getElem?_push];simp
 have h2:((w.alloc (.map #[] 0)).alloc (.cells (x4W w.heap.size) 189)).heap[w.heap.size]?=some (.map #[] 0):=by
  show ((w.heap.push _).push _)[w.heap.size]?=_;rw [Array.getElem?_push_lt (by simp)];simp
 refine ⟨by omega,l0r _,by omega,⟨x4W w.heap.size,h1,rfl,fun f hf=>?_,rfl⟩,⟨#[],0,h2,⟨MapKept.stamped_empty 0,fun x hx=>by simp at hx,fun a b _=>rfl⟩⟩,fun f _=>⟨by simp [ledF],World.ownsRow_nil _ _ _ _⟩,fun f _ k hk=>(by cases hk),fun f g _ _ _ k hk=>(by cases hk)⟩;obtain rfl | rfl | rfl | rfl | rfl | rfl | rfl | rfl | rfl | rfl | rfl:f=0\/f=1\/f=2\/f=3\/f=4\/f=5\/f=6\/f=7\/f=8\/f=9\/f=10:=by omega
 all_goals rfl
def firstT (rs:List Rec):Nat × Int:=match Cn.x1q rs 0 rs with | some i=>(i,62) | Option.none=>(0,0)
theorem x5C (v:Value) (rs:List Rec) (w:World) (hg:Glob w) (hv:Rcs w v rs) (hr:∀ r∈rs,Cn.right r=0) (am:rs.length<=4096):Calls prog 108 #[v] w (x9X w (firstT rs)):=by
 have hmk:=y6Y;have ar:=x2i w (.map #[] 0) (.cells (x4W w.heap.size) 189);have K:=O (x5F (w.heap.size+1) w.heap.size v rs w _ hg hv hr am ⟨⟨_,y9Q w⟩,ar⟩)
 have HX:Hid (idxT rs 0=match Cn.x1q rs 0 rs with | some i=>(i:Int) | Option.none=>-1):=by
  show idxT rs 0=_;unfold idxT;rw [List.drop_zero]
 obtain ⟨ao,cap,rfl,h1,h2⟩:=hv.shape;clear hv hg hr;unfold firstT;generalize idxT rs 0=z at *;unfold x4W at *
 cases ht:Cn.x1q rs 0 rs with
 | some i =>
  rw [ht] at HX;obtain rfl:z=(i:Int):=V HX;clear HX ht;go_enter func108,ntmps108;go_wp2_with fail;refine (V K).mono ?_;rintro e w1 ⟨rfl,af⟩;clear K;go_wp2;go_ret2;exact ⟨rfl,af⟩
 | none =>
  rw [ht] at HX;obtain rfl:z=-1:=V HX;clear HX ht;go_enter func108,ntmps108;go_wp2_with fail;refine (V K).mono ?_;rintro e w1 ⟨rfl,af⟩;clear K;go_wp2;go_ret2;exact ⟨rfl,af⟩
def z0L:Prop:=∀ (v:Value) (rs:List Rec) (w:World),Glob w->Rcs w v rs->Calls prog 71 #[v] w (x9X w (Cn.check6 rs))
theorem x7x (rs:List Rec):Cn.check6 rs=if (firstW rs).2≠0 then firstW rs else firstT rs:=by
 unfold Cn.check6 firstW firstT;split
 ·rfl
 ·cases h:Cn.x0T 0 rs with
  | some x=>simp only; rw [if_pos (Cn.x1R _ _ _ h)]
  | none=>simp only; rw [if_neg (by simp)]; rfl
theorem x7M {rs:List Rec} (h:(firstW rs).2=0):(∀ r∈rs,Cn.right r=0)/\rs.length<=4096:=by
 unfold firstW at h;split at h
 ·exact absurd h (by decide)
 ·next hl =>
  cases e:Cn.x0T 0 rs with
  | some x=>rw [e] at h; exact absurd h (Cn.x1R _ _ _ e)
  | none=>exact ⟨Cn.x3E _ _ e,by omega⟩
theorem y3o:z0L:=by
 intro v rs w hg hv;have K1:=O (x5D v rs w hg hv);have K2:Hid ((firstW rs).2=0->∀ W,Bw w W->Calls prog 108 #[v] W (x9X W (firstT rs))):=fun h W hb=>x5C v rs W (hg.on hb) (hv.below hb) (x7M h).1 (x7M h).2;rw [x7x];obtain ⟨ao,cap,rfl,h1,h2⟩:=hv.shape;clear hv hg;generalize firstW rs=x at *;generalize firstT rs=y at *;obtain ⟨xi,xe⟩:=x;obtain ⟨yi,ye⟩:=y;by_cases he:xe=0
 ·subst he;rw [if_neg (by simp)];go_enter func71,ntmps71;go_wp2_with fail;refine (V K1).mono ?_;rintro e w1 ⟨rfl,af⟩;have J:=O (V K2 trivial w1 af);clear K1 K2;go_wp2_with fail;refine (V J).mono ?_;rintro e w2 ⟨rfl,au⟩;have HF:=O (x0b af au);clear J af au;go_wp2;go_ret2;exact ⟨rfl,V HF⟩
 ·rw [if_pos (by simpa using he)];have d1:(xe != 0)=true:=(by simp [he]);have d2:(xe==0)=false:=b0f he;clear K2;go_enter func71,ntmps71;go_wp2_with fail;refine (V K1).mono ?_;rintro e w1 ⟨rfl,af⟩;clear K1;go_wp2;go_ret2;exact ⟨rfl,af⟩
