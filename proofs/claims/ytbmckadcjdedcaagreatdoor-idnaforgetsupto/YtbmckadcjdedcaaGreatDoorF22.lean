import Derived.Test.YtbmckadcjdedcaaGreatDoorF12
import Derived.Deep.DeepCutAuto
import Derived.Deep.CutBlock
import Derived.Lib.MinMaxS
set_option maxHeartbeats 8000000
set_option maxRecDepth 20000
namespace Go.Proofs.YtbmckadcjdedcaaGreatDoor
open Go.Proofs.Tryz
open Go.RowKit
section
variable{p:Prop}
theorem p8h(h:p:=by go_enter func125,ntmps125;go_wp2_with fail;refine c0m K fun Q E=>?_;go_wp2;go_ret2;exact⟨rfl,E⟩):p:=h
theorem P7I(h:p:=by
 go_simp;refine hK _ _ ?_;clear hK K
 try simp only[Act.put,sa9,sb9,sc9]
 refine wpAny_ready (rs:=[10]) f4A M7O ?_;refine AllReady.cons (o:=⟨some 50,_,_,_,_,_⟩) rfl (fun K hK=>?_) AllReady.nil;refine step_append_lies _ (by rfl) _ _ _ (by rfl) B 251 i9 _ 3 24 underlying240 hi0 hz0 hz1 hz2 rfl f6J (vs f) (fs f).length (x1D (fs f)) (by rfl) hrow ⟨wd.heap.size,0,none⟩ 1 1 [.int .i64 lo,.int .i64 hi,.int .i64 st] (by rfl) (by rfl) hnews (by simp[Value.oneCell']) f6J T7X f6J (V hBE) (wd.heap.size+1) (V hH) ?_;intro gg cap w8 hrow8 hgrow hat _;refine hK _ _ ?_;clear hK K
 try simp only[Act.put,sa9,sb9,sc9]
 have hLG:=V HM (wd.alloc (.cells #[.int .i64 lo,.int .i64 hi,.int .i64 st] 251)).drew w8 gg cap (V hkept) (V hbe).size hgrow (by rw[V hH];exact hat) hrow8;have hb8:Below B w w8:=((V hbe).mono hBw).grown hgrow (V hBE) (fun k hk=>(V hown k hk).2);have hb9:=x0d (j:=f) hb8 hBL (.slice (some ⟨gg,0,none⟩) ((fs f).length+1) cap);obtain⟨cur,q1,q2,_,_⟩:=V hLc;have q8:w8.heap[L]?=_:=(hgrow.block L (V hLE) hLne).trans q1;have c8:=cell_of (j:=f) q8 f6J;have z8:=x0e (j:=f) q8;have HF:=O (V HT _ ⟨_,hLG⟩ hb9);clear hLG hb8 hb9 q8 q1 hrow8 hgrow hat;refine wpAny_take (i:=13) (oi:=⟨some 53,_,_,_,_,_⟩) (v:=.pointer (some ⟨L,f,none⟩)) rfl f4A f4A f4A (fun _ _ _ h=>h) (Or.inl ⟨by rfl,?_⟩) ?_
 ·exact M9i
 try simp only[Act.put,sa9,sb9,sc9]
 refine wpAny_ready (rs:=[14]) f4A M7O ?_;refine AllReady.cons (o:=⟨none,_,_,_,_,_⟩) rfl (fun K hK=>?_) AllReady.nil;go_simp;refine hK _ _ ?_;clear hK K
 try simp only[Act.put,sa9,sb9,sc9]
 refine wpAny_done f4A ?_ _;clear HM HT yd ye ye2 r0 r1 r2 hrow hnews;go_wp2;exact V HF):p:=h
theorem m8N(h:p:=by have:=Cn.x6s r.kind;exact f6J):p:=h
theorem v6D(h:p:=by
 refine rd9 7 fun K hK=>?_;go_simp;refine c1m (V KP _) fun w4 hb4=>?_;go_wp2_with fail;refine hK.out _ _ ?_ (fun hHeld=>?_)
 ·exact V SM _ (x0b (V SI _ hHeld) hb4)
 clear hK K
 try simp only[Act.put,sa9,sb9,sc9]
 have hg:=(hb4.block _ (lt_of_block hg)).trans hg;refine tk9 9 (.int .i64 (f:Int)) ?_;have c0:=cell_of (j:=0) hg M7O;have z0:=x0e (j:=0) hg;have c1:=cell_of (j:=1) hg M7O;have z1:=x0e (j:=1) hg;have c2:=cell_of (j:=2) hg M7O;have z2:=x0e (j:=2) hg;refine rd9 10 fun K hK=>?_;have hBf:=x0d (j:=2) (x0d (j:=1) (x0d (j:=0) (V SI _ hHeld) hge (.int .i64 lo)) hge (.int .i64 hi)) hge (.int .i64 st);have hgf:=x0f (j:=2) (x0f (j:=1) (x0f (j:=0) hg (.int .i64 lo)) (.int .i64 hi)) (.int .i64 st);go_simp;refine hK.out _ _ ?_ (fun hHeld=>?_)
 ·exact V SM _ hBf
 clear hK K
 try simp only[Act.put,sa9,sb9,sc9]
 refine wpAnyH_done f4A ?_ _;go_wp2_with fail
 go_meet
 case rel=>exact⟨rfl,_,rfl,hge,hgf,hBf⟩):p:=h
theorem I2U(h:p:=by
 refine rd9 5 fun K hK=>?_;go_simp;refine c1m (V KSH _) fun w3 hb3=>?_;go_wp2_with fail;refine hK.out _ _ ?_ (fun hHeld=>?_)
 ·exact V SM _ (x0b (V SI _ hHeld) hb3)
 clear hK K
 try simp only[Act.put,sa9,sb9,sc9]
 have hg:=(hb3.block _ (lt_of_block hg)).trans hg;exact v6D):p:=h
theorem P7i(h:p:=by
 go_simp;refine hK _ _ ?_;clear hK K
 try simp only[Act.put,sa9,sb9,sc9]
 refine wpAny_ready (rs:=[9]) f4A (by simp) ?_;refine AllReady.cons (o:=⟨some 49,_,_,_,_,_⟩) rfl (fun K hK=>?_) AllReady.nil;exact P7I):p:=h
theorem g9D(h:p:=by exact V SM _ ((V SI _ hHeld).alloc (V SI _ hHeld).size _)):p:=h
end
theorem z5M:(prog.info? 251).map (fun i=>(i.zero,i.size,i.bytes))=some (some (.agg #[.int .i64 0,.int .i64 0,.int .i64 0]),3,24):=f4x
def TwB(w:World)(B L rr:Nat)(fs:Nat->List Run)(c:ByteArray->ByteArray->Int)(f:Nat)(x:Run)(e:Ending)(w':World):Prop:=e=.returned (.bool ((fs f).any fun y=>x.meets y))/\(∃vs',LG w' B L rr vs' (upd fs f (fs f++[x])) c)/\Below B w w'
theorem y6C(T fp:Nat) r vt w B L rr f(vs:Nat->Value)(fs:Nat->List Run)(c:ByteArray->ByteArray->Int)
  (hlg:LG w B L rr vs fs c) (hBw:B<=w.heap.size) (hf:f<11) (hlen:(fs f).length<100000) (h15:r.kind≠15) (hx:(runR r).ok) (hxs:∀y∈fs f,y.ok)
  (KF:∀W,Bw w W->Calls prog 134 #[.int .i64 r.kind] W (IntB W (f:Int)))
  (KSH:∀W,Calls prog 182 #[.int .i64 r.kind] W (fun e w'=>e=.returned (.iface T (.agg #[.int .i64 r.kind]))/\Bw W w'))
  (hm : ∀ W, (method 499 T (.agg #[.int .i64 r.kind]) "endonym/table.spoken").run Tryz.prog W = .ok (fp, .agg #[.int .i64 r.kind]) W)
  (eg:∀args W,(callFunc fp args).run prog W=.ok (.enter fp args) W)
  (KP:∀W,Calls prog fp #[shV r.kind,recV r vt] W (fun e w'=>e=.returned (runV r.lo r.hi (stepP r))/\Bw W w')) :
  Calls prog 169 #[.pointer (some ⟨L,0,none⟩),recV r vt] w (TwB w B L rr fs c f (runR r)):=by
 have KC:Hid (∀W,Bw w W->Calls prog 216 #[vs f,.func (.func 217) #[runV r.lo r.hi (stepP r)] #[]] W (x0c W ((fs f).any fun y=>(runR r).meets y))):=fun W h=>x5B (runR r) (vs f) (fs f) W (((hlg.on h).rows f hf).rns) hx hxs;have HLG:=O hlg
 have HM:Hid (∀(W w8:World) (gg cap:Nat),(∀k,k<w.heap.size->W.heap[k]?=w.heap[k]?)->w.heap.size<=W.heap.size->W.grownBy w8 (vs f).ownBlock->((vs f).ownBlock=some gg\/gg=W.heap.size)->w8.ownsRow B 251 3 (.slice (some ⟨gg,0,none⟩) ((fs f).length+1) cap) ((fs f).length+1) (x1D (fs f)++[.int .i64 r.lo,.int .i64 r.hi,.int .i64 (stepP r)]) ->
   LG (w8.setCell ⟨L,f,none⟩ (.slice (some ⟨gg,0,none⟩) ((fs f).length+1) cap)) B L rr (upd vs f (.slice (some ⟨gg,0,none⟩) ((fs f).length+1) cap)) (upd fs f (fs f++[runR r])) c):=fun W w8 gg cap a1 a2 a3 a4 a5=>hlg.more (x:=runR r) hf hlen a1 a2 a3 a4 a5
 replace KF:=O KF;replace KSH:=O KSH;replace KP:=O KP;have hq:(r.kind==15)=false:=b0f h15;have eg2:=x5p;clear hx hxs h15;have HT:Hid (∀w',(∃vs',LG w' B L rr vs' (upd fs f (fs f++[runR r])) c)->Below B w w'->TwB w B L rr fs c f (runR r) (.returned (.bool ((fs f).any fun y=>(runR r).meets y))) w'):=fun w' a b=>⟨rfl,a,b⟩;generalize(fs f).any (fun y=>(runR r).meets y)=known at KC HT;generalize runR r=rx at *;generalize TwB w B L rr fs c f rx=PP at *;generalize hst:stepP r=st at *;unfold recV shV runV at *;generalize r.kind=kd,r.n=n,r.lo=lo,r.hi=hi at *;generalize r.name=nm,r.other=ot,r.wt=wt at *;have hb0:Bw w (w.alloc (.cells #[.int .i64 kd,.int .i64 lo,.int .i64 hi,.int .i64 n,vt,.string nm,.string ot,.float .f64 wt] 67)):=(b0r).alloc (l0r _) _
 have hh0:(w.alloc (.cells #[.int .i64 kd,.int .i64 lo,.int .i64 hi,.int .i64 n,vt,.string nm,.string ot,.float .f64 wt] 67)).heap[w.heap.size]?=some (.cells #[.int .i64 kd,.int .i64 lo,.int .i64 hi,.int .i64 n,vt,.string nm,.string ot,.float .f64 wt] 67 (0,0)):=by
  show(w.heap.push _)[w.heap.size]?=_;simp
 have hsz:(w.alloc (.cells #[.int .i64 kd,.int .i64 lo,.int .i64 hi,.int .i64 n,vt,.string nm,.string ot,.float .f64 wt] 67)).heap.size=w.heap.size+1:=(by simp);replace hsz:=O hsz;go_enter func169,ntmps169;go_upto_region 3 with fail;generalize(w.alloc (.cells #[.int .i64 kd,.int .i64 lo,.int .i64 hi,.int .i64 n,vt,.string nm,.string ot,.float .f64 wt] 67))=W1 at *
 have SM:Hid (∀W,Bw W1 W->W.cell? ⟨w.heap.size,0,none⟩=some (.int .i64 kd)/\W.cell? ⟨w.heap.size,1,none⟩=some (.int .i64 lo)/\W.cell? ⟨w.heap.size,2,none⟩=some (.int .i64 hi)/\W.cell? ⟨w.heap.size,3,none⟩=some (.int .i64 n)/\W.cell? ⟨w.heap.size,4,none⟩=some (vt)/\W.cell? ⟨w.heap.size,5,none⟩=some (.string nm)/\W.cell? ⟨w.heap.size,6,none⟩=some (.string ot)/\W.cell? ⟨w.heap.size,7,none⟩=some (.float .f64 wt)/\Hid (Bw W1 W)):=fun W h=>by
  have h2:W.heap[w.heap.size]?=_:=(h.block _ (by have:=V hsz;exact f6J)).trans hh0;exact⟨cell_of (j:=0) h2 (by simp),cell_of (j:=1) h2 (by simp),cell_of (j:=2) h2 (by simp),cell_of (j:=3) h2 (by simp),cell_of (j:=4) h2 (by simp),cell_of (j:=5) h2 (by simp),cell_of (j:=6) h2 (by simp),cell_of (j:=7) h2 (by simp),h⟩
 have SI:Hid (∀W,(W.cell? ⟨w.heap.size,0,none⟩=some (.int .i64 kd)/\W.cell? ⟨w.heap.size,1,none⟩=some (.int .i64 lo)/\W.cell? ⟨w.heap.size,2,none⟩=some (.int .i64 hi)/\W.cell? ⟨w.heap.size,3,none⟩=some (.int .i64 n)/\W.cell? ⟨w.heap.size,4,none⟩=some (vt)/\W.cell? ⟨w.heap.size,5,none⟩=some (.string nm)/\W.cell? ⟨w.heap.size,6,none⟩=some (.string ot)/\W.cell? ⟨w.heap.size,7,none⟩=some (.float .f64 wt)/\Hid (Bw W1 W))->Bw W1 W):=fun W h=>h.2.2.2.2.2.2.2.2;go_cut[5,6] (fun fv pv wx=>fv=.int .i64 (f:Int)/\∃g,pv=.pointer (some ⟨g,0,none⟩)/\W1.heap.size<=g/\wx.heap[g]?=some (.cells #[.int .i64 lo,.int .i64 hi,.int .i64 st] 251 (0,0))/\Bw W1 wx)
 case first =>
  refine wp_region_held_drew (S:=fun w'=>w'.cell? ⟨w.heap.size,0,none⟩=some (.int .i64 kd)/\w'.cell? ⟨w.heap.size,1,none⟩=some (.int .i64 lo)/\w'.cell? ⟨w.heap.size,2,none⟩=some (.int .i64 hi)/\w'.cell? ⟨w.heap.size,3,none⟩=some (.int .i64 n)/\w'.cell? ⟨w.heap.size,4,none⟩=some (vt)/\w'.cell? ⟨w.heap.size,5,none⟩=some (.string nm)/\w'.cell? ⟨w.heap.size,6,none⟩=some (.string ot)/\w'.cell? ⟨w.heap.size,7,none⟩=some (.float .f64 wt)/\Hid (Bw W1 w')) f4A (V SM _ (x0k ⟨1,rfl⟩)) (fun hHeld=>?_);refine tk9 0 (.pointer (some ⟨w.heap.size,0,none⟩)) ?_;refine tk9 1 (.int .i64 kd) ?_;refine tk9 3 (.pointer (some ⟨w.heap.size,0,none⟩)) ?_;refine tk9 4 (.int .i64 kd) ?_;refine tk9 6 (.agg #[.int .i64 kd,.int .i64 lo,.int .i64 hi,.int .i64 n,vt,.string nm,.string ot,.float .f64 wt]) ?_;refine wpAnyH_ready (rs:=[2,8]) f4A (by simp) ?_;refine AllReadyH.cons (o:=⟨some 25,_,_,_,_,_⟩) rfl (fun K hK=>?_) (AllReadyH.cons (o:=⟨some 6,_,_,_,_,_⟩) rfl (fun K hK=>?_) AllReadyH.nil)
  ·go_simp;refine(V KF _ (x0b hb0 (V SI _ hHeld))).mono ?_;rintro e w2 ⟨rfl,hb2⟩;go_wp2_with fail;refine hK.out _ _ ?_ (fun hHeld=>?_)
   ·exact V SM _ (x0b (V SI _ hHeld) hb2)
   clear hK K
   try simp only[Act.put,sa9,sb9,sc9]
   refine wpAnyH_ready (rs:=[5,8]) f4A (by simp) ?_;refine AllReadyH.cons (o:=⟨some 28,_,_,_,_,_⟩) rfl (fun K hK=>?_) (AllReadyH.cons (o:=⟨some 6,_,_,_,_,_⟩) rfl (fun K hK=>?_) AllReadyH.nil)
   ·go_simp;refine c1m (V KSH _) fun w3 hb3=>?_;go_wp2_with fail;refine hK.out _ _ ?_ (fun hHeld=>?_)
    ·exact V SM _ (x0b (V SI _ hHeld) hb3)
    clear hK K
    try simp only[Act.put,sa9,sb9,sc9]
    refine wpAnyH_ready (rs:=[7,8]) f4A (by simp) ?_;refine AllReadyH.cons (o:=⟨some 30,_,_,_,_,_⟩) rfl (fun K hK=>?_) (AllReadyH.cons (o:=⟨some 6,_,_,_,_,_⟩) rfl (fun K hK=>?_) AllReadyH.nil)
    ·go_simp;refine c1m (V KP _) fun w4 hb4=>?_;go_wp2_with fail;refine hK.out _ _ ?_ (fun hHeld=>?_)
     ·exact V SM _ (x0b (V SI _ hHeld) hb4)
     clear hK K
     try simp only[Act.put,sa9,sb9,sc9]
     refine rd9 8 fun K hK=>?_;have hOld:=hHeld;have hge:W1.heap.size<=w4.heap.size:=(V SI _ hHeld).size;have hg:(w4.alloc (.cells #[.int .i64 0,.int .i64 0,.int .i64 0] 251)).heap[w4.heap.size]?=some (.cells #[.int .i64 0,.int .i64 0,.int .i64 0] 251 (0,0)):=alloc_at w4 _;go_simp;refine hK.out _ _ ?_ (fun hHeld=>?_)
     ·exact g9D
     clear hK K
     try simp only[Act.put,sa9,sb9,sc9]
     refine tk9 9 (.int .i64 (f:Int)) ?_;have c0:=cell_of (j:=0) hg (by simp);have z0:=x0e (j:=0) hg;have c1:=cell_of (j:=1) hg (by simp);have z1:=x0e (j:=1) hg;have c2:=cell_of (j:=2) hg (by simp);have z2:=x0e (j:=2) hg;refine rd9 10 fun K hK=>?_;have hBf:Bw W1 (w4.alloc (.cells #[.int .i64 lo,.int .i64 hi,.int .i64 st] 251)):=(V SI _ hOld).alloc (V SI _ hOld).size _;have hgf:=alloc_at w4 (.cells #[.int .i64 lo,.int .i64 hi,.int .i64 st] 251);go_simp;refine hK.out _ _ ?_ (fun hHeld=>?_)
     ·exact V SM _ hBf
     clear hK K
     try simp only[Act.put,sa9,sb9,sc9]
     refine wpAnyH_done f4A ?_ _;go_wp2_with fail
     go_meet
     case rel=>exact⟨rfl,_,rfl,hge,hgf,hBf⟩
    ·have hOld:=hHeld;have hge:W1.heap.size<=w3.heap.size:=(V SI _ hHeld).size;have hg:(w3.alloc (.cells #[.int .i64 0,.int .i64 0,.int .i64 0] 251)).heap[w3.heap.size]?=some (.cells #[.int .i64 0,.int .i64 0,.int .i64 0] 251 (0,0)):=alloc_at w3 _;go_simp;refine hK.out _ _ ?_ (fun hHeld=>?_)
     ·exact g9D
     clear hK K
     try simp only[Act.put,sa9,sb9,sc9]
     exact v6D
   ·have hOld:=hHeld;have hge:W1.heap.size<=w2.heap.size:=(V SI _ hHeld).size;have hg:(w2.alloc (.cells #[.int .i64 0,.int .i64 0,.int .i64 0] 251)).heap[w2.heap.size]?=some (.cells #[.int .i64 0,.int .i64 0,.int .i64 0] 251 (0,0)):=alloc_at w2 _;go_simp;refine hK.out _ _ ?_ (fun hHeld=>?_)
    ·exact g9D
    clear hK K
    try simp only[Act.put,sa9,sb9,sc9]
    exact I2U
  ·have hOld:=hHeld;have hge:W1.heap.size<=W1.heap.size:=(V SI _ hHeld).size;have hg:(W1.drew.alloc (.cells #[.int .i64 0,.int .i64 0,.int .i64 0] 251)).heap[W1.heap.size]?=some (.cells #[.int .i64 0,.int .i64 0,.int .i64 0] 251 (0,0)):=alloc_at W1.drew _;go_simp;refine hK.out _ _ ?_ (fun hHeld=>?_)
   ·exact g9D
   clear hK K
   try simp only[Act.put,sa9,sb9,sc9]
   refine rd9 2 fun K hK=>?_;go_simp;refine(V KF _ (x0b hb0 (V SI _ hHeld))).mono ?_;rintro e w2 ⟨rfl,hb2⟩;go_wp2_with fail;refine hK.out _ _ ?_ (fun hHeld=>?_)
   ·exact V SM _ (x0b (V SI _ hHeld) hb2)
   clear hK K
   try simp only[Act.put,sa9,sb9,sc9]
   have hg:=(hb2.block _ (lt_of_block hg)).trans hg;exact I2U
 case rest =>
  obtain⟨rfl,g,rfl,hgW,hgc,hBc⟩:=hcut;obtain⟨w5,hw5⟩:∃x:World,x=wc:=⟨wc,rfl⟩;subst hw5;have hbwc:=x0b hb0 hBc
  have SM4:Hid (∀W,Bw w5 W->W.cell? ⟨L,f,none⟩=some (vs f)/\W.cell? ⟨g,0,none⟩=some (.int .i64 lo)/\W.cell? ⟨g,1,none⟩=some (.int .i64 hi)/\W.cell? ⟨g,2,none⟩=some (.int .i64 st)/\Hid (Bw w5 W)):=fun W h=>by
   have h2:W.heap[g]?=_:=(h.block _ (lt_of_block hgc)).trans hgc;exact⟨((V HLG).on (x0b hbwc h)).cell hf,cell_of (j:=0) h2 (by simp),cell_of (j:=1) h2 (by simp),cell_of (j:=2) h2 (by simp),h⟩
  have hgl:=lt_of_block hgc;replace hgc:=O hgc;replace hbwc:=O hbwc;clear KF KSH KP SM SI hBc hb0 hh0 hsz hgW;have i0:(0:Int)<=(f:Int):=f6J;have i1:(f:Int)<11:=f6J;go_upto_region 4 with fail;go_cut[7] (fun kv wx=>kv=.bool known/\Bw w5 wx)
  case first =>
   refine wp_region_held_drew (S:=fun w'=>w'.cell? ⟨L,f,none⟩=some (vs f)/\w'.cell? ⟨g,0,none⟩=some (.int .i64 lo)/\w'.cell? ⟨g,1,none⟩=some (.int .i64 hi)/\w'.cell? ⟨g,2,none⟩=some (.int .i64 st)/\Hid (Bw w5 w')) f4A (V SM4 _ (x0k ⟨1,rfl⟩)) (fun hHeld=>?_);refine tk9 0 (.pointer (some ⟨L,0,none⟩)) ?_;refine tk9 1 (.int .i64 (f:Int)) ?_;refine tk9 2 (.pointer (some ⟨L,0,none⟩)) ?_;refine tk9 3 (.pointer (some ⟨L,0,none⟩)) ?_;refine tk9 4 (.pointer (some ⟨L,f,none⟩)) ?_;refine tk9 5 (vs f) ?_;refine tk9 6 (.agg #[.int .i64 lo,.int .i64 hi,.int .i64 st]) ?_;refine tk9 7 (.func (.func 217) #[.agg #[.int .i64 lo,.int .i64 hi,.int .i64 st]] #[]) ?_;refine rd9 8 fun K hK=>?_;go_simp;refine(V KC _ (x0b (V hbwc) (V hHeld.2.2.2.2))).mono ?_;rintro e w2 ⟨rfl,hb2⟩;go_wp2_with fail;refine hK.out _ _ ?_ (fun hHeld=>?_)
   ·exact V SM4 _ (x0b (V hHeld.2.2.2.2) hb2)
   clear hK K
   try simp only[Act.put,sa9,sb9,sc9]
   refine tk9 9 (.bool known) ?_;refine wpAnyH_done f4A ?_ _;go_wp2_with fail
   go_meet
   case rel=>exact⟨rfl,V hHeld.2.2.2.2⟩
  case rest =>
   obtain⟨rfl,hBd⟩:=hcut;obtain⟨wd,hwd⟩:∃x:World,x=wc:=⟨wc,rfl⟩;subst hwd;have hbd:=x0b (V hbwc) hBd;have hbe:Bw w (wd.alloc (.cells #[.int .i64 lo,.int .i64 hi,.int .i64 st] 251)).drew:=x0b (hbd.alloc hbd.size _) (x0k ⟨1,rfl⟩);have hdW:Bw w5 wd.drew:=x0b hBd (x0k ⟨1,rfl⟩);obtain⟨yd,r0,r1,r2,_⟩:=V SM4 wd.drew hdW;obtain⟨ye,_⟩:=V SM4 (wd.alloc (.cells #[.int .i64 lo,.int .i64 hi,.int .i64 st] 251)).drew (x0b (hBd.alloc hBd.size _) (x0k ⟨1,rfl⟩));have hrow:=(((V HLG).on hbe).rows f hf).2;have hown:∀k,(vs f).ownBlock=some k->k<w.heap.size/\B<=k:=fun k hk=>x5t ((V HLG).rows f hf).2 hk;have hLlt:L<w.heap.size:=x0a ((V HLG).cell hf);have hLne:some L≠(vs f).ownBlock:=fun e=>((V HLG).far f hf L e.symm).1 rfl;have hBL:=(V HLG).bl;have hsize:w.heap.size<=wd.heap.size:=hbd.size;have hkept:=hbe.block;have hLc:=((V HLG).on hbe).blk;obtain⟨i9,hi0,hz0,hz1,hz2⟩:=info_parts z5M;have hnews:∀j u,[Value.int .i64 lo,.int .i64 hi,.int .i64 st][j]?=some u->(wd.alloc (.cells #[.int .i64 lo,.int .i64 hi,.int .i64 st] 251)).drew.cell? ((⟨wd.heap.size,0,none⟩:Addr).add j)=some u:=World.news_of_block (cs:=#[.int .i64 lo,.int .i64 hi,.int .i64 st]) (t:=251) (fr:=(0,0)) (alloc_at wd _)
   have hH:(wd.alloc (.cells #[.int .i64 lo,.int .i64 hi,.int .i64 st] 251)).drew.heap.size=wd.heap.size+1:=by
    show(wd.heap.push _).size=_;simp
   replace hLc:=O hLc
   have hBE:Hid (B<=(wd.alloc (.cells #[.int .i64 lo,.int .i64 hi,.int .i64 st] 251)).drew.heap.size):=by
    show B<=_;rw[hH];omega
   have hLE:Hid (L<(wd.alloc (.cells #[.int .i64 lo,.int .i64 hi,.int .i64 st] 251)).drew.heap.size):=by
    show L<_;rw[hH];omega
   have ye2:(wd.alloc (.cells #[.int .i64 lo,.int .i64 hi,.int .i64 st] 251)).cell? ⟨L,f,none⟩=some (vs f):=ye;replace hH:=O hH;replace hown:=O hown;replace hkept:=O hkept;replace hbe:=O hbe;clear KC SM4 HLG hlg hgc hbwc hBd hdW hbd eg2 hm eg;go_upto_region 5 with fail;refine wp_region_any f4A ?_;change wpAny _ _ _ _ _ _ _ (World.drew _);refine wpAny_take (i:=0) (oi:=⟨some 40,_,_,_,_,_⟩) (v:=.pointer (some ⟨L,0,none⟩)) rfl f4A f4A f4A (fun _ _ _ h=>h) (Or.inl ⟨by rfl,?_⟩) ?_
   ·exact M9i
   try simp only[Act.put,sa9,sb9,sc9]
   refine wpAny_take (i:=1) (oi:=⟨some 41,_,_,_,_,_⟩) (v:=.int .i64 (f:Int)) rfl f4A f4A f4A (fun _ _ _ h=>h) (Or.inl ⟨by rfl,?_⟩) ?_
   ·exact M9i
   try simp only[Act.put,sa9,sb9,sc9]
   refine wpAny_take (i:=2) (oi:=⟨some 42,_,_,_,_,_⟩) (v:=.pointer (some ⟨L,0,none⟩)) rfl f4A f4A f4A (fun _ _ _ h=>h) (Or.inl ⟨by rfl,?_⟩) ?_
   ·exact M9i
   try simp only[Act.put,sa9,sb9,sc9]
   refine wpAny_take (i:=3) (oi:=⟨some 43,_,_,_,_,_⟩) (v:=.int .i64 (f:Int)) rfl f4A f4A f4A (fun _ _ _ h=>h) (Or.inl ⟨by rfl,?_⟩) ?_
   ·exact M9i
   try simp only[Act.put,sa9,sb9,sc9]
   refine wpAny_take (i:=4) (oi:=⟨some 44,_,_,_,_,_⟩) (v:=.pointer (some ⟨L,0,none⟩)) rfl f4A f4A f4A (fun _ _ _ h=>h) (Or.inl ⟨by rfl,?_⟩) ?_
   ·exact M9i
   try simp only[Act.put,sa9,sb9,sc9]
   refine wpAny_take (i:=5) (oi:=⟨some 45,_,_,_,_,_⟩) (v:=.pointer (some ⟨L,0,none⟩)) rfl f4A f4A f4A (fun _ _ _ h=>h) (Or.inl ⟨by rfl,?_⟩) ?_
   ·exact M9i
   try simp only[Act.put,sa9,sb9,sc9]
   refine wpAny_take (i:=6) (oi:=⟨some 46,_,_,_,_,_⟩) (v:=.pointer (some ⟨L,f,none⟩)) rfl f4A f4A f4A (fun _ _ _ h=>h) (Or.inl ⟨by rfl,?_⟩) ?_
   ·exact M9i
   try simp only[Act.put,sa9,sb9,sc9]
   refine wpAny_take (i:=11) (oi:=⟨some 51,_,_,_,_,_⟩) (v:=.pointer (some ⟨L,0,none⟩)) rfl f4A f4A f4A (fun _ _ _ h=>h) (Or.inl ⟨by rfl,?_⟩) ?_
   ·exact M9i
   try simp only[Act.put,sa9,sb9,sc9]
   refine wpAny_take (i:=12) (oi:=⟨some 52,_,_,_,_,_⟩) (v:=.pointer (some ⟨L,0,none⟩)) rfl f4A f4A f4A (fun _ _ _ h=>h) (Or.inl ⟨by rfl,?_⟩) ?_
   ·exact M9i
   try simp only[Act.put,sa9,sb9,sc9]
   refine wpAny_ready (rs:=[7,8]) f4A (by simp) ?_;refine AllReady.cons (o:=⟨some 47,_,_,_,_,_⟩) rfl (fun K hK=>?_) (AllReady.cons (o:=⟨some 48,_,_,_,_,_⟩) rfl (fun K hK=>?_) AllReady.nil)
   ·go_simp;refine hK _ _ ?_;clear hK K
    try simp only[Act.put,sa9,sb9,sc9]
    refine wpAny_ready (rs:=[8]) f4A (by simp) ?_;refine AllReady.cons (o:=⟨some 48,_,_,_,_,_⟩) rfl (fun K hK=>?_) AllReady.nil;exact P7i
   ·go_simp;refine hK _ _ ?_;clear hK K
    try simp only[Act.put,sa9,sb9,sc9]
    refine wpAny_ready (rs:=[7,9]) f4A (by simp) ?_;refine AllReady.cons (o:=⟨some 47,_,_,_,_,_⟩) rfl (fun K hK=>?_) (AllReady.cons (o:=⟨some 49,_,_,_,_,_⟩) rfl (fun K hK=>?_) AllReady.nil)
    ·exact P7i
    ·go_simp;refine hK _ _ ?_;clear hK K
     try simp only[Act.put,sa9,sb9,sc9]
     refine wpAny_ready (rs:=[7]) f4A (by simp) ?_;refine AllReady.cons (o:=⟨some 47,_,_,_,_,_⟩) rfl (fun K hK=>?_) AllReady.nil;exact P7I
open Go.Lib (minS maxS run_min_strs run_max_strs)
theorem z3E{a b:ByteArray}(h:a.data.toList=b.data.toList):a=b:=by
 cases a;cases b;simp_all
theorem kp_two a b:(minS a b=a/\maxS a b=b)\/(minS a b=b/\maxS a b=a):=by
 unfold minS maxS;by_cases h:a.data.toList<b.data.toList
 ·grind
 ·by_cases D:a.data.toList=b.data.toList
  ·rw[if_pos (.inr D),if_neg h];exact .inl ⟨rfl,z3E D⟩
  ·grind
theorem z5R a b:minS a b=minS b a/\maxS a b=maxS b a:=by
 unfold minS maxS;by_cases h:a.data.toList<b.data.toList
 ·grind
 ·by_cases D:a.data.toList=b.data.toList
  ·obtain rfl:=z3E D;exact g9S
  ·have R:b.data.toList<a.data.toList:=by
    rcases Std.le_total (a:=a.data.toList) (b:=b.data.toList)with hh | hh
    ·grind
    ·grind
   rw[if_neg (fun e=>e.elim h D),if_neg h,if_pos (.inl R),if_pos R];exact g9S
theorem z3R a b a' b':(minS a b=minS a' b'/\maxS a b=maxS a' b')↔((a=a'/\b=b')\/(a=b'/\b=a')):=by
 constructor
 ·rintro⟨Z,D⟩;rcases kp_two a b with⟨x,y⟩|⟨x,y⟩<;>rcases kp_two a' b' with⟨C,A⟩|⟨C,A⟩<;>rw[x,C]at Z<;>rw[y,A]at D
  ·exact .inl ⟨Z,D⟩
  ·exact .inr ⟨Z,D⟩
  ·exact .inr ⟨D,Z⟩
  ·exact .inl ⟨D,Z⟩
 ·rintro(⟨rfl,rfl⟩|⟨rfl,rfl⟩)
  ·exact g9S
  ·exact z5R a b
def TwM(w:World)(B L rr:Nat)(fs:Nat->List Run)(c:ByteArray->ByteArray->Int)(a b:ByteArray)(e:Ending)(w':World):Prop:=e=.returned (.bool (decide (0<c (minS a b) (maxS a b))))/\(∃vs',LG w' B L rr vs' fs (incr c (minS a b) (maxS a b)))/\Below B w w'
theorem z4h{a b}(g:Sh a)(Y:Sh b):Sh (minS a b)/\Sh (maxS a b):=by
 rcases kp_two a b with⟨x,y⟩|⟨x,y⟩<;>rw[x,y]
 ·exact⟨g,Y⟩
 ·exact⟨Y,g⟩
theorem y1x r vt w B L rr(l:Nat->Value)(M:Nat->List Run)(c:ByteArray->ByteArray->Int)
  (a:LG w B L rr l M c) (D:B<=w.heap.size) (j:r.kind=15) (g:Sh r.name) (Y:Sh r.other) (I:∀x y,0<=c x y/\c x y<=100000):Calls prog 169 #[.pointer (some ⟨L,0,none⟩),recV r vt] w (TwM w B L rr M c r.name r.other):=by
 unfold recV;rw[j];obtain⟨N,s⟩:=z4h g Y;generalize r.n=n;generalize r.lo=lo;generalize r.hi=hi;generalize r.name=nm,r.other=R at *;generalize r.wt=J;have A:Bw w (w.alloc (.cells #[.int .i64 15,.int .i64 lo,.int .i64 hi,.int .i64 n,vt,.string nm,.string R,.float .f64 J] 67)):=(b0r).alloc (l0r _) _;have C:=a.on A;have K:=O (y9j L rr (minS nm R) (maxS nm R) c _ C.mcell C.lr C.map N s (I _ _));have G:Hid (∀W,MAt W rr (incr c (minS nm R) (maxS nm R))->But rr (w.alloc (.cells #[.int .i64 15,.int .i64 lo,.int .i64 hi,.int .i64 n,vt,.string nm,.string R,.float .f64 J] 67)) W->TwM w B L rr M c nm R (.returned (.bool (decide (0<c (minS nm R) (maxS nm R))))) W):=fun W m b=>⟨rfl,⟨l,C.mixed m b⟩,(A.mono D).trans (b.below B a.br)⟩;have H:=fun W E t=>run_min_strs (P:=prog) W E t nm R;have f:=fun W E t=>run_max_strs (P:=prog) W E t nm R;go_enter func169,ntmps169;go_wp2_with fail;refine(V K).mono ?_;rintro e Q ⟨rfl,U,b1⟩;have T:=O (V G Q U b1);go_wp2;go_ret;exact V T
open Go.Lib (minS maxS)
def ledF(l:List Rec)(f:Nat):List Run:=(l.filter fun r=>decide (r.kind≠15/\Cn.fam r.kind=(f:Int))).map runR
def ledC:List Rec->ByteArray->ByteArray->Int
 | [],_,_=>0
 | r::l,a,b=>(if r.kind=15/\minS r.name r.other=a/\maxS r.name r.other=b then 1 else 0)+ledC l a b
theorem x9f(r:Rec)(a b:ByteArray):∀l:List Rec,ledC (l++[r]) a b=ledC l a b+(if r.kind=15/\minS r.name r.other=a/\maxS r.name r.other=b then 1 else 0)
 | []=>by simp[ledC]
 | x::l=>by simp only[List.cons_append,ledC,x9f r a b l];exact f6J
theorem x4R(a b:ByteArray):∀l:List Rec,0<=ledC l a b/\ledC l a b<=l.length
 | []=>by simp[ledC]
 | x::l=>by
  have:=x4R a b l;simp only[ledC,List.length_cons];exact G7o
theorem y3W(a b:ByteArray):∀l:List Rec,0<ledC l a b↔∃k∈l,k.kind=15/\minS k.name k.other=a/\maxS k.name k.other=b
 | []=>by simp[ledC]
 | x::l=>by
  have A:=x4R a b l;have B:=y3W a b l;simp only[ledC];by_cases J:x.kind=15/\minS x.name x.other=a/\maxS x.name x.other=b
  ·rw[if_pos J];exact⟨fun _=>⟨x,M7L,J⟩,fun _=>f6J⟩
  ·rw[if_neg J,Int.zero_add,B];constructor
   ·rintro⟨k,hk,h⟩;exact⟨k,List.mem_cons_of_mem _ hk,h⟩
   ·rintro⟨k,hk,h⟩;rcases List.mem_cons.1 hk with rfl|hk
    ·exact absurd h J
    ·exact⟨k,hk,h⟩
theorem y3X l r f:ledF (l++[r]) f=ledF l f++(if r.kind≠15/\Cn.fam r.kind=(f:Int)then[runR r]else[]):=by
 unfold ledF;rw[List.filter_append,List.map_append];congr 1;by_cases h:r.kind≠15/\Cn.fam r.kind=(f:Int)
 ·grind
 ·grind
theorem z2p l f:(ledF l f).length<=l.length:=by
 unfold ledF;rw[List.length_map];exact List.length_filter_le _ _
theorem z2q{l r}(h:r.kind=15):ledF (l++[r])=ledF l:=by
 funext f;rw[y3X,if_neg (fun a=>a.1 h),List.append_nil]
theorem z2n{l r}(h:r.kind=15):ledC (l++[r])=incr (ledC l) (minS r.name r.other) (maxS r.name r.other):=by
 funext a b;rw[x9f];unfold incr;by_cases e:a=minS r.name r.other/\b=maxS r.name r.other
 ·grind
 ·grind
theorem z2r{l r}{f:Nat}(h:r.kind≠15)(X:Cn.fam r.kind=(f:Int)):ledF (l++[r])=upd (ledF l) f (ledF l f++[runR r]):=by
 funext g;rw[y3X];by_cases e:g=f
 ·subst e;rw[upd_same,if_pos ⟨h,X⟩]
 ·rw[x1w _ _ e,if_neg (fun a=>e f6J),List.append_nil]
theorem z2o{l r}(h:r.kind≠15):ledC (l++[r])=ledC l:=by
 funext a b;rw[x9f,if_neg (fun x=>h x.1),Int.add_zero]
theorem z4D{l r}(h:r.kind=15):decide (0<ledC l (minS r.name r.other) (maxS r.name r.other))=l.any fun k=>Cn.clash k r:=by
 rw[Bool.eq_iff_iff,decide_eq_true_eq,y3W,List.any_eq_true];constructor
 ·rintro⟨k,G,Z,D,R⟩;refine⟨k,G,?_⟩;unfold Cn.clash;rw[if_neg (by rw[h,Z];exact M7L),if_pos Z];exact d0t ((z3R _ _ _ _).1 ⟨D,R⟩)
 ·rintro⟨k,G,I⟩;unfold Cn.clash at I;split at I
  ·cases I
  ·next hf =>
   have Z:k.kind=15:=Cn.x8R (by have:=Decidable.not_not.1 hf;rw[this,h];exact e8M);rw[if_pos Z]at I;obtain⟨D,R⟩:=(z3R _ _ _ _).2 (o0d I);exact⟨k,G,Z,D,R⟩
theorem z4F{l r}{f:Nat}(S:∀k∈l,Cn.right k=0)(hr:Cn.right r=0)(h:r.kind≠15)(X:Cn.fam r.kind=(f:Int)):((ledF l f).any fun y=>(runR r).meets y)=l.any fun k=>Cn.clash k r:=by
 rw[Bool.eq_iff_iff,List.any_eq_true,List.any_eq_true];unfold ledF;constructor
 ·rintro⟨y,U,z⟩;obtain⟨k,G,rfl⟩:=List.mem_map.1 U;rw[List.mem_filter,decide_eq_true_eq]at G;refine⟨k,G.1,?_⟩;rw[x6n (S k G.1) hr (G.2.2.trans X.symm) G.2.1 h];exact z
 ·rintro⟨k,G,I⟩
  have L:Cn.fam k.kind=Cn.fam r.kind:=by
   unfold Cn.clash at I;split at I
   ·cases I
   ·omega
  have b:k.kind≠15:=fun e=>h (Cn.x8R (by rw[<- L,e];exact e8M));rw[x6n (S k G) hr L b h]at I;exact⟨runR k,List.mem_map.2 ⟨k,List.mem_filter.2 ⟨G,d0t ⟨b,L.trans X⟩⟩,rfl⟩,I⟩
theorem z5X{l}(S:∀k∈l,Cn.right k=0){f}:∀y∈ledF l f,y.ok:=by
 intro y U;unfold ledF at U;obtain⟨k,G,rfl⟩:=List.mem_map.1 U;rw[List.mem_filter,decide_eq_true_eq]at G;exact x9I (S k G.1) G.2.1
theorem y9i{r}(h:Cn.right r=0)(j:r.kind=15):Sh r.name/\Sh r.other:=by
 have E:∀s:ByteArray,Cn.nameL s=true->Sh s:=fun s U=>by
  unfold Cn.nameL at U;split at U
  ·next a b c d e =>
   have:(s.data.toList.map (·.toNat)).length=4:=(by rw[e];rfl);rw[List.length_map]at this;have D:s.size=4:=f0h;unfold Sh;omega
  ·cases U
 have X:=Cn.x0v h;unfold Cn.right at h;rw[if_neg X,if_pos j]at h;have I:=Cn.x1j h;exact⟨E _ I.2.2.2.1,E _ I.2.2.2.2.1⟩
theorem y0p:∀args w,(callFunc 337 args).run prog w=.ok (.enter 337 args) w:=f0h
theorem y5l:∀args w,(callFunc 348 args).run prog w=.ok (.enter 348 args) w:=f0h
def TwA(w:World)(B L rr:Nat)(l:List Rec)(r:Rec)(e:Ending)(w':World):Prop:=e=.returned (.bool (l.any fun k=>Cn.clash k r))/\(∃vs',LG w' B L rr vs' (ledF (l++[r])) (ledC (l++[r])))/\Below B w w'
theorem z0I r vt w B L rr(vs:Nat->Value) l(hg:Glob w)(hlg:LG w B L rr vs (ledF l) (ledC l))(hBw:B<=w.heap.size)(hfit:RecFit r)(hl:∀k∈l,Cn.right k=0)(hr:Cn.right r=0)(hlen:l.length<=5000) :
  Calls prog 169 #[.pointer (some ⟨L,0,none⟩),recV r vt] w (TwA w B L rr l r):=by
 by_cases h15:r.kind=15
 ·obtain⟨s1,s2⟩:=y9i hr h15;refine(y1x r vt w B L rr vs _ _ hlg hBw h15 s1 s2 (fun x y=>by have:=x4R x y l;exact f6J)).mono ?_;rintro e w' ⟨rfl,h2,h3⟩;exact⟨by rw[z4D h15],by rw[z2q h15,z2n h15];exact h2,h3⟩
 ·obtain⟨f,hf⟩:∃f:Nat,Cn.fam r.kind=(f:Int):=⟨(Cn.fam r.kind).toNat,m8N⟩;have hf11:f<11:=m8N;have hflen:(ledF l f).length<100000:=by have:=z2p l f;omega
  have key : ∀ (T fp : Nat), shape r.kind = .iface T (.agg #[.int .i64 r.kind]) → (∀ W, (method 499 T (.agg #[.int .i64 r.kind]) "endonym/table.spoken").run Tryz.prog W = .ok (fp, .agg #[.int .i64 r.kind]) W) → (∀ args W, (callFunc fp args).run Tryz.prog W = .ok (.enter fp args) W) → (∀ W, Calls Tryz.prog fp #[shV r.kind, recV r vt] W (fun e w' => e = .returned (runV r.lo r.hi (stepP r)) ∧ Below W.heap.size W w')) → Calls Tryz.prog 169 #[.pointer (some ⟨L, 0, none⟩), recV r vt] w (TwA w B L rr l r) := by
   intro T fp es hm eg KP;refine(y6C T fp r vt w B L rr f vs _ _ hlg hBw hf11 hflen h15 (x9I hr h15) (z5X hl) (fun W h=>hf ▸ x1n r.kind W (hg.on h) hfit.kind) (fun W=>es ▸ x1q r.kind W hfit.kind) hm eg KP).mono ?_;rintro e w' ⟨rfl,h2,h3⟩;exact⟨by rw[z4F hl hr h15 hf],by rw[z2r h15 hf,z2o h15];exact h2,h3⟩
  by_cases h4:r.kind=4
  ·refine key 309 348 (by unfold shape shV;rw[if_pos h4]) (x3H _) y5l (fun W=>?_);have:=x5g r.kind r vt W rfl;unfold x2L at this;rwa [if_pos h4]at this
  ·have hsp:∀W,Calls prog 337 #[shV r.kind,recV r vt] W (fun e w'=>e=.returned (runV r.lo r.hi (stepP r))/\Bw W w'):=fun W=>by
    have:=x5g r.kind r vt W rfl;unfold x2L at this;rwa [if_neg h4]at this
   by_cases h5:r.kind=5\/r.kind=7\/r.kind=8\/r.kind=13
   ·exact key 310 337 (by unfold shape shV;rw[if_neg h4,if_pos h5]) (x4o _) y0p hsp
   ·exact key 307 337 (by unfold shape shV;rw[if_neg h4,if_neg h5,if_neg h15]) (x3I _) y0p hsp
def idxT(rs:List Rec)(k:Nat):Int:=match Cn.x1E rs k (rs.drop k)with
 | some i=>(i:Int)
 | Option.none=>-1
theorem z5J{rs k}(G:k<rs.length)(h:((rs.take k).any fun j=>Cn.clash j (rs.getD k Cn.none))=true):idxT rs k=(k:Int):=by
 have e:rs.getD k Cn.none=rs[k]:=(by grind);rw[e]at h;unfold idxT;rw[List.drop_eq_getElem_cons G,Cn.x1E,if_pos h]
theorem z2e{rs k}(G:k<rs.length)(h:((rs.take k).any fun j=>Cn.clash j (rs.getD k Cn.none))=false):idxT rs k=idxT rs (k+1):=by
 have e:rs.getD k Cn.none=rs[k]:=(by grind);rw[e]at h;unfold idxT;rw[List.drop_eq_getElem_cons G,Cn.x1E,if_neg s8h]
theorem z5I rs:idxT rs rs.length=-1:=by
 unfold idxT;rw[List.drop_length,Cn.x1E]
theorem z0F{rs:List Rec}{k}(G:k<rs.length):rs.take k++[rs.getD k Cn.none]=rs.take (k+1):=f0h
theorem y0r:∀args w,(callFunc 169 args).run prog w=.ok (.enter 169 args) w:=f0h
def TIn(w0:World)(L rr:Nat)(rs:List Rec)(k:Nat)(W:World):Prop:=(∃vs,LG W w0.heap.size L rr vs (ledF (rs.take k)) (ledC (rs.take k)))/\Below w0.heap.size w0 W
theorem x7B L rr v rs w0 w(hg:Glob w0)(N:Rcs w0 v rs)(hr:∀r∈rs,Cn.right r=0)(s:rs.length<=4096)(A:TIn w0 L rr rs 0 w) :
  Calls prog 168 #[v,.func (.func 169) #[.pointer (some ⟨L,0,none⟩)] #[]] w (fun e w'=>e=.returned (.int .i64 (idxT rs 0))/\Bw w0 w'):=by
 have eg:=y0r;have ab:=O A
 have HP:Hid (∀(k:Nat) (m:Value) (W:World),k<rs.length->TIn w0 L rr rs k W->Calls prog 169 #[.pointer (some ⟨L,0,none⟩),recV (rs.getD k Cn.none) m] W (fun e w'=>e=.returned (.bool ((rs.take k).any fun j=>Cn.clash j (rs.getD k Cn.none)))/\TIn w0 L rr rs (k+1) w')):=fun k m W G X=>by
  obtain⟨⟨l,a⟩,Y⟩:=X;refine(z0I (rs.getD k Cn.none) m W w0.heap.size L rr l (rs.take k) (hg.on Y) a Y.size (N.fit G) (fun j K=>hr j (List.mem_of_mem_take K)) (hr _ w8b) P8P).mono ?_;rintro e w' ⟨Z,D,h3⟩;rw[z0F G]at D;exact⟨Z,D,Y.trans h3⟩
 have C:Hid (∀W k,TIn w0 L rr rs k W->Rcs W v rs):=fun W k h=>N.below h.2;have B:Hid (∀W k,TIn w0 L rr rs k W->Bw w0 W):=fun W k h=>h.2;obtain⟨R,M,rfl,Z,D⟩:=N.shape;generalize hq:idxT rs 0=z at *;have F:=O hq.symm;go_enter func168,ntmps168;go_wp2;go_loopw[5,8] (fun _ i wr=>∃k:Nat,i=.int .i64 k/\k<=rs.length/\z=idxT rs k/\TIn w0 L rr rs k wr) (fun _ i _=>rs.length-(intOf i).toNat)
 case atStart=>exact⟨0,rfl,f6J,V F,V ab⟩
 case round =>
  obtain⟨k,rfl,G,o,X⟩:=hrel;by_cases H:k<rs.length
  ·have q:=V C wr k X;obtain⟨b,P,J,d,ae,af,I⟩:=q.place f6J;obtain⟨rfl,rfl⟩:R=some ⟨b,P,none⟩/\M=J:=(by simpa using d);obtain⟨x,u,S,p,⟨m,g,sk⟩,t,x6,x7⟩:=I k H;have HV:=O (V HP k m wr H X);have c:Hid (((rs.take k).any fun j=>Cn.clash j (rs.getD k Cn.none))=true->z=(k:Int)):=fun h=>o.trans (z5J H h);have f:Hid (((rs.take k).any fun j=>Cn.clash j (rs.getD k Cn.none))=false->z=idxT rs (k+1)):=fun h=>o.trans (z2e H h);obtain⟨tp,tc,rfl,_,_⟩:=sk.shape;clear o X I d sk HP q C;unfold recV at HV;generalize((rs.take k).any fun j=>Cn.clash j (rs.getD k Cn.none))=y at HV c f;generalize(rs.getD k Cn.none).kind=kd,(rs.getD k Cn.none).lo=lo,(rs.getD k Cn.none).hi=hi,(rs.getD k Cn.none).n=n at *;generalize(rs.getD k Cn.none).name=nm,(rs.getD k Cn.none).other=ot,(rs.getD k Cn.none).wt=wt,(rs.getD k Cn.none).to.length=tl at *
   cases y with
   | true =>
    obtain rfl:=V c rfl;go_wp2_with(go_at_fn 169;refine(V HV).mono ?_;rintro e Q ⟨rfl,E⟩);have T:=O (V B Q _ E);go_ret;exact⟨rfl,V T⟩
   | false =>
    have U:=O (V f rfl);go_wp2_with(go_at_fn 169;refine(V HV).mono ?_;rintro e Q ⟨rfl,E⟩);have T:=O E;go_round
    case rel=>exact s5V
    case measure=>exact g7V
  ·obtain rfl:k=rs.length:=f6J;obtain rfl:=o.trans (z5I rs);have T:=O X.2;go_wp2;go_ret;exact⟨rfl,V T⟩
theorem z2v w:(Instr.makeMap 239 none).run prog w=.ok (.map (some w.heap.size)) (w.alloc (.map #[] 0)):=f4x
def x6G(r:Nat):Array Value:=#[.slice none 0 0,.slice none 0 0,.slice none 0 0,.slice none 0 0,.slice none 0 0,.slice none 0 0,.slice none 0 0,.slice none 0 0,.slice none 0 0,.slice none 0 0,.slice none 0 0,.map (some r)]
theorem z5Y(w:World):LG ((w.alloc (.map #[] 0)).alloc (.cells (x6G w.heap.size) 243)) w.heap.size (w.heap.size+1) w.heap.size (fun _=>.slice none 0 0) (ledF []) (ledC []):=by
 have Z:((w.alloc (.map #[] 0)).alloc (.cells (x6G w.heap.size) 243)).heap[w.heap.size+1]?=some (.cells (x6G w.heap.size) 243 (0,0)):=N6l
 have D:((w.alloc (.map #[] 0)).alloc (.cells (x6G w.heap.size) 243)).heap[w.heap.size]?=some (.map #[] 0):=by
  show((w.heap.push _).push _)[w.heap.size]?=_;rw[Array.getElem?_push_lt M7L];simp
 refine⟨f6J,l0r _,f6J,⟨x6G w.heap.size,Z,rfl,fun f X=>?_,rfl⟩,⟨#[],0,D,⟨MapKept.stamped_empty 0,fun x J=>by simp at J,fun a b _=>rfl⟩⟩,fun f _=>⟨by simp[ledF],World.ownsRow_nil _ _ _ _⟩,fun f _ k G=>g6z,fun f g _ _ _ k G=>g6z⟩;obtain rfl|rfl|rfl|rfl|rfl|rfl|rfl|rfl|rfl|rfl|rfl:f=0\/f=1\/f=2\/f=3\/f=4\/f=5\/f=6\/f=7\/f=8\/f=9\/f=10:=f6J
 all_goals rfl
def firstT(rs:List Rec):Nat×Int:=match Cn.x1E rs 0 rs with | some i=>(i,62) | Option.none=>(0,0)
theorem x7y v rs w(C:Glob w)(N:Rcs w v rs)(hr:∀r∈rs,Cn.right r=0)(s:rs.length<=4096):Calls prog 125 #[v] w (y3m w (firstT rs)):=by
 have j:=z2v;have A:=x2P w (.map #[] 0) (.cells (x6G w.heap.size) 243);have K:=O (x7B (w.heap.size+1) w.heap.size v rs w _ C N hr s ⟨⟨_,z5Y w⟩,A⟩)
 have F:Hid (idxT rs 0=match Cn.x1E rs 0 rs with | some i=>(i:Int) | Option.none=>-1):=by
  show idxT rs 0=_;unfold idxT;exact s4M
 obtain⟨R,M,rfl,Z,D⟩:=N.shape;unfold firstT;generalize idxT rs 0=z at *;unfold x6G at *
 cases ht:Cn.x1E rs 0 rs with
 | some i =>
  rw[ht]at F;obtain rfl:z=(i:Int):=V F;exact p8h
 | none =>
  rw[ht]at F;obtain rfl:z=-1:=V F;exact p8h
def z7k:Prop:=∀(v:Value) (rs:List Rec) (w:World),Glob w->Rcs w v rs->Calls prog 82 #[v] w (y3m w (Cn.check6 rs))
theorem y0f rs:Cn.check6 rs=if(firstW rs).2≠0 then firstW rs else firstT rs:=by
 unfold Cn.check6 firstW firstT;split
 ·rfl
 ·cases h:Cn.x1f 0 rs with
  | some x=>simp only;rw[if_pos (Cn.x2s _ _ _ h)]
  | none=>grind
theorem y0v{rs}(h:(firstW rs).2=0):(∀r∈rs,Cn.right r=0)/\rs.length<=4096:=by
 unfold firstW at h;split at h
 ·exact absurd h e8N
 ·next hl =>
  cases e:Cn.x1f 0 rs with
  | some x=>rw[e]at h;exact absurd h (Cn.x2s _ _ _ e)
  | none=>exact⟨Cn.x5b _ _ e,f6J⟩
theorem y7s:z7k:=by
 intro v rs w C N;have H:=O (x7z v rs w C N);have o:Hid ((firstW rs).2=0->∀W,Bw w W->Calls prog 125 #[v] W (y3m W (firstT rs))):=fun h W Y=>x7y v rs W (C.on Y) (N.below Y) (y0v h).1 (y0v h).2;rw[y0f];obtain⟨R,M,rfl,Z,D⟩:=N.shape;generalize firstW rs=x,firstT rs=y at *;obtain⟨B,A⟩:=x;obtain⟨I,G⟩:=y;by_cases d:A=0
 ·subst d;rw[if_neg M7K];go_enter func82,ntmps82;go_wp2_with fail;refine c0m H fun Q E=>?_;have J:=O (V o trivial Q E);go_wp2_with fail;refine c0m J fun L F=>?_;have T:=O (x0b E F);go_wp2;go_ret2;exact⟨rfl,V T⟩
 ·rw[if_pos V6r];have g:(A != 0)=true:=(by simp[d]);have i:(A==0)=false:=b0f d;go_enter func82,ntmps82;go_wp2_with fail;refine c0m H fun Q E=>?_;go_wp2;go_ret2;exact⟨rfl,E⟩
