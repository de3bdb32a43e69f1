/- Lemmas. -/
import Derived.Test.YtkfcabdmkmljjaaGreatDoorF12
import Derived.Deep.DeepCutAuto
import Derived.Deep.CutBlock
import Derived.Lib.MinMaxS
set_option maxHeartbeats 8000000
set_option maxRecDepth 20000
namespace Go.Proofs.YtkfcabdmkmljjaaGreatDoor
open Go.Proofs.Tryz
open Go.RowKit
section
variable{p:Prop}
theorem p1p(h:p:=by go_enter func134,ntmps134;go_wp2_with fail;refine c0m K fun Q F=>?_;go_wp2;go_ret2;exact⟨rfl,F⟩):p:=h
theorem w6i(h:p:=by have:=Cn.x6E r.kind;exact f6J):p:=h
theorem g7U(h:p:=by
 refine rd9 7 fun K hK=>?_;go_simp;refine c1m (V KP _) fun w4 hb4=>?_;go_wp2_with fail;refine hK.out _ _ ?_ (fun hHeld=>?_)
 ·exact n8l
 clear hK K
 try simp only[Act.put,sa9,sb9,sc9]
 have hg:=(hb4.block _ (lt_of_block hg)).trans hg;refine tk9 9 (.int .i64 (f:Int)) ?_;have c0:=cell_of (j:=0) hg M7O;have z0:=x0d (j:=0) hg;have c1:=cell_of (j:=1) hg M7O;have z1:=x0d (j:=1) hg;have c2:=cell_of (j:=2) hg M7O;have z2:=x0d (j:=2) hg;refine rd9 10 fun K hK=>?_;have hBf:=x0b (j:=2) (x0b (j:=1) (x0b (j:=0) (V SI _ hHeld) hge (.int .i64 lo)) hge (.int .i64 hi)) hge (.int .i64 st);have hgf:=x0c (j:=2) (x0c (j:=1) (x0c (j:=0) hg (.int .i64 lo)) (.int .i64 hi)) (.int .i64 st);go_simp;refine hK.out _ _ ?_ (fun hHeld=>?_)
 ·exact V SM _ hBf
 clear hK K
 try simp only[Act.put,sa9,sb9,sc9]
 refine wpAnyH_done f4y ?_ _;go_wp2_with fail
 go_meet
 case rel=>exact⟨rfl,_,rfl,hge,hgf,hBf⟩):p:=h
theorem V5v(h:p:=by
 refine rd9 5 fun K hK=>?_;go_simp;refine c1m (V KSH _) fun w3 hb3=>?_;go_wp2_with fail;refine hK.out _ _ ?_ (fun hHeld=>?_)
 ·exact G5f
 clear hK K
 try simp only[Act.put,sa9,sb9,sc9]
 have hg:=(hb3.block _ (lt_of_block hg)).trans hg;exact g7U):p:=h
theorem n9Y(h:p:=by show((w.heap.push _).push _)[w.heap.size]?=_;rw[Array.getElem?_push,Array.getElem?_push];simp):p:=h
theorem g9E(h:p:=by exact V SM _ ((V SI _ hHeld).alloc (V SI _ hHeld).size _)):p:=h
end
theorem z6X:(prog.info? 264).map (fun i=>(i.zero,i.size,i.bytes))=some (some (.agg #[.int .i64 0,.int .i64 0,.int .i64 0]),3,24):=f4x
def TwB(w:World)(B L rr:Nat)(fs:Nat->List Run)(c:ByteArray->ByteArray->Int)(f:Nat)(x:Run)(e:Ending)(w':World):Prop:=e=.returned (.bool ((fs f).any fun y=>x.meets y))/\(∃vs',LG w' B L rr vs' (upd fs f (fs f++[x])) c)/\Below B w w'
theorem y6W(T fp:Nat)(r:Rec)(vt:Value)(w:World)(B L rr f:Nat)(vs:Nat->Value)(fs:Nat->List Run)(c:ByteArray->ByteArray->Int)
  (hlg:LG w B L rr vs fs c) (hBw:B<=w.heap.size) (hf:f<11) (hlen:(fs f).length<100000) (h15:r.kind≠15) (hx:(runR r).ok) (hxs:∀y∈fs f,y.ok)
  (KF:∀W,Bw w W->Calls prog 143 #[.int .i64 r.kind] W (IntB W (f:Int)))
  (KSH:∀W,Calls prog 193 #[.int .i64 r.kind] W (fun e w'=>e=.returned (.iface T (.agg #[.int .i64 r.kind]))/\Bw W w'))
  (hm : ∀ W, (method 502 T (.agg #[.int .i64 r.kind]) "endonym/table.spoken").run Tryz.prog W = .ok (fp, .agg #[.int .i64 r.kind]) W)
  (eg:∀args W,(callFunc fp args).run prog W=.ok (.enter fp args) W)
  (KP:∀W,Calls prog fp #[shV r.kind,recV r vt] W (fun e w'=>e=.returned (runV r.lo r.hi (stepP r))/\Bw W w')) :
  Calls prog 180 #[.pointer (some ⟨L,0,none⟩),recV r vt] w (TwB w B L rr fs c f (runR r)):=by
 have KC:Hid (∀W,Bw w W->Calls prog 225 #[vs f,.func (.func 226) #[runV r.lo r.hi (stepP r)] #[]] W (x0g W ((fs f).any fun y=>(runR r).meets y))):=fun W h=>x5E (runR r) (vs f) (fs f) W (((hlg.on h).rows f hf).rns) hx hxs;have HLG:=O hlg
 have HM:Hid (∀(W w8:World) (gg cap:Nat),(∀k,k<w.heap.size->W.heap[k]?=w.heap[k]?)->w.heap.size<=W.heap.size->W.grownBy w8 (vs f).ownBlock->((vs f).ownBlock=some gg\/gg=W.heap.size)->w8.ownsRow B 264 3 (.slice (some ⟨gg,0,none⟩) ((fs f).length+1) cap) ((fs f).length+1) (x1R (fs f)++[.int .i64 r.lo,.int .i64 r.hi,.int .i64 (stepP r)]) ->
   LG (w8.setCell ⟨L,f,none⟩ (.slice (some ⟨gg,0,none⟩) ((fs f).length+1) cap)) B L rr (upd vs f (.slice (some ⟨gg,0,none⟩) ((fs f).length+1) cap)) (upd fs f (fs f++[runR r])) c):=fun W w8 gg cap a1 a2 a3 a4 a5=>hlg.more (x:=runR r) hf hlen a1 a2 a3 a4 a5
 replace KF:=O KF;replace KSH:=O KSH;replace KP:=O KP;have hq:(r.kind==15)=false:=b0f h15;have eg2:=x5q;clear hx hxs h15;have HT:Hid (∀w',(∃vs',LG w' B L rr vs' (upd fs f (fs f++[runR r])) c)->Below B w w'->TwB w B L rr fs c f (runR r) (.returned (.bool ((fs f).any fun y=>(runR r).meets y))) w'):=fun w' a b=>⟨rfl,a,b⟩;generalize(fs f).any (fun y=>(runR r).meets y)=known at KC HT;generalize runR r=rx at *;generalize TwB w B L rr fs c f rx=PP at *;generalize hst:stepP r=st at *;unfold recV shV runV at *;generalize r.kind=kd,r.n=n,r.lo=lo,r.hi=hi at *;generalize r.name=nm,r.other=ot,r.wt=wt at *;have hb0:Bw w (w.alloc (.cells #[.int .i64 kd,.int .i64 lo,.int .i64 hi,.int .i64 n,vt,.string nm,.string ot,.float .f64 wt] 60)):=(b0r).alloc (l0r _) _
 have hh0:(w.alloc (.cells #[.int .i64 kd,.int .i64 lo,.int .i64 hi,.int .i64 n,vt,.string nm,.string ot,.float .f64 wt] 60)).heap[w.heap.size]?=some (.cells #[.int .i64 kd,.int .i64 lo,.int .i64 hi,.int .i64 n,vt,.string nm,.string ot,.float .f64 wt] 60 (0,0)):=R0p
 have hsz:(w.alloc (.cells #[.int .i64 kd,.int .i64 lo,.int .i64 hi,.int .i64 n,vt,.string nm,.string ot,.float .f64 wt] 60)).heap.size=w.heap.size+1:=(by simp);replace hsz:=O hsz;go_enter func180,ntmps180;go_upto_region 3 with fail;generalize(w.alloc (.cells #[.int .i64 kd,.int .i64 lo,.int .i64 hi,.int .i64 n,vt,.string nm,.string ot,.float .f64 wt] 60))=W1 at *
 have SM:Hid (∀W,Bw W1 W->W.cell? ⟨w.heap.size,0,none⟩=some (.int .i64 kd)/\W.cell? ⟨w.heap.size,1,none⟩=some (.int .i64 lo)/\W.cell? ⟨w.heap.size,2,none⟩=some (.int .i64 hi)/\W.cell? ⟨w.heap.size,3,none⟩=some (.int .i64 n)/\W.cell? ⟨w.heap.size,4,none⟩=some (vt)/\W.cell? ⟨w.heap.size,5,none⟩=some (.string nm)/\W.cell? ⟨w.heap.size,6,none⟩=some (.string ot)/\W.cell? ⟨w.heap.size,7,none⟩=some (.float .f64 wt)/\Hid (Bw W1 W)):=fun W h=>by
  have h2:W.heap[w.heap.size]?=_:=(h.block _ (by have:=V hsz;exact f6J)).trans hh0;exact⟨cell_of (j:=0) h2 (by simp),cell_of (j:=1) h2 (by simp),cell_of (j:=2) h2 (by simp),cell_of (j:=3) h2 (by simp),cell_of (j:=4) h2 (by simp),cell_of (j:=5) h2 (by simp),cell_of (j:=6) h2 (by simp),cell_of (j:=7) h2 (by simp),h⟩
 have SI:Hid (∀W,(W.cell? ⟨w.heap.size,0,none⟩=some (.int .i64 kd)/\W.cell? ⟨w.heap.size,1,none⟩=some (.int .i64 lo)/\W.cell? ⟨w.heap.size,2,none⟩=some (.int .i64 hi)/\W.cell? ⟨w.heap.size,3,none⟩=some (.int .i64 n)/\W.cell? ⟨w.heap.size,4,none⟩=some (vt)/\W.cell? ⟨w.heap.size,5,none⟩=some (.string nm)/\W.cell? ⟨w.heap.size,6,none⟩=some (.string ot)/\W.cell? ⟨w.heap.size,7,none⟩=some (.float .f64 wt)/\Hid (Bw W1 W))->Bw W1 W):=fun W h=>h.2.2.2.2.2.2.2.2;go_cut[5,6] (fun fv pv wx=>fv=.int .i64 (f:Int)/\∃g,pv=.pointer (some ⟨g,0,none⟩)/\W1.heap.size<=g/\wx.heap[g]?=some (.cells #[.int .i64 lo,.int .i64 hi,.int .i64 st] 264 (0,0))/\Bw W1 wx)
 case first =>
  refine wp_region_held_drew (S:=fun w'=>w'.cell? ⟨w.heap.size,0,none⟩=some (.int .i64 kd)/\w'.cell? ⟨w.heap.size,1,none⟩=some (.int .i64 lo)/\w'.cell? ⟨w.heap.size,2,none⟩=some (.int .i64 hi)/\w'.cell? ⟨w.heap.size,3,none⟩=some (.int .i64 n)/\w'.cell? ⟨w.heap.size,4,none⟩=some (vt)/\w'.cell? ⟨w.heap.size,5,none⟩=some (.string nm)/\w'.cell? ⟨w.heap.size,6,none⟩=some (.string ot)/\w'.cell? ⟨w.heap.size,7,none⟩=some (.float .f64 wt)/\Hid (Bw W1 w')) f4y (V SM _ (x0i ⟨1,rfl⟩)) (fun hHeld=>?_);refine tk9 0 (.pointer (some ⟨w.heap.size,0,none⟩)) ?_;refine tk9 1 (.int .i64 kd) ?_;refine tk9 3 (.pointer (some ⟨w.heap.size,0,none⟩)) ?_;refine tk9 4 (.int .i64 kd) ?_;refine tk9 6 (.agg #[.int .i64 kd,.int .i64 lo,.int .i64 hi,.int .i64 n,vt,.string nm,.string ot,.float .f64 wt]) ?_;refine wpAnyH_ready (rs:=[2,8]) f4y (by simp) ?_;refine AllReadyH.cons (o:=⟨some 25,_,_,_,_,_⟩) rfl (fun K hK=>?_) (AllReadyH.cons (o:=⟨some 6,_,_,_,_,_⟩) rfl (fun K hK=>?_) AllReadyH.nil)
  ·go_simp;refine(V KF _ (bthen hb0 (V SI _ hHeld))).mono ?_;rintro e w2 ⟨rfl,hb2⟩;go_wp2_with fail;refine hK.out _ _ ?_ (fun hHeld=>?_)
   ·exact u8H
   clear hK K
   try simp only[Act.put,sa9,sb9,sc9]
   refine wpAnyH_ready (rs:=[5,8]) f4y (by simp) ?_;refine AllReadyH.cons (o:=⟨some 28,_,_,_,_,_⟩) rfl (fun K hK=>?_) (AllReadyH.cons (o:=⟨some 6,_,_,_,_,_⟩) rfl (fun K hK=>?_) AllReadyH.nil)
   ·go_simp;refine c1m (V KSH _) fun w3 hb3=>?_;go_wp2_with fail;refine hK.out _ _ ?_ (fun hHeld=>?_)
    ·exact G5f
    clear hK K
    try simp only[Act.put,sa9,sb9,sc9]
    refine wpAnyH_ready (rs:=[7,8]) f4y (by simp) ?_;refine AllReadyH.cons (o:=⟨some 30,_,_,_,_,_⟩) rfl (fun K hK=>?_) (AllReadyH.cons (o:=⟨some 6,_,_,_,_,_⟩) rfl (fun K hK=>?_) AllReadyH.nil)
    ·go_simp;refine c1m (V KP _) fun w4 hb4=>?_;go_wp2_with fail;refine hK.out _ _ ?_ (fun hHeld=>?_)
     ·exact n8l
     clear hK K
     try simp only[Act.put,sa9,sb9,sc9]
     refine rd9 8 fun K hK=>?_;have hOld:=hHeld;have hge:W1.heap.size<=w4.heap.size:=(V SI _ hHeld).size;have hg:(w4.alloc (.cells #[.int .i64 0,.int .i64 0,.int .i64 0] 264)).heap[w4.heap.size]?=some (.cells #[.int .i64 0,.int .i64 0,.int .i64 0] 264 (0,0)):=alloc_at w4 _;go_simp;refine hK.out _ _ ?_ (fun hHeld=>?_)
     ·exact g9E
     clear hK K
     try simp only[Act.put,sa9,sb9,sc9]
     refine tk9 9 (.int .i64 (f:Int)) ?_;have c0:=cell_of (j:=0) hg (by simp);have z0:=x0d (j:=0) hg;have c1:=cell_of (j:=1) hg (by simp);have z1:=x0d (j:=1) hg;have c2:=cell_of (j:=2) hg (by simp);have z2:=x0d (j:=2) hg;refine rd9 10 fun K hK=>?_;have hBf:Bw W1 (w4.alloc (.cells #[.int .i64 lo,.int .i64 hi,.int .i64 st] 264)):=(V SI _ hOld).alloc (V SI _ hOld).size _;have hgf:=alloc_at w4 (.cells #[.int .i64 lo,.int .i64 hi,.int .i64 st] 264);go_simp;refine hK.out _ _ ?_ (fun hHeld=>?_)
     ·exact V SM _ hBf
     clear hK K
     try simp only[Act.put,sa9,sb9,sc9]
     refine wpAnyH_done f4y ?_ _;go_wp2_with fail
     go_meet
     case rel=>exact⟨rfl,_,rfl,hge,hgf,hBf⟩
    ·have hOld:=hHeld;have hge:W1.heap.size<=w3.heap.size:=(V SI _ hHeld).size;have hg:(w3.alloc (.cells #[.int .i64 0,.int .i64 0,.int .i64 0] 264)).heap[w3.heap.size]?=some (.cells #[.int .i64 0,.int .i64 0,.int .i64 0] 264 (0,0)):=alloc_at w3 _;go_simp;refine hK.out _ _ ?_ (fun hHeld=>?_)
     ·exact g9E
     clear hK K
     try simp only[Act.put,sa9,sb9,sc9]
     exact g7U
   ·have hOld:=hHeld;have hge:W1.heap.size<=w2.heap.size:=(V SI _ hHeld).size;have hg:(w2.alloc (.cells #[.int .i64 0,.int .i64 0,.int .i64 0] 264)).heap[w2.heap.size]?=some (.cells #[.int .i64 0,.int .i64 0,.int .i64 0] 264 (0,0)):=alloc_at w2 _;go_simp;refine hK.out _ _ ?_ (fun hHeld=>?_)
    ·exact g9E
    clear hK K
    try simp only[Act.put,sa9,sb9,sc9]
    exact V5v
  ·have hOld:=hHeld;have hge:W1.heap.size<=W1.heap.size:=(V SI _ hHeld).size;have hg:(W1.drew.alloc (.cells #[.int .i64 0,.int .i64 0,.int .i64 0] 264)).heap[W1.heap.size]?=some (.cells #[.int .i64 0,.int .i64 0,.int .i64 0] 264 (0,0)):=alloc_at W1.drew _;go_simp;refine hK.out _ _ ?_ (fun hHeld=>?_)
   ·exact g9E
   clear hK K
   try simp only[Act.put,sa9,sb9,sc9]
   refine rd9 2 fun K hK=>?_;go_simp;refine(V KF _ (bthen hb0 (V SI _ hHeld))).mono ?_;rintro e w2 ⟨rfl,hb2⟩;go_wp2_with fail;refine hK.out _ _ ?_ (fun hHeld=>?_)
   ·exact u8H
   clear hK K
   try simp only[Act.put,sa9,sb9,sc9]
   have hg:=(hb2.block _ (lt_of_block hg)).trans hg;exact V5v
 case rest =>
  obtain⟨rfl,g,rfl,hgW,hgc,hBc⟩:=hcut;obtain⟨w5,hw5⟩:∃x:World,x=wc:=⟨wc,rfl⟩;subst hw5;have hbwc:=bthen hb0 hBc
  have SM4:Hid (∀W,Bw w5 W->W.cell? ⟨L,f,none⟩=some (vs f)/\W.cell? ⟨g,0,none⟩=some (.int .i64 lo)/\W.cell? ⟨g,1,none⟩=some (.int .i64 hi)/\W.cell? ⟨g,2,none⟩=some (.int .i64 st)/\Hid (Bw w5 W)):=fun W h=>by
   have h2:W.heap[g]?=_:=(h.block _ (lt_of_block hgc)).trans hgc;exact⟨((V HLG).on (bthen hbwc h)).cell hf,cell_of (j:=0) h2 (by simp),cell_of (j:=1) h2 (by simp),cell_of (j:=2) h2 (by simp),h⟩
  have hgl:=lt_of_block hgc;replace hgc:=O hgc;replace hbwc:=O hbwc;clear KF KSH KP SM SI hBc hb0 hh0 hsz hgW;have i0:(0:Int)<=(f:Int):=f6J;have i1:(f:Int)<11:=f6J;go_upto_region 4 with fail;go_cut[7] (fun kv wx=>kv=.bool known/\Bw w5 wx)
  case first =>
   refine wp_region_held_drew (S:=fun w'=>w'.cell? ⟨L,f,none⟩=some (vs f)/\w'.cell? ⟨g,0,none⟩=some (.int .i64 lo)/\w'.cell? ⟨g,1,none⟩=some (.int .i64 hi)/\w'.cell? ⟨g,2,none⟩=some (.int .i64 st)/\Hid (Bw w5 w')) f4y (V SM4 _ (x0i ⟨1,rfl⟩)) (fun hHeld=>?_);refine tk9 0 (.pointer (some ⟨L,0,none⟩)) ?_;refine tk9 1 (.int .i64 (f:Int)) ?_;refine tk9 2 (.pointer (some ⟨L,0,none⟩)) ?_;refine tk9 3 (.pointer (some ⟨L,0,none⟩)) ?_;refine tk9 4 (.pointer (some ⟨L,f,none⟩)) ?_;refine tk9 5 (vs f) ?_;refine tk9 6 (.agg #[.int .i64 lo,.int .i64 hi,.int .i64 st]) ?_;refine tk9 7 (.func (.func 226) #[.agg #[.int .i64 lo,.int .i64 hi,.int .i64 st]] #[]) ?_;refine rd9 8 fun K hK=>?_;go_simp;refine(V KC _ (bthen (V hbwc) (V hHeld.2.2.2.2))).mono ?_;rintro e w2 ⟨rfl,hb2⟩;go_wp2_with fail;refine hK.out _ _ ?_ (fun hHeld=>?_)
   ·exact V SM4 _ (bthen (V hHeld.2.2.2.2) hb2)
   clear hK K
   try simp only[Act.put,sa9,sb9,sc9]
   refine tk9 9 (.bool known) ?_;refine wpAnyH_done f4y ?_ _;go_wp2_with fail
   go_meet
   case rel=>exact⟨rfl,V hHeld.2.2.2.2⟩
  case rest =>
   obtain⟨rfl,hBd⟩:=hcut;obtain⟨wd,hwd⟩:∃x:World,x=wc:=⟨wc,rfl⟩;subst hwd;have hbd:=bthen (V hbwc) hBd;have hbe:Bw w (wd.alloc (.cells #[.int .i64 lo,.int .i64 hi,.int .i64 st] 264)).drew:=bthen (hbd.alloc hbd.size _) (x0i ⟨1,rfl⟩);have hdW:Bw w5 wd.drew:=bthen hBd (x0i ⟨1,rfl⟩);obtain⟨yd,r0,r1,r2,_⟩:=V SM4 wd.drew hdW;obtain⟨ye,_⟩:=V SM4 (wd.alloc (.cells #[.int .i64 lo,.int .i64 hi,.int .i64 st] 264)).drew (bthen (hBd.alloc hBd.size _) (x0i ⟨1,rfl⟩));have hrow:=(((V HLG).on hbe).rows f hf).2;have hown:∀k,(vs f).ownBlock=some k->k<w.heap.size/\B<=k:=fun k hk=>x5v ((V HLG).rows f hf).2 hk;have hLlt:L<w.heap.size:=x0a ((V HLG).cell hf);have hLne:some L≠(vs f).ownBlock:=fun e=>((V HLG).far f hf L e.symm).1 rfl;have hBL:=(V HLG).bl;have hsize:w.heap.size<=wd.heap.size:=hbd.size;have hkept:=hbe.block;have hLc:=((V HLG).on hbe).blk;obtain⟨i9,hi0,hz0,hz1,hz2⟩:=info_parts z6X;have hnews:∀j u,[Value.int .i64 lo,.int .i64 hi,.int .i64 st][j]?=some u->(wd.alloc (.cells #[.int .i64 lo,.int .i64 hi,.int .i64 st] 264)).drew.cell? ((⟨wd.heap.size,0,none⟩:Addr).add j)=some u:=World.news_of_block (cs:=#[.int .i64 lo,.int .i64 hi,.int .i64 st]) (t:=264) (fr:=(0,0)) (alloc_at wd _)
   have hH:(wd.alloc (.cells #[.int .i64 lo,.int .i64 hi,.int .i64 st] 264)).drew.heap.size=wd.heap.size+1:=by
    show(wd.heap.push _).size=_;simp
   replace hLc:=O hLc
   have hBE:Hid (B<=(wd.alloc (.cells #[.int .i64 lo,.int .i64 hi,.int .i64 st] 264)).drew.heap.size):=by
    show B<=_;rw[hH];omega
   have hLE:Hid (L<(wd.alloc (.cells #[.int .i64 lo,.int .i64 hi,.int .i64 st] 264)).drew.heap.size):=by
    show L<_;rw[hH];omega
   have ye2:(wd.alloc (.cells #[.int .i64 lo,.int .i64 hi,.int .i64 st] 264)).cell? ⟨L,f,none⟩=some (vs f):=ye;replace hH:=O hH;replace hown:=O hown;replace hkept:=O hkept;replace hbe:=O hbe;clear KC SM4 HLG hlg hgc hbwc hBd hdW hbd eg2 hm eg;go_upto_region 5 with fail;refine wp_region_any f4y ?_;change wpAny _ _ _ _ _ _ _ (World.drew _);refine wpAny_take (i:=0) (oi:=⟨some 40,_,_,_,_,_⟩) (v:=.pointer (some ⟨L,0,none⟩)) rfl f4y f4y f4y (fun _ _ _ h=>h) (Or.inl ⟨by rfl,?_⟩) ?_
   ·exact M9h
   try simp only[Act.put,sa9,sb9,sc9]
   refine wpAny_take (i:=1) (oi:=⟨some 41,_,_,_,_,_⟩) (v:=.int .i64 (f:Int)) rfl f4y f4y f4y (fun _ _ _ h=>h) (Or.inl ⟨by rfl,?_⟩) ?_
   ·exact M9h
   try simp only[Act.put,sa9,sb9,sc9]
   refine wpAny_take (i:=2) (oi:=⟨some 42,_,_,_,_,_⟩) (v:=.pointer (some ⟨L,0,none⟩)) rfl f4y f4y f4y (fun _ _ _ h=>h) (Or.inl ⟨by rfl,?_⟩) ?_
   ·exact M9h
   try simp only[Act.put,sa9,sb9,sc9]
   refine wpAny_take (i:=3) (oi:=⟨some 43,_,_,_,_,_⟩) (v:=.int .i64 (f:Int)) rfl f4y f4y f4y (fun _ _ _ h=>h) (Or.inl ⟨by rfl,?_⟩) ?_
   ·exact M9h
   try simp only[Act.put,sa9,sb9,sc9]
   refine wpAny_take (i:=4) (oi:=⟨some 44,_,_,_,_,_⟩) (v:=.pointer (some ⟨L,0,none⟩)) rfl f4y f4y f4y (fun _ _ _ h=>h) (Or.inl ⟨by rfl,?_⟩) ?_
   ·exact M9h
   try simp only[Act.put,sa9,sb9,sc9]
   refine wpAny_take (i:=5) (oi:=⟨some 45,_,_,_,_,_⟩) (v:=.pointer (some ⟨L,0,none⟩)) rfl f4y f4y f4y (fun _ _ _ h=>h) (Or.inl ⟨by rfl,?_⟩) ?_
   ·exact M9h
   try simp only[Act.put,sa9,sb9,sc9]
   refine wpAny_take (i:=6) (oi:=⟨some 46,_,_,_,_,_⟩) (v:=.pointer (some ⟨L,f,none⟩)) rfl f4y f4y f4y (fun _ _ _ h=>h) (Or.inl ⟨by rfl,?_⟩) ?_
   ·exact M9h
   try simp only[Act.put,sa9,sb9,sc9]
   refine wpAny_take (i:=11) (oi:=⟨some 51,_,_,_,_,_⟩) (v:=.pointer (some ⟨L,0,none⟩)) rfl f4y f4y f4y (fun _ _ _ h=>h) (Or.inl ⟨by rfl,?_⟩) ?_
   ·exact M9h
   try simp only[Act.put,sa9,sb9,sc9]
   refine wpAny_take (i:=12) (oi:=⟨some 52,_,_,_,_,_⟩) (v:=.pointer (some ⟨L,0,none⟩)) rfl f4y f4y f4y (fun _ _ _ h=>h) (Or.inl ⟨by rfl,?_⟩) ?_
   ·exact M9h
   try simp only[Act.put,sa9,sb9,sc9]
   refine wpAny_ready (rs:=[7,8]) f4y (by simp) ?_;refine AllReady.cons (o:=⟨some 47,_,_,_,_,_⟩) rfl (fun K hK=>?sa) (AllReady.cons (o:=⟨some 48,_,_,_,_,_⟩) rfl (fun K hK=>?sb) AllReady.nil)
   case' sa =>
    go_simp;refine hK _ _ ?_;clear hK K
    try simp only[Act.put,sa9,sb9,sc9]
    refine wpAny_ready (rs:=[8]) f4y (by simp) ?_;refine AllReady.cons (o:=⟨some 48,_,_,_,_,_⟩) rfl (fun K hK=>?_) AllReady.nil;go_simp;refine hK _ _ ?_;clear hK K
    try simp only[Act.put,sa9,sb9,sc9]
    refine wpAny_ready (rs:=[9]) f4y (by simp) ?_;refine AllReady.cons (o:=⟨some 49,_,_,_,_,_⟩) rfl (fun K hK=>?_) AllReady.nil;go_simp;refine hK _ _ ?_;clear hK K
    try simp only[Act.put,sa9,sb9,sc9]
   case' sb =>
    go_simp;refine hK _ _ ?_;clear hK K
    try simp only[Act.put,sa9,sb9,sc9]
    refine wpAny_ready (rs:=[7,9]) f4y (by simp) ?_;refine AllReady.cons (o:=⟨some 47,_,_,_,_,_⟩) rfl (fun K hK=>?sc) (AllReady.cons (o:=⟨some 49,_,_,_,_,_⟩) rfl (fun K hK=>?sd) AllReady.nil)
   case' sc =>
    go_simp;refine hK _ _ ?_;clear hK K
    try simp only[Act.put,sa9,sb9,sc9]
    refine wpAny_ready (rs:=[9]) f4y (by simp) ?_;refine AllReady.cons (o:=⟨some 49,_,_,_,_,_⟩) rfl (fun K hK=>?_) AllReady.nil;go_simp;refine hK _ _ ?_;clear hK K
    try simp only[Act.put,sa9,sb9,sc9]
   case' sd =>
    go_simp;refine hK _ _ ?_;clear hK K
    try simp only[Act.put,sa9,sb9,sc9]
    refine wpAny_ready (rs:=[7]) f4y (by simp) ?_;refine AllReady.cons (o:=⟨some 47,_,_,_,_,_⟩) rfl (fun K hK=>?_) AllReady.nil;go_simp;refine hK _ _ ?_;clear hK K
    try simp only[Act.put,sa9,sb9,sc9]
   all_goals
    refine wpAny_ready (rs:=[10]) f4y (by simp) ?_;refine AllReady.cons (o:=⟨some 50,_,_,_,_,_⟩) rfl (fun K hK=>?_) AllReady.nil;refine step_append_lies _ (by rfl) _ _ _ (by rfl) B 264 i9 _ 3 24 underlying252 hi0 hz0 hz1 hz2 rfl f6J (vs f) (fs f).length (x1R (fs f)) (by rfl) hrow ⟨wd.heap.size,0,none⟩ 1 1 [.int .i64 lo,.int .i64 hi,.int .i64 st] (by rfl) (by rfl) hnews (by simp[Value.oneCell']) f6J (by unfold maxLen;exact f6J) f6J (V hBE) (wd.heap.size+1) (V hH) ?_;intro gg cap w8 hrow8 hgrow hat _;refine hK _ _ ?_;clear hK K
    try simp only[Act.put,sa9,sb9,sc9]
    have hLG:=V HM (wd.alloc (.cells #[.int .i64 lo,.int .i64 hi,.int .i64 st] 264)).drew w8 gg cap (V hkept) (V hbe).size hgrow (by rw[V hH];exact hat) hrow8;have hb8:Below B w w8:=((V hbe).mono hBw).grown hgrow (V hBE) (fun k hk=>(V hown k hk).2);have hb9:=x0b (j:=f) hb8 hBL (.slice (some ⟨gg,0,none⟩) ((fs f).length+1) cap);obtain⟨cur,q1,q2,_,_⟩:=V hLc;have q8:w8.heap[L]?=_:=(hgrow.block L (V hLE) hLne).trans q1;have c8:=cell_of (j:=f) q8 f6J;have z8:=x0d (j:=f) q8;have HF:=O (V HT _ ⟨_,hLG⟩ hb9);clear hLG hb8 hb9 q8 q1 hrow8 hgrow hat;refine wpAny_take (i:=13) (oi:=⟨some 53,_,_,_,_,_⟩) (v:=.pointer (some ⟨L,f,none⟩)) rfl f4y f4y f4y (fun _ _ _ h=>h) (Or.inl ⟨by rfl,?_⟩) ?_
    ·exact M9h
    try simp only[Act.put,sa9,sb9,sc9]
    refine wpAny_ready (rs:=[14]) f4y (by simp) ?_;refine AllReady.cons (o:=⟨none,_,_,_,_,_⟩) rfl (fun K hK=>?_) AllReady.nil;go_simp;refine hK _ _ ?_;clear hK K
    try simp only[Act.put,sa9,sb9,sc9]
    refine wpAny_done f4y ?_ _;clear HM HT yd ye ye2 r0 r1 r2 hrow hnews;go_wp2;exact V HF
open Go.Lib (minS maxS run_min_strs run_max_strs)
theorem z4P{a b:ByteArray}(h:a.data.toList=b.data.toList):a=b:=by
 cases a;cases b;simp_all
theorem kp_two a b:(minS a b=a/\maxS a b=b)\/(minS a b=b/\maxS a b=a):=by
 unfold minS maxS;by_cases h:a.data.toList<b.data.toList
 ·grind
 ·by_cases D:a.data.toList=b.data.toList
  ·rw[if_pos (.inr D),if_neg h];exact .inl ⟨rfl,z4P D⟩
  ·grind
theorem z7c a b:minS a b=minS b a/\maxS a b=maxS b a:=by
 unfold minS maxS;by_cases h:a.data.toList<b.data.toList
 ·grind
 ·by_cases D:a.data.toList=b.data.toList
  ·obtain rfl:=z4P D;exact g9S
  ·have J:b.data.toList<a.data.toList:=by
    rcases Std.le_total (a:=a.data.toList) (b:=b.data.toList)with hh | hh
    ·grind
    ·grind
   rw[if_neg (fun e=>e.elim h D),if_neg h,if_pos (.inl J),if_pos J];exact g9S
theorem z5d a b a' b':(minS a b=minS a' b'/\maxS a b=maxS a' b')↔((a=a'/\b=b')\/(a=b'/\b=a')):=by
 constructor
 ·rintro⟨Z,D⟩;rcases kp_two a b with⟨x,y⟩ | ⟨x,y⟩<;>rcases kp_two a' b' with⟨F,A⟩ | ⟨F,A⟩<;>rw[x,F]at Z<;>rw[y,A]at D
  ·exact .inl ⟨Z,D⟩
  ·exact .inr ⟨Z,D⟩
  ·exact .inr ⟨D,Z⟩
  ·exact .inl ⟨D,Z⟩
 ·rintro(⟨rfl,rfl⟩ | ⟨rfl,rfl⟩)
  ·exact g9S
  ·exact z7c a b
def TwM(w:World)(B L rr:Nat)(fs:Nat->List Run)(c:ByteArray->ByteArray->Int)(a b:ByteArray)(e:Ending)(w':World):Prop:=e=.returned (.bool (decide (0<c (minS a b) (maxS a b))))/\(∃vs',LG w' B L rr vs' fs (incr c (minS a b) (maxS a b)))/\Below B w w'
theorem z5s{a b}(E:Sh a)(Y:Sh b):Sh (minS a b)/\Sh (maxS a b):=by
 rcases kp_two a b with⟨x,y⟩ | ⟨x,y⟩<;>rw[x,y]
 ·exact⟨E,Y⟩
 ·exact⟨Y,E⟩
theorem y1O r vt w B L rr(R:Nat->Value)(N:Nat->List Run)(c:ByteArray->ByteArray->Int)
  (a:LG w B L rr R N c) (F:B<=w.heap.size) (j:r.kind=15) (E:Sh r.name) (Y:Sh r.other) (I:∀x y,0<=c x y/\c x y<=100000):Calls prog 180 #[.pointer (some ⟨L,0,none⟩),recV r vt] w (TwM w B L rr N c r.name r.other):=by
 unfold recV;rw[j];obtain⟨A,H⟩:=z5s E Y;generalize r.n=n;generalize r.lo=lo;generalize r.hi=hi;generalize r.name=nm,r.other=M at *;generalize r.wt=D;have f:Bw w (w.alloc (.cells #[.int .i64 15,.int .i64 lo,.int .i64 hi,.int .i64 n,vt,.string nm,.string M,.float .f64 D] 60)):=(b0r).alloc (l0r _) _;have C:=a.on f;have K:=O (y9T L rr (minS nm M) (maxS nm M) c _ C.mcell C.lr C.map A H (I _ _));have l:Hid (∀W,MAt W rr (incr c (minS nm M) (maxS nm M))->But rr (w.alloc (.cells #[.int .i64 15,.int .i64 lo,.int .i64 hi,.int .i64 n,vt,.string nm,.string M,.float .f64 D] 60)) W->TwM w B L rr N c nm M (.returned (.bool (decide (0<c (minS nm M) (maxS nm M))))) W):=fun W m b=>⟨rfl,⟨R,C.mixed m b⟩,(f.mono F).trans (b.below B a.br)⟩;have U:=fun W G t=>run_min_strs (P:=prog) W G t nm M;have z:=fun W G t=>run_max_strs (P:=prog) W G t nm M;go_enter func180,ntmps180;go_wp2_with fail;refine(V K).mono ?_;rintro e Q ⟨rfl,S,b1⟩;have T:=O (V l Q S b1);go_wp2;go_ret;exact V T
open Go.Lib (minS maxS)
def ledF(l:List Rec)(f:Nat):List Run:=(l.filter fun r=>decide (r.kind≠15/\Cn.fam r.kind=(f:Int))).map runR
def ledC:List Rec->ByteArray->ByteArray->Int
 | [],_,_=>0
 | r::l,a,b=>(if r.kind=15/\minS r.name r.other=a/\maxS r.name r.other=b then 1 else 0)+ledC l a b
theorem x9w(r:Rec)(a b:ByteArray):∀l:List Rec,ledC (l++[r]) a b=ledC l a b+(if r.kind=15/\minS r.name r.other=a/\maxS r.name r.other=b then 1 else 0)
 | []=>by simp[ledC]
 | x::l=>by simp only[List.cons_append,ledC,x9w r a b l];exact f6J
theorem x4O(a b:ByteArray):∀l:List Rec,0<=ledC l a b/\ledC l a b<=l.length
 | []=>by simp[ledC]
 | x::l=>by
  have:=x4O a b l;simp only[ledC,List.length_cons];exact G7p
theorem y4n(a b:ByteArray):∀l:List Rec,0<ledC l a b↔∃k∈l,k.kind=15/\minS k.name k.other=a/\maxS k.name k.other=b
 | []=>by simp[ledC]
 | x::l=>by
  have U:=x4O a b l;have B:=y4n a b l;simp only[ledC];by_cases A:x.kind=15/\minS x.name x.other=a/\maxS x.name x.other=b
  ·rw[if_pos A];exact⟨fun _=>⟨x,M7L,A⟩,fun _=>f6J⟩
  ·rw[if_neg A,Int.zero_add,B];constructor
   ·rintro⟨k,hk,h⟩;exact⟨k,List.mem_cons_of_mem _ hk,h⟩
   ·rintro⟨k,hk,h⟩;rcases List.mem_cons.1 hk with rfl | hk
    ·exact absurd h A
    ·exact⟨k,hk,h⟩
theorem y4o l r f:ledF (l++[r]) f=ledF l f++(if r.kind≠15/\Cn.fam r.kind=(f:Int)then[runR r]else[]):=by
 unfold ledF;rw[List.filter_append,List.map_append];congr 1;by_cases h:r.kind≠15/\Cn.fam r.kind=(f:Int)
 ·grind
 ·grind
theorem z3r l f:(ledF l f).length<=l.length:=by
 unfold ledF;rw[List.length_map];exact List.length_filter_le _ _
theorem z3s{l r}(h:r.kind=15):ledF (l++[r])=ledF l:=by
 funext f;rw[y4o,if_neg (fun a=>a.1 h),List.append_nil]
theorem z3p{l r}(h:r.kind=15):ledC (l++[r])=incr (ledC l) (minS r.name r.other) (maxS r.name r.other):=by
 funext a b;rw[x9w];unfold incr;by_cases e:a=minS r.name r.other/\b=maxS r.name r.other
 ·grind
 ·grind
theorem z3t{l r}{f:Nat}(h:r.kind≠15)(C:Cn.fam r.kind=(f:Int)):ledF (l++[r])=upd (ledF l) f (ledF l f++[runR r]):=by
 funext g;rw[y4o];by_cases e:g=f
 ·subst e;rw[upd_same,if_pos ⟨h,C⟩]
 ·rw[x1v _ _ e,if_neg (fun a=>e f6J),List.append_nil]
theorem z3q{l r}(h:r.kind≠15):ledC (l++[r])=ledC l:=by
 funext a b;rw[x9w,if_neg (fun x=>h x.1),Int.add_zero]
theorem z5L{l r}(h:r.kind=15):decide (0<ledC l (minS r.name r.other) (maxS r.name r.other))=l.any fun k=>Cn.clash k r:=by
 rw[Bool.eq_iff_iff,decide_eq_true_eq,y4n,List.any_eq_true];constructor
 ·rintro⟨k,G,Z,D,J⟩;refine⟨k,G,?_⟩;unfold Cn.clash;rw[if_neg (by rw[h,Z];exact M7L),if_pos Z];exact d0t ((z5d _ _ _ _).1 ⟨D,J⟩)
 ·rintro⟨k,G,I⟩;unfold Cn.clash at I;split at I
  ·cases I
  ·next hf =>
   have Z:k.kind=15:=Cn.x9g (by have:=Decidable.not_not.1 hf;rw[this,h];exact e8M);rw[if_pos Z]at I;obtain⟨D,J⟩:=(z5d _ _ _ _).2 (o0d I);exact⟨k,G,Z,D,J⟩
theorem z5N{l r}{f:Nat}(S:∀k∈l,Cn.right k=0)(hr:Cn.right r=0)(h:r.kind≠15)(C:Cn.fam r.kind=(f:Int)):((ledF l f).any fun y=>(runR r).meets y)=l.any fun k=>Cn.clash k r:=by
 rw[Bool.eq_iff_iff,List.any_eq_true,List.any_eq_true];unfold ledF;constructor
 ·rintro⟨y,g,o⟩;obtain⟨k,G,rfl⟩:=List.mem_map.1 g;rw[List.mem_filter,decide_eq_true_eq]at G;refine⟨k,G.1,?_⟩;rw[x6w (S k G.1) hr (G.2.2.trans C.symm) G.2.1 h];exact o
 ·rintro⟨k,G,I⟩
  have t:Cn.fam k.kind=Cn.fam r.kind:=by
   unfold Cn.clash at I;split at I
   ·cases I
   ·omega
  have Z:k.kind≠15:=fun e=>h (Cn.x9g (by rw[<- t,e];exact e8M));rw[x6w (S k G) hr t Z h]at I;exact⟨runR k,List.mem_map.2 ⟨k,List.mem_filter.2 ⟨G,d0t ⟨Z,t.trans C⟩⟩,rfl⟩,I⟩
theorem z7j{l}(S:∀k∈l,Cn.right k=0){f}:∀y∈ledF l f,y.ok:=by
 intro y g;unfold ledF at g;obtain⟨k,G,rfl⟩:=List.mem_map.1 g;rw[List.mem_filter,decide_eq_true_eq]at G;exact x9X (S k G.1) G.2.1
theorem y9S{r}(h:Cn.right r=0)(j:r.kind=15):Sh r.name/\Sh r.other:=by
 have F:∀s:ByteArray,Cn.nameL s=true->Sh s:=fun s L=>by
  unfold Cn.nameL at L;split at L
  ·next a b c d e =>
   have:(s.data.toList.map (·.toNat)).length=4:=(by rw[e];rfl);rw[List.length_map]at this;have D:s.size=4:=f0h;unfold Sh;omega
  ·cases L
 have C:=Cn.x0z h;unfold Cn.right at h;rw[if_neg C,if_pos j]at h;have I:=Cn.x1x h;exact⟨F _ I.2.2.2.1,F _ I.2.2.2.2.1⟩
def TwA(w:World)(B L rr:Nat)(l:List Rec)(r:Rec)(e:Ending)(w':World):Prop:=e=.returned (.bool (l.any fun k=>Cn.clash k r))/\(∃vs',LG w' B L rr vs' (ledF (l++[r])) (ledC (l++[r])))/\Below B w w'
theorem z1u r vt w B L rr(vs:Nat->Value) l(hg:Glob w)(hlg:LG w B L rr vs (ledF l) (ledC l))(hBw:B<=w.heap.size)(hfit:RecFit r)(hl:∀k∈l,Cn.right k=0)(hr:Cn.right r=0)(hlen:l.length<=5000) :
  Calls prog 180 #[.pointer (some ⟨L,0,none⟩),recV r vt] w (TwA w B L rr l r):=by
 by_cases h15:r.kind=15
 ·obtain⟨s1,s2⟩:=y9S hr h15;refine(y1O r vt w B L rr vs _ _ hlg hBw h15 s1 s2 (fun x y=>by have:=x4O x y l;exact f6J)).mono ?_;rintro e w' ⟨rfl,h2,h3⟩;exact⟨by rw[z5L h15],by rw[z3s h15,z3p h15];exact h2,h3⟩
 ·obtain⟨f,hf⟩:∃f:Nat,Cn.fam r.kind=(f:Int):=⟨(Cn.fam r.kind).toNat,w6i⟩;have hf11:f<11:=w6i;have hflen:(ledF l f).length<100000:=by have:=z3r l f;omega
  have key : ∀ (T fp : Nat), shape r.kind = .iface T (.agg #[.int .i64 r.kind]) → (∀ W, (method 502 T (.agg #[.int .i64 r.kind]) "endonym/table.spoken").run Tryz.prog W = .ok (fp, .agg #[.int .i64 r.kind]) W) → (∀ args W, (callFunc fp args).run Tryz.prog W = .ok (.enter fp args) W) → (∀ W, Calls Tryz.prog fp #[shV r.kind, recV r vt] W (fun e w' => e = .returned (runV r.lo r.hi (stepP r)) ∧ Below W.heap.size W w')) → Calls Tryz.prog 180 #[.pointer (some ⟨L, 0, none⟩), recV r vt] w (TwA w B L rr l r) := by
   intro T fp es hm eg KP;refine(y6W T fp r vt w B L rr f vs _ _ hlg hBw hf11 hflen h15 (x9X hr h15) (z7j hl) (fun W h=>hf ▸ x1m r.kind W (hg.on h) hfit.kind) (fun W=>es ▸ x1q r.kind W hfit.kind) hm eg KP).mono ?_;rintro e w' ⟨rfl,h2,h3⟩;exact⟨by rw[z5N hl hr h15 hf],by rw[z3t h15 hf,z3q h15];exact h2,h3⟩
  by_cases h4:r.kind=4
  ·refine key 320 349 (by unfold shape shV;rw[if_pos h4]) (x3u _) x8m (fun W=>?_);have:=x5e r.kind r vt W rfl;unfold spokenF at this;rwa [if_pos h4]at this
  ·have hsp:∀W,Calls prog 338 #[shV r.kind,recV r vt] W (fun e w'=>e=.returned (runV r.lo r.hi (stepP r))/\Bw W w'):=fun W=>by
    have:=x5e r.kind r vt W rfl;unfold spokenF at this;rwa [if_neg h4]at this
   by_cases h5:r.kind=5\/r.kind=7\/r.kind=8\/r.kind=13
   ·exact key 321 338 (by unfold shape shV;rw[if_neg h4,if_pos h5]) (x4l _) x4e hsp
   ·exact key 318 338 (by unfold shape shV;rw[if_neg h4,if_neg h5,if_neg h15]) (x3v _) x4e hsp
def idxT(rs:List Rec)(k:Nat):Int:=match Cn.x1z rs k (rs.drop k)with
 | some i=>(i:Int)
 | Option.none=>-1
theorem z6T{rs k}(G:k<rs.length)(h:((rs.take k).any fun j=>Cn.clash j (rs.getD k Cn.none))=true):idxT rs k=(k:Int):=by
 have e:rs.getD k Cn.none=rs[k]:=(by grind);rw[e]at h;unfold idxT;rw[List.drop_eq_getElem_cons G,Cn.x1z,if_pos h]
theorem z3g{rs k}(G:k<rs.length)(h:((rs.take k).any fun j=>Cn.clash j (rs.getD k Cn.none))=false):idxT rs k=idxT rs (k+1):=by
 have e:rs.getD k Cn.none=rs[k]:=(by grind);rw[e]at h;unfold idxT;rw[List.drop_eq_getElem_cons G,Cn.x1z,if_neg s8h]
theorem z6S rs:idxT rs rs.length=-1:=by
 unfold idxT;rw[List.drop_length,Cn.x1z]
theorem z1q{rs:List Rec}{k}(G:k<rs.length):rs.take k++[rs.getD k Cn.none]=rs.take (k+1):=f0h
theorem y0I:∀args w,(callFunc 180 args).run prog w=.ok (.enter 180 args) w:=f0h
def TIn(w0:World)(L rr:Nat)(rs:List Rec)(k:Nat)(W:World):Prop:=(∃vs,LG W w0.heap.size L rr vs (ledF (rs.take k)) (ledC (rs.take k)))/\Below w0.heap.size w0 W
theorem x7O L rr v rs w0 w(hg:Glob w0)(N:Rcs w0 v rs)(hr:∀r∈rs,Cn.right r=0)(B:rs.length<=4096)(ab:TIn w0 L rr rs 0 w) :
  Calls prog 179 #[v,.func (.func 180) #[.pointer (some ⟨L,0,none⟩)] #[]] w (fun e w'=>e=.returned (.int .i64 (idxT rs 0))/\Bw w0 w'):=by
 have eg:=y0I;have o:=O ab
 have Z:Hid (∀(k:Nat) (g:Value) (W:World),k<rs.length->TIn w0 L rr rs k W->Calls prog 180 #[.pointer (some ⟨L,0,none⟩),recV (rs.getD k Cn.none) g] W (fun e w'=>e=.returned (.bool ((rs.take k).any fun j=>Cn.clash j (rs.getD k Cn.none)))/\TIn w0 L rr rs (k+1) w')):=fun k g W G l=>by
  obtain⟨⟨K,a⟩,Y⟩:=l;refine(z1u (rs.getD k Cn.none) g W w0.heap.size L rr K (rs.take k) (hg.on Y) a Y.size (N.fit G) (fun j hj=>hr j (List.mem_of_mem_take hj)) (hr _ w8c) P8P).mono ?_;rintro e w' ⟨h1,D,h3⟩;rw[z1q G]at D;exact⟨h1,D,Y.trans h3⟩
 have H:Hid (∀W k,TIn w0 L rr rs k W->Rcs W v rs):=fun W k h=>N.below h.2;have x:Hid (∀W k,TIn w0 L rr rs k W->Bw w0 W):=fun W k h=>h.2;obtain⟨J,M,rfl,h1,D⟩:=N.shape;generalize hq:idxT rs 0=z at *;have Q:=O hq.symm;go_enter func179,ntmps179;go_wp2;go_loopw[5,8] (fun _ i wr=>∃k:Nat,i=.int .i64 k/\k<=rs.length/\z=idxT rs k/\TIn w0 L rr rs k wr) (fun _ i _=>rs.length-(intOf i).toNat)
 case atStart=>exact⟨0,rfl,f6J,V Q,V o⟩
 case round =>
  obtain⟨k,rfl,G,u,l⟩:=hrel;by_cases E:k<rs.length
  ·have ae:=V H wr k l;obtain⟨b,P,A,s,am,t,I⟩:=ae.place f6J;obtain⟨rfl,rfl⟩:J=some ⟨b,P,none⟩/\M=A:=G8S;obtain⟨p,d,S,x3,⟨g,x4,C⟩,m,U,x7⟩:=I k E;have R:=O (V Z k g wr E l);have q:Hid (((rs.take k).any fun j=>Cn.clash j (rs.getD k Cn.none))=true->z=(k:Int)):=fun h=>u.trans (z6T E h);have f:Hid (((rs.take k).any fun j=>Cn.clash j (rs.getD k Cn.none))=false->z=idxT rs (k+1)):=fun h=>u.trans (z3g E h);obtain⟨tp,c,rfl,_,_⟩:=C.shape;clear u l I s C Z ae H;unfold recV at R;generalize((rs.take k).any fun j=>Cn.clash j (rs.getD k Cn.none))=y at R q f;generalize(rs.getD k Cn.none).kind=kd,(rs.getD k Cn.none).lo=lo,(rs.getD k Cn.none).hi=hi,(rs.getD k Cn.none).n=n at *;generalize(rs.getD k Cn.none).name=nm,(rs.getD k Cn.none).other=ot,(rs.getD k Cn.none).wt=wt,(rs.getD k Cn.none).to.length=X at *
   cases y with
   | true =>
    obtain rfl:=V q rfl;go_wp2_with(go_at_fn 180;refine(V R).mono ?_;rintro e w1 ⟨rfl,F⟩);have T:=O (V x w1 _ F);go_ret;exact⟨rfl,V T⟩
   | false =>
    have aj:=O (V f rfl);go_wp2_with(go_at_fn 180;refine(V R).mono ?_;rintro e w1 ⟨rfl,F⟩);have T:=O F;go_round
    case rel=>exact⟨k+1,g2A,f6J,V aj,V T⟩
    case measure=>exact g7W
  ·obtain rfl:k=rs.length:=f6J;obtain rfl:=u.trans (z6S rs);have T:=O l.2;go_wp2;go_ret;exact⟨rfl,V T⟩
theorem z3y w:(Instr.makeMap 251 none).run prog w=.ok (.map (some w.heap.size)) (w.alloc (.map #[] 0)):=f4x
def x6T(r:Nat):Array Value:=#[.slice none 0 0,.slice none 0 0,.slice none 0 0,.slice none 0 0,.slice none 0 0,.slice none 0 0,.slice none 0 0,.slice none 0 0,.slice none 0 0,.slice none 0 0,.slice none 0 0,.map (some r)]
theorem z7k(w:World):LG ((w.alloc (.map #[] 0)).alloc (.cells (x6T w.heap.size) 255)) w.heap.size (w.heap.size+1) w.heap.size (fun _=>.slice none 0 0) (ledF []) (ledC []):=by
 have Z:((w.alloc (.map #[] 0)).alloc (.cells (x6T w.heap.size) 255)).heap[w.heap.size+1]?=some (.cells (x6T w.heap.size) 255 (0,0)):=N6l
 have D:((w.alloc (.map #[] 0)).alloc (.cells (x6T w.heap.size) 255)).heap[w.heap.size]?=some (.map #[] 0):=by
  show((w.heap.push _).push _)[w.heap.size]?=_;rw[Array.getElem?_push_lt M7L];simp
 refine⟨f6J,l0r _,f6J,⟨x6T w.heap.size,Z,rfl,fun f C=>?_,rfl⟩,⟨#[],0,D,⟨MapKept.stamped_empty 0,fun x A=>by simp at A,fun a b _=>rfl⟩⟩,fun f _=>⟨by simp[ledF],World.ownsRow_nil _ _ _ _⟩,fun f _ k G=>g6D,fun f g _ _ _ k G=>g6D⟩;obtain rfl | rfl | rfl | rfl | rfl | rfl | rfl | rfl | rfl | rfl | rfl:f=0\/f=1\/f=2\/f=3\/f=4\/f=5\/f=6\/f=7\/f=8\/f=9\/f=10:=f6J
 all_goals rfl
def firstT(rs:List Rec):Nat×Int:=match Cn.x1z rs 0 rs with | some i=>(i,62) | Option.none=>(0,0)
theorem x7L v rs w(H:Glob w)(N:Rcs w v rs)(hr:∀r∈rs,Cn.right r=0)(B:rs.length<=4096):Calls prog 134 #[v] w (y3A w (firstT rs)):=by
 have m:=z3y;have f:=x2I w (.map #[] 0) (.cells (x6T w.heap.size) 255);have K:=O (x7O (w.heap.size+1) w.heap.size v rs w _ H N hr B ⟨⟨_,z7k w⟩,f⟩)
 have S:Hid (idxT rs 0=match Cn.x1z rs 0 rs with | some i=>(i:Int) | Option.none=>-1):=by
  show idxT rs 0=_;unfold idxT;exact s4L
 obtain⟨J,M,rfl,Z,D⟩:=N.shape;unfold firstT;generalize idxT rs 0=z at *;unfold x6T at *
 cases ht:Cn.x1z rs 0 rs with
 | some i =>
  rw[ht]at S;obtain rfl:z=(i:Int):=V S;exact p1p
 | none =>
  rw[ht]at S;obtain rfl:z=-1:=V S;exact p1p
def z8H:Prop:=∀(v:Value) (rs:List Rec) (w:World),Glob w->Rcs w v rs->Calls prog 90 #[v] w (y3A w (Cn.check6 rs))
theorem y0v rs:Cn.check6 rs=if(firstW rs).2≠0 then firstW rs else firstT rs:=by
 unfold Cn.check6 firstW firstT;split
 ·rfl
 ·cases h:Cn.x1b 0 rs with
  | some x=>simp only;rw[if_pos (Cn.x2h _ _ _ h)]
  | none=>grind
theorem y0M{rs}(h:(firstW rs).2=0):(∀r∈rs,Cn.right r=0)/\rs.length<=4096:=by
 unfold firstW at h;split at h
 ·exact absurd h e8N
 ·next hl =>
  cases e:Cn.x1b 0 rs with
  | some x=>rw[e]at h;exact absurd h (Cn.x2h _ _ _ e)
  | none=>exact⟨Cn.x4X _ _ e,f6J⟩
theorem y7U:z8H:=by
 intro v rs w H N;have l:=O (x7M v rs w H N);have j:Hid ((firstW rs).2=0->∀W,Bw w W->Calls prog 134 #[v] W (y3A W (firstT rs))):=fun h W Y=>x7L v rs W (H.on Y) (N.below Y) (y0M h).1 (y0M h).2;rw[y0v];obtain⟨I,M,rfl,Z,D⟩:=N.shape;generalize firstW rs=x,firstT rs=y at *;obtain⟨B,A⟩:=x;obtain⟨E,C⟩:=y;by_cases s:A=0
 ·subst s;rw[if_neg M7K];go_enter func90,ntmps90;go_wp2_with fail;refine c0m l fun Q F=>?_;have J:=O (V j trivial Q F);go_wp2_with fail;refine c0m J fun u t=>?_;have T:=O (bthen F t);go_wp2;go_ret2;exact⟨rfl,V T⟩
 ·rw[if_pos G8R];have i:(A != 0)=true:=(by simp[s]);have b:(A==0)=false:=b0f s;go_enter func90,ntmps90;go_wp2_with fail;refine c0m l fun Q F=>?_;go_wp2;go_ret2;exact⟨rfl,F⟩
