/- Lemmas. -/
import Derived.Test.YtkfcabdmkmljjaaGreatDoorH12
import Derived.Deep.DeepCutAuto
import Derived.Deep.CutBlock
import Derived.Lib.MinMaxS
set_option maxHeartbeats 8000000
set_option maxRecDepth 20000
namespace Go.Proofs.YtkfcabdmkmljjaaGreatDoor
open Go.Proofs.Tryz
open Go.RowKit
section
variable{p:Prop}
theorem p1p(h:p:=by go_enter func134,ntmps134;go_wp2_with fail;refine c0m K fun Q F=>?_;go_wp2;go_ret2;exact⟨rfl,F⟩):p:=h
theorem V3Y(h:p:=by have:=Cn.x6D r.kind;exact f6J):p:=h
theorem g7U(h:p:=by
 refine rd9 7 fun K hK=>?_;go_simp;refine c1m (V KP _) fun w4 hb4=>?_;go_wp2_with fail;refine hK.out _ _ ?_ (fun hHeld=>?_)
 ·exact n8l
 clear hK K
 try simp only[Act.put,sa9,sb9,sc9]
 have hg:=(hb4.block _ (lt_of_block hg)).trans hg;refine tk9 9 (.int .i64 (f:Int)) ?_;have c0:=cell_of (j:=0) hg M7N;have z0:=x0d (j:=0) hg;have c1:=cell_of (j:=1) hg M7N;have z1:=x0d (j:=1) hg;have c2:=cell_of (j:=2) hg M7N;have z2:=x0d (j:=2) hg;refine rd9 10 fun K hK=>?_;have hBf:=x0b (j:=2) (x0b (j:=1) (x0b (j:=0) (V SI _ hHeld) hge (.int .i64 lo)) hge (.int .i64 hi)) hge (.int .i64 st);have hgf:=x0c (j:=2) (x0c (j:=1) (x0c (j:=0) hg (.int .i64 lo)) (.int .i64 hi)) (.int .i64 st);go_simp;refine hK.out _ _ ?_ (fun hHeld=>?_)
 ·exact V SM _ hBf
 clear hK K
 try simp only[Act.put,sa9,sb9,sc9]
 refine wpAnyH_done f4y ?_ _;go_wp2_with fail
 go_meet
 case rel=>exact⟨rfl,_,rfl,hge,hgf,hBf⟩):p:=h
theorem V5v(h:p:=by
 refine rd9 5 fun K hK=>?_;go_simp;refine c1m (V KSH _) fun w3 hb3=>?_;go_wp2_with fail;refine hK.out _ _ ?_ (fun hHeld=>?_)
 ·exact G5f
 clear hK K
 try simp only[Act.put,sa9,sb9,sc9]
 have hg:=(hb3.block _ (lt_of_block hg)).trans hg;exact g7U):p:=h
theorem n9Y(h:p:=by show((w.heap.push _).push _)[w.heap.size]?=_;rw[Array.getElem?_push,Array.getElem?_push];simp):p:=h
theorem g9D(h:p:=by exact V SM _ ((V SI _ hHeld).alloc (V SI _ hHeld).size _)):p:=h
end
theorem z6Y:(prog.info? 264).map (fun i=>(i.zero,i.size,i.bytes))=some (some (.agg #[.int .i64 0,.int .i64 0,.int .i64 0]),3,24):=f4x
def TwB(w:World)(B L rr:Nat)(fs:Nat->List Run)(c:ByteArray->ByteArray->Int)(f:Nat)(x:Run)(e:Ending)(w':World):Prop:=e=.returned (.bool ((fs f).any fun y=>x.meets y))/\(∃vs',LG w' B L rr vs' (upd fs f (fs f++[x])) c)/\Below B w w'
theorem y6Z(T fp:Nat)(r:Rec)(vt:Value)(w:World)(B L rr f:Nat)(vs:Nat->Value)(fs:Nat->List Run)(c:ByteArray->ByteArray->Int)
  (hlg:LG w B L rr vs fs c) (hBw:B<=w.heap.size) (hf:f<11) (hlen:(fs f).length<100000) (h15:r.kind≠15) (hx:(runR r).ok) (hxs:∀y∈fs f,y.ok)
  (KF:∀W,Bw w W->Calls prog 143 #[.int .i64 r.kind] W (IntB W (f:Int)))
  (KSH:∀W,Calls prog 193 #[.int .i64 r.kind] W (fun e w'=>e=.returned (.iface T (.agg #[.int .i64 r.kind]))/\Bw W w'))
  (hm : ∀ W, (method 502 T (.agg #[.int .i64 r.kind]) "endonym/table.spoken").run Tryz.prog W = .ok (fp, .agg #[.int .i64 r.kind]) W)
  (eg:∀args W,(callFunc fp args).run prog W=.ok (.enter fp args) W)
  (KP:∀W,Calls prog fp #[shV r.kind,recV r vt] W (fun e w'=>e=.returned (runV r.lo r.hi (stepP r))/\Bw W w')) :
  Calls prog 180 #[.pointer (some ⟨L,0,none⟩),recV r vt] w (TwB w B L rr fs c f (runR r)):=by
 have KC:Hid (∀W,Bw w W->Calls prog 225 #[vs f,.func (.func 226) #[runV r.lo r.hi (stepP r)] #[]] W (x0g W ((fs f).any fun y=>(runR r).meets y))):=fun W h=>x5I (runR r) (vs f) (fs f) W (((hlg.on h).rows f hf).rns) hx hxs;have HLG:=O hlg
 have HM:Hid (∀(W w8:World) (gg cap:Nat),(∀k,k<w.heap.size->W.heap[k]?=w.heap[k]?)->w.heap.size<=W.heap.size->W.grownBy w8 (vs f).ownBlock->((vs f).ownBlock=some gg\/gg=W.heap.size)->w8.ownsRow B 264 3 (.slice (some ⟨gg,0,none⟩) ((fs f).length+1) cap) ((fs f).length+1) (x1R (fs f)++[.int .i64 r.lo,.int .i64 r.hi,.int .i64 (stepP r)]) ->
   LG (w8.setCell ⟨L,f,none⟩ (.slice (some ⟨gg,0,none⟩) ((fs f).length+1) cap)) B L rr (upd vs f (.slice (some ⟨gg,0,none⟩) ((fs f).length+1) cap)) (upd fs f (fs f++[runR r])) c):=fun W w8 gg cap a1 a2 a3 a4 a5=>hlg.more (x:=runR r) hf hlen a1 a2 a3 a4 a5
 replace KF:=O KF;replace KSH:=O KSH;replace KP:=O KP;have hq:(r.kind==15)=false:=b0f h15;have eg2:=x5v;clear hx hxs h15;have HT:Hid (∀w',(∃vs',LG w' B L rr vs' (upd fs f (fs f++[runR r])) c)->Below B w w'->TwB w B L rr fs c f (runR r) (.returned (.bool ((fs f).any fun y=>(runR r).meets y))) w'):=fun w' a b=>⟨rfl,a,b⟩;generalize(fs f).any (fun y=>(runR r).meets y)=known at KC HT;generalize runR r=rx at *;generalize TwB w B L rr fs c f rx=PP at *;generalize hst:stepP r=st at *;unfold recV shV runV at *;generalize r.kind=kd,r.n=n,r.lo=lo,r.hi=hi at *;generalize r.name=nm,r.other=ot,r.wt=wt at *;have hb0:Bw w (w.alloc (.cells #[.int .i64 kd,.int .i64 lo,.int .i64 hi,.int .i64 n,vt,.string nm,.string ot,.float .f64 wt] 60)):=(b0r).alloc (l0r _) _
 have hh0:(w.alloc (.cells #[.int .i64 kd,.int .i64 lo,.int .i64 hi,.int .i64 n,vt,.string nm,.string ot,.float .f64 wt] 60)).heap[w.heap.size]?=some (.cells #[.int .i64 kd,.int .i64 lo,.int .i64 hi,.int .i64 n,vt,.string nm,.string ot,.float .f64 wt] 60 (0,0)):=R0p
 have hsz:(w.alloc (.cells #[.int .i64 kd,.int .i64 lo,.int .i64 hi,.int .i64 n,vt,.string nm,.string ot,.float .f64 wt] 60)).heap.size=w.heap.size+1:=(by simp);replace hsz:=O hsz;go_enter func180,ntmps180;go_upto_region 3 with fail;generalize(w.alloc (.cells #[.int .i64 kd,.int .i64 lo,.int .i64 hi,.int .i64 n,vt,.string nm,.string ot,.float .f64 wt] 60))=W1 at *
 have SM:Hid (∀W,Bw W1 W->W.cell? ⟨w.heap.size,0,none⟩=some (.int .i64 kd)/\W.cell? ⟨w.heap.size,1,none⟩=some (.int .i64 lo)/\W.cell? ⟨w.heap.size,2,none⟩=some (.int .i64 hi)/\W.cell? ⟨w.heap.size,3,none⟩=some (.int .i64 n)/\W.cell? ⟨w.heap.size,4,none⟩=some (vt)/\W.cell? ⟨w.heap.size,5,none⟩=some (.string nm)/\W.cell? ⟨w.heap.size,6,none⟩=some (.string ot)/\W.cell? ⟨w.heap.size,7,none⟩=some (.float .f64 wt)/\Hid (Bw W1 W)):=fun W h=>by
  have h2:W.heap[w.heap.size]?=_:=(h.block _ (by have:=V hsz;exact f6J)).trans hh0;exact⟨cell_of (j:=0) h2 (by simp),cell_of (j:=1) h2 (by simp),cell_of (j:=2) h2 (by simp),cell_of (j:=3) h2 (by simp),cell_of (j:=4) h2 (by simp),cell_of (j:=5) h2 (by simp),cell_of (j:=6) h2 (by simp),cell_of (j:=7) h2 (by simp),h⟩
 have SI:Hid (∀W,(W.cell? ⟨w.heap.size,0,none⟩=some (.int .i64 kd)/\W.cell? ⟨w.heap.size,1,none⟩=some (.int .i64 lo)/\W.cell? ⟨w.heap.size,2,none⟩=some (.int .i64 hi)/\W.cell? ⟨w.heap.size,3,none⟩=some (.int .i64 n)/\W.cell? ⟨w.heap.size,4,none⟩=some (vt)/\W.cell? ⟨w.heap.size,5,none⟩=some (.string nm)/\W.cell? ⟨w.heap.size,6,none⟩=some (.string ot)/\W.cell? ⟨w.heap.size,7,none⟩=some (.float .f64 wt)/\Hid (Bw W1 W))->Bw W1 W):=fun W h=>h.2.2.2.2.2.2.2.2;go_cut[5,6] (fun fv pv wx=>fv=.int .i64 (f:Int)/\∃g,pv=.pointer (some ⟨g,0,none⟩)/\W1.heap.size<=g/\wx.heap[g]?=some (.cells #[.int .i64 lo,.int .i64 hi,.int .i64 st] 264 (0,0))/\Bw W1 wx)
 case first =>
  refine wp_region_held_drew (S:=fun w'=>w'.cell? ⟨w.heap.size,0,none⟩=some (.int .i64 kd)/\w'.cell? ⟨w.heap.size,1,none⟩=some (.int .i64 lo)/\w'.cell? ⟨w.heap.size,2,none⟩=some (.int .i64 hi)/\w'.cell? ⟨w.heap.size,3,none⟩=some (.int .i64 n)/\w'.cell? ⟨w.heap.size,4,none⟩=some (vt)/\w'.cell? ⟨w.heap.size,5,none⟩=some (.string nm)/\w'.cell? ⟨w.heap.size,6,none⟩=some (.string ot)/\w'.cell? ⟨w.heap.size,7,none⟩=some (.float .f64 wt)/\Hid (Bw W1 w')) f4y (V SM _ (x0i ⟨1,rfl⟩)) (fun hHeld=>?_);refine tk9 0 (.pointer (some ⟨w.heap.size,0,none⟩)) ?_;refine tk9 1 (.int .i64 kd) ?_;refine tk9 3 (.pointer (some ⟨w.heap.size,0,none⟩)) ?_;refine tk9 4 (.int .i64 kd) ?_;refine tk9 6 (.agg #[.int .i64 kd,.int .i64 lo,.int .i64 hi,.int .i64 n,vt,.string nm,.string ot,.float .f64 wt]) ?_;refine wpAnyH_ready (rs:=[2,8]) f4y (by simp) ?_;refine AllReadyH.cons (o:=⟨some 25,_,_,_,_,_⟩) rfl (fun K hK=>?_) (AllReadyH.cons (o:=⟨some 6,_,_,_,_,_⟩) rfl (fun K hK=>?_) AllReadyH.nil)
  ·go_simp;refine(V KF _ (bthen hb0 (V SI _ hHeld))).mono ?_;rintro e w2 ⟨rfl,hb2⟩;go_wp2_with fail;refine hK.out _ _ ?_ (fun hHeld=>?_)
   ·exact u8H
   clear hK K
   try simp only[Act.put,sa9,sb9,sc9]
   refine wpAnyH_ready (rs:=[5,8]) f4y (by simp) ?_;refine AllReadyH.cons (o:=⟨some 28,_,_,_,_,_⟩) rfl (fun K hK=>?_) (AllReadyH.cons (o:=⟨some 6,_,_,_,_,_⟩) rfl (fun K hK=>?_) AllReadyH.nil)
   ·go_simp;refine c1m (V KSH _) fun w3 hb3=>?_;go_wp2_with fail;refine hK.out _ _ ?_ (fun hHeld=>?_)
    ·exact G5f
    clear hK K
    try simp only[Act.put,sa9,sb9,sc9]
    refine wpAnyH_ready (rs:=[7,8]) f4y (by simp) ?_;refine AllReadyH.cons (o:=⟨some 30,_,_,_,_,_⟩) rfl (fun K hK=>?_) (AllReadyH.cons (o:=⟨some 6,_,_,_,_,_⟩) rfl (fun K hK=>?_) AllReadyH.nil)
    ·go_simp;refine c1m (V KP _) fun w4 hb4=>?_;go_wp2_with fail;refine hK.out _ _ ?_ (fun hHeld=>?_)
     ·exact n8l
     clear hK K
     try simp only[Act.put,sa9,sb9,sc9]
     refine rd9 8 fun K hK=>?_;have hOld:=hHeld;have hge:W1.heap.size<=w4.heap.size:=(V SI _ hHeld).size;have hg:(w4.alloc (.cells #[.int .i64 0,.int .i64 0,.int .i64 0] 264)).heap[w4.heap.size]?=some (.cells #[.int .i64 0,.int .i64 0,.int .i64 0] 264 (0,0)):=alloc_at w4 _;go_simp;refine hK.out _ _ ?_ (fun hHeld=>?_)
     ·exact g9D
     clear hK K
     try simp only[Act.put,sa9,sb9,sc9]
     refine tk9 9 (.int .i64 (f:Int)) ?_;have c0:=cell_of (j:=0) hg (by simp);have z0:=x0d (j:=0) hg;have c1:=cell_of (j:=1) hg (by simp);have z1:=x0d (j:=1) hg;have c2:=cell_of (j:=2) hg (by simp);have z2:=x0d (j:=2) hg;refine rd9 10 fun K hK=>?_;have hBf:Bw W1 (w4.alloc (.cells #[.int .i64 lo,.int .i64 hi,.int .i64 st] 264)):=(V SI _ hOld).alloc (V SI _ hOld).size _;have hgf:=alloc_at w4 (.cells #[.int .i64 lo,.int .i64 hi,.int .i64 st] 264);go_simp;refine hK.out _ _ ?_ (fun hHeld=>?_)
     ·exact V SM _ hBf
     clear hK K
     try simp only[Act.put,sa9,sb9,sc9]
     refine wpAnyH_done f4y ?_ _;go_wp2_with fail
     go_meet
     case rel=>exact⟨rfl,_,rfl,hge,hgf,hBf⟩
    ·have hOld:=hHeld;have hge:W1.heap.size<=w3.heap.size:=(V SI _ hHeld).size;have hg:(w3.alloc (.cells #[.int .i64 0,.int .i64 0,.int .i64 0] 264)).heap[w3.heap.size]?=some (.cells #[.int .i64 0,.int .i64 0,.int .i64 0] 264 (0,0)):=alloc_at w3 _;go_simp;refine hK.out _ _ ?_ (fun hHeld=>?_)
     ·exact g9D
     clear hK K
     try simp only[Act.put,sa9,sb9,sc9]
     exact g7U
   ·have hOld:=hHeld;have hge:W1.heap.size<=w2.heap.size:=(V SI _ hHeld).size;have hg:(w2.alloc (.cells #[.int .i64 0,.int .i64 0,.int .i64 0] 264)).heap[w2.heap.size]?=some (.cells #[.int .i64 0,.int .i64 0,.int .i64 0] 264 (0,0)):=alloc_at w2 _;go_simp;refine hK.out _ _ ?_ (fun hHeld=>?_)
    ·exact g9D
    clear hK K
    try simp only[Act.put,sa9,sb9,sc9]
    exact V5v
  ·have hOld:=hHeld;have hge:W1.heap.size<=W1.heap.size:=(V SI _ hHeld).size;have hg:(W1.drew.alloc (.cells #[.int .i64 0,.int .i64 0,.int .i64 0] 264)).heap[W1.heap.size]?=some (.cells #[.int .i64 0,.int .i64 0,.int .i64 0] 264 (0,0)):=alloc_at W1.drew _;go_simp;refine hK.out _ _ ?_ (fun hHeld=>?_)
   ·exact g9D
   clear hK K
   try simp only[Act.put,sa9,sb9,sc9]
   refine rd9 2 fun K hK=>?_;go_simp;refine(V KF _ (bthen hb0 (V SI _ hHeld))).mono ?_;rintro e w2 ⟨rfl,hb2⟩;go_wp2_with fail;refine hK.out _ _ ?_ (fun hHeld=>?_)
   ·exact u8H
   clear hK K
   try simp only[Act.put,sa9,sb9,sc9]
   have hg:=(hb2.block _ (lt_of_block hg)).trans hg;exact V5v
 case rest =>
  obtain⟨rfl,g,rfl,hgW,hgc,hBc⟩:=hcut;obtain⟨w5,hw5⟩:∃x:World,x=wc:=⟨wc,rfl⟩;subst hw5;have hbwc:=bthen hb0 hBc
  have SM4:Hid (∀W,Bw w5 W->W.cell? ⟨L,f,none⟩=some (vs f)/\W.cell? ⟨g,0,none⟩=some (.int .i64 lo)/\W.cell? ⟨g,1,none⟩=some (.int .i64 hi)/\W.cell? ⟨g,2,none⟩=some (.int .i64 st)/\Hid (Bw w5 W)):=fun W h=>by
   have h2:W.heap[g]?=_:=(h.block _ (lt_of_block hgc)).trans hgc;exact⟨((V HLG).on (bthen hbwc h)).cell hf,cell_of (j:=0) h2 (by simp),cell_of (j:=1) h2 (by simp),cell_of (j:=2) h2 (by simp),h⟩
  have hgl:=lt_of_block hgc;replace hgc:=O hgc;replace hbwc:=O hbwc;clear KF KSH KP SM SI hBc hb0 hh0 hsz hgW;have i0:(0:Int)<=(f:Int):=f6J;have i1:(f:Int)<11:=f6J;go_upto_region 4 with fail;go_cut[7] (fun kv wx=>kv=.bool known/\Bw w5 wx)
  case first =>
   refine wp_region_held_drew (S:=fun w'=>w'.cell? ⟨L,f,none⟩=some (vs f)/\w'.cell? ⟨g,0,none⟩=some (.int .i64 lo)/\w'.cell? ⟨g,1,none⟩=some (.int .i64 hi)/\w'.cell? ⟨g,2,none⟩=some (.int .i64 st)/\Hid (Bw w5 w')) f4y (V SM4 _ (x0i ⟨1,rfl⟩)) (fun hHeld=>?_);refine tk9 0 (.pointer (some ⟨L,0,none⟩)) ?_;refine tk9 1 (.int .i64 (f:Int)) ?_;refine tk9 2 (.pointer (some ⟨L,0,none⟩)) ?_;refine tk9 3 (.pointer (some ⟨L,0,none⟩)) ?_;refine tk9 4 (.pointer (some ⟨L,f,none⟩)) ?_;refine tk9 5 (vs f) ?_;refine tk9 6 (.agg #[.int .i64 lo,.int .i64 hi,.int .i64 st]) ?_;refine tk9 7 (.func (.func 226) #[.agg #[.int .i64 lo,.int .i64 hi,.int .i64 st]] #[]) ?_;refine rd9 8 fun K hK=>?_;go_simp;refine(V KC _ (bthen (V hbwc) (V hHeld.2.2.2.2))).mono ?_;rintro e w2 ⟨rfl,hb2⟩;go_wp2_with fail;refine hK.out _ _ ?_ (fun hHeld=>?_)
   ·exact V SM4 _ (bthen (V hHeld.2.2.2.2) hb2)
   clear hK K
   try simp only[Act.put,sa9,sb9,sc9]
   refine tk9 9 (.bool known) ?_;refine wpAnyH_done f4y ?_ _;go_wp2_with fail
   go_meet
   case rel=>exact⟨rfl,V hHeld.2.2.2.2⟩
  case rest =>
   obtain⟨rfl,hBd⟩:=hcut;obtain⟨wd,hwd⟩:∃x:World,x=wc:=⟨wc,rfl⟩;subst hwd;have hbd:=bthen (V hbwc) hBd;have hbe:Bw w (wd.alloc (.cells #[.int .i64 lo,.int .i64 hi,.int .i64 st] 264)).drew:=bthen (hbd.alloc hbd.size _) (x0i ⟨1,rfl⟩);have hdW:Bw w5 wd.drew:=bthen hBd (x0i ⟨1,rfl⟩);obtain⟨yd,r0,r1,r2,_⟩:=V SM4 wd.drew hdW;obtain⟨ye,_⟩:=V SM4 (wd.alloc (.cells #[.int .i64 lo,.int .i64 hi,.int .i64 st] 264)).drew (bthen (hBd.alloc hBd.size _) (x0i ⟨1,rfl⟩));have hrow:=(((V HLG).on hbe).rows f hf).2;have hown:∀k,(vs f).ownBlock=some k->k<w.heap.size/\B<=k:=fun k hk=>x5A ((V HLG).rows f hf).2 hk;have hLlt:L<w.heap.size:=x0a ((V HLG).cell hf);have hLne:some L≠(vs f).ownBlock:=fun e=>((V HLG).far f hf L e.symm).1 rfl;have hBL:=(V HLG).bl;have hsize:w.heap.size<=wd.heap.size:=hbd.size;have hkept:=hbe.block;have hLc:=((V HLG).on hbe).blk;obtain⟨i9,hi0,hz0,hz1,hz2⟩:=info_parts z6Y;have hnews:∀j u,[Value.int .i64 lo,.int .i64 hi,.int .i64 st][j]?=some u->(wd.alloc (.cells #[.int .i64 lo,.int .i64 hi,.int .i64 st] 264)).drew.cell? ((⟨wd.heap.size,0,none⟩:Addr).add j)=some u:=World.news_of_block (cs:=#[.int .i64 lo,.int .i64 hi,.int .i64 st]) (t:=264) (fr:=(0,0)) (alloc_at wd _)
   have hH:(wd.alloc (.cells #[.int .i64 lo,.int .i64 hi,.int .i64 st] 264)).drew.heap.size=wd.heap.size+1:=by
    show(wd.heap.push _).size=_;simp
   replace hLc:=O hLc
   have hBE:Hid (B<=(wd.alloc (.cells #[.int .i64 lo,.int .i64 hi,.int .i64 st] 264)).drew.heap.size):=by
    show B<=_;rw[hH];omega
   have hLE:Hid (L<(wd.alloc (.cells #[.int .i64 lo,.int .i64 hi,.int .i64 st] 264)).drew.heap.size):=by
    show L<_;rw[hH];omega
   have ye2:(wd.alloc (.cells #[.int .i64 lo,.int .i64 hi,.int .i64 st] 264)).cell? ⟨L,f,none⟩=some (vs f):=ye;replace hH:=O hH;replace hown:=O hown;replace hkept:=O hkept;replace hbe:=O hbe;clear KC SM4 HLG hlg hgc hbwc hBd hdW hbd eg2 hm eg;go_upto_region 5 with fail;refine wp_region_any f4y ?_;change wpAny _ _ _ _ _ _ _ (World.drew _);refine wpAny_take (i:=0) (oi:=⟨some 40,_,_,_,_,_⟩) (v:=.pointer (some ⟨L,0,none⟩)) rfl f4y f4y f4y (fun _ _ _ h=>h) (Or.inl ⟨by rfl,?_⟩) ?_
   ·exact M9h
   try simp only[Act.put,sa9,sb9,sc9]
   refine wpAny_take (i:=1) (oi:=⟨some 41,_,_,_,_,_⟩) (v:=.int .i64 (f:Int)) rfl f4y f4y f4y (fun _ _ _ h=>h) (Or.inl ⟨by rfl,?_⟩) ?_
   ·exact M9h
   try simp only[Act.put,sa9,sb9,sc9]
   refine wpAny_take (i:=2) (oi:=⟨some 42,_,_,_,_,_⟩) (v:=.pointer (some ⟨L,0,none⟩)) rfl f4y f4y f4y (fun _ _ _ h=>h) (Or.inl ⟨by rfl,?_⟩) ?_
   ·exact M9h
   try simp only[Act.put,sa9,sb9,sc9]
   refine wpAny_take (i:=3) (oi:=⟨some 43,_,_,_,_,_⟩) (v:=.int .i64 (f:Int)) rfl f4y f4y f4y (fun _ _ _ h=>h) (Or.inl ⟨by rfl,?_⟩) ?_
   ·exact M9h
   try simp only[Act.put,sa9,sb9,sc9]
   refine wpAny_take (i:=4) (oi:=⟨some 44,_,_,_,_,_⟩) (v:=.pointer (some ⟨L,0,none⟩)) rfl f4y f4y f4y (fun _ _ _ h=>h) (Or.inl ⟨by rfl,?_⟩) ?_
   ·exact M9h
   try simp only[Act.put,sa9,sb9,sc9]
   refine wpAny_take (i:=5) (oi:=⟨some 45,_,_,_,_,_⟩) (v:=.pointer (some ⟨L,0,none⟩)) rfl f4y f4y f4y (fun _ _ _ h=>h) (Or.inl ⟨by rfl,?_⟩) ?_
   ·exact M9h
   try simp only[Act.put,sa9,sb9,sc9]
   refine wpAny_take (i:=6) (oi:=⟨some 46,_,_,_,_,_⟩) (v:=.pointer (some ⟨L,f,none⟩)) rfl f4y f4y f4y (fun _ _ _ h=>h) (Or.inl ⟨by rfl,?_⟩) ?_
   ·exact M9h
   try simp only[Act.put,sa9,sb9,sc9]
   refine wpAny_take (i:=11) (oi:=⟨some 51,_,_,_,_,_⟩) (v:=.pointer (some ⟨L,0,none⟩)) rfl f4y f4y f4y (fun _ _ _ h=>h) (Or.inl ⟨by rfl,?_⟩) ?_
   ·exact M9h
   try simp only[Act.put,sa9,sb9,sc9]
   refine wpAny_take (i:=12) (oi:=⟨some 52,_,_,_,_,_⟩) (v:=.pointer (some ⟨L,0,none⟩)) rfl f4y f4y f4y (fun _ _ _ h=>h) (Or.inl ⟨by rfl,?_⟩) ?_
   ·exact M9h
   try simp only[Act.put,sa9,sb9,sc9]
   refine wpAny_ready (rs:=[7,8]) f4y (by simp) ?_;refine AllReady.cons (o:=⟨some 47,_,_,_,_,_⟩) rfl (fun K hK=>?sa) (AllReady.cons (o:=⟨some 48,_,_,_,_,_⟩) rfl (fun K hK=>?sb) AllReady.nil)
   case' sa =>
    go_simp;refine hK _ _ ?_;clear hK K
    try simp only[Act.put,sa9,sb9,sc9]
    refine wpAny_ready (rs:=[8]) f4y (by simp) ?_;refine AllReady.cons (o:=⟨some 48,_,_,_,_,_⟩) rfl (fun K hK=>?_) AllReady.nil;go_simp;refine hK _ _ ?_;clear hK K
    try simp only[Act.put,sa9,sb9,sc9]
    refine wpAny_ready (rs:=[9]) f4y (by simp) ?_;refine AllReady.cons (o:=⟨some 49,_,_,_,_,_⟩) rfl (fun K hK=>?_) AllReady.nil;go_simp;refine hK _ _ ?_;clear hK K
    try simp only[Act.put,sa9,sb9,sc9]
   case' sb =>
    go_simp;refine hK _ _ ?_;clear hK K
    try simp only[Act.put,sa9,sb9,sc9]
    refine wpAny_ready (rs:=[7,9]) f4y (by simp) ?_;refine AllReady.cons (o:=⟨some 47,_,_,_,_,_⟩) rfl (fun K hK=>?sc) (AllReady.cons (o:=⟨some 49,_,_,_,_,_⟩) rfl (fun K hK=>?sd) AllReady.nil)
   case' sc =>
    go_simp;refine hK _ _ ?_;clear hK K
    try simp only[Act.put,sa9,sb9,sc9]
    refine wpAny_ready (rs:=[9]) f4y (by simp) ?_;refine AllReady.cons (o:=⟨some 49,_,_,_,_,_⟩) rfl (fun K hK=>?_) AllReady.nil;go_simp;refine hK _ _ ?_;clear hK K
    try simp only[Act.put,sa9,sb9,sc9]
   case' sd =>
    go_simp;refine hK _ _ ?_;clear hK K
    try simp only[Act.put,sa9,sb9,sc9]
    refine wpAny_ready (rs:=[7]) f4y (by simp) ?_;refine AllReady.cons (o:=⟨some 47,_,_,_,_,_⟩) rfl (fun K hK=>?_) AllReady.nil;go_simp;refine hK _ _ ?_;clear hK K
    try simp only[Act.put,sa9,sb9,sc9]
   all_goals
    refine wpAny_ready (rs:=[10]) f4y (by simp) ?_;refine AllReady.cons (o:=⟨some 50,_,_,_,_,_⟩) rfl (fun K hK=>?_) AllReady.nil;refine step_append_lies _ (by rfl) _ _ _ (by rfl) B 264 i9 _ 3 24 underlying252 hi0 hz0 hz1 hz2 rfl f6J (vs f) (fs f).length (x1R (fs f)) (by rfl) hrow ⟨wd.heap.size,0,none⟩ 1 1 [.int .i64 lo,.int .i64 hi,.int .i64 st] (by rfl) (by rfl) hnews (by simp[Value.oneCell']) f6J (by unfold maxLen;exact f6J) f6J (V hBE) (wd.heap.size+1) (V hH) ?_;intro gg cap w8 hrow8 hgrow hat _;refine hK _ _ ?_;clear hK K
    try simp only[Act.put,sa9,sb9,sc9]
    have hLG:=V HM (wd.alloc (.cells #[.int .i64 lo,.int .i64 hi,.int .i64 st] 264)).drew w8 gg cap (V hkept) (V hbe).size hgrow (by rw[V hH];exact hat) hrow8;have hb8:Below B w w8:=((V hbe).mono hBw).grown hgrow (V hBE) (fun k hk=>(V hown k hk).2);have hb9:=x0b (j:=f) hb8 hBL (.slice (some ⟨gg,0,none⟩) ((fs f).length+1) cap);obtain⟨cur,q1,q2,_,_⟩:=V hLc;have q8:w8.heap[L]?=_:=(hgrow.block L (V hLE) hLne).trans q1;have c8:=cell_of (j:=f) q8 f6J;have z8:=x0d (j:=f) q8;have HF:=O (V HT _ ⟨_,hLG⟩ hb9);clear hLG hb8 hb9 q8 q1 hrow8 hgrow hat;refine wpAny_take (i:=13) (oi:=⟨some 53,_,_,_,_,_⟩) (v:=.pointer (some ⟨L,f,none⟩)) rfl f4y f4y f4y (fun _ _ _ h=>h) (Or.inl ⟨by rfl,?_⟩) ?_
    ·exact M9h
    try simp only[Act.put,sa9,sb9,sc9]
    refine wpAny_ready (rs:=[14]) f4y (by simp) ?_;refine AllReady.cons (o:=⟨none,_,_,_,_,_⟩) rfl (fun K hK=>?_) AllReady.nil;go_simp;refine hK _ _ ?_;clear hK K
    try simp only[Act.put,sa9,sb9,sc9]
    refine wpAny_done f4y ?_ _;clear HM HT yd ye ye2 r0 r1 r2 hrow hnews;go_wp2;exact V HF
open Go.Lib (minS maxS run_min_strs run_max_strs)
theorem z4O{a b:ByteArray}(h:a.data.toList=b.data.toList):a=b:=by
 cases a;cases b;simp_all
theorem kp_two a b:(minS a b=a/\maxS a b=b)\/(minS a b=b/\maxS a b=a):=by
 unfold minS maxS;by_cases h:a.data.toList<b.data.toList
 ·grind
 ·by_cases D:a.data.toList=b.data.toList
  ·rw[if_pos (.inr D),if_neg h];exact .inl ⟨rfl,z4O D⟩
  ·grind
theorem z7e a b:minS a b=minS b a/\maxS a b=maxS b a:=by
 unfold minS maxS;by_cases h:a.data.toList<b.data.toList
 ·grind
 ·by_cases D:a.data.toList=b.data.toList
  ·obtain rfl:=z4O D;exact g9S
  ·have J:b.data.toList<a.data.toList:=by
    rcases Std.le_total (a:=a.data.toList) (b:=b.data.toList)with hh | hh
    ·grind
    ·grind
   rw[if_neg (fun e=>e.elim h D),if_neg h,if_pos (.inl J),if_pos J];exact g9S
theorem z5e a b a' b':(minS a b=minS a' b'/\maxS a b=maxS a' b')↔((a=a'/\b=b')\/(a=b'/\b=a')):=by
 constructor
 ·rintro⟨Z,D⟩;rcases kp_two a b with⟨x,y⟩ | ⟨x,y⟩<;>rcases kp_two a' b' with⟨E,A⟩ | ⟨E,A⟩<;>rw[x,E]at Z<;>rw[y,A]at D
  ·exact .inl ⟨Z,D⟩
  ·exact .inr ⟨Z,D⟩
  ·exact .inr ⟨D,Z⟩
  ·exact .inl ⟨D,Z⟩
 ·rintro(⟨rfl,rfl⟩ | ⟨rfl,rfl⟩)
  ·exact g9S
  ·exact z7e a b
def TwM(w:World)(B L rr:Nat)(fs:Nat->List Run)(c:ByteArray->ByteArray->Int)(a b:ByteArray)(e:Ending)(w':World):Prop:=e=.returned (.bool (decide (0<c (minS a b) (maxS a b))))/\(∃vs',LG w' B L rr vs' fs (incr c (minS a b) (maxS a b)))/\Below B w w'
theorem z5t{a b}(g:Sh a)(Y:Sh b):Sh (minS a b)/\Sh (maxS a b):=by
 rcases kp_two a b with⟨x,y⟩ | ⟨x,y⟩<;>rw[x,y]
 ·exact⟨g,Y⟩
 ·exact⟨Y,g⟩
theorem y1Q r vt w B L rr(T:Nat->Value)(N:Nat->List Run)(c:ByteArray->ByteArray->Int)
  (A:LG w B L rr T N c) (F:B<=w.heap.size) (X:r.kind=15) (g:Sh r.name) (Y:Sh r.other) (I:∀x y,0<=c x y/\c x y<=100000):Calls prog 180 #[.pointer (some ⟨L,0,none⟩),recV r vt] w (TwM w B L rr N c r.name r.other):=by
 unfold recV;rw[X];obtain⟨R,S⟩:=z5t g Y;generalize r.n=n;generalize r.lo=lo;generalize r.hi=hi;generalize r.name=nm,r.other=M at *;generalize r.wt=J;have f:Bw w (w.alloc (.cells #[.int .i64 15,.int .i64 lo,.int .i64 hi,.int .i64 n,vt,.string nm,.string M,.float .f64 J] 60)):=(b0r).alloc (l0r _) _;have D:=A.on f;have K:=O (y9R L rr (minS nm M) (maxS nm M) c _ D.mcell D.lr D.map R S (I _ _));have C:Hid (∀W,MAt W rr (incr c (minS nm M) (maxS nm M))->But rr (w.alloc (.cells #[.int .i64 15,.int .i64 lo,.int .i64 hi,.int .i64 n,vt,.string nm,.string M,.float .f64 J] 60)) W->TwM w B L rr N c nm M (.returned (.bool (decide (0<c (minS nm M) (maxS nm M))))) W):=fun W m b=>⟨rfl,⟨T,D.mixed m b⟩,(f.mono F).trans (b.below B A.br)⟩;have Z:=fun W G t=>run_min_strs (P:=prog) W G t nm M;have E:=fun W G t=>run_max_strs (P:=prog) W G t nm M;go_enter func180,ntmps180;go_wp2_with fail;refine(V K).mono ?_;rintro e Q ⟨rfl,u,b1⟩;have U:=O (V C Q u b1);go_wp2;go_ret;exact V U
open Go.Lib (minS maxS)
def ledF(l:List Rec)(f:Nat):List Run:=(l.filter fun r=>decide (r.kind≠15/\Cn.fam r.kind=(f:Int))).map runR
def ledC:List Rec->ByteArray->ByteArray->Int
 | [],_,_=>0
 | r::l,a,b=>(if r.kind=15/\minS r.name r.other=a/\maxS r.name r.other=b then 1 else 0)+ledC l a b
theorem x9A(r:Rec)(a b:ByteArray):∀l:List Rec,ledC (l++[r]) a b=ledC l a b+(if r.kind=15/\minS r.name r.other=a/\maxS r.name r.other=b then 1 else 0)
 | []=>by simp[ledC]
 | x::l=>by simp only[List.cons_append,ledC,x9A r a b l];exact f6J
theorem x4R(a b:ByteArray):∀l:List Rec,0<=ledC l a b/\ledC l a b<=l.length
 | []=>by simp[ledC]
 | x::l=>by
  have:=x4R a b l;simp only[ledC,List.length_cons];exact G7n
theorem y4q(a b:ByteArray):∀l:List Rec,0<ledC l a b↔∃k∈l,k.kind=15/\minS k.name k.other=a/\maxS k.name k.other=b
 | []=>by simp[ledC]
 | x::l=>by
  have R:=x4R a b l;have B:=y4q a b l;simp only[ledC];by_cases A:x.kind=15/\minS x.name x.other=a/\maxS x.name x.other=b
  ·rw[if_pos A];exact⟨fun _=>⟨x,M7L,A⟩,fun _=>f6J⟩
  ·rw[if_neg A,Int.zero_add,B];constructor
   ·rintro⟨k,hk,h⟩;exact⟨k,List.mem_cons_of_mem _ hk,h⟩
   ·rintro⟨k,hk,h⟩;rcases List.mem_cons.1 hk with rfl | hk
    ·exact absurd h A
    ·exact⟨k,hk,h⟩
theorem y4r l r f:ledF (l++[r]) f=ledF l f++(if r.kind≠15/\Cn.fam r.kind=(f:Int)then[runR r]else[]):=by
 unfold ledF;rw[List.filter_append,List.map_append];congr 1;by_cases h:r.kind≠15/\Cn.fam r.kind=(f:Int)
 ·grind
 ·grind
theorem z3u l f:(ledF l f).length<=l.length:=by
 unfold ledF;rw[List.length_map];exact List.length_filter_le _ _
theorem z3v{l r}(h:r.kind=15):ledF (l++[r])=ledF l:=by
 funext f;rw[y4r,if_neg (fun a=>a.1 h),List.append_nil]
theorem z3s{l r}(h:r.kind=15):ledC (l++[r])=incr (ledC l) (minS r.name r.other) (maxS r.name r.other):=by
 funext a b;rw[x9A];unfold incr;by_cases e:a=minS r.name r.other/\b=maxS r.name r.other
 ·grind
 ·grind
theorem z3w{l r}{f:Nat}(h:r.kind≠15)(z:Cn.fam r.kind=(f:Int)):ledF (l++[r])=upd (ledF l) f (ledF l f++[runR r]):=by
 funext g;rw[y4r];by_cases e:g=f
 ·subst e;rw[upd_same,if_pos ⟨h,z⟩]
 ·rw[x1t _ _ e,if_neg (fun a=>e f6J),List.append_nil]
theorem z3t{l r}(h:r.kind≠15):ledC (l++[r])=ledC l:=by
 funext a b;rw[x9A,if_neg (fun x=>h x.1),Int.add_zero]
theorem z5L{l r}(h:r.kind=15):decide (0<ledC l (minS r.name r.other) (maxS r.name r.other))=l.any fun k=>Cn.clash k r:=by
 rw[Bool.eq_iff_iff,decide_eq_true_eq,y4q,List.any_eq_true];constructor
 ·rintro⟨k,G,Z,D,J⟩;refine⟨k,G,?_⟩;unfold Cn.clash;rw[if_neg (by rw[h,Z];exact M7L),if_pos Z];exact d0t ((z5e _ _ _ _).1 ⟨D,J⟩)
 ·rintro⟨k,G,I⟩;unfold Cn.clash at I;split at I
  ·cases I
  ·next hf =>
   have Z:k.kind=15:=Cn.x9k (by have:=Decidable.not_not.1 hf;rw[this,h];exact e8M);rw[if_pos Z]at I;obtain⟨D,J⟩:=(z5e _ _ _ _).2 (o0d I);exact⟨k,G,Z,D,J⟩
theorem z5N{l r}{f:Nat}(S:∀k∈l,Cn.right k=0)(hr:Cn.right r=0)(h:r.kind≠15)(z:Cn.fam r.kind=(f:Int)):((ledF l f).any fun y=>(runR r).meets y)=l.any fun k=>Cn.clash k r:=by
 rw[Bool.eq_iff_iff,List.any_eq_true,List.any_eq_true];unfold ledF;constructor
 ·rintro⟨y,hy,o⟩;obtain⟨k,G,rfl⟩:=List.mem_map.1 hy;rw[List.mem_filter,decide_eq_true_eq]at G;refine⟨k,G.1,?_⟩;rw[x6w (S k G.1) hr (G.2.2.trans z.symm) G.2.1 h];exact o
 ·rintro⟨k,G,I⟩
  have D:Cn.fam k.kind=Cn.fam r.kind:=by
   unfold Cn.clash at I;split at I
   ·cases I
   ·omega
  have M:k.kind≠15:=fun e=>h (Cn.x9k (by rw[<- D,e];exact e8M));rw[x6w (S k G) hr D M h]at I;exact⟨runR k,List.mem_map.2 ⟨k,List.mem_filter.2 ⟨G,d0t ⟨M,D.trans z⟩⟩,rfl⟩,I⟩
theorem z7i{l}(S:∀k∈l,Cn.right k=0){f}:∀y∈ledF l f,y.ok:=by
 intro y hy;unfold ledF at hy;obtain⟨k,G,rfl⟩:=List.mem_map.1 hy;rw[List.mem_filter,decide_eq_true_eq]at G;exact y0a (S k G.1) G.2.1
theorem y9Q{r}(h:Cn.right r=0)(X:r.kind=15):Sh r.name/\Sh r.other:=by
 have F:∀s:ByteArray,Cn.nameL s=true->Sh s:=fun s L=>by
  unfold Cn.nameL at L;split at L
  ·next a b c d e =>
   have:(s.data.toList.map (·.toNat)).length=4:=(by rw[e];rfl);rw[List.length_map]at this;have D:s.size=4:=f0h;unfold Sh;omega
  ·cases L
 have z:=Cn.x0x h;unfold Cn.right at h;rw[if_neg z,if_pos X]at h;have I:=Cn.x1v h;exact⟨F _ I.2.2.2.1,F _ I.2.2.2.2.1⟩
def TwA(w:World)(B L rr:Nat)(l:List Rec)(r:Rec)(e:Ending)(w':World):Prop:=e=.returned (.bool (l.any fun k=>Cn.clash k r))/\(∃vs',LG w' B L rr vs' (ledF (l++[r])) (ledC (l++[r])))/\Below B w w'
theorem z1v r vt w B L rr(vs:Nat->Value) l(hg:Glob w)(hlg:LG w B L rr vs (ledF l) (ledC l))(hBw:B<=w.heap.size)(hfit:RecFit r)(hl:∀k∈l,Cn.right k=0)(hr:Cn.right r=0)(hlen:l.length<=5000) :
  Calls prog 180 #[.pointer (some ⟨L,0,none⟩),recV r vt] w (TwA w B L rr l r):=by
 by_cases h15:r.kind=15
 ·obtain⟨s1,s2⟩:=y9Q hr h15;refine(y1Q r vt w B L rr vs _ _ hlg hBw h15 s1 s2 (fun x y=>by have:=x4R x y l;exact f6J)).mono ?_;rintro e w' ⟨rfl,h2,h3⟩;exact⟨by rw[z5L h15],by rw[z3v h15,z3s h15];exact h2,h3⟩
 ·obtain⟨f,hf⟩:∃f:Nat,Cn.fam r.kind=(f:Int):=⟨(Cn.fam r.kind).toNat,V3Y⟩;have hf11:f<11:=V3Y;have hflen:(ledF l f).length<100000:=by have:=z3u l f;omega
  have key : ∀ (T fp : Nat), shape r.kind = .iface T (.agg #[.int .i64 r.kind]) → (∀ W, (method 502 T (.agg #[.int .i64 r.kind]) "endonym/table.spoken").run Tryz.prog W = .ok (fp, .agg #[.int .i64 r.kind]) W) → (∀ args W, (callFunc fp args).run Tryz.prog W = .ok (.enter fp args) W) → (∀ W, Calls Tryz.prog fp #[shV r.kind, recV r vt] W (fun e w' => e = .returned (runV r.lo r.hi (stepP r)) ∧ Below W.heap.size W w')) → Calls Tryz.prog 180 #[.pointer (some ⟨L, 0, none⟩), recV r vt] w (TwA w B L rr l r) := by
   intro T fp es hm eg KP;refine(y6Z T fp r vt w B L rr f vs _ _ hlg hBw hf11 hflen h15 (y0a hr h15) (z7i hl) (fun W h=>hf ▸ x1g r.kind W (hg.on h) hfit.kind) (fun W=>es ▸ x1m r.kind W hfit.kind) hm eg KP).mono ?_;rintro e w' ⟨rfl,h2,h3⟩;exact⟨by rw[z5N hl hr h15 hf],by rw[z3w h15 hf,z3t h15];exact h2,h3⟩
  by_cases h4:r.kind=4
  ·refine key 320 349 (by unfold shape shV;rw[if_pos h4]) (x3s _) x8q (fun W=>?_);have:=x5h r.kind r vt W rfl;unfold spokenF at this;rwa [if_pos h4]at this
  ·have hsp:∀W,Calls prog 338 #[shV r.kind,recV r vt] W (fun e w'=>e=.returned (runV r.lo r.hi (stepP r))/\Bw W w'):=fun W=>by
    have:=x5h r.kind r vt W rfl;unfold spokenF at this;rwa [if_neg h4]at this
   by_cases h5:r.kind=5\/r.kind=7\/r.kind=8\/r.kind=13
   ·exact key 321 338 (by unfold shape shV;rw[if_neg h4,if_pos h5]) (x4l _) x4e hsp
   ·exact key 318 338 (by unfold shape shV;rw[if_neg h4,if_neg h5,if_neg h15]) (x3t _) x4e hsp
def idxT(rs:List Rec)(k:Nat):Int:=match Cn.x1x rs k (rs.drop k)with
 | some i=>(i:Int)
 | Option.none=>-1
theorem z6V{rs k}(G:k<rs.length)(h:((rs.take k).any fun j=>Cn.clash j (rs.getD k Cn.none))=true):idxT rs k=(k:Int):=by
 have e:rs.getD k Cn.none=rs[k]:=(by grind);rw[e]at h;unfold idxT;rw[List.drop_eq_getElem_cons G,Cn.x1x,if_pos h]
theorem z3j{rs k}(G:k<rs.length)(h:((rs.take k).any fun j=>Cn.clash j (rs.getD k Cn.none))=false):idxT rs k=idxT rs (k+1):=by
 have e:rs.getD k Cn.none=rs[k]:=(by grind);rw[e]at h;unfold idxT;rw[List.drop_eq_getElem_cons G,Cn.x1x,if_neg s8h]
theorem z6U rs:idxT rs rs.length=-1:=by
 unfold idxT;rw[List.drop_length,Cn.x1x]
theorem z1r{rs:List Rec}{k}(G:k<rs.length):rs.take k++[rs.getD k Cn.none]=rs.take (k+1):=f0h
theorem y0J:∀args w,(callFunc 180 args).run prog w=.ok (.enter 180 args) w:=f0h
def TIn(w0:World)(L rr:Nat)(rs:List Rec)(k:Nat)(W:World):Prop:=(∃vs,LG W w0.heap.size L rr vs (ledF (rs.take k)) (ledC (rs.take k)))/\Below w0.heap.size w0 W
theorem x7Q L rr v rs w0 w(hg:Glob w0)(N:Rcs w0 v rs)(hr:∀r∈rs,Cn.right r=0)(d:rs.length<=4096)(B:TIn w0 L rr rs 0 w) :
  Calls prog 179 #[v,.func (.func 180) #[.pointer (some ⟨L,0,none⟩)] #[]] w (fun e w'=>e=.returned (.int .i64 (idxT rs 0))/\Bw w0 w'):=by
 have m:=y0J;have ab:=O B
 have Q:Hid (∀(k:Nat) (t:Value) (W:World),k<rs.length->TIn w0 L rr rs k W->Calls prog 180 #[.pointer (some ⟨L,0,none⟩),recV (rs.getD k Cn.none) t] W (fun e w'=>e=.returned (.bool ((rs.take k).any fun j=>Cn.clash j (rs.getD k Cn.none)))/\TIn w0 L rr rs (k+1) w')):=fun k t W G o=>by
  obtain⟨⟨vs,ae⟩,Y⟩:=o;refine(z1v (rs.getD k Cn.none) t W w0.heap.size L rr vs (rs.take k) (hg.on Y) ae Y.size (N.fit G) (fun j X=>hr j (List.mem_of_mem_take X)) (hr _ w8c) P8P).mono ?_;rintro e w' ⟨Z,D,J⟩;rw[z1r G]at D;exact⟨Z,D,Y.trans J⟩
 have C:Hid (∀W k,TIn w0 L rr rs k W->Rcs W v rs):=fun W k h=>N.below h.2;have x:Hid (∀W k,TIn w0 L rr rs k W->Bw w0 W):=fun W k h=>h.2;obtain⟨ao,M,rfl,Z,D⟩:=N.shape;generalize hq:idxT rs 0=z at *;have a:=O hq.symm;go_enter func179,ntmps179;go_wp2;go_loopw[5,8] (fun _ i wr=>∃k:Nat,i=.int .i64 k/\k<=rs.length/\z=idxT rs k/\TIn w0 L rr rs k wr) (fun _ i _=>rs.length-(intOf i).toNat)
 case atStart=>exact⟨0,rfl,f6J,V a,V ab⟩
 case round =>
  obtain⟨k,rfl,G,T,o⟩:=hrel;by_cases E:k<rs.length
  ·have H:=V C wr k o;obtain⟨b,P,A,q,l,af,I⟩:=H.place f6J;obtain⟨rfl,rfl⟩:ao=some ⟨b,P,none⟩/\M=A:=W3O;obtain⟨g,S,p,K,⟨t,x4,s⟩,x5,u,x7⟩:=I k E;have R:=O (V Q k t wr E o);have HH:Hid (((rs.take k).any fun j=>Cn.clash j (rs.getD k Cn.none))=true->z=(k:Int)):=fun h=>T.trans (z6V E h);have f:Hid (((rs.take k).any fun j=>Cn.clash j (rs.getD k Cn.none))=false->z=idxT rs (k+1)):=fun h=>T.trans (z3j E h);obtain⟨tp,tc,rfl,_,_⟩:=s.shape;clear T o I q s Q H C;unfold recV at R;generalize((rs.take k).any fun j=>Cn.clash j (rs.getD k Cn.none))=y at R HH f;generalize(rs.getD k Cn.none).kind=kd,(rs.getD k Cn.none).lo=lo,(rs.getD k Cn.none).hi=hi,(rs.getD k Cn.none).n=n at *;generalize(rs.getD k Cn.none).name=nm,(rs.getD k Cn.none).other=ot,(rs.getD k Cn.none).wt=wt,(rs.getD k Cn.none).to.length=tl at *
   cases y with
   | true =>
    obtain rfl:=V HH rfl;go_wp2_with(go_at_fn 180;refine(V R).mono ?_;rintro e w1 ⟨rfl,F⟩);have U:=O (V x w1 _ F);go_ret;exact⟨rfl,V U⟩
   | false =>
    have c:=O (V f rfl);go_wp2_with(go_at_fn 180;refine(V R).mono ?_;rintro e w1 ⟨rfl,F⟩);have U:=O F;go_round
    case rel=>exact s4Q
    case measure=>exact g7W
  ·obtain rfl:k=rs.length:=f6J;obtain rfl:=T.trans (z6U rs);have U:=O o.2;go_wp2;go_ret;exact⟨rfl,V U⟩
theorem z3B w:(Instr.makeMap 251 none).run prog w=.ok (.map (some w.heap.size)) (w.alloc (.map #[] 0)):=f4x
def x6S(r:Nat):Array Value:=#[.slice none 0 0,.slice none 0 0,.slice none 0 0,.slice none 0 0,.slice none 0 0,.slice none 0 0,.slice none 0 0,.slice none 0 0,.slice none 0 0,.slice none 0 0,.slice none 0 0,.map (some r)]
theorem z7j(w:World):LG ((w.alloc (.map #[] 0)).alloc (.cells (x6S w.heap.size) 255)) w.heap.size (w.heap.size+1) w.heap.size (fun _=>.slice none 0 0) (ledF []) (ledC []):=by
 have Z:((w.alloc (.map #[] 0)).alloc (.cells (x6S w.heap.size) 255)).heap[w.heap.size+1]?=some (.cells (x6S w.heap.size) 255 (0,0)):=N6l
 have D:((w.alloc (.map #[] 0)).alloc (.cells (x6S w.heap.size) 255)).heap[w.heap.size]?=some (.map #[] 0):=by
  show((w.heap.push _).push _)[w.heap.size]?=_;rw[Array.getElem?_push_lt M7L];simp
 refine⟨f6J,l0r _,f6J,⟨x6S w.heap.size,Z,rfl,fun f z=>?_,rfl⟩,⟨#[],0,D,⟨MapKept.stamped_empty 0,fun x A=>by simp at A,fun a b _=>rfl⟩⟩,fun f _=>⟨by simp[ledF],World.ownsRow_nil _ _ _ _⟩,fun f _ k G=>g6B,fun f g _ _ _ k G=>g6B⟩;obtain rfl | rfl | rfl | rfl | rfl | rfl | rfl | rfl | rfl | rfl | rfl:f=0\/f=1\/f=2\/f=3\/f=4\/f=5\/f=6\/f=7\/f=8\/f=9\/f=10:=f6J
 all_goals rfl
def firstT(rs:List Rec):Nat×Int:=match Cn.x1x rs 0 rs with | some i=>(i,62) | Option.none=>(0,0)
theorem x7N v rs w(C:Glob w)(N:Rcs w v rs)(hr:∀r∈rs,Cn.right r=0)(d:rs.length<=4096):Calls prog 134 #[v] w (y3B w (firstT rs)):=by
 have s:=z3B;have f:=x2F w (.map #[] 0) (.cells (x6S w.heap.size) 255);have K:=O (x7Q (w.heap.size+1) w.heap.size v rs w _ C N hr d ⟨⟨_,z7j w⟩,f⟩)
 have L:Hid (idxT rs 0=match Cn.x1x rs 0 rs with | some i=>(i:Int) | Option.none=>-1):=by
  show idxT rs 0=_;unfold idxT;exact s4M
 obtain⟨B,M,rfl,Z,D⟩:=N.shape;unfold firstT;generalize idxT rs 0=z at *;unfold x6S at *
 cases ht:Cn.x1x rs 0 rs with
 | some i =>
  rw[ht]at L;obtain rfl:z=(i:Int):=V L;exact p1p
 | none =>
  rw[ht]at L;obtain rfl:z=-1:=V L;exact p1p
def z8C:Prop:=∀(v:Value) (rs:List Rec) (w:World),Glob w->Rcs w v rs->Calls prog 90 #[v] w (y3B w (Cn.check6 rs))
theorem y0v rs:Cn.check6 rs=if(firstW rs).2≠0 then firstW rs else firstT rs:=by
 unfold Cn.check6 firstW firstT;split
 ·rfl
 ·cases h:Cn.x0X 0 rs with
  | some x=>simp only;rw[if_pos (Cn.x2g _ _ _ h)]
  | none=>grind
theorem y0N{rs}(h:(firstW rs).2=0):(∀r∈rs,Cn.right r=0)/\rs.length<=4096:=by
 unfold firstW at h;split at h
 ·exact absurd h e8N
 ·next hl =>
  cases e:Cn.x0X 0 rs with
  | some x=>rw[e]at h;exact absurd h (Cn.x2g _ _ _ e)
  | none=>exact⟨Cn.x5a _ _ e,f6J⟩
theorem y7X:z8C:=by
 intro v rs w C N;have i:=O (x7O v rs w C N);have j:Hid ((firstW rs).2=0->∀W,Bw w W->Calls prog 134 #[v] W (y3B W (firstT rs))):=fun h W Y=>x7N v rs W (C.on Y) (N.below Y) (y0N h).1 (y0N h).2;rw[y0v];obtain⟨B,M,rfl,Z,D⟩:=N.shape;generalize firstW rs=x,firstT rs=y at *;obtain⟨E,A⟩:=x;obtain⟨I,G⟩:=y;by_cases q:A=0
 ·subst q;rw[if_neg M7K];go_enter func90,ntmps90;go_wp2_with fail;refine c0m i fun Q F=>?_;have J:=O (V j trivial Q F);go_wp2_with fail;refine c0m J fun t H=>?_;have U:=O (bthen F H);go_wp2;go_ret2;exact⟨rfl,V U⟩
 ·rw[if_pos W3N];have u:(A != 0)=true:=n9f;have g:(A==0)=false:=b0f q;go_enter func90,ntmps90;go_wp2_with fail;refine c0m i fun Q F=>?_;go_wp2;go_ret2;exact⟨rfl,F⟩
