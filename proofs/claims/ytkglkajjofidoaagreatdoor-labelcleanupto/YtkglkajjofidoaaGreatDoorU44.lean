/- Oh12 Oi12 Op12 Oj12 Ok12 Ol12 -/
import Derived.Test.YtkglkajjofidoaaGreatDoorU22
set_option maxHeartbeats 4000000
set_option maxRecDepth 8000
namespace Go.Proofs.YtkglkajjofidoaaGreatDoor
open Go.RowKit
open Ti
namespace Od
def Blk (w:World) (g:Nat) (t:TypeId) (vs:List Value):Prop:=w.heap[g]?=some (.cells vs.toArray t (0,0))
theorem Blk.lt {w:World} {g t:Nat} {vs:List Value} (h:Blk w g t vs):g<w.heap.size:=(Array.getElem?_eq_some_iff.1 h).1
theorem Blk.cell {w:World} {g t:Nat} {vs:List Value} (h:Blk w g t vs) {i:Nat} {v:Value} (hv:vs[i]?=some v):w.cell? ⟨g,i,none⟩=some v:=by
 rw [cell_of_row _ _ _ _ _ _ h]; simpa using hv
theorem Blk.frozen {w:World} {g t:Nat} {vs:List Value} (h:Blk w g t vs) (i:Nat):w.frozen? ⟨g,i,none⟩=false:=frozen_of_row _ _ _ _ _ h
theorem Blk.set {w:World} {g t:Nat} {vs:List Value} (h:Blk w g t vs) (i:Nat) (v:Value):Blk (w.setCell ⟨g,i,none⟩ v) g t (vs.set i v):=by
 unfold Blk at h ⊢;rw [heap_setCell_same w g i _ _ _ h];simp
theorem Blk.other {w:World} {g t:Nat} {vs:List Value} (h:Blk w g t vs) {a:Addr} (ah:g≠a.block) (v:Value):Blk (w.setCell a v) g t vs:=by
 unfold Blk at h ⊢;rw [heap_setCell_other w a g v ah]; exact h
theorem Blk.new (w:World) (t:Nat) (vs:List Value) (C:Array Value) (hC:C=vs.toArray):Blk (w.alloc (.cells C t)) w.heap.size t vs:=by
 subst hC;exact heap_alloc_last w _
theorem Blk.alloc {w:World} {g t:Nat} {vs:List Value} (h:Blk w g t vs) (o:Obj):Blk (w.alloc o) g t vs:=by
 have hl:=h.lt;unfold Blk at h ⊢;rw [Below.heap_alloc w o g hl]; exact h
theorem Blk.below {w w':World} {g t n:Nat} {vs:List Value} (h:Blk w g t vs) (hb:Below n w w') (hn:g<n):Blk w' g t vs:=by
 unfold Blk at h ⊢;rw [hb.block g hn]; exact h
theorem Blk.range {w:World} {g t:Nat} {vs:List Value} (h:Blk w g t vs) (o:Nat):w.rangeAt g o (vs.drop o):=fun j v hv=>h.cell (by rw [List.getElem?_drop] at hv; exact hv)
theorem Blk.there {w:World} {g t:Nat} {vs:List Value} (h:Blk w g t vs) {o n:Nat} (hn:o+n≤vs.length):w.there g o n:=fun j hj=>by
 refine ⟨?_,h.frozen _⟩;rw [h.cell (List.getElem?_eq_getElem (show o+j<vs.length by omega))]; rfl
theorem Blk.setCells {w:World} {g t:Nat}:∀ (us:List Value) {vs:List Value} (o:Nat),Blk w g t vs→o+us.length≤vs.length→Blk (w.setCells g o us) g t (vs.take o++us++vs.drop (o+us.length)):=by
 intro us
 induction us generalizing w with
 | nil=>intro vs o h _; simpa [World.setCells] using h
 | cons u us ih =>
  intro vs o h hl;rw [World.setCells];have:=ih (o+1) (h.set o u) (by rw [List.length_set]; simp at hl; omega)
  have e:(vs.set o u).take (o+1)++us++(vs.set o u).drop (o+1+us.length)=vs.take o++(u :: us)++vs.drop (o+(u :: us).length):=by
   simp only [List.length_cons] at hl
   have h1:(vs.set o u).take (o+1)=vs.take o++[u]:=by
    rw [List.take_add_one,List.take_set_of_le (Nat.le_refl _),List.getElem?_set_self (by omega)]; rfl
   rw [h1,List.drop_set_of_lt (by omega),List.length_cons,show o+1+us.length=o+(us.length+1) by omega];simp
  rw [e] at this;exact this
def ia (zs:List Int):List Value:=zs.map (Value.int .i64)
def z255:List Int:=List.replicate 255 0
theorem y3g {zs:List Int} {i:Nat} (hi:i<zs.length):(ia zs)[i]?=some (.int .i64 (zs.getD i 0)):=by
 unfold ia;rw [List.getElem?_map,List.getElem?_eq_getElem hi]; simp [List.getD,hi]
theorem y3h (zs:List Int) (i:Nat) (v:Int):(ia zs).set i (.int .i64 v)=ia (zs.set i v):=by unfold ia; rw [List.map_set]
theorem x2t (zs:List Int):(ia zs).length=zs.length:=List.length_map _
theorem y7e (zs:List Int):(ia zs).toArray.all (·.oneCell')=true:=all_oneCell_toArray (fun v hv=>by obtain ⟨z,_,rfl⟩:=List.mem_map.1 hv; rfl)
theorem x2o:(Tryz.prog.info? 220).map (·.size)=some 255:=by kernel_rfl
end Od
open Ti
namespace Od
def beg (cs:List Int):List Int:=(List.range 255).map fun i=>(cs.take i).sum
theorem x3h (cs:List Int):(beg cs).length=255:=by simp [beg]
theorem y6V (cs:List Int) {i:Nat} (hi:i<255):(beg cs).getD i 0=(cs.take i).sum:=by simp [beg,List.getD,hi]
theorem y7r (cs:List Int) (h:∀ c∈cs,0≤c∧c≤3000000):∀ k:Nat,0≤(cs.take k).sum∧(cs.take k).sum≤3000000 * (k:Int)
 | 0=>by simp
 | k+1=>by
  have ih:=y7r cs h k;rw [List.take_add_one,List.sum_append]
  cases hk:cs[k]? with
  | none=>simp; omega
  | some c =>
   have:=h c (List.mem_of_getElem? hk);simp; omega
theorem y0f {cs:List Int} {k:Nat} (hk:k<cs.length):(cs.take (k+1)).sum=(cs.take k).sum+cs.getD k 0:=by
 rw [List.take_add_one,List.sum_append,List.getElem?_eq_getElem hk]; simp [List.getD,hk]
theorem y9o:Tryz.zeroCells220=(ia z255).toArray:=by kernel_rfl
theorem x2T {a b:List Int} {n:Nat} (ha:a.length=n) (hb:b.length=n) (h:∀ j,j<n→a.getD j 0=b.getD j 0):a=b:=by
 apply List.ext_getElem (by omega);intro i h1 h2;have:=h i (by omega);simpa [List.getD,h1,h2] using this
theorem x7P (g:Nat) (mv:Value) (cs:List Int) (w:World) (hr:Blk w g 222 (mv :: ia cs)) (hl:cs.length=255) (hc:∀ c∈cs,0≤c∧c≤3000000):Calls Tryz.prog 239 #[.pointer (some ⟨g,0,none⟩)] w fun e w'=>e=.returned (.agg (ia (beg cs)).toArray)∧Below w.heap.size w w':=by
 obtain ⟨W1,ad⟩:∃ W1,w.alloc (.cells Tryz.zeroCells220 220)=W1:=⟨_,rfl⟩;obtain ⟨W2,ab⟩:∃ W2,W1.alloc (.cells Tryz.zeroCells220 220)=W2:=⟨_,rfl⟩;have aA:Below w.heap.size w W1:=(by rw [← ad]; exact (Below.refl _ _).alloc (Nat.le_refl _) _);have ax:W1.heap.size=w.heap.size+1:=(by rw [← ad]; simp);have af:Below w.heap.size w W2:=by rw [← ab]; exact aA.alloc (by omega) _
 have k1:Blk W2 w.heap.size 220 (ia z255):=by
  rw [← ab]; refine Blk.alloc ?_ _; rw [← ad]; exact Blk.new w _ _ _ y9o
 have k2:Blk W2 (w.heap.size+1) 220 (ia z255):=(by rw [← ab,← ax]; exact Blk.new W1 _ _ _ y9o);have bP:=hr.lt;have HR:=Hd hr;have HC:=Hd hc;have bi:Hid (∀ k,0≤(cs.take k).sum∧(cs.take k).sum≤3000000 * (k:Int)):=y7r cs hc;have bj:Hid (∀ k,k<255→(cs.take (k+1)).sum=(cs.take k).sum+cs.getD k 0):=fun k hk=>y0f (by omega);have bI:Hid ((cs.take 0).sum=0):=(by show _=_; simp);have bb:Hid (∀ zs:List Int,zs.length=255→(∀ j,j<255→zs.getD j 0=(cs.take j).sum)→zs=beg cs):=fun zs h1 h2=>x2T h1 (x3h cs) (fun j hj=>by rw [h2 j hj,y6V cs hj])
 have aR:Hid (∀ (W:World),Below w.heap.size w W→∀ k:Nat,k<255→W.cell? ⟨g,1+k,none⟩=some (.int .i64 (cs.getD k 0))):=fun W hW k hk=>by
  rw [hW.cell bP];refine hr.cell ?_;rw [Nat.add_comm,List.getElem?_cons_succ]; exact y3g (by omega)
 have ba:Hid (∀ k:Nat,k<255→0≤cs.getD k 0∧cs.getD k 0≤3000000):=fun k hk=>hc _ (by simp [List.getD,show k<cs.length by omega]);obtain ⟨g3,bO⟩:∃ g3,g3=w.heap.size+1:=⟨_,rfl⟩;obtain ⟨g2,br⟩:∃ g2,g2=w.heap.size:=⟨_,rfl⟩;have h23:g2≠g3:=(by omega);have bs:w.heap.size≤g2:=(by omega);have bt:w.heap.size≤g3:=(by omega);rw [← br] at k1;rw [← bO] at k2 ax;have K1:=Hd k1;have K2:=Hd k2;have bE:=Hd af;have hg2':=br.symm;have Z0:Hid (z255.length=255):=(by show _=_; simp [z255]);clear hr hc aA af k1 k2 br bO hl;go_enter Tryz.func239,Tryz.ntmps239;go_wp2;clear ad ab ax;go_loopw [4,5,6] (fun nn _ kk wr=>∃ (k:Nat) (zs:List Int),kk=.int .i64 k∧nn=.int .i64 (cs.take k).sum∧k≤255∧zs.length=255∧Blk wr g3 220 (ia zs)∧Blk wr g2 220 (ia z255)∧Below w.heap.size w wr∧∀ j,j<k→zs.getD j 0=(cs.take j).sum) (fun _ _ kk _=>255 - (intOf kk).toNat)
 case atStart=>exact ⟨0,z255,rfl,by rw [Uh bI],by omega,Uh Z0,Uh K2,Uh K1,Uh bE,fun j hj=>by omega⟩
 case round =>
  clear K1 K2 bE bI Z0;obtain ⟨k,zs,rfl,rfl,hk,bW,au,aD,hb,hall⟩:=hrel;have cG:=(Uh bi) k;by_cases hlt:k<255
  ·have bU:=(Uh bj) k hlt
   have cm:=(Uh aR) wr hb k hlt;obtain ⟨q0,q1⟩:=(Uh ba) k hlt;have hc3:=au.cell (y3g (zs:=zs) (i:=k) (by omega));have hf3:=au.frozen k;have az:Blk (wr.setCell ⟨g3,k,none⟩ (.int .i64 (cs.take k).sum)) g3 220 (ia (zs.set k (cs.take k).sum)):=(by rw [← y3h]; exact au.set k _);have ay:=aD.other (a:=⟨g3,k,none⟩) h23 (.int .i64 (cs.take k).sum);have af:=hb.setCell (p:=⟨g3,k,none⟩) bt (.int .i64 (cs.take k).sum);have bp:(wr.setCell ⟨g3,k,none⟩ (.int .i64 (cs.take k).sum)).cell? ⟨g,1+k,none⟩=some (.int .i64 (cs.getD k 0)):=(Uh aR) _ af k hlt
   have bl:Hid (∀ j,j<k+1→(zs.set k (cs.take k).sum).getD j 0=(cs.take j).sum):=by
    intro j hj;rw [x5d zs k j _ (by omega)];split
    ·rename_i e; rw [e]
    ·exact hall j (by omega)
   obtain ⟨W5,ci⟩:∃ W5,wr.setCell ⟨g3,k,none⟩ (.int .i64 (cs.take k).sum)=W5:=⟨_,rfl⟩;rw [ci] at az ay af bp;have cf:=Hd az;have ce:=Hd ay;have HB:=Hd af;have cc:=Hd bU;clear au aD hb hall az ay af cm bU bj aR ba bi bb;generalize zs.getD k 0=old at *;generalize hq:cs.getD k 0=q at *;generalize hs:(cs.take k).sum=s at *;have bv:(0:Int)≤(k:Int):=(by omega);have hin2:(k:Int)<255:=(by omega);go_wp2
   go_roundw
   case rel=>exact ⟨k+1,zs.set k s,by go_num,by rw [Uh cc],by omega,by simp [bW],Uh cf,Uh ce,Uh HB,Uh bl⟩
   case measure=>simp [intOf]; omega
  ·obtain rfl:k=255:=by omega
   have bz:=(Uh bb) zs bW hall;subst bz;clear hall aR ba bi bj bb cG;go_upto_region 9 with fail;refine wp_region_list ?_;have bA:=au.range 0;rw [List.drop_zero] at bA;refine wpList_load_mid (by rfl) 220 (.tmp 3) (by rfl) g3 0 (by rfl) (ia (beg cs)) _ bA Tryz.underlying220 (by rfl) (by rw [x2t,x3h]; exact x2o) ?_;have aj:wr.there g2 0 (ia (beg cs)).toArray.size:=aD.there (by simp [x2t,x3h,z255]);refine wpList_store_mid (by rfl) 220 (.tmp 2) (.tmp 21) (by rfl) g2 0 (ia (beg cs)).toArray (by rfl) (by rfl) aj (by rw [show (ia (beg cs)).toArray.size=255 by simp [x2t,x3h]]; exact x2o) (y7e _) ?_;have aQ:=World.rangeAt_setCells_same wr g2 0 (ia (beg cs)) (by simpa using aj);have ck:Below w.heap.size w (wr.setCells g2 0 (ia (beg cs))):=x0w bs _ _ _ hb;have cu:=run_loadVar_mid (P:=Tryz.prog) _ g2 0 220 (ia (beg cs)) _ aQ Tryz.underlying220 (by rfl) (by rw [x2t,x3h]; exact x2o);clear au aD aj bA aQ;generalize wr.setCells g2 0 (ia (beg cs))=wf at *;go_wp2;exact bodyPost_ret (v:=.agg (ia (beg cs)).toArray) (x1T rfl _ _ _ g2 _ (by rfl) cu) rfl ⟨rfl,ck⟩
end Od
namespace Od
def fl (k:Int→Int) (j:Int) (l:List Int):List Int:=l.filter fun m=>decide (k m=0∨k m=j)
def bkN (k:Int→Int) (ms:List Int) (n:Nat):List Int:=(List.range n).flatMap fun (c:Nat)=>ms.filter fun m=>decide (k m=(c:Int))
def bkt (k:Int→Int) (ms:List Int):List Int:=bkN k ms 255
def ordA (k:Int→Int):List Int→List Int→List Int
 | ms,[]=>bkt k ms
 | ms,c :: l=>if k c=0 then bkt k ms++c :: ordA k [] l else ordA k (ms++[c]) l
def ord (k:Int→Int) (xs:List Int):List Int:=ordA k [] xs
def Mk (k:Int→Int) (ms:List Int):Prop:=∀ m∈ms,1≤k m∧k m≤254
theorem y2e (k:Int→Int):bkt k []=[]:=by
 unfold bkt bkN;simp
theorem x6e (k:Int→Int) (ms:List Int) (n:Nat):bkN k ms (n+1)=bkN k ms n++ms.filter fun m=>decide (k m=(n:Int)):=by
 simp [bkN,List.range_succ,List.flatMap_append]
theorem y5F (p q r:Int→Bool) (h:∀ m,r m=(p m || q m)) (hd:∀ m,¬ (p m=true∧q m=true)) (ms:List Int):(ms.filter r).length=(ms.filter p).length+(ms.filter q).length:=by
 induction ms with
 | nil=>rfl
 | cons m ms ih =>
  have h1:=h m;have h2:=hd m;simp only [List.filter_cons,h1];cases hp:p m <;> cases hq:q m <;> simp_all <;> omega
theorem y7M (k:Int→Int) (ms:List Int) (h:∀ m∈ms,0≤k m) (n:Nat):(bkN k ms n).length=(ms.filter fun m=>decide (k m<(n:Int))).length:=by
 induction n with
 | zero =>
  have:(ms.filter fun m=>decide (k m<((0:Nat):Int)))=[]:=by
   rw [List.filter_eq_nil_iff];intro m hm;have:=h m hm;simp; omega
  rw [this]; rfl
 | succ n ih =>
  rw [x6e,List.length_append,ih];refine (y5F _ _ _ (fun m=>?_) (fun m=>?_) ms).symm
  ·by_cases h1:k m<(n:Int) <;> by_cases h2:k m=(n:Int) <;> simp [h1,h2] <;> omega
  ·simp; omega
theorem x6f {k:Int→Int} {ms:List Int} (h:Mk k ms):(bkt k ms).length=ms.length:=by
 unfold bkt;rw [y7M k ms (fun m hm=>by have:=h m hm; omega),List.filter_eq_self.2];intro m hm;have:=h m hm;simp; omega
theorem y7N {k:Int→Int} {ms:List Int} {n:Nat} {x:Int} (h:x∈bkN k ms n):x∈ms∧0≤k x∧k x<n:=by
 unfold bkN at h;rw [List.mem_flatMap] at h;obtain ⟨c,hc,hx⟩:=h;rw [List.mem_range] at hc;rw [List.mem_filter] at hx;have:=of_decide_eq_true hx.2;exact ⟨hx.1,by omega,by omega⟩
theorem y5f (k:Int→Int) (ms:List Int) (j:Int) (n:Nat):((bkN k ms n).filter fun m=>decide (k m=j))=if 0≤j∧j<n then ms.filter fun m=>decide (k m=j) else []:=by
 induction n with
 | zero=>rw [if_neg (by omega)]; rfl
 | succ n ih =>
  rw [x6e,List.filter_append,ih,List.filter_filter];by_cases h:j=(n:Int)
  ·rw [if_neg (by omega),if_pos (by omega),List.nil_append,h]
   exact List.filter_congr (fun m _=>by simp)
  ·have:(ms.filter fun a=>decide (k a=j) && decide (k a=(n:Int)))=[]:=by
    rw [List.filter_eq_nil_iff];intro m _;simp; omega
   rw [this,List.append_nil];by_cases h1:0≤j∧j<(n:Int)
   ·rw [if_pos h1,if_pos (by omega)]
   ·rw [if_neg h1,if_neg (by omega)]
theorem x9F {k:Int→Int} {ms:List Int} (h:Mk k ms) (j:Int):fl k j ms=if 1≤j∧j≤254 then ms.filter (fun m=>decide (k m=j)) else []:=by
 unfold fl;by_cases hj:1≤j∧j≤254
 ·rw [if_pos hj]
  refine List.filter_congr (fun m hm=>?_);have:=h m hm;simp; omega
 ·rw [if_neg hj,List.filter_eq_nil_iff]
  intro m hm;have:=h m hm;simp; omega
theorem y9E {k:Int→Int} {ms:List Int} (h:Mk k ms):Mk k (bkt k ms):=fun m hm=>h m (y7N hm).1
theorem y7a {k:Int→Int} {ms:List Int} (h:Mk k ms) (j:Int):fl k j (bkt k ms)=fl k j ms:=by
 rw [x9F (y9E h),x9F h];by_cases hj:1≤j∧j≤254
 ·rw [if_pos hj,if_pos hj]
  unfold bkt;rw [y5f,if_pos (by omega)]
 ·rw [if_neg hj,if_neg hj]
theorem x7t (k:Int→Int) (j:Int) (a b:List Int):fl k j (a++b)=fl k j a++fl k j b:=by unfold fl; exact List.filter_append ..
theorem y2R (k:Int→Int) (j c:Int) (l:List Int):fl k j (c :: l)=if k c=0∨k c=j then c :: fl k j l else fl k j l:=by
 unfold fl;rw [List.filter_cons];by_cases h:k c=0∨k c=j
 ·rw [if_pos h,if_pos (decide_eq_true h)]
 ·rw [if_neg h,if_neg (by simpa using h)]
theorem x8P {k:Int→Int} {ms:List Int} {c:Int} (h:Mk k ms) (h1:1≤k c) (h2:k c≤254):Mk k (ms++[c]):=by
 intro m hm;rcases List.mem_append.1 hm with hm | hm
 ·exact h m hm
 ·obtain rfl:=List.mem_singleton.1 hm
  exact ⟨h1,h2⟩
theorem x8F {k:Int→Int} (hk:∀ c,0≤k c∧k c≤254) (j:Int):∀ (l ms:List Int),Mk k ms→fl k j (ordA k ms l)=fl k j (ms++l)
 | [],ms,h=>by rw [ordA,y7a h,List.append_nil]
 | c :: l,ms,h=>by
  rw [ordA];by_cases hc:k c=0
  ·rw [if_pos hc,x7t,x7t,y7a h,y2R,y2R,x8F hk j l [] (fun _ h=>by cases h)]
   rfl
  ·rw [if_neg hc,x8F hk j l _ (x8P h (by have:=hk c; omega) (hk c).2)]
   simp
theorem z0f {k:Int→Int} (hk:∀ c,0≤k c∧k c≤254) (j:Int) (xs:List Int):fl k j (ord k xs)=fl k j xs:=x8F hk j xs [] (fun _ h=>by cases h)
theorem x6K {k:Int→Int} (hk:∀ c,0≤k c∧k c≤254):∀ (l ms:List Int),Mk k ms→(ordA k ms l).length=ms.length+l.length
 | [],ms,h=>by rw [ordA,x6f h]; rfl
 | c :: l,ms,h=>by
  rw [ordA];by_cases hc:k c=0
  ·rw [if_pos hc,List.length_append,x6f h,List.length_cons,x6K hk l [] (fun _ h=>by cases h)]
   simp
  ·rw [if_neg hc,x6K hk l _ (x8P h (by have:=hk c; omega) (hk c).2)]
   simp; omega
theorem y3T {k:Int→Int} (hk:∀ c,0≤k c∧k c≤254) (xs:List Int):(ord k xs).length=xs.length:=by
 unfold ord;rw [x6K hk xs [] (fun _ h=>by cases h)];simp
theorem y8R {k:Int→Int} (hk:∀ c,0≤k c∧k c≤254) {xs:List Int} {x:Int} (h:x∈ord k xs):x∈xs:=by
 have h1:x∈fl k (k x) (ord k xs):=List.mem_filter.2 ⟨h,by simp⟩;rw [z0f hk] at h1;exact (List.mem_filter.1 h1).1
end Od
namespace Od
theorem x2B (f:Nat→List Int) (n:Nat):(List.range (n+1)).flatMap f=(List.range n).flatMap f++f n:=by
 simp [List.range_succ,List.flatMap_append]
theorem z0g (f:Nat→List Int) {c n:Nat} (h:c<n):((List.range c).flatMap f).length+(f c).length≤((List.range n).flatMap f).length:=by
 induction n with
 | zero=>omega
 | succ n ih =>
  rw [x2B,List.length_append];rcases Nat.lt_succ_iff_lt_or_eq.1 h with h | rfl
  ·have:=ih h; omega
  ·exact Nat.le_refl _
theorem x4e {f g:Nat→List Int} {n:Nat} (h:∀ i,i<n→f i=g i):(List.range n).flatMap f=(List.range n).flatMap g:=by
 induction n with
 | zero=>rfl
 | succ n ih=>rw [x2B,x2B,ih (fun i hi=>h i (by omega)),h n (by omega)]
theorem z0h (f g:Nat→List Int) {c r n:Nat} (v:Int) (hc:c<n) (hr:r<(f c).length) (hg:g c=(f c).set r v) (hd:∀ i,i≠c→g i=f i):((List.range n).flatMap f).set (((List.range c).flatMap f).length+r) v=(List.range n).flatMap g:=by
 induction n with
 | zero=>omega
 | succ n ih =>
  rw [x2B,x2B];rcases Nat.lt_succ_iff_lt_or_eq.1 hc with h | rfl
  ·have:=z0g f h
   rw [List.set_append_left _ _ (by omega),ih h,hd n (by omega)]
  ·rw [List.set_append_right _ _ (by omega),show ((List.range c).flatMap f).length+r - ((List.range c).flatMap f).length=r by omega,← hg,x4e (fun i hi=>(hd i (by omega)).symm)]
def ft (k:Int→Int) (c:Nat) (l:List Int):List Int:=l.filter fun m=>decide (k m=(c:Int))
theorem y7O (k:Int→Int) (ms:List Int) (n:Nat):bkN k ms n=(List.range n).flatMap fun c=>ft k c ms:=rfl
theorem x4E (k:Int→Int) (c:Nat) (a b:List Int):ft k c (a++b)=ft k c a++ft k c b:=by unfold ft; exact List.filter_append ..
def y0k (k:Int→Int) (ms:List Int) (j:Nat) (y:List Int):Prop:=∃ J:Nat→List Int,y=(List.range 255).flatMap (fun c=>ft k c (ms.take j)++J c)∧∀ c,c<255→(J c).length=(ft k c (ms.drop j)).length
theorem split (g:Nat→Nat):∀ (n:Nat) (y:List Int) (_:y.length=((List.range n).map g).sum),∃ J:Nat→List Int,y=(List.range n).flatMap J∧∀ c,c<n→(J c).length=g c
 | 0,y,h=>⟨fun _=>[],by simpa using h,fun c hc=>by omega⟩
 | n+1,y,h=>by
  rw [List.range_succ,List.map_append,List.sum_append] at h;simp only [List.map_cons,List.map_nil,List.sum_cons,List.sum_nil,Nat.add_zero] at h;obtain ⟨J,h1,h2⟩:=split g n (y.take (y.length - g n)) (by rw [List.length_take]; omega);refine ⟨fun i=>if i=n then y.drop (y.length - g n) else J i,?_,fun c hc=>?_⟩
  ·rw [x2B,if_pos rfl,x4e (g:=J) (fun i hi=>by rw [if_neg (by omega)]),← h1,List.take_append_drop]
  ·by_cases hcn:c=n
   ·subst hcn
    simp only [if_true,List.length_drop];omega
   ·simp only [if_neg hcn]
    exact h2 c (by omega)
theorem y2S (f:Nat→List Int) (n:Nat):((List.range n).flatMap f).length=((List.range n).map fun c=>(f c).length).sum:=by
 induction n with
 | zero=>rfl
 | succ n ih =>
  rw [x2B,List.length_append,ih,List.range_succ,List.map_append,List.sum_append];simp
theorem x8A {k:Int→Int} {ms y:List Int} (h:Mk k ms) (hy:y.length=ms.length):y0k k ms 0 y:=by
 obtain ⟨J,h1,h2⟩:=split (fun c=>(ft k c ms).length) 255 y (by rw [hy,← x6f h]; unfold bkt; rw [y7O,y2S]);refine ⟨J,?_,fun c hc=>?_⟩
 ·rw [h1]; exact x4e (fun i _=>by simp [ft])
 ·rw [List.drop_zero]; exact h2 c hc
theorem y2B {k:Int→Int} {ms y:List Int} (h:y0k k ms ms.length y):y=bkt k ms:=by
 obtain ⟨J,h1,h2⟩:=h;rw [h1];unfold bkt;rw [y7O];refine x4e (fun i hi=>?_);have:=h2 i hi;rw [List.drop_length] at this;rw [List.take_length,List.eq_nil_of_length_eq_zero (l:=J i) (by rw [this]; rfl),List.append_nil]
def plc (k:Int→Int) (ms:List Int) (j c:Nat):Nat:=(bkN k ms c).length+(ft k c (ms.take j)).length
theorem y5I (k:Int→Int) (c:Nat) (ms:List Int) (j:Nat):(ft k c (ms.take j)).length+(ft k c (ms.drop j)).length=(ft k c ms).length:=by
 rw [← List.length_append,← x4E,List.take_append_drop]
theorem x8H {k:Int→Int} (c:Nat) {ms:List Int} {j:Nat} (hj:j<ms.length):ft k c (ms.take (j+1))=ft k c (ms.take j)++if k (ms.getD j 0)=c then [ms.getD j 0] else []:=by
 rw [List.take_add_one,x4E,List.getElem?_eq_getElem hj];have:ms.getD j 0=ms[j]:=(by simp [List.getD,hj]);rw [this];unfold ft;by_cases h:k ms[j]=(c:Int) <;> simp [h]
theorem y2T {k:Int→Int} (c:Nat) {ms:List Int} {j:Nat} (hj:j<ms.length):ft k c (ms.drop j)=(if k (ms.getD j 0)=c then [ms.getD j 0] else [])++ft k c (ms.drop (j+1)):=by
 have:ms.getD j 0=ms[j]:=(by simp [List.getD,hj]);rw [List.drop_eq_getElem_cons hj,this];unfold ft;rw [List.filter_cons];by_cases h:k ms[j]=(c:Int)
 ·rw [if_pos h,if_pos (decide_eq_true h)]; rfl
 ·rw [if_neg h,if_neg (by simpa using h)]; rfl
theorem y0H {k:Int→Int} {ms y:List Int} {j c:Nat} (h:y0k k ms j y) (hj:j<ms.length) (hc:k (ms.getD j 0)=c) (aB:c<255):plc k ms j c<y.length∧y0k k ms (j+1) (y.set (plc k ms j c) (ms.getD j 0)):=by
 obtain ⟨J,h1,h2⟩:=h;have hJ:=h2 c aB;rw [y2T c hj,if_pos hc,List.length_append,List.length_singleton] at hJ
 have hb:(bkN k ms c).length=((List.range c).flatMap fun c=>ft k c (ms.take j)++J c).length:=by
  rw [y7O,y2S,y2S];congr 1;refine List.map_congr_left (fun i hi=>?_);rw [List.mem_range] at hi;rw [List.length_append,h2 i (by omega),y5I]
 have cp:=z0g (fun c=>ft k c (ms.take j)++J c) aB;simp only [List.length_append] at cp;unfold plc;rw [h1,hb];refine ⟨by omega,fun i=>if i=c then (J c).drop 1 else J i,?_,fun i hi=>?_⟩
 ·refine z0h _ _ _ aB (by rw [List.length_append]; omega) ?_ (fun i hi=>?_)
  ·simp only [if_true]
   rw [x8H c hj,if_pos hc,List.set_append_right _ _ (Nat.le_refl _),Nat.sub_self]
   cases hq:J c with
   | nil=>rw [hq] at hJ; simp at hJ; omega
   | cons x l=>simp
  ·simp only [if_neg hi]
   rw [x8H i hj,if_neg (fun e=>hi (by omega)),List.append_nil]
 ·by_cases hic:i=c
  ·subst hic
   simp only [if_true,List.length_drop];omega
  ·simp only [if_neg hic]
   rw [h2 i hi,y2T i hj,if_neg (fun e=>hic (by omega)),List.nil_append]
theorem y6o {k:Int→Int} {ms:List Int} {j:Nat} (c:Nat) (hj:j<ms.length):plc k ms (j+1) c=if k (ms.getD j 0)=c then plc k ms j c+1 else plc k ms j c:=by
 unfold plc;rw [x8H c hj];by_cases h:k (ms.getD j 0)=c
 ·rw [if_pos h,if_pos h,List.length_append]; rfl
 ·rw [if_neg h,if_neg h,List.append_nil]
theorem y6p (k:Int→Int) (ms:List Int) (c:Nat):plc k ms 0 c=(bkN k ms c).length:=by simp [plc,ft]
theorem y5g (k:Int→Int) (ms:List Int) (c:Nat):(bkN k ms (c+1)).length=(bkN k ms c).length+(ft k c ms).length:=by rw [x6e,List.length_append]; rfl
end Od
open Ti
namespace Od
def ir (zs:List Int):List Value:=zs.map (Value.int .i32)
theorem x2u (zs:List Int):(ir zs).length=zs.length:=List.length_map _
theorem ir_at {zs:List Int} {i:Nat} (hi:i<zs.length):(ir zs)[i]?=some (.int .i32 (zs.getD i 0)):=by
 unfold ir;rw [List.getElem?_map,List.getElem?_eq_getElem hi]; simp [List.getD,hi]
def mc (k:Int→Int) (ms:List Int):List Value:=ms.flatMap fun m=>[.int .i32 m,.int .i64 (k m)]
theorem y7i (k:Int→Int) (ms:List Int):(mc k ms).length=ms.length * 2:=by
 induction ms with
 | nil=>rfl
 | cons m ms ih=>simp only [mc,List.flatMap_cons,List.length_append,List.length_cons,List.length_nil] at ih ⊢; omega
theorem z0y {k:Int→Int}:∀ {ms:List Int} {i:Nat},i<ms.length→(mc k ms)[i * 2]?=some (.int .i32 (ms.getD i 0))∧(mc k ms)[i * 2+1]?=some (.int .i64 (k (ms.getD i 0)))
 | [],i,h=>by simp at h
 | m :: ms,0,_=>⟨rfl,rfl⟩
 | m :: ms,i+1,h=>by
  have:=z0y (k:=k) (ms:=ms) (i:=i) (by simpa using h);simp only [mc,List.flatMap_cons,show (i+1) * 2=i * 2+1+1 by omega] at this ⊢;simpa using this
theorem x9K {w wr:World} {row:Option Nat} (h:w.grownBy wr row) (o:Obj):w.grownBy (wr.alloc o) row:=⟨h.os,h.tape,h.output,by have:=h.size; simp; omega,fun k hk hn=>by rw [Below.heap_alloc wr o k (by have:=h.size; omega)]; exact h.block k hk hn⟩
theorem y2Z {w wr:World} {row:Option Nat} (h:w.grownBy wr row) (p:Addr) (v:Value) (hp:some p.block=row∨w.heap.size≤p.block):w.grownBy (wr.setCell p v) row:=by
 have b:=(Below.refl 0 wr).setCell (p:=p) (Nat.zero_le _) v;refine ⟨b.os.trans h.os,b.tape.trans h.tape,b.output.trans h.output,Nat.le_trans h.size b.size,fun k hk hn=>?_⟩;rw [heap_setCell_other wr p k v ?_]
 ·exact h.block k hk hn
 ·intro e
  rcases hp with hp | hp
  ·exact hn (by rw [e]; exact hp)
  ·omega
theorem y5J {w wr w':World} {row:Option Nat} {B:Nat} (h:w.grownBy wr row) (hb:Below B wr w') (hB:w.heap.size≤B):w.grownBy w' row:=⟨hb.os.trans h.os,hb.tape.trans h.tape,hb.output.trans h.output,by have:=h.size; have:=hb.size; omega,fun k hk hn=>by rw [hb.block k (by omega)]; exact h.block k hk hn⟩
theorem Blk.kept {w w':World} {g t:Nat} {vs:List Value} {row:Option Nat} (h:Blk w g t vs) (hg:w.grownBy w' row) (ah:some g≠row):Blk w' g t vs:=(hg.block g h.lt ah).trans h
def cnts (k:Int→Int) (ms:List Int):List Int:=(List.range 255).map fun c=>((Od.ft k c ms).length:Int)
theorem x1a (k:Int→Int) (ms:List Int):(cnts k ms).length=255:=by simp [cnts]
theorem x6h (k:Int→Int) (ms:List Int) {c:Nat} (hc:c<255):(cnts k ms).getD c 0=((Od.ft k c ms).length:Int):=by simp [cnts,List.getD,hc]
theorem x9z (k:Int→Int) (ms:List Int):∀ c:Nat,c≤255→((cnts k ms).take c).sum=((Od.bkN k ms c).length:Int)
 | 0,_=>by simp [Od.bkN]
 | c+1,h=>by
  rw [y0f (by rw [x1a]; omega),x9z k ms c (by omega),x6h k ms (by omega),Od.y5g]; simp
theorem y7L (k:Int→Int) (ms:List Int) {c:Nat} (hc:c<255):(beg (cnts k ms)).getD c 0=(Od.plc k ms 0 c:Int):=by
 rw [y6V _ hc,x9z k ms c (by omega),Od.y6p]
theorem x9x (k:Int→Int) (ms:List Int) (h:ms.length≤3000000):∀ c∈cnts k ms,0≤c∧c≤3000000:=fun c hc=>by
 obtain ⟨i,_,rfl⟩:=List.mem_map.1 hc;have:(Od.ft k i ms).length≤ms.length:=List.length_filter_le _ _;omega
theorem z1g {A B C:List Value} {o i:Nat} (hA:A.length=o) (hi:i<B.length):(A++B++C)[o+i]?=B[i]?:=by
 rw [List.append_assoc,List.getElem?_append_right (by omega),List.getElem?_append_left (by omega)]; congr 1; omega
theorem y9e {A B C:List Value} {o i:Nat} (v:Value) (hA:A.length=o) (hi:i<B.length):(A++B++C).set (o+i) v=A++B.set i v++C:=by
 rw [List.append_assoc,List.set_append_right _ _ (by omega),List.set_append_left _ _ (by omega),List.append_assoc]; congr 3; omega
theorem x3j {g g2 t:Nat} {us:List Value} (h:g≠g2):∀ (vs:List Value) (o:Nat) (wr:World) (_:Blk wr g t us),Blk (wr.setCells g2 o vs) g t us
 | [],_,_,b=>b
 | v :: vs,o,_,b=>x3j h vs (o+1) _ (b.other (a:=⟨g2,o,none⟩) h v)
theorem x3C {P:Program} {bZ:Array Oper} {rest:List Oper} {op:Oper} {a:Act} {w w':World} {Q:Exit→Act→World→Prop} (cr:op.guard=none) (ty:TypeId) (x y:Operand) (ho:op.op=.store ty x y) (b o:Nat) (cells:Array Value) (hx:a.eval x=.pointer (some ⟨b,o,none⟩)) (hy:a.eval y=.agg cells) (ht:w.there b o cells.size) (hi:(P.info? ty).map (·.size)=some cells.size) (h1:cells.all (·.oneCell')=true) (hw:w.setCells b o cells.toList=w') (h:wpList P bZ Q rest (a.put op.dst undef) w'):wpList P bZ Q (op :: rest) a w:=by
 subst hw;exact wpList_store_mid cr ty x y ho b o cells hx hy ht hi h1 h
theorem x4F {w:World} {row:Option Nat} (g:Nat) (hp:some g=row∨w.heap.size≤g):∀ (vs:List Value) (o:Nat) (wr:World) (_:w.grownBy wr row),w.grownBy (wr.setCells g o vs) row
 | [],_,_,h=>h
 | v :: vs,o,_,h=>x4F g hp vs (o+1) _ (y2Z h ⟨g,o,none⟩ v hp)
theorem y0G (k:Int→Int) (g mb aa yb yo ae:Nat) (ms ys:List Int) (J A C:List Value) (w:World) (hr:Blk w g 222 (.slice (some ⟨mb,0,none⟩) ms.length aa :: ia (cnts k ms))) (hm:Blk w mb 225 (mc k ms++J)) (aN:ms.length≤aa∧aa≤9223372036854775807) (hy:Blk w yb 21 (A++ir ys++C)) (hA:A.length=yo) (aX:ys.length=ms.length) (bB:ms.length≤ae∧ae≤9223372036854775807) (hk:Od.Mk k ms) (hn:ms.length≤3000000) (an:g≠yb) (cA:mb≠yb):Calls Tryz.prog 210 #[.pointer (some ⟨g,0,none⟩),.slice (some ⟨yb,yo,none⟩) ms.length ae] w fun e w'=>e=.returned (.tuple #[])∧Blk w' yb 21 (A++ir (Od.bkt k ms)++C)∧w.grownBy w' (some yb):=by
 have K1:=Hd (x7P g _ (cnts k ms) w hr (x1a k ms) (x9x k ms hn));obtain ⟨cw,cx⟩:=aN;obtain ⟨cI,cJ⟩:=bB;have HY:=Hd hy
 have HM:Hid (∀ (W:World),w.grownBy W (some yb)→∀ i:Nat,i<ms.length→W.cell? ⟨mb,i * 2,none⟩=some (.int .i32 (ms.getD i 0))∧W.cell? ⟨mb,i * 2+1,none⟩=some (.int .i64 (k (ms.getD i 0)))):=fun W hW i hi=>by
  have h:=hm.kept hW (fun e=>cA (by simpa using e));have h2:=z0y (k:=k) hi;have hl:=y7i k ms;exact ⟨h.cell (by rw [List.getElem?_append_left (by omega)]; exact h2.1),h.cell (by rw [List.getElem?_append_left (by omega)]; exact h2.2)⟩
 have cK:=hy.lt;have aL:w.cell? ⟨g,0,none⟩=some (.slice (some ⟨mb,0,none⟩) ms.length aa):=hr.cell rfl;have bF:Hid (∀ (W:World),w.grownBy W (some yb)→W.cell? ⟨g,0,none⟩=some (.slice (some ⟨mb,0,none⟩) ms.length aa)):=fun W hW=>(hr.kept hW (fun e=>an (by simpa using e))).cell rfl;have bJ:=Hd (Od.x8A hk aX);have be:=Hd hk;have ag:=Hd (x3h (cnts k ms));have bH:Hid (∀ c,c<255→(beg (cnts k ms)).getD c 0=(Od.plc k ms 0 c:Int)):=fun c hc=>y7L k ms hc;generalize beg (cnts k ms)=bg at *;clear hr hm hy hk;go_enter Tryz.func210,Tryz.ntmps210;go_wp2_with fail;refine (Uh K1).mono ?_;rintro e w1 ⟨rfl,b1⟩;have ax:=b1.size;obtain ⟨W2,ab⟩:∃ W2,w1.alloc (.cells Tryz.zeroCells220 220)=W2:=⟨_,rfl⟩;have k2:Blk W2 w1.heap.size 220 (ia z255):=(by rw [← ab]; exact Blk.new w1 _ _ _ y9o);have g2:w.grownBy W2 (some yb):=(by rw [← ab]; exact x9K (y5J (World.grownBy.refl w _) b1 (Nat.le_refl _)) _);obtain ⟨g4,cq⟩:∃ g4,w1.heap.size=g4:=⟨_,rfl⟩;rw [cq] at k2;have aM:w.heap.size≤g4:=(by omega);clear K1 aL ax;have ai:=Uh ag;have aj:W2.there g4 0 (ia bg).toArray.size:=k2.there (by simp [x2t,z255,ai]);have bV:(ia bg).toArray.size=255:=(by simp [x2t,ai]);obtain ⟨W3,al⟩:∃ W3,W2.setCells g4 0 (ia bg).toArray.toList=W3:=⟨_,rfl⟩
 have k3:Blk W3 g4 220 (ia bg):=by
  have:=k2.setCells (ia bg) 0 (by simp [x2t,z255,ai]);rw [← al];rw [List.take_zero,List.nil_append,List.drop_of_length_le (by simp [x2t,z255,ai]),List.append_nil] at this;exact this
 have g3:w.grownBy W3 (some yb):=by rw [← al]; exact x4F g4 (Or.inr aM) _ _ _ g2
 have y3:Blk W3 yb 21 (A++ir ys++C):=by
  have h1:w1.heap[yb]?=w.heap[yb]?:=b1.block yb cK;have h2:Blk w1 yb 21 (A++ir ys++C):=h1.trans (Uh HY);have h3:Blk W2 yb 21 (A++ir ys++C):=(by rw [← ab]; exact h2.alloc _);rw [← al];exact x3j (by omega) _ _ _ h3
 have aL:=(Uh bF) W3 g3;have K3:=Hd k3;have G3:=Hd g3;have Y3:=Hd y3;clear k2 g2 k3 g3 y3 HY bF b1 ai;go_wp2_with (refine x3C (by rfl) 220 (.tmp 4) (.tmp 8) (by rfl) g4 0 (ia bg).toArray (by rfl) (by rfl) aj (by rw [bV]; exact x2o) (y7e _) al ?_);clear ab al aj bV;go_loopw [6,14] (fun _ kk wr=>∃ (i:Nat) (y pl:List Int),kk=.int .i64 i∧i≤ms.length∧Od.y0k k ms i y∧y.length=ms.length∧Blk wr yb 21 (A++ir y++C)∧pl.length=255∧(∀ c,c<255→pl.getD c 0=(Od.plc k ms i c:Int))∧Blk wr g4 220 (ia pl)∧w.grownBy wr (some yb)) (fun _ kk _=>ms.length - (intOf kk).toNat)
 case atStart=>exact ⟨0,ys,bg,rfl,by omega,Uh bJ,aX,Uh Y3,Uh ag,Uh bH,Uh K3,Uh G3⟩
 case round =>
  clear K3 G3 Y3 bJ bH ag;obtain ⟨i,y,pl,rfl,hin,aT,bC,aY,cC,aW,aU,aC⟩:=hrel;by_cases hlt:i<ms.length
  ·obtain ⟨c0,c1⟩:=(Uh HM) wr aC i hlt
   have bq:=(Uh be) (ms.getD i 0) (by simp [List.getD,hlt]);obtain ⟨c,hc⟩:∃ c:Nat,k (ms.getD i 0)=(c:Int):=⟨(k (ms.getD i 0)).toNat,by omega⟩;have aB:c<255:=(by omega);obtain ⟨p1,p2⟩:=Od.y0H aT hlt hc aB;have bT:=fun c'=>Od.y6o (k:=k) c' hlt;have aP:=aW c aB;obtain ⟨p,hp⟩:∃ p,Od.plc k ms i c=p:=⟨_,rfl⟩;rw [hp] at aP p1 p2;rw [hc] at c1;obtain ⟨m,hm⟩:∃ m,ms.getD i 0=m:=⟨_,rfl⟩;rw [hm] at c0 p2 hc;obtain ⟨gr,bQ⟩:∃ gr,wr.heap.size=gr:=⟨_,rfl⟩;have hgws:=aC.size;have hkwl:=aU.lt;obtain ⟨W1,ad⟩:∃ W1,wr.alloc (.cells #[.int .i32 m,.int .i64 c] 225)=W1:=⟨_,rfl⟩;have x0:W1.cell? ⟨gr,0,none⟩=some (.int .i32 m):=(by rw [← ad,← bQ]; simp);have x1:W1.cell? ⟨gr,1,none⟩=some (.int .i64 c):=(by rw [← ad,← bQ]; simp);have bD:Blk W1 g4 220 (ia pl):=(by rw [← ad]; exact aU.alloc _);have a9:Blk W1 yb 21 (A++ir y++C):=(by rw [← ad]; exact aY.alloc _);have bK:w.grownBy W1 (some yb):=(by rw [← ad]; exact x9K aC _);have x2:W1.cell? ⟨g4,c,none⟩=some (.int .i64 p):=(by rw [bD.cell (y3g (by omega)),aP]);have x3:W1.cell? ⟨yb,yo+p,none⟩=some (.int .i32 (y.getD p 0)):=a9.cell (by rw [z1g hA (by rw [x2u]; omega)]; exact ir_at (by omega));have f3:=a9.frozen (yo+p);obtain ⟨W2,ab⟩:∃ W2,W1.setCell ⟨yb,yo+p,none⟩ (.int .i32 m)=W2:=⟨_,rfl⟩
   have b0:Blk W2 yb 21 (A++ir (y.set p m)++C):=by
    have:=a9.set (yo+p) (.int .i32 m);rw [y9e _ hA (by rw [x2u]; omega),ab] at this;have e:(ir y).set p (.int .i32 m)=ir (y.set p m):=(by unfold ir; rw [List.map_set]);rw [e] at this; exact this
   have aZ:Blk W2 g4 220 (ia pl):=(by rw [← ab]; exact bD.other (a:=⟨yb,yo+p,none⟩) (by show g4≠yb; omega) _);have bL:w.grownBy W2 (some yb):=(by rw [← ab]; exact y2Z bK ⟨yb,yo+p,none⟩ _ (Or.inl rfl));have z0:W2.cell? ⟨gr,0,none⟩=some (.int .i32 m):=(by rw [← ab,World.cell?_setCell_other _ _ _ _ (by intro e; have:yb=gr:=congrArg Addr.block e; omega)]; exact x0);have z1:W2.cell? ⟨gr,1,none⟩=some (.int .i64 c):=(by rw [← ab,World.cell?_setCell_other _ _ _ _ (by intro e; have:yb=gr:=congrArg Addr.block e; omega)]; exact x1);have z2:W2.cell? ⟨g4,c,none⟩=some (.int .i64 p):=(by rw [aZ.cell (y3g (by omega)),aP]);have f4:=aZ.frozen c;have hd:Hid (Od.y0k k ms (i+1) (y.set p m)):=p2;have hbig:(p:Int)+1≤3000001:=(by omega);have bv:(p:Int)<ms.length:=(by omega);have hcc1:(c:Int)<255:=(by omega);have cg:=Hd aZ;have ch:=Hd b0;have b4:=Hd bL;have ca:=Hd aW;have cb:=Hd bT;have HPC:=Hd aP;have b9:=Hd hp;have b5:=Hd hc;have b8:=Hd hm;have cv:(y.set p m).length=ms.length:=(by rw [List.length_set]; exact bC);clear aT aY aU aC bq p2 bT aW bD a9 bK aZ b0 bL aP hp hc hm HM be;go_upto_region 4 with fail;go_region_held3 (fun w'=>w'.cell? ⟨gr,0,none⟩=some (.int .i32 m)∧w'.cell? ⟨gr,1,none⟩=some (.int .i64 c)∧w'.cell? ⟨g4,c,none⟩=some (.int .i64 p)) (first | exact ⟨x0,x1,x2⟩ | exact ⟨z0,z1,z2⟩ | go_keep) (fail);go_wp2
   go_roundw
   case rel =>
    have cO:Blk (W2.setCell ⟨g4,c,none⟩ (.int .i64 ((p:Int)+1))) g4 220 (ia (pl.set c ((p:Int)+1))):=(by rw [← y3h]; exact (Uh cg).set c _);have cP:Blk (W2.setCell ⟨g4,c,none⟩ (.int .i64 ((p:Int)+1))) yb 21 (A++ir (y.set p m)++C):=(Uh ch).other (a:=⟨g4,c,none⟩) (by show yb≠g4; omega) _;have aG:w.grownBy (W2.setCell ⟨g4,c,none⟩ (.int .i64 ((p:Int)+1))) (some yb):=y2Z (Uh b4) ⟨g4,c,none⟩ _ (Or.inr aM);refine ⟨i+1,y.set p m,pl.set c ((p:Int)+1),by go_num,by omega,Uh hd,cv,cP,by rw [List.length_set]; exact cC,fun c' hc'=>?_,cO,⟨aG.os,aG.tape,aG.output,aG.size,aG.block⟩⟩;rw [x5d pl c c' _ (by omega),(Uh cb) c',Uh b8,Uh b5];by_cases h:c'=c
    ·rw [if_pos h,if_pos (by rw [h]),h,Uh b9]; rfl
    ·rw [if_neg h,if_neg (fun e=>h (by omega))]
     exact (Uh ca) c' hc'
   case measure=>simp [intOf]; omega
  ·obtain rfl:i=ms.length:=by omega
   have he:=Od.y2B aT;subst he;have cd:=Hd aY;have b7:=Hd aC;clear aT aY aU aC aW HM be;go_wp2;go_end0;exact ⟨rfl,Uh cd,Uh b7⟩
end Od
open Ti
namespace Od
theorem x5V {P:Program} {w:World} (t e:TypeId) (ty:TypeId) (b o n cap:Nat) (z:Value) (hu:P.underlying t=some (.slice e)) (hz:∀ w,(zeroValue e).run P w=.ok z w) (hn:0<n) (us:List Value) (cH:(Builtin.zeroCells z.cells n).toList=us) (aj:w.there b o us.length) (h1:∀ v∈us,v.oneCell'=true):(Builtin.clear_ #[t] ty #[.slice (some ⟨b,o,none⟩) n cap]).run P w=.ok (.tuple #[]) (w.setCells b o us):=by
 have hs:(storeCells ⟨b,o,none⟩ us 0).run P w=.ok () (w.setCells b o us):=by
  have:=run_storeCells_cells (P:=P) b o us 0 w (fun j hj=>by simpa using (aj j hj).1) (fun j hj=>by simpa using (aj j hj).2) h1;simpa using this
 obtain ⟨m,rfl⟩:∃ m,n=m+1:=⟨n - 1,by omega⟩;unfold Builtin.clear_;simp [Sem.run_bind,run_underlying hu,hz,cH,hs]
def x1j (w:World) (k:Int→Int) (g:Nat) (ms:List Int):Prop:=∃ mv,Blk w g 222 (mv :: ia (cnts k ms))∧w.ownsRow (g+1) 225 2 mv ms.length (mc k ms)
theorem x1j.shape {w:World} {k:Int→Int} {g:Nat} {ms:List Int} (h:x1j w k g ms):∃ ao cap,Blk w g 222 (.slice ao ms.length cap :: ia (cnts k ms))∧w.ownsRow (g+1) 225 2 (.slice ao ms.length cap) ms.length (mc k ms)∧ms.length≤cap∧cap≤9223372036854775807:=by
 obtain ⟨mv,h1,h2⟩:=h;rcases h2.2 with ⟨rfl,h0⟩ | ⟨mb,cap,cur,rfl,_,_,hc,hm,_⟩
 ·rw [h0] at h2
  exact ⟨none,0,by rw [h0]; exact h1,by rw [h0]; exact h2,by omega,by omega⟩
 ·exact ⟨_,cap,h1,h2,hc,by unfold maxLen at hm; omega⟩
theorem x5M (k:Int→Int) (g:Nat) (v:Value) (w:World) (h:x1j w k g []):Calls Tryz.prog 170 #[.pointer (some ⟨g,0,none⟩),v] w fun e w'=>e=.returned (.tuple #[])∧w'=w:=by
 obtain ⟨ao,cap,h1,_,_,hc⟩:=h.shape;have aL:w.cell? ⟨g,0,none⟩=some (.slice ao 0 cap):=h1.cell rfl;clear h h1;go_enter Tryz.func170,Tryz.ntmps170;go_wp2;exact bodyPost_ret (v:=.tuple #[]) (results_none rfl _ _ _) rfl ⟨rfl,rfl⟩
theorem y9q (w:World):(zeroValue 3).run Tryz.prog w=.ok (.int .i64 0) w:=(zero_of_info (n:=1) (by kernel_rfl)).1 w
theorem y6N (w:World):(zeroValue 225).run Tryz.prog w=.ok (.agg #[.int .i32 0,.int .i64 0]) w:=(zero_of_info (n:=2) (by kernel_rfl)).1 w
theorem y9p:(Builtin.zeroCells (Value.int .i64 0).cells 255).toList=ia z255:=by kernel_rfl
theorem y0j (n:Nat):(Builtin.zeroCells (Value.agg #[.int .i32 0,.int .i64 0]).cells n).toList.length=n * 2∧∀ v∈(Builtin.zeroCells (Value.agg #[.int .i32 0,.int .i64 0]).cells n).toList,v.oneCell'=true:=by
 unfold Builtin.zeroCells;refine ⟨by simp [Value.cells],fun v hv=>?_⟩;simp only [Value.cells,Array.toList_map,List.mem_map] at hv;obtain ⟨i,_,rfl⟩:=hv
 have:i % #[Value.int .i32 0,.int .i64 0].size=0∨i % #[Value.int .i32 0,.int .i64 0].size=1:=by
  show i % 2=0∨i % 2=1;omega
 rcases this with h | h <;> rw [h] <;> rfl
theorem x9y (k:Int→Int):cnts k []=z255:=by
 refine List.eq_replicate_iff.2 ⟨x1a k [],fun b hb=>?_⟩;obtain ⟨i,_,rfl⟩:=List.mem_map.1 hb;rfl
theorem y0X (k:Int→Int) (g yb o ae:Nat) (ms ys:List Int) (A C:List Value) (w:World) (h:x1j w k g ms) (hy:Blk w yb 21 (A++ir ys++C)) (hA:A.length=o) (aX:ys.length=ms.length) (bB:o+ms.length≤ae∧ae≤9223372036854775807) (hk:Od.Mk k ms) (hn:ms.length≤3000000) (ho:o≤3000000) (ah:0<ms.length) (an:yb<g):Calls Tryz.prog 170 #[.pointer (some ⟨g,0,none⟩),.slice (some ⟨yb,0,none⟩) (o+ms.length) ae] w fun e w'=>e=.returned (.tuple #[])∧Blk w' yb 21 (A++ir (Od.bkt k ms)++C)∧x1j w' k g []∧Below yb w w':=by
 obtain ⟨mv,h1,h2⟩:=h;obtain ⟨cy,h2⟩:=h2;rcases h2 with ⟨_,h0⟩ | ⟨mb,aa,cur,rfl,hmb,hcur,aN,hmm,hcs,hct⟩
 ·omega
 have hm:Blk w mb 225 (mc k ms++cur.toList.drop (ms.length * 2)):=by
  rw [← hct,List.take_append_drop];unfold Blk; rw [hcur]
 have cz:aa≤9223372036854775807:=(by unfold maxLen at hmm; omega);obtain ⟨cI,cJ⟩:=bB;have K1:=Hd (y0G k g mb aa yb o (ae - o) ms ys _ A C w h1 hm ⟨aN,cz⟩ hy hA aX ⟨by omega,by omega⟩ hk hn (by omega) (by omega));have aL:w.cell? ⟨g,0,none⟩=some (.slice (some ⟨mb,0,none⟩) ms.length aa):=h1.cell rfl
 have HK:Hid (∀ W:World,Blk W yb 21 (A++ir (Od.bkt k ms)++C)→w.grownBy W (some yb)→∃ W2 W3 W4,W.setCells g 1 (ia z255)=W2∧W2.setCells mb 0 (Builtin.zeroCells (Value.agg #[.int .i32 0,.int .i64 0]).cells ms.length).toList=W3∧W3.setCell ⟨g,0,none⟩ (.slice (some ⟨mb,0,none⟩) 0 aa)=W4∧W.there g 1 (ia z255).length∧W2.there mb 0 (Builtin.zeroCells (Value.agg #[.int .i32 0,.int .i64 0]).cells ms.length).toList.length∧W.cell? ⟨g,0,none⟩=some (.slice (some ⟨mb,0,none⟩) ms.length aa)∧W2.cell? ⟨g,0,none⟩=some (.slice (some ⟨mb,0,none⟩) ms.length aa)∧W3.cell? ⟨g,0,none⟩=some (.slice (some ⟨mb,0,none⟩) ms.length aa)∧W3.frozen? ⟨g,0,none⟩=false∧Blk W4 yb 21 (A++ir (Od.bkt k ms)++C)∧x1j W4 k g []∧Below yb w W4):=fun W hW hg=>by
  have r0:=h1.kept hg (fun e=>Nat.ne_of_gt an (by simpa using e));have m0:=hm.kept hg (fun e=>absurd (show mb=yb by simpa using e) (by omega));have bR:1+(ia z255).length≤(Value.slice (some ⟨mb,0,none⟩) ms.length aa :: ia (cnts k ms)).length:=(by simp [x2t,z255,x1a]);have r1:=r0.setCells (ia z255) 1 bR
  have e1:(Value.slice (some ⟨mb,0,none⟩) ms.length aa :: ia (cnts k ms)).take 1++ia z255++(Value.slice (some ⟨mb,0,none⟩) ms.length aa :: ia (cnts k ms)).drop (1+(ia z255).length)=.slice (some ⟨mb,0,none⟩) ms.length aa :: ia z255:=by
   rw [List.drop_of_length_le (by simp [x2t,z255,x1a])];simp
  rw [e1] at r1;have m1:=x3j (g2:=g) (by omega) (ia z255) 1 W m0;obtain ⟨zl,_⟩:=y0j ms.length;have bq:cur.toList.length=aa * 2:=(Array.length_toList (xs:=cur)).trans hcs;have bw:(mc k ms++cur.toList.drop (ms.length * 2)).length=aa * 2:=(by rw [List.length_append,y7i,List.length_drop,bq]; omega);have m2:=m1.setCells (Builtin.zeroCells (Value.agg #[.int .i32 0,.int .i64 0]).cells ms.length).toList 0 (by rw [zl,bw]; omega);have r2:=x3j (g2:=mb) (by omega) (Builtin.zeroCells (Value.agg #[.int .i32 0,.int .i64 0]).cells ms.length).toList 0 _ r1;have r3:=r2.set 0 (.slice (some ⟨mb,0,none⟩) 0 aa);have m3:=m2.other (a:=⟨g,0,none⟩) (by show mb≠g; omega) (.slice (some ⟨mb,0,none⟩) 0 aa);have y1:=x3j (g2:=g) (by omega) (ia z255) 1 W hW;have y2:=x3j (g2:=mb) (by omega) (Builtin.zeroCells (Value.agg #[.int .i32 0,.int .i64 0]).cells ms.length).toList 0 _ y1;have y3:=y2.other (a:=⟨g,0,none⟩) (by show yb≠g; omega) (.slice (some ⟨mb,0,none⟩) 0 aa);have b1:Below yb w W:=(Below.refl _ _).grown hg (by have:=hy.lt; omega) (fun j hj=>by simp at hj; omega);have b2:=x0w (B:=yb) (g:=g) (by omega) (ia z255) 1 W b1;have b3:=x0w (B:=yb) (g:=mb) (by omega) (Builtin.zeroCells (Value.agg #[.int .i32 0,.int .i64 0]).cells ms.length).toList 0 _ b2;refine ⟨_,_,_,rfl,rfl,rfl,r0.there bR,m1.there (by rw [zl,bw]; omega),r0.cell rfl,r1.cell rfl,r2.cell rfl,r2.frozen 0,y3,⟨.slice (some ⟨mb,0,none⟩) 0 aa,?_,⟨by simp [mc],Or.inr ⟨mb,aa,_,rfl,hmb,m3,Nat.zero_le _,hmm,?_,by simp [mc]⟩⟩⟩,b3.setCell (p:=⟨g,0,none⟩) (by show yb≤g; omega) _⟩
  ·rw [x9y]; exact r3
  ·simp only [List.size_toArray,List.length_append,List.length_take,List.length_drop,zl,bw]
   omega
 have HZ:=Hd (y0j ms.length);have hc1:ms.length≤aa:=aN;generalize hgz:(Builtin.zeroCells (Value.agg #[.int .i32 0,.int .i64 0]).cells ms.length).toList=zz at *;have bG:=Hd hgz;clear h1 hm hy hk hcur hct hcs cy aN hgz;have hne2:¬ ((ms.length:Int)=0):=(by omega);go_enter Tryz.func170,Tryz.ntmps170;go_wp2_with fail;refine (Uh K1).mono ?_;rintro e w1 ⟨rfl,y1,g1⟩;obtain ⟨W2,W3,W4,ab,al,hW4,t2,t3,c1,c2,c3,f3,aH,aI,bM⟩:=(Uh HK) w1 y1 g1;have bc:=Hd aH;have bd:=Hd aI;have b6:=Hd bM;clear K1 HK y1 g1 aL aH aI bM
 have q1:(Builtin.clear_ #[99] 0 #[.slice (some ⟨g,1,none⟩) 255 255]).run Tryz.prog w1=.ok (.tuple #[]) W2:=by
  rw [← ab];exact x5V 99 3 0 g 1 255 255 _ Tryz.underlying99 y9q (by decide) (ia z255) y9p t2 (fun v hv=>by obtain ⟨z,_,rfl⟩:=List.mem_map.1 hv; rfl)
 have q2:(Builtin.clear_ #[219] 0 #[.slice (some ⟨mb,0,none⟩) ms.length aa]).run Tryz.prog W2=.ok (.tuple #[]) W3:=by
  rw [← al];exact x5V 219 225 0 mb 0 ms.length aa _ Tryz.underlying219 y6N ah zz (Uh bG) t3 (Uh HZ).2
 clear ab al t2 t3 bG HZ;go_wp2;go_end0;exact ⟨rfl,Uh bc,Uh bd,Uh b6⟩
end Od
open Ti
namespace Od
theorem z0o:∃ i z,Tryz.prog.info? 225=some i∧i.zero=some z∧i.size=2∧i.bytes=16∧z.cells.size=2:=by
 have h:(Tryz.prog.info? 225).map (fun i=>(i.size,i.bytes,i.zero.map (·.cells.size)))=some (2,16,some 2):=(by kernel_rfl);obtain ⟨i,hi,h1⟩:=Option.map_eq_some_iff.1 h;simp only [Prod.mk.injEq] at h1;obtain ⟨h1,h2,h3⟩:=h1;obtain ⟨z,hz,cN⟩:=Option.map_eq_some_iff.1 h3;exact ⟨i,z,hi,hz,h1,h2,cN⟩
theorem y1u (w:World) (x y:Value):(Instr.buildSlice 219 1 #[(0,.agg #[x,y])]).run Tryz.prog w=.ok (.slice (some ⟨w.heap.size,0,none⟩) 1 1) (w.alloc (.cells #[x,y] 225)):=by
 obtain ⟨i,z,hi,hz,h1,_,h3⟩:=z0o;refine run_buildSlice w 219 225 1 _ _ i z Tryz.underlying219 hi hz (by rw [h1]; decide) (by rw [h1]; decide) ?_;rw [h1];have:=Great.fill_whole (s:=2) (by decide) [Value.agg #[x,y]] ((Array.range (1 * 2)).map (z.cells[· % z.cells.size]!)) (fun v hv=>by simp at hv; subst hv; simp [Value.cells]) (by simp);simpa [Value.cells] using this
theorem y2w (k:Int→Int) (ms:List Int) (m:Int) {c:Nat} (hc:k m=c) (h5:c<255):(cnts k ms).set c ((cnts k ms).getD c 0+1)=cnts k (ms++[m]):=by
 refine x2T (n:=255) (by rw [List.length_set,x1a]) (x1a _ _) (fun j hj=>?_);rw [x5d _ c j _ (by rw [x1a]; exact h5),x6h _ _ hj,x6h _ _ hj,x6h _ _ h5,Od.x4E,List.length_append];by_cases h:j=c
 ·rw [if_pos h,h]
  simp [Od.ft,hc]
 ·rw [if_neg h]
  have:Od.ft k j [m]=[]:=by
   unfold Od.ft;rw [List.filter_cons_of_neg (by simp; omega)]; rfl
  rw [this]; simp
theorem y8I (k:Int→Int) (ms:List Int) (m:Int):mc k (ms++[m])=mc k ms++[.int .i32 m,.int .i64 (k m)]:=by simp [mc,List.flatMap_append]
theorem x9Y {w:World} {b e sz n g o:Nat} {v:Value} {xs:List Value} (h:w.ownsRow b e sz v n xs) (ah:v.ownBlock≠some g) (u:Value):(w.setCell ⟨g,o,none⟩ u).ownsRow b e sz v n xs:=by
 refine ⟨h.1,?_⟩;rcases h.2 with h2 | ⟨j,cap,cur,e1,e2,e3,e4⟩
 ·exact Or.inl h2
 ·refine Or.inr ⟨j,cap,cur,e1,e2,?_,e4⟩
  rw [heap_setCell_other w ⟨g,o,none⟩ j u (fun e=>ah (by rw [e1]; exact congrArg some e))]; exact e3
theorem x4L (W:World) (g:Nat) (u:Value) (h:W.cell? ⟨g,0,none⟩=some u):(Instr.loadAt 219 (.pointer (some ⟨g,0,none⟩))).run Tryz.prog W=.ok u W:=by
 simp [Instr.loadAt,go_sem,Tryz.isAgg219,Tryz.sizeOf219,h,Addr.add]
theorem x7w (k:Int→Int) (g:Nat) (ms:List Int) (m:Int) (cn:Nat) (w:World) (h:x1j w k g ms) (hc:k m=(cn:Int)) (h1:1≤cn) (h2:cn≤254) (hn:ms.length≤3000000):Calls Tryz.prog 169 #[.pointer (some ⟨g,0,none⟩),.agg #[.int .i32 m,.int .i64 (cn:Int)]] w fun e w'=>e=.returned (.tuple #[])∧x1j w' k g (ms++[m])∧Below g w w':=by
 obtain ⟨i0,z0,ct,cL,cM,aD,au⟩:=z0o;obtain ⟨ao,aa,hb,aw,cw,cx⟩:=h.shape;have av:cn<255:=(by omega);obtain ⟨gx,bu⟩:∃ gx,w.heap.size=gx:=⟨_,rfl⟩;obtain ⟨W1,ad⟩:∃ W1,w.alloc (.cells #[.int .i32 m,.int .i64 (cn:Int)] 225)=W1:=⟨_,rfl⟩;have bP:=hb.lt;have a7:W1.drew.cell? ⟨gx,0,none⟩=some (.int .i32 m):=(by rw [← ad,← bu]; simp);have a8:W1.drew.cell? ⟨gx,1,none⟩=some (.int .i64 (cn:Int)):=(by rw [← ad,← bu]; simp);have aA:Blk W1.drew g 222 (.slice ao ms.length aa :: ia (cnts k ms)):=(by rw [← ad]; exact hb.alloc _);have ap:W1.drew.ownsRow (g+1) 225 2 (.slice ao ms.length aa) ms.length (mc k ms):=(by rw [← ad]; exact (aw.alloc _).drew);have aJ:Below g w W1.drew:=(by rw [← ad]; exact ((Below.refl _ _).alloc (by omega) _).drew);have ax:W1.drew.heap.size=gx+1:=(by rw [← ad,← bu]; simp);obtain ⟨W2,ab⟩:∃ W2,W1.drew.alloc (.cells #[.int .i32 m,.int .i64 (cn:Int)] 225)=W2:=⟨_,rfl⟩;obtain ⟨gy,an⟩:∃ gy,W1.drew.heap.size=gy:=⟨_,rfl⟩;have cF:W2.heap.size=gy+1:=(by rw [← ab]; simp [an]);have ai:(Instr.buildSlice 219 1 #[(0,.agg #[.int .i32 m,.int .i64 (cn:Int)])]).run Tryz.prog W1.drew=.ok (.slice (some ⟨gy,0,none⟩) 1 1) W2:=(by rw [← ab,← an]; exact y1u _ _ _);have a5:W2.cell? ⟨gx,0,none⟩=some (.int .i32 m):=(by rw [← ab,World.cell?_alloc_lt _ _ _ (by show gx<_; omega)]; exact a7);have a6:W2.cell? ⟨gx,1,none⟩=some (.int .i64 (cn:Int)):=(by rw [← ab,World.cell?_alloc_lt _ _ _ (by show gx<_; omega)]; exact a8);have af:Blk W2 g 222 (.slice ao ms.length aa :: ia (cnts k ms)):=(by rw [← ab]; exact aA.alloc _);have aq:W2.ownsRow (g+1) 225 2 (.slice ao ms.length aa) ms.length (mc k ms):=(by rw [← ab]; exact ap.alloc _);have aK:Below g w W2:=(by rw [← ab]; exact aJ.alloc (by omega) _);have bN:g+1≤W2.heap.size:=(by omega);have bX:(Instr.loadAt 219 (.pointer (some ⟨g,0,none⟩))).run Tryz.prog W1.drew=.ok (.slice ao ms.length aa) W1.drew:=x4L _ _ _ (aA.cell rfl);have bY:(Instr.loadAt 219 (.pointer (some ⟨g,0,none⟩))).run Tryz.prog W2=.ok (.slice ao ms.length aa) W2:=x4L _ _ _ (af.cell rfl)
 have aO:∀ u∈[Value.int .i32 m,.int .i64 (cn:Int)],u.oneCell'=true:=fun u hu=>by
  rcases List.mem_cons.1 hu with rfl | hu
  ·rfl
  ·obtain rfl:=List.mem_singleton.1 hu; rfl
 have aF:=Hd aq
 have aE:Hid (∀ (j:Nat) (u:Value),[Value.int .i32 m,.int .i64 (cn:Int)][j]?=some u→W2.cell? ((⟨gy,0,none⟩:Addr).add j)=some u):=fun j u hu=>by
  rw [Addr.add_mid,Nat.zero_add,← ab,← an];exact (Blk.new W1.drew 225 [Value.int .i32 m,.int .i64 (cn:Int)] _ rfl).cell hu
 have bh:Hid (∀ (W:World) gg cap,W.cell? ⟨gx,0,none⟩=some (.int .i32 m)→W.cell? ⟨gx,1,none⟩=some (.int .i64 (cn:Int))→(W.setCell ⟨g,0,none⟩ (.slice (some ⟨gg,0,none⟩) (ms.length+1) cap)).cell? ⟨gx,0,none⟩=some (.int .i32 m)∧(W.setCell ⟨g,0,none⟩ (.slice (some ⟨gg,0,none⟩) (ms.length+1) cap)).cell? ⟨gx,1,none⟩=some (.int .i64 (cn:Int))):=fun W gg cap a b=>by
  have ah:∀ i,(⟨g,0,none⟩:Addr)≠⟨gx,i,none⟩:=fun i e=>(by have:g=gx:=congrArg Addr.block e; omega);rw [World.cell?_setCell_other _ _ _ _ (ah 0),World.cell?_setCell_other _ _ _ _ (ah 1)];exact ⟨a,b⟩
 obtain ⟨q,hq⟩:∃ q,(cnts k ms).getD cn 0=q:=⟨_,rfl⟩
 have bf:Hid (∀ (W:World) (v:Value),W.cell? ⟨gx,1,none⟩=some (.int .i64 (cn:Int))→(W.setCell ⟨g,1+cn,none⟩ v).cell? ⟨gx,1,none⟩=some (.int .i64 (cn:Int))):=fun W v a=>by
  rw [World.cell?_setCell_other _ _ _ _ (fun e=>by have:g=gx:=congrArg Addr.block e; omega)];exact a
 have ak:Hid (∀ gg cap (w8:World),w8.ownsRow (g+1) 225 2 (.slice (some ⟨gg,0,none⟩) (ms.length+1) cap) (ms.length+1) (mc k ms++[.int .i32 m,.int .i64 (cn:Int)])→W2.grownBy w8 (Value.slice ao ms.length aa).ownBlock→((Value.slice ao ms.length aa).ownBlock=some gg∨gg=W2.heap.size)→w8.cell? ⟨gx,0,none⟩=some (.int .i32 m)∧w8.cell? ⟨gx,1,none⟩=some (.int .i64 (cn:Int))∧w8.cell? ⟨g,0,none⟩=some (.slice ao ms.length aa)∧w8.frozen? ⟨g,0,none⟩=false∧∃ W9,(w8.setCell ⟨g,0,none⟩ (.slice (some ⟨gg,0,none⟩) (ms.length+1) cap)).drew=W9∧W9.cell? ⟨gx,1,none⟩=some (.int .i64 (cn:Int))∧W9.cell? ⟨g,1+cn,none⟩=some (.int .i64 q)∧W9.frozen? ⟨g,1+cn,none⟩=false∧x1j (W9.setCell ⟨g,1+cn,none⟩ (.int .i64 (q+1))) k g (ms++[m])∧Below g w (W9.setCell ⟨g,1+cn,none⟩ (.int .i64 (q+1)))):=fun gg cap w8 hr8 hg aS=>by
  have aV:∀ j,(Value.slice ao ms.length aa).ownBlock=some j→g+1≤j∧j<gx:=fun j hj=>by
   have:=aw.lt j hj;omega
  have cB:some g≠(Value.slice ao ms.length aa).ownBlock:=fun e=>(by have:=aV g e.symm; omega);have bS:some gx≠(Value.slice ao ms.length aa).ownBlock:=fun e=>(by have:=aV gx e.symm; omega);have bm:=af.kept hg cB;have u0:=hg.cell a5 bS;have u1:=hg.cell a6 bS
  have hgg:g+1≤gg:=by
   rcases aS with e | e
   ·exact (aV gg e).1
   ·omega
  have cj:=bm.set 0 (.slice (some ⟨gg,0,none⟩) (ms.length+1) cap);have hb9':Blk (w8.setCell ⟨g,0,none⟩ (.slice (some ⟨gg,0,none⟩) (ms.length+1) cap)).drew g 222 (.slice (some ⟨gg,0,none⟩) (ms.length+1) cap :: ia (cnts k ms)):=cj;have bn:Below g w w8:=aK.grown hg (by omega) (fun j hj=>by have:=aV j hj; omega);have bo:Below g w (w8.setCell ⟨g,0,none⟩ (.slice (some ⟨gg,0,none⟩) (ms.length+1) cap)).drew:=(bn.setCell (p:=⟨g,0,none⟩) (Nat.le_refl _) _).drew;have hr9:(w8.setCell ⟨g,0,none⟩ (.slice (some ⟨gg,0,none⟩) (ms.length+1) cap)).drew.ownsRow (g+1) 225 2 (.slice (some ⟨gg,0,none⟩) (ms.length+1) cap) (ms.length+1) (mc k ms++[.int .i32 m,.int .i64 (cn:Int)]):=x9Y hr8 (fun e=>absurd (show gg=g by simpa [Value.ownBlock] using e) (by omega)) _
  have cE:(Value.slice (some ⟨gg,0,none⟩) (ms.length+1) cap :: ia (cnts k ms))[1+cn]?=some (.int .i64 q):=by
   rw [Nat.add_comm 1 cn,List.getElem?_cons_succ,y3g (by rw [x1a]; exact av),hq]
  refine ⟨u0,u1,bm.cell rfl,bm.frozen 0,_,rfl,?_,hb9'.cell cE,hb9'.frozen _,⟨.slice (some ⟨gg,0,none⟩) (ms.length+1) cap,?_,?_⟩,bo.setCell (p:=⟨g,1+cn,none⟩) (Nat.le_refl _) _⟩
  ·exact ((Uh bh) w8 gg cap u0 u1).2
  ·have:=hb9'.set (1+cn) (.int .i64 (q+1))
   rw [Nat.add_comm 1 cn,List.set_cons_succ,y3h,← hq,y2w k ms m hc av,hq] at this;rw [Nat.add_comm 1 cn];exact this
  ·rw [List.length_append,y8I,hc]
   exact x9Y hr9 (fun e=>absurd (show gg=g by simpa [Value.ownBlock] using e) (by omega)) _
 have hci1:(cn:Int)<255:=(by omega);have cD:0≤q∧q≤3000000:=(by rw [← hq]; exact x9x k ms hn _ (by have:=x1a k ms; simp [List.getD,show cn<(cnts k ms).length by omega]));obtain ⟨hq1,hq2⟩:=cD;have hwq:IntKind.i64.wrap (q+1)=q+1:=(by rw [IntKind.wrap_i64]; omega);clear h hb aw aA ap aJ ax ab cF af aq aK an hc hq av;go_enter Tryz.func169,Tryz.ntmps169;go_upto_region 1 with fail;refine wp_region_held_drew (S:=fun w'=>w'.cell? ⟨gx,0,none⟩=some (.int .i32 m)∧w'.cell? ⟨gx,1,none⟩=some (.int .i64 (cn:Int))) (by kernel_rfl) (⟨a7,a8⟩) (fun hHeld=>?_);generalize W1.drew=Wd at *;refine tk9 0 ⟨some 4,_,_,_,_,_⟩ (.pointer (some ⟨g,0,none⟩)) rfl ?_ hHeld ?_
 ·intro w ac
  go_simp
 try simp only [Act.put,sa9,sb9,sc9]
 refine tk9 1 ⟨some 5,_,_,_,_,_⟩ (.pointer (some ⟨g,0,none⟩)) rfl ?_ hHeld ?_
 ·intro w ac
  go_simp
 try simp only [Act.put,sa9,sb9,sc9]
 refine tk9 2 ⟨some 6,_,_,_,_,_⟩ (.pointer (some ⟨g,0,none⟩)) rfl ?_ hHeld ?_
 ·intro w ac
  go_simp
 try simp only [Act.put,sa9,sb9,sc9]
 refine tk9 3 ⟨some 7,_,_,_,_,_⟩ (.pointer (some ⟨g,0,none⟩)) rfl ?_ hHeld ?_
 ·intro w ac
  go_simp
 try simp only [Act.put,sa9,sb9,sc9]
 refine tk9 5 ⟨some 9,_,_,_,_,_⟩ (.agg #[.int .i32 m,.int .i64 (cn:Int)]) rfl ?_ hHeld ?_
 ·intro w ac
  obtain ⟨s0,s1⟩:=ac; go_simp
 try simp only [Act.put,sa9,sb9,sc9]
 refine wpAnyH_ready (rs:=[4,6]) (by kernel_rfl) (by simp) ?_;refine AllReadyH.cons (o:=⟨some 8,_,_,_,_,_⟩) rfl (fun K hK=>?pa) (AllReadyH.cons (o:=⟨some 10,_,_,_,_,_⟩) rfl (fun K hK=>?pb) AllReadyH.nil)
 case' pa =>
  refine x1v (by rfl) 219 (.tmp 7) (by rfl) _ _ (by rfl) bX ?_;refine hK.out _ _ (⟨a7,a8⟩) (fun hHeld=>?_);clear hK K
  try simp only [Act.put,sa9,sb9,sc9]
  refine wpAnyH_ready (rs:=[6]) (by kernel_rfl) (by simp) ?_;refine AllReadyH.cons (o:=⟨some 10,_,_,_,_,_⟩) rfl (fun K hK=>?_) AllReadyH.nil;refine x1G (by rfl) 219 (.tmp 9) (by rfl) _ _ (by rfl) ai ?_;refine hK.out _ _ (⟨a5,a6⟩) (fun hHeld=>?_);clear hK K
  try simp only [Act.put,sa9,sb9,sc9]
 case' pb =>
  refine x1G (by rfl) 219 (.tmp 9) (by rfl) _ _ (by rfl) ai ?_;refine hK.out _ _ (⟨a5,a6⟩) (fun hHeld=>?_);clear hK K
  try simp only [Act.put,sa9,sb9,sc9]
  refine wpAnyH_ready (rs:=[4]) (by kernel_rfl) (by simp) ?_;refine AllReadyH.cons (o:=⟨some 8,_,_,_,_,_⟩) rfl (fun K hK=>?_) AllReadyH.nil;refine x1v (by rfl) 219 (.tmp 7) (by rfl) _ _ (by rfl) bY ?_;refine hK.out _ _ (⟨a5,a6⟩) (fun hHeld=>?_);clear hK K
  try simp only [Act.put,sa9,sb9,sc9]
 all_goals
  refine wpAnyH_ready (rs:=[7]) (by kernel_rfl) (by simp) ?_;refine AllReadyH.cons (o:=⟨some 11,_,_,_,_,_⟩) rfl (fun K hK=>?_) AllReadyH.nil;refine step_append_lies _ (by rfl) (.tmp 8) (.tmp 10) 219 (by rfl) (g+1) 225 i0 z0 2 16 Tryz.underlying219 ct cL cM aD au (by omega) (.slice ao ms.length aa) ms.length (mc k ms) (by rfl) (Uh aF) ⟨gy,0,none⟩ 1 1 [.int .i32 m,.int .i64 (cn:Int)] (by rfl) (by rfl) (Uh aE) aO (by omega) (by unfold maxLen; omega) (by omega) bN W2.heap.size rfl ?_;intro gg cap w8 ar am aS bx;obtain ⟨s0,s1,cl,co,W9,bk,y1,y2,fy,aH,aI⟩:=(Uh ak) gg cap w8 ar am aS;refine hK.out _ _ ?_ (fun hHeld=>?_)
  ·exact ⟨s0,s1⟩
  clear hK K
  try simp only [Act.put,sa9,sb9,sc9]
  refine tk9 8 ⟨some 12,_,_,_,_,_⟩ (.pointer (some ⟨g,0,none⟩)) rfl ?_ hHeld ?_
  ·intro w ac
   go_simp
  try simp only [Act.put,sa9,sb9,sc9]
  refine tk9 9 ⟨some 13,_,_,_,_,_⟩ (.pointer (some ⟨g,0,none⟩)) rfl ?_ hHeld ?_
  ·intro w ac
   go_simp
  try simp only [Act.put,sa9,sb9,sc9]
  refine wpAnyH_ready (rs:=[10]) (by kernel_rfl) (by simp) ?_;refine AllReadyH.cons (o:=⟨none,_,_,_,_,_⟩) rfl (fun K hK=>?_) AllReadyH.nil;go_simp;refine hK.out _ _ ?_ (fun hHeld=>?_)
  ·exact (Uh bh) _ _ _ s0 s1
  clear hK K;refine wpAnyH_done (by kernel_rfl) ?_ _;have bc:=Hd aH;have bd:=Hd aI;clear hHeld ar am aS bx s0 s1 cl co ak aF aE ai bX bY aO bN aH aI bh a7 a8;go_upto_region 2 with fail;refine wp_region_held_drew (S:=fun w'=>w'.cell? ⟨gx,1,none⟩=some (.int .i64 (cn:Int))) (by kernel_rfl) (by rw [bk]; exact y1) (fun hHeld=>?_);rw [bk] at hHeld ⊢;clear bk;refine tk9 0 ⟨some 14,_,_,_,_,_⟩ (.pointer (some ⟨g,0,none⟩)) rfl ?_ hHeld ?_
  ·intro w ac
   go_simp
  try simp only [Act.put,sa9,sb9,sc9]
  refine tk9 1 ⟨some 15,_,_,_,_,_⟩ (.pointer (some ⟨gx,1,none⟩)) rfl ?_ hHeld ?_
  ·intro w ac
   go_simp
  try simp only [Act.put,sa9,sb9,sc9]
  refine tk9 2 ⟨some 16,_,_,_,_,_⟩ (.int .i64 (cn:Int)) rfl ?_ hHeld ?_
  ·intro w ac
   go_simp
  try simp only [Act.put,sa9,sb9,sc9]
  refine tk9 3 ⟨some 17,_,_,_,_,_⟩ (.pointer (some ⟨g,0,none⟩)) rfl ?_ hHeld ?_
  ·intro w ac
   go_simp
  try simp only [Act.put,sa9,sb9,sc9]
  refine tk9 4 ⟨some 18,_,_,_,_,_⟩ (.pointer (some ⟨g,1,none⟩)) rfl ?_ hHeld ?_
  ·intro w ac
   go_simp
  try simp only [Act.put,sa9,sb9,sc9]
  refine tk9 5 ⟨some 19,_,_,_,_,_⟩ (.pointer (some ⟨g,1+cn,none⟩)) rfl ?_ hHeld ?_
  ·intro w ac
   go_simp
  try simp only [Act.put,sa9,sb9,sc9]
  refine tk9 8 ⟨some 22,_,_,_,_,_⟩ (.pointer (some ⟨g,0,none⟩)) rfl ?_ hHeld ?_
  ·intro w ac
   go_simp
  try simp only [Act.put,sa9,sb9,sc9]
  refine tk9 9 ⟨some 23,_,_,_,_,_⟩ (.pointer (some ⟨g,1,none⟩)) rfl ?_ hHeld ?_
  ·intro w ac
   go_simp
  try simp only [Act.put,sa9,sb9,sc9]
  refine wpAnyH_ready (rs:=[6]) (by kernel_rfl) (by simp) ?_;refine AllReadyH.cons (o:=⟨some 20,_,_,_,_,_⟩) rfl (fun K hK=>?_) AllReadyH.nil;go_simp;refine hK.out _ _ ?_ (fun hHeld=>?_)
  ·exact y1
  clear hK K
  try simp only [Act.put,sa9,sb9,sc9]
  refine tk9 7 ⟨some 21,_,_,_,_,_⟩ (.int .i64 (q+1)) rfl ?_ hHeld ?_
  ·intro w ac
   go_simp
  try simp only [Act.put,sa9,sb9,sc9]
  refine tk9 10 ⟨some 24,_,_,_,_,_⟩ (.pointer (some ⟨g,1+cn,none⟩)) rfl ?_ hHeld ?_
  ·intro w ac
   go_simp
  try simp only [Act.put,sa9,sb9,sc9]
  refine wpAnyH_ready (rs:=[11]) (by kernel_rfl) (by simp) ?_;refine AllReadyH.cons (o:=⟨none,_,_,_,_,_⟩) rfl (fun K hK=>?_) AllReadyH.nil;go_simp;refine hK.out _ _ ?_ (fun hHeld=>?_)
  ·exact (Uh bf) _ _ y1
  clear hK K;refine wpAnyH_done (by kernel_rfl) ?_ _;clear hHeld;go_wp2;go_end0;exact ⟨rfl,Uh bc,Uh bd⟩
end Od
end Go.Proofs.YtkglkajjofidoaaGreatDoor
