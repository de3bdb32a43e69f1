/- Oh12 Oi12 Op12 Oj12 Ok12 Ol12 -/
import Derived.Test.YtkglkajjofidoaaGreatDoorV22
import Derived.Test.YtkglkajjofidoaaGreatDoorV2
set_option maxHeartbeats 4000000
set_option maxRecDepth 8000
namespace Go.Proofs.YtkglkajjofidoaaGreatDoor
open Go.Proofs.Tryz
open Go.RowKit
open Ti
namespace Od
def Blk (w:World) (g:Nat) (t:TypeId) (vs:List Value):Prop:=w.heap[g]?=some (.cells vs.toArray t (0,0))
theorem Blk.lt {w:World} {g t:Nat} {vs:List Value} (h:Blk w g t vs):g<w.heap.size:=(Array.getElem?_eq_some_iff.1 h).1
theorem Blk.cell {w:World} {g t:Nat} {vs:List Value} (h:Blk w g t vs) {i:Nat} {v:Value} (hv:vs[i]?=some v):w.cell? ⟨g,i,none⟩=some v:=by
 rw [cell_of_row _ _ _ _ _ _ h]; simpa using hv
theorem Blk.frozen {w:World} {g t:Nat} {vs:List Value} (h:Blk w g t vs) (i:Nat):w.frozen? ⟨g,i,none⟩=false:=frozen_of_row _ _ _ _ _ h
theorem Blk.set {w:World} {g t:Nat} {vs:List Value} (h:Blk w g t vs) (i:Nat) (v:Value):Blk (w.setCell ⟨g,i,none⟩ v) g t (vs.set i v):=by
 unfold Blk at h ⊢;rw [heap_setCell_same w g i _ _ _ h];simp
theorem Blk.other {w:World} {g t:Nat} {vs:List Value} (h:Blk w g t vs) {a:Addr} (ag:g≠a.block) (v:Value):Blk (w.setCell a v) g t vs:=by
 unfold Blk at h ⊢;rw [heap_setCell_other w a g v ag]; exact h
theorem Blk.new (w:World) (t:Nat) (vs:List Value) (C:Array Value) (hC:C=vs.toArray):Blk (w.alloc (.cells C t)) w.heap.size t vs:=by
 subst hC;exact heap_alloc_last w _
theorem Blk.alloc {w:World} {g t:Nat} {vs:List Value} (h:Blk w g t vs) (o:Obj):Blk (w.alloc o) g t vs:=by
 have hl:=h.lt;unfold Blk at h ⊢;rw [Below.heap_alloc w o g hl]; exact h
theorem Blk.below {w w':World} {g t n:Nat} {vs:List Value} (h:Blk w g t vs) (hb:Below n w w') (hn:g<n):Blk w' g t vs:=by
 unfold Blk at h ⊢;rw [hb.block g hn]; exact h
theorem Blk.range {w:World} {g t:Nat} {vs:List Value} (h:Blk w g t vs) (o:Nat):w.rangeAt g o (vs.drop o):=fun j v hv=>h.cell (by rw [List.getElem?_drop] at hv; exact hv)
theorem Blk.there {w:World} {g t:Nat} {vs:List Value} (h:Blk w g t vs) {o n:Nat} (hn:o+n<=vs.length):w.there g o n:=fun j hj=>by
 refine ⟨?_,h.frozen _⟩;rw [h.cell (List.getElem?_eq_getElem (show o+j<vs.length by omega))]; rfl
theorem Blk.setCells {w:World} {g t:Nat}:∀ (us:List Value) {vs:List Value} (o:Nat),Blk w g t vs->o+us.length<=vs.length->Blk (w.setCells g o us) g t (vs.take o++us++vs.drop (o+us.length)):=by
 intro us
 induction us generalizing w with
 | nil=>intro vs o h _; simpa [World.setCells] using h
 | cons u us ih =>
  intro vs o h hl;rw [World.setCells];have:=ih (o+1) (h.set o u) (by rw [List.length_set]; simp at hl; omega)
  have e:(vs.set o u).take (o+1)++us++(vs.set o u).drop (o+1+us.length)=vs.take o++(u :: us)++vs.drop (o+(u :: us).length):=by
   simp only [List.length_cons] at hl
   have h1:(vs.set o u).take (o+1)=vs.take o++[u]:=by
    rw [List.take_add_one,List.take_set_of_le (l0r _),List.getElem?_set_self (by omega)]; rfl
   rw [h1,List.drop_set_of_lt (by omega),List.length_cons,show o+1+us.length=o+(us.length+1) by omega];simp
  rw [e] at this;exact this
def ia (zs:List Int):List Value:=zs.map (Value.int .i64)
def z255:List Int:=List.replicate 255 0
theorem y4b {zs:List Int} {i:Nat} (hi:i<zs.length):(ia zs)[i]?=some (.int .i64 (zs.getD i 0)):=by
 unfold ia;rw [List.getElem?_map,List.getElem?_eq_getElem hi]; simp [List.getD,hi]
theorem y4c (zs:List Int) (i:Nat) (v:Int):(ia zs).set i (.int .i64 v)=ia (zs.set i v):=by unfold ia; rw [List.map_set]
theorem x2F (zs:List Int):(ia zs).length=zs.length:=List.length_map _
theorem y8m (zs:List Int):(ia zs).toArray.all (·.oneCell')=true:=all_oneCell_toArray (fun v hv=>by obtain ⟨z,_,rfl⟩:=List.mem_map.1 hv; rfl)
theorem x2z:(prog.info? 220).map (·.size)=some 255:=by kernel_rfl
end Od
open Ti
namespace Od
def beg (cs:List Int):List Int:=(List.range 255).map fun i=>(cs.take i).sum
theorem x3s (cs:List Int):(beg cs).length=255:=by simp [beg]
theorem y7Z (cs:List Int) {i:Nat} (hi:i<255):(beg cs).getD i 0=(cs.take i).sum:=by simp [beg,List.getD,hi]
theorem y8D (cs:List Int) (h:∀ c∈cs,0<=c/\c<=3000000):∀ k:Nat,0<=(cs.take k).sum/\(cs.take k).sum<=3000000 * (k:Int)
 | 0=>by simp
 | k+1=>by
  have ih:=y8D cs h k;rw [List.take_add_one,List.sum_append]
  cases hk:cs[k]? with
  | none=>simp; omega
  | some c =>
   have:=h c (List.mem_of_getElem? hk);simp; omega
theorem y0Y {cs:List Int} {k:Nat} (hk:k<cs.length):(cs.take (k+1)).sum=(cs.take k).sum+cs.getD k 0:=by
 rw [List.take_add_one,List.sum_append,List.getElem?_eq_getElem hk]; simp [List.getD,hk]
theorem z0G:Tryz.zeroCells220=(ia z255).toArray:=by kernel_rfl
theorem x3f {a b:List Int} {n:Nat} (ha:a.length=n) (hb:b.length=n) (h:∀ j,j<n->a.getD j 0=b.getD j 0):a=b:=by
 apply List.ext_getElem (by omega);intro i h1 h2;have:=h i (by omega);simpa [List.getD,h1,h2] using this
theorem x8l (g:Nat) (mv:Value) (cs:List Int) (w:World) (hr:Blk w g 222 (mv :: ia cs)) (hl:cs.length=255) (hc:∀ c∈cs,0<=c/\c<=3000000):Calls prog 239 #[.pointer (some ⟨g,0,none⟩)] w fun e w'=>e=.returned (.agg (ia (beg cs)).toArray)/\Bw w w':=by
 obtain ⟨W1,ac⟩:∃ W1,w.alloc (.cells Tryz.zeroCells220 220)=W1:=⟨_,rfl⟩;obtain ⟨W2,ab⟩:∃ W2,W1.alloc (.cells Tryz.zeroCells220 220)=W2:=⟨_,rfl⟩;have az:Bw w W1:=(by rw [<- ac]; exact (b0r).alloc (l0r _) _);have aw:W1.heap.size=w.heap.size+1:=(by rw [<- ac]; simp);have ae:Bw w W2:=by rw [<- ab]; exact az.alloc (by omega) _
 have k1:Blk W2 w.heap.size 220 (ia z255):=by
  rw [<- ab]; refine Blk.alloc ?_ _; rw [<- ac]; exact Blk.new w _ _ _ z0G
 have k2:Blk W2 (w.heap.size+1) 220 (ia z255):=(by rw [<- ab,<- aw]; exact Blk.new W1 _ _ _ z0G);have bP:=hr.lt;have HR:=O hr;have HC:=O hc;have bi:Hid (∀ k,0<=(cs.take k).sum/\(cs.take k).sum<=3000000 * (k:Int)):=y8D cs hc;have bj:Hid (∀ k,k<255->(cs.take (k+1)).sum=(cs.take k).sum+cs.getD k 0):=fun k hk=>y0Y (by omega);have bI:Hid ((cs.take 0).sum=0):=(by show _=_; simp);have bb:Hid (∀ zs:List Int,zs.length=255->(∀ j,j<255->zs.getD j 0=(cs.take j).sum)->zs=beg cs):=fun zs h1 h2=>x3f h1 (x3s cs) (fun j hj=>by rw [h2 j hj,y7Z cs hj])
 have aR:Hid (∀ (W:World),Bw w W->∀ k:Nat,k<255->W.cell? ⟨g,1+k,none⟩=some (.int .i64 (cs.getD k 0))):=fun W hW k hk=>by
  rw [hW.cell bP];refine hr.cell ?_;rw [Nat.add_comm,List.getElem?_cons_succ]; exact y4b (by omega)
 have ba:Hid (∀ k:Nat,k<255->0<=cs.getD k 0/\cs.getD k 0<=3000000):=fun k hk=>hc _ (by simp [List.getD,show k<cs.length by omega]);obtain ⟨g3,bO⟩:∃ g3,g3=w.heap.size+1:=⟨_,rfl⟩;obtain ⟨g2,br⟩:∃ g2,g2=w.heap.size:=⟨_,rfl⟩;have h23:g2≠g3:=(by omega);have bs:w.heap.size<=g2:=(by omega);have bt:w.heap.size<=g3:=(by omega);rw [<- br] at k1;rw [<- bO] at k2 aw;have K1:=O k1;have K2:=O k2;have bE:=O ae;have hg2':=br.symm;have Z0:Hid (z255.length=255):=(by show _=_; simp [z255]);clear hr hc az ae k1 k2 br bO hl;go_enter func239,ntmps239;go_wp2;clear ac ab aw;go_loopw [4,5,6] (fun nn _ kk wr=>∃ (k:Nat) (zs:List Int),kk=.int .i64 k/\nn=.int .i64 (cs.take k).sum/\k<=255/\zs.length=255/\Blk wr g3 220 (ia zs)/\Blk wr g2 220 (ia z255)/\Bw w wr/\∀ j,j<k->zs.getD j 0=(cs.take j).sum) (fun _ _ kk _=>255 - (intOf kk).toNat)
 case atStart=>exact ⟨0,z255,rfl,by rw [V bI],by omega,V Z0,V K2,V K1,V bE,fun j hj=>by omega⟩
 case round =>
  clear K1 K2 bE bI Z0;obtain ⟨k,zs,rfl,rfl,hk,bW,ar,aC,hb,hall⟩:=hrel;have cI:=V bi k;by_cases hlt:k<255
  ·have bU:=V bj k hlt;have co:=V aR wr hb k hlt;obtain ⟨q0,q1⟩:=V ba k hlt;have hc3:=ar.cell (y4b (zs:=zs) (i:=k) (by omega));have hf3:=ar.frozen k;have ay:Blk (wr.setCell ⟨g3,k,none⟩ (.int .i64 (cs.take k).sum)) g3 220 (ia (zs.set k (cs.take k).sum)):=(by rw [<- y4c]; exact ar.set k _);have ax:=aC.other (a:=⟨g3,k,none⟩) h23 (.int .i64 (cs.take k).sum);have ae:=hb.setCell (p:=⟨g3,k,none⟩) bt (.int .i64 (cs.take k).sum);have bp:(wr.setCell ⟨g3,k,none⟩ (.int .i64 (cs.take k).sum)).cell? ⟨g,1+k,none⟩=some (.int .i64 (cs.getD k 0)):=V aR _ ae k hlt
   have bl:Hid (∀ j,j<k+1->(zs.set k (cs.take k).sum).getD j 0=(cs.take j).sum):=by
    intro j hj;rw [x5r zs k j _ (by omega)];split
    ·rename_i e; rw [e]
    ·exact hall j (by omega)
   obtain ⟨W5,cj⟩:∃ W5,wr.setCell ⟨g3,k,none⟩ (.int .i64 (cs.take k).sum)=W5:=⟨_,rfl⟩;rw [cj] at ay ax ae bp;have cf:=O ay;have ce:=O ax;have HB:=O ae;have cc:=O bU;clear ar aC hb hall ay ax ae co bU bj aR ba bi bb;generalize zs.getD k 0=old at *;generalize hq:cs.getD k 0=q at *;generalize hs:(cs.take k).sum=s at *;have bv:(0:Int)<=(k:Int):=(by omega);have hin2:(k:Int)<255:=(by omega);go_wp2
   go_roundw
   case rel=>exact ⟨k+1,zs.set k s,by go_num,by rw [V cc],by omega,by simp [bW],V cf,V ce,V HB,V bl⟩
   case measure=>simp [intOf]; omega
  ·obtain rfl:k=255:=(by omega);have bz:=V bb zs bW hall;subst bz;clear hall aR ba bi bj bb cI;go_upto_region 9 with fail;refine wp_region_list ?_;have bA:=ar.range 0;rw [List.drop_zero] at bA;refine wpList_load_mid (by rfl) 220 (.tmp 3) (by rfl) g3 0 (by rfl) (ia (beg cs)) _ bA underlying220 (by rfl) (by rw [x2F,x3s]; exact x2z) ?_;have ai:wr.there g2 0 (ia (beg cs)).toArray.size:=aC.there (by simp [x2F,x3s,z255]);refine wpList_store_mid (by rfl) 220 (.tmp 2) (.tmp 21) (by rfl) g2 0 (ia (beg cs)).toArray (by rfl) (by rfl) ai (by rw [show (ia (beg cs)).toArray.size=255 by simp [x2F,x3s]]; exact x2z) (y8m _) ?_;have aQ:=World.rangeAt_setCells_same wr g2 0 (ia (beg cs)) (by simpa using ai);have cl:Bw w (wr.setCells g2 0 (ia (beg cs))):=x0z bs _ _ _ hb;have cw:=run_loadVar_mid (P:=prog) _ g2 0 220 (ia (beg cs)) _ aQ underlying220 (by rfl) (by rw [x2F,x3s]; exact x2z);clear ar aC ai bA aQ;generalize wr.setCells g2 0 (ia (beg cs))=wf at *;go_wp2;exact bodyPost_ret (v:=.agg (ia (beg cs)).toArray) (x2e rfl _ _ _ g2 _ (by rfl) cw) rfl ⟨rfl,cl⟩
end Od
namespace Od
def srt (k:Int->Int):Int->List Int->Bool
 | _,[]=>true
 | a,c :: l=>if k c≠0/\k c<a then false else srt k (k c) l
def fl (k:Int->Int) (j:Int) (l:List Int):List Int:=l.filter fun m=>decide (k m=0\/k m=j)
def bkN (k:Int->Int) (ms:List Int) (n:Nat):List Int:=(List.range n).flatMap fun (c:Nat)=>ms.filter fun m=>decide (k m=(c:Int))
def bkt (k:Int->Int) (ms:List Int):List Int:=bkN k ms 255
def ordA (k:Int->Int):List Int->List Int->List Int
 | ms,[]=>bkt k ms
 | ms,c :: l=>if k c=0 then bkt k ms++c :: ordA k [] l else ordA k (ms++[c]) l
def ord (k:Int->Int) (xs:List Int):List Int:=ordA k [] xs
def Mk (k:Int->Int) (ms:List Int):Prop:=∀ m∈ms,1<=k m/\k m<=254
theorem x8X (k:Int->Int):bkt k []=[]:=by
 unfold bkt bkN;simp
theorem x4m (k:Int->Int) (ms:List Int) (n:Nat):bkN k ms (n+1)=bkN k ms n++ms.filter fun m=>decide (k m=(n:Int)):=by
 simp [bkN,List.range_succ,List.flatMap_append]
theorem y6C (p q r:Int->Bool) (h:∀ m,r m=(p m || q m)) (hd:∀ m,¬ (p m=true/\q m=true)) (ms:List Int):(ms.filter r).length=(ms.filter p).length+(ms.filter q).length:=by
 induction ms with
 | nil=>rfl
 | cons m ms ih =>
  have h1:=h m;have h2:=hd m;simp only [List.filter_cons,h1];cases hp:p m <;> cases hq:q m <;> simp_all <;> omega
theorem y9a (k:Int->Int) (ms:List Int) (h:∀ m∈ms,0<=k m) (n:Nat):(bkN k ms n).length=(ms.filter fun m=>decide (k m<(n:Int))).length:=by
 induction n with
 | zero =>
  have:(ms.filter fun m=>decide (k m<((0:Nat):Int)))=[]:=by
   rw [List.filter_eq_nil_iff];intro m hm;have:=h m hm;simp; omega
  rw [this]; rfl
 | succ n ih =>
  rw [x4m,List.length_append,ih];refine (y6C _ _ _ (fun m=>?_) (fun m=>?_) ms).symm
  ·by_cases h1:k m<(n:Int) <;> by_cases h2:k m=(n:Int) <;> simp [h1,h2] <;> omega
  ·simp; omega
theorem x6x {k:Int->Int} {ms:List Int} (h:Mk k ms):(bkt k ms).length=ms.length:=by
 unfold bkt;rw [y9a k ms (fun m hm=>by have:=h m hm; omega),List.filter_eq_self.2];intro m hm;have:=h m hm;simp; omega
theorem x6w {k:Int->Int} {ms:List Int} {n:Nat} {x:Int} (h:x∈bkN k ms n):x∈ms/\0<=k x/\k x<n:=by
 unfold bkN at h;rw [List.mem_flatMap] at h;obtain ⟨c,hc,hx⟩:=h;rw [List.mem_range] at hc;rw [List.mem_filter] at hx;have:=o0d hx.2;exact ⟨hx.1,by omega,by omega⟩
theorem y0a (k:Int->Int) (ms:List Int) (n:Nat):(bkN k ms n).Pairwise (fun a b=>k a<=k b):=by
 induction n with
 | zero=>exact List.Pairwise.nil
 | succ n ih =>
  rw [x4m,List.pairwise_append];refine ⟨ih,?_,?_⟩
  ·refine List.pairwise_iff_forall_sublist.2 ?_;intro a b hs;have ha:a∈ms.filter fun m=>decide (k m=(n:Int)):=hs.subset (by simp);have hb:b∈ms.filter fun m=>decide (k m=(n:Int)):=hs.subset (by simp);have h1:=o0d (List.mem_filter.1 ha).2;have h2:=o0d (List.mem_filter.1 hb).2;omega
  ·intro a ha b hb;have h1:=x6w ha;have h2:=o0d (List.mem_filter.1 hb).2;omega
theorem y6d (k:Int->Int) (ms:List Int) (j:Int) (n:Nat):((bkN k ms n).filter fun m=>decide (k m=j))=if 0<=j/\j<n then ms.filter fun m=>decide (k m=j) else []:=by
 induction n with
 | zero=>rw [if_neg (by omega)]; rfl
 | succ n ih =>
  rw [x4m,List.filter_append,ih,List.filter_filter];by_cases h:j=(n:Int)
  ·rw [if_neg (by omega),if_pos (by omega),List.nil_append,h];exact List.filter_congr (fun m _=>by simp)
  ·have:(ms.filter fun a=>decide (k a=j) && decide (k a=(n:Int)))=[]:=by
    rw [List.filter_eq_nil_iff];intro m _;simp; omega
   rw [this,List.append_nil];by_cases h1:0<=j/\j<(n:Int)
   ·rw [if_pos h1,if_pos (by omega)]
   ·rw [if_neg h1,if_neg (by omega)]
theorem y0q {k:Int->Int} {ms:List Int} (h:Mk k ms) (j:Int):fl k j ms=if 1<=j/\j<=254 then ms.filter (fun m=>decide (k m=j)) else []:=by
 unfold fl;by_cases hj:1<=j/\j<=254
 ·rw [if_pos hj];refine List.filter_congr (fun m hm=>?_);have:=h m hm;simp; omega
 ·rw [if_neg hj,List.filter_eq_nil_iff];intro m hm;have:=h m hm;simp; omega
theorem z0Z {k:Int->Int} {ms:List Int} (h:Mk k ms):Mk k (bkt k ms):=fun m hm=>h m (x6w hm).1
theorem y8h {k:Int->Int} {ms:List Int} (h:Mk k ms) (j:Int):fl k j (bkt k ms)=fl k j ms:=by
 rw [y0q (z0Z h),y0q h];by_cases hj:1<=j/\j<=254
 ·rw [if_pos hj,if_pos hj];unfold bkt;rw [y6d,if_pos (by omega)]
 ·rw [if_neg hj,if_neg hj]
theorem x1i (k:Int->Int) (j:Int) (a b:List Int):fl k j (a++b)=fl k j a++fl k j b:=by unfold fl; exact List.filter_append ..
theorem x1m (k:Int->Int) (j c:Int) (l:List Int):fl k j (c :: l)=if k c=0\/k c=j then c :: fl k j l else fl k j l:=by
 unfold fl;rw [List.filter_cons];by_cases h:k c=0\/k c=j
 ·rw [if_pos h,if_pos (d0t h)]
 ·rw [if_neg h,if_neg (by simpa using h)]
theorem x6T {k:Int->Int} {ms:List Int} {c:Int} (h:Mk k ms) (h1:1<=k c) (h2:k c<=254):Mk k (ms++[c]):=by
 intro m hm;rcases List.mem_append.1 hm with hm | hm
 ·exact h m hm
 ·obtain rfl:=List.mem_singleton.1 hm;exact ⟨h1,h2⟩
theorem x9l {k:Int->Int} (hk:∀ c,0<=k c/\k c<=254) (j:Int):∀ (l ms:List Int),Mk k ms->fl k j (ordA k ms l)=fl k j (ms++l)
 | [],ms,h=>by rw [ordA,y8h h,List.append_nil]
 | c :: l,ms,h=>by
  rw [ordA];by_cases hc:k c=0
  ·rw [if_pos hc,x1i,x1i,y8h h,x1m,x1m,x9l hk j l [] (fun _ h=>by cases h)];rfl
  ·rw [if_neg hc,x9l hk j l _ (x6T h (by have:=hk c; omega) (hk c).2)];simp
theorem y8i {k:Int->Int} (hk:∀ c,0<=k c/\k c<=254) (j:Int) (xs:List Int):fl k j (ord k xs)=fl k j xs:=x9l hk j xs [] (fun _ h=>by cases h)
theorem x9O {k:Int->Int} {rest:List Int} (hr:∀ a,srt k a rest=true):∀ (b:List Int) (a:Int),b.Pairwise (fun x y=>k x<=k y)->(∀ x∈b,a<=k x)->srt k a (b++rest)=true
 | [],a,_,_=>hr a
 | x :: b,a,hp,hm=>by
  rw [List.cons_append,srt,if_neg (fun h=>by have:=hm x (by simp); omega)];rw [List.pairwise_cons] at hp;exact x9O hr b (k x) hp.2 hp.1
theorem x7n {k:Int->Int} (hk:∀ c,0<=k c/\k c<=254):∀ (l ms:List Int),Mk k ms->srt k 0 (ordA k ms l)=true
 | [],ms,h=>by
  rw [ordA,<- List.append_nil (bkt k ms)];exact x9O (fun _=>rfl) _ _ (y0a k ms 255) (fun x hx=>by have:=x6w hx; omega)
 | c :: l,ms,h=>by
  rw [ordA];by_cases hc:k c=0
  ·rw [if_pos hc];refine x9O (fun a=>?_) _ _ (y0a k ms 255) (fun x hx=>by have:=x6w hx; omega);rw [srt,if_neg (fun h=>h.1 hc),hc];exact x7n hk l [] (fun _ h=>by cases h)
  ·rw [if_neg hc];exact x7n hk l _ (x6T h (by have:=hk c; omega) (hk c).2)
theorem z0v {k:Int->Int} (hk:∀ c,0<=k c/\k c<=254) (xs:List Int):srt k 0 (ord k xs)=true:=x7n hk xs [] (fun _ h=>by cases h)
theorem y3M {k:Int->Int} {j:Int} (hj:j≠0):∀ (l:List Int) (p:Int),srt k p l=true->j<p->∀ c r,fl k j l=c :: r->k c=0
 | [],_,_,_,c,r,h=>by cases h
 | x :: l,p,hs,hp,c,r,h=>by
  rw [srt] at hs;split at hs
  ·cases hs
  ·rename_i hn
   rw [x1m] at h;by_cases hx:k x=0
   ·rw [if_pos (Or.inl hx)] at h;cases h; exact hx
   ·have:p<=k x:=Int.not_lt.1 (fun e=>hn ⟨hx,e⟩);rw [if_neg (fun e=>by rcases e with e | e <;> omega)] at h;exact y3M hj l (k x) hs (by omega) c r h
theorem x1H {k:Int->Int} {j c:Int} (h:k c=0\/k c=j) (l:List Int):fl k j (c :: l)=c :: fl k j l:=by rw [x1m,if_pos h]
theorem uniq {k:Int->Int}:∀ (a b:List Int) (p q:Int),srt k p a=true->srt k q b=true->(∀ j,fl k j a=fl k j b)->a=b
 | [],[],_,_,_,_,_=>rfl
 | [],c :: l,_,_,_,_,h=>by
  have:=h (k c);rw [x1H (Or.inr rfl)] at this;cases this
 | c :: l,[],_,_,_,_,h=>by
  have:=h (k c);rw [x1H (Or.inr rfl)] at this;cases this
 | c :: l,d :: m,p,q,ha,hb,h=>by
  have hc:c=d:=by
   by_cases h0:k c=0
   ·have:=h (k d);rw [x1H (Or.inl h0),x1H (Or.inr rfl)] at this;exact (List.cons.inj this).1
   ·by_cases h1:k d=0
    ·have:=h (k c);rw [x1H (Or.inr rfl),x1H (Or.inl h1)] at this;exact (List.cons.inj this).1
    ·rw [srt] at ha hb;split at ha
     ·cases ha
     ·split at hb
      ·cases hb
      ·rcases Int.lt_trichotomy (k c) (k d) with hlt | heq | hgt
       ·have:=h (k c);rw [x1H (Or.inr rfl),x1m k (k c) d,if_neg (fun e=>by rcases e with e | e <;> omega)] at this;exact absurd (y3M h0 m (k d) hb hlt c _ this.symm) h0
       ·have:=h (k c);rw [x1H (Or.inr rfl),x1H (Or.inr heq.symm)] at this;exact (List.cons.inj this).1
       ·have:=h (k d);rw [x1H (Or.inr rfl) m,x1m k (k d) c,if_neg (fun e=>by rcases e with e | e <;> omega)] at this;exact absurd (y3M h1 l (k c) ha hgt d _ this) h1
  subst hc
  have ht:l=m:=by
   rw [srt] at ha hb;split at ha
   ·cases ha
   ·split at hb
    ·cases hb
    ·refine uniq l m (k c) (k c) ha hb (fun j=>?_);have:=h j;rw [x1m,x1m] at this;split at this
     ·exact (List.cons.inj this).2
     ·exact this
  rw [ht]
theorem z1V {k:Int->Int} (hk:∀ c,0<=k c/\k c<=254) {xs ys:List Int} (hs:srt k 0 ys=true) (h:∀ j,fl k j ys=fl k j xs):ys=ord k xs:=uniq _ _ 0 0 hs (z0v hk xs) (fun j=>by rw [h,y8i hk])
theorem x7b {k:Int->Int} (hk:∀ c,0<=k c/\k c<=254):∀ (l ms:List Int),Mk k ms->(ordA k ms l).length=ms.length+l.length
 | [],ms,h=>by rw [ordA,x6x h]; rfl
 | c :: l,ms,h=>by
  rw [ordA];by_cases hc:k c=0
  ·rw [if_pos hc,List.length_append,x6x h,List.length_cons,x7b hk l [] (fun _ h=>by cases h)];simp
  ·rw [if_neg hc,x7b hk l _ (x6T h (by have:=hk c; omega) (hk c).2)];simp; omega
theorem y4N {k:Int->Int} (hk:∀ c,0<=k c/\k c<=254) (xs:List Int):(ord k xs).length=xs.length:=by
 unfold ord;rw [x7b hk xs [] (fun _ h=>by cases h)];simp
theorem z0d {k:Int->Int} (hk:∀ c,0<=k c/\k c<=254) {xs:List Int} {x:Int} (h:x∈ord k xs):x∈xs:=by
 have h1:x∈fl k (k x) (ord k xs):=List.mem_filter.2 ⟨h,by simp⟩;rw [y8i hk] at h1;exact (List.mem_filter.1 h1).1
end Od
namespace Od
theorem x2N (f:Nat->List Int) (n:Nat):(List.range (n+1)).flatMap f=(List.range n).flatMap f++f n:=by
 simp [List.range_succ,List.flatMap_append]
theorem z1w (f:Nat->List Int) {c n:Nat} (h:c<n):((List.range c).flatMap f).length+(f c).length<=((List.range n).flatMap f).length:=by
 induction n with
 | zero=>omega
 | succ n ih =>
  rw [x2N,List.length_append];rcases Nat.lt_succ_iff_lt_or_eq.1 h with h | rfl
  ·have:=ih h; omega
  ·exact l0r _
theorem x4p {f g:Nat->List Int} {n:Nat} (h:∀ i,i<n->f i=g i):(List.range n).flatMap f=(List.range n).flatMap g:=by
 induction n with
 | zero=>rfl
 | succ n ih=>rw [x2N,x2N,ih (fun i hi=>h i (by omega)),h n (by omega)]
theorem z1x (f g:Nat->List Int) {c r n:Nat} (v:Int) (hc:c<n) (hr:r<(f c).length) (hg:g c=(f c).set r v) (hd:∀ i,i≠c->g i=f i):((List.range n).flatMap f).set (((List.range c).flatMap f).length+r) v=(List.range n).flatMap g:=by
 induction n with
 | zero=>omega
 | succ n ih =>
  rw [x2N,x2N];rcases Nat.lt_succ_iff_lt_or_eq.1 hc with h | rfl
  ·have:=z1w f h;rw [List.set_append_left _ _ (by omega),ih h,hd n (by omega)]
  ·rw [List.set_append_right _ _ (by omega),show ((List.range c).flatMap f).length+r - ((List.range c).flatMap f).length=r by omega,<- hg,x4p (fun i hi=>(hd i (by omega)).symm)]
def ft (k:Int->Int) (c:Nat) (l:List Int):List Int:=l.filter fun m=>decide (k m=(c:Int))
theorem y9b (k:Int->Int) (ms:List Int) (n:Nat):bkN k ms n=(List.range n).flatMap fun c=>ft k c ms:=rfl
theorem x4Q (k:Int->Int) (c:Nat) (a b:List Int):ft k c (a++b)=ft k c a++ft k c b:=by unfold ft; exact List.filter_append ..
def y1e (k:Int->Int) (ms:List Int) (j:Nat) (y:List Int):Prop:=∃ J:Nat->List Int,y=(List.range 255).flatMap (fun c=>ft k c (ms.take j)++J c)/\∀ c,c<255->(J c).length=(ft k c (ms.drop j)).length
theorem split (g:Nat->Nat):∀ (n:Nat) (y:List Int) (_:y.length=((List.range n).map g).sum),∃ J:Nat->List Int,y=(List.range n).flatMap J/\∀ c,c<n->(J c).length=g c
 | 0,y,h=>⟨fun _=>[],by simpa using h,fun c hc=>by omega⟩
 | n+1,y,h=>by
  rw [List.range_succ,List.map_append,List.sum_append] at h;simp only [List.map_cons,List.map_nil,List.sum_cons,List.sum_nil,Nat.add_zero] at h;obtain ⟨J,h1,h2⟩:=split g n (y.take (y.length - g n)) (by rw [List.length_take]; omega);refine ⟨fun i=>if i=n then y.drop (y.length - g n) else J i,?_,fun c hc=>?_⟩
  ·rw [x2N,if_pos rfl,x4p (g:=J) (fun i hi=>by rw [if_neg (by omega)]),<- h1,List.take_append_drop]
  ·by_cases hcn:c=n
   ·subst hcn;simp only [if_true,List.length_drop];omega
   ·simp only [if_neg hcn];exact h2 c (by omega)
theorem y3N (f:Nat->List Int) (n:Nat):((List.range n).flatMap f).length=((List.range n).map fun c=>(f c).length).sum:=by
 induction n with
 | zero=>rfl
 | succ n ih =>
  rw [x2N,List.length_append,ih,List.range_succ,List.map_append,List.sum_append];simp
theorem x9f {k:Int->Int} {ms y:List Int} (h:Mk k ms) (hy:y.length=ms.length):y1e k ms 0 y:=by
 obtain ⟨J,h1,h2⟩:=split (fun c=>(ft k c ms).length) 255 y (by rw [hy,<- x6x h]; unfold bkt; rw [y9b,y3N]);refine ⟨J,?_,fun c hc=>?_⟩
 ·rw [h1]; exact x4p (fun i _=>by simp [ft])
 ·rw [List.drop_zero]; exact h2 c hc
theorem y3v {k:Int->Int} {ms y:List Int} (h:y1e k ms ms.length y):y=bkt k ms:=by
 obtain ⟨J,h1,h2⟩:=h;rw [h1];unfold bkt;rw [y9b];refine x4p (fun i hi=>?_);have:=h2 i hi;rw [List.drop_length] at this;rw [List.take_length,List.eq_nil_of_length_eq_zero (l:=J i) (by rw [this]; rfl),List.append_nil]
def plc (k:Int->Int) (ms:List Int) (j c:Nat):Nat:=(bkN k ms c).length+(ft k c (ms.take j)).length
theorem y6F (k:Int->Int) (c:Nat) (ms:List Int) (j:Nat):(ft k c (ms.take j)).length+(ft k c (ms.drop j)).length=(ft k c ms).length:=by
 rw [<- List.length_append,<- x4Q,List.take_append_drop]
theorem x9n {k:Int->Int} (c:Nat) {ms:List Int} {j:Nat} (hj:j<ms.length):ft k c (ms.take (j+1))=ft k c (ms.take j)++if k (ms.getD j 0)=c then [ms.getD j 0] else []:=by
 rw [List.take_add_one,x4Q,List.getElem?_eq_getElem hj];have:ms.getD j 0=ms[j]:=(by simp [List.getD,hj]);rw [this];unfold ft;by_cases h:k ms[j]=(c:Int) <;> simp [h]
theorem y3O {k:Int->Int} (c:Nat) {ms:List Int} {j:Nat} (hj:j<ms.length):ft k c (ms.drop j)=(if k (ms.getD j 0)=c then [ms.getD j 0] else [])++ft k c (ms.drop (j+1)):=by
 have:ms.getD j 0=ms[j]:=(by simp [List.getD,hj]);rw [List.drop_eq_getElem_cons hj,this];unfold ft;rw [List.filter_cons];by_cases h:k ms[j]=(c:Int)
 ·rw [if_pos h,if_pos (d0t h)]; rfl
 ·rw [if_neg h,if_neg (by simpa using h)]; rfl
theorem y1B {k:Int->Int} {ms y:List Int} {j c:Nat} (h:y1e k ms j y) (hj:j<ms.length) (hc:k (ms.getD j 0)=c) (aA:c<255):plc k ms j c<y.length/\y1e k ms (j+1) (y.set (plc k ms j c) (ms.getD j 0)):=by
 obtain ⟨J,h1,h2⟩:=h;have hJ:=h2 c aA;rw [y3O c hj,if_pos hc,List.length_append,List.length_singleton] at hJ
 have hb:(bkN k ms c).length=((List.range c).flatMap fun c=>ft k c (ms.take j)++J c).length:=by
  rw [y9b,y3N,y3N];congr 1;refine List.map_congr_left (fun i hi=>?_);rw [List.mem_range] at hi;rw [List.length_append,h2 i (by omega),y6F]
 have cq:=z1w (fun c=>ft k c (ms.take j)++J c) aA;simp only [List.length_append] at cq;unfold plc;rw [h1,hb];refine ⟨by omega,fun i=>if i=c then (J c).drop 1 else J i,?_,fun i hi=>?_⟩
 ·refine z1x _ _ _ aA (by rw [List.length_append]; omega) ?_ (fun i hi=>?_)
  ·simp only [if_true];rw [x9n c hj,if_pos hc,List.set_append_right _ _ (l0r _),Nat.sub_self]
   cases hq:J c with
   | nil=>rw [hq] at hJ; simp at hJ; omega
   | cons x l=>simp
  ·simp only [if_neg hi];rw [x9n i hj,if_neg (fun e=>hi (by omega)),List.append_nil]
 ·by_cases hic:i=c
  ·subst hic;simp only [if_true,List.length_drop];omega
  ·simp only [if_neg hic];rw [h2 i hi,y3O i hj,if_neg (fun e=>hic (by omega)),List.nil_append]
theorem y7m {k:Int->Int} {ms:List Int} {j:Nat} (c:Nat) (hj:j<ms.length):plc k ms (j+1) c=if k (ms.getD j 0)=c then plc k ms j c+1 else plc k ms j c:=by
 unfold plc;rw [x9n c hj];by_cases h:k (ms.getD j 0)=c
 ·rw [if_pos h,if_pos h,List.length_append]; rfl
 ·rw [if_neg h,if_neg h,List.append_nil]
theorem y7n (k:Int->Int) (ms:List Int) (c:Nat):plc k ms 0 c=(bkN k ms c).length:=by simp [plc,ft]
theorem y6e (k:Int->Int) (ms:List Int) (c:Nat):(bkN k ms (c+1)).length=(bkN k ms c).length+(ft k c ms).length:=by rw [x4m,List.length_append]; rfl
def x2G (k:Int->Int):Nat->List Int->List Int
 | 0,l=>l
 | n+1,l=>if k (l.getD (n+1) 0)≠0/\k (l.getD (n+1) 0)<k (l.getD n 0) then x2G k n ((l.set (n+1) (l.getD n 0)).set n (l.getD (n+1) 0)) else l
def x5h (k:Int->Int):Nat->Nat->List Int->List Int
 | 0,_,l=>l
 | f+1,i,l=>x5h k f (i+1) (x2G k i l)
def y4q (k:Int->Int):Int->List Int->Int
 | p,[]=>p
 | _,x :: l=>y4q k (k x) l
theorem x6c (k:Int->Int):∀ (l:List Int) (p a:Int),y4q k p (l++[a])=k a
 | [],_,_=>rfl
 | x :: l,_,a=>x6c k l (k x) a
theorem x7T (k:Int->Int) (hk:∀ c,0<=k c) (c:Int) (R:List Int):∀ (n:Nat) (A B:List Int),A.length=n->(∀ a∈B,k c≠0/\k c<k a)->∃ A1 A2,A++B=A1++A2/\x2G k n (A++c :: (B++R))=A1++c :: (A2++R)/\(∀ a∈A2,k c≠0/\k c<k a)/\¬ (k c≠0/\k c<y4q k 0 A1)
 | 0,A,B,hA,hB=>by
  obtain rfl:=List.eq_nil_of_length_eq_zero hA;exact ⟨[],B,rfl,rfl,hB,fun h=>by have:=hk c; simp only [y4q] at h; omega⟩
 | n+1,A,B,hA,hB=>by
  obtain ⟨A',a,rfl⟩:∃ A' a,A=A'++[a]:=⟨A.dropLast,A.getLast (by intro e; rw [e] at hA; simp at hA),(List.dropLast_concat_getLast _).symm⟩;have hA':A'.length=n:=by rw [List.length_append] at hA; simp at hA; exact hA
  have g1:(A'++[a]++c :: (B++R)).getD (n+1) 0=c:=by
   simp only [List.getD];rw [List.getElem?_append_right (by omega),hA]; simp
  have g0:(A'++[a]++c :: (B++R)).getD n 0=a:=by
   simp only [List.getD,List.append_assoc];rw [List.getElem?_append_right (by omega),hA']; simp
  have gs:((A'++[a]++c :: (B++R)).set (n+1) a).set n c=A'++c :: (([a]++B)++R):=by
   rw [List.set_append_right _ _ (by omega),hA,Nat.sub_self,List.append_assoc,List.set_append_right _ _ (by omega),hA',Nat.sub_self];simp
  rw [x2G,g1,g0];by_cases h:k c≠0/\k c<k a
  ·rw [if_pos h,gs]
   obtain ⟨A1,A2,e1,e2,e3,e4⟩:=x7T k hk c R n A' ([a]++B) hA' (fun x hx=>by
    rcases List.mem_append.1 hx with hx | hx
    ·obtain rfl:=List.mem_singleton.1 hx; exact h
    ·exact hB x hx)
   exact ⟨A1,A2,by rw [<- e1]; simp,e2,e3,e4⟩
  ·rw [if_neg h];exact ⟨A'++[a],B,rfl,by simp,hB,by rw [x6c]; exact h⟩
theorem z1F {k:Int->Int} {c:Int} {A2:List Int} (h:∀ a∈A2,k c≠0/\k c<k a) (hc:0<=k c) (j:Int):fl k j (c :: A2)=fl k j (A2++[c]):=by
 cases A2 with
 | nil=>rfl
 | cons a A =>
  have h0:=(h a (by simp)).1;rw [x1i,x1m k j c (a :: A),x1m k j c []];by_cases hj:k c=j
  ·rw [if_pos (Or.inr hj),if_pos (Or.inr hj)]
   have:fl k j (a :: A)=[]:=by
    unfold fl;rw [List.filter_eq_nil_iff];intro m hm;have:=h m hm;simp; omega
   rw [this]; rfl
  ·rw [if_neg (by omega),if_neg (by omega)];simp [fl]
theorem y4i {k:Int->Int} {c:Int} {A2:List Int} (h:∀ a∈A2,k c≠0/\k c<k a):∀ (A1:List Int) (p:Int),srt k p (A1++A2)=true->¬ (k c≠0/\k c<y4q k p A1)->srt k p (A1++c :: A2)=true
 | [],p,hs,hn=>by
  rw [List.nil_append] at hs ⊢;rw [srt,if_neg (show ¬ (k c≠0/\k c<p) from hn)]
  cases A2 with
  | nil=>rfl
  | cons a A =>
   have:=(h a (by simp)).2;rw [srt] at hs ⊢;split at hs
   ·cases hs
   ·rw [if_neg (by omega)]; exact hs
 | x :: A1,p,hs,hn=>by
  rw [List.cons_append] at hs ⊢;rw [srt] at hs ⊢;split at hs
  ·cases hs
  ·rename_i hx
   rw [if_neg hx];exact y4i h A1 (k x) hs hn
theorem x8i {k:Int->Int} (hk:∀ c,0<=k c):∀ (f i:Nat) (l:List Int),l.length=i+f->srt k 0 (l.take i)=true->srt k 0 (x5h k f i l)=true/\∀ j,fl k j (x5h k f i l)=fl k j l
 | 0,i,l,hl,hs=>by
  rw [List.take_of_length_le (by omega)] at hs;exact ⟨hs,fun _=>rfl⟩
 | f+1,i,l,hl,hs=>by
  rw [x5h];have hi:i<l.length:=by omega
  have hd:l=l.take i++l[i] :: ([]++l.drop (i+1)):=by
   rw [List.nil_append,<- List.drop_eq_getElem_cons hi,List.take_append_drop]
  obtain ⟨A1,A2,e1,e2,e3,e4⟩:=x7T k hk l[i] (l.drop (i+1)) i (l.take i) [] (by rw [List.length_take]; omega) (fun a ha=>by cases ha);rw [<- hd] at e2;rw [List.append_nil] at e1
  have hlen:A1.length+A2.length=i:=by
   rw [<- List.length_append,<- e1,List.length_take]; omega
  have ht:(x2G k i l).take (i+1)=A1++l[i] :: A2:=by
   rw [e2,<- List.cons_append,<- List.append_assoc,List.take_append_of_le_length (by simp; omega),List.take_of_length_le (by simp; omega)]
  have aM:(x2G k i l).length=i+1+f:=by
   rw [e2]; simp; omega
  have cr:∀ j,fl k j (x2G k i l)=fl k j l:=fun j=>by
   have hr:fl k j l=fl k j (l.take i++l[i] :: ([]++l.drop (i+1))):=congrArg (fl k j) hd;rw [e2,hr,e1,List.nil_append,<- List.cons_append,x1i,x1i,z1F e3 (hk _),x1i k j (A1++A2),x1i k j A1 A2,x1i k j A2,x1m k j l[i] (l.drop (i+1)),x1m k j l[i] []];split <;> simp [fl]
  obtain ⟨r1,r2⟩:=x8i hk f (i+1) (x2G k i l) aM (by rw [ht]; exact y4i e3 A1 0 (by rw [<- e1]; exact hs) e4);exact ⟨r1,fun j=>by rw [r2,cr]⟩
theorem y4O {k:Int->Int} (hk:∀ c,0<=k c/\k c<=254) (xs:List Int):x5h k (xs.length - 1) 1 xs=ord k xs:=by
 cases xs with
 | nil=>rw [ord,ordA,x8X]; rfl
 | cons c l =>
  obtain ⟨h1,h2⟩:=x8i (fun c=>(hk c).1) ((c :: l).length - 1) 1 (c :: l) (by simp; omega) (by simp [srt]; have:=(hk c).1; omega);exact z1V hk h1 h2
end Od
open Ti
namespace Od
def ir (zs:List Int):List Value:=zs.map (Value.int .i32)
theorem x2H (zs:List Int):(ir zs).length=zs.length:=List.length_map _
theorem ir_at {zs:List Int} {i:Nat} (hi:i<zs.length):(ir zs)[i]?=some (.int .i32 (zs.getD i 0)):=by
 unfold ir;rw [List.getElem?_map,List.getElem?_eq_getElem hi]; simp [List.getD,hi]
def mc (k:Int->Int) (ms:List Int):List Value:=ms.flatMap fun m=>[.int .i32 m,.int .i64 (k m)]
theorem y8r (k:Int->Int) (ms:List Int):(mc k ms).length=ms.length * 2:=by
 induction ms with
 | nil=>rfl
 | cons m ms ih=>simp only [mc,List.flatMap_cons,List.length_append,List.length_cons,List.length_nil] at ih ⊢; omega
theorem z1N {k:Int->Int}:∀ {ms:List Int} {i:Nat},i<ms.length->(mc k ms)[i * 2]?=some (.int .i32 (ms.getD i 0))/\(mc k ms)[i * 2+1]?=some (.int .i64 (k (ms.getD i 0)))
 | [],i,h=>by simp at h
 | m :: ms,0,_=>⟨rfl,rfl⟩
 | m :: ms,i+1,h=>by
  have:=z1N (k:=k) (ms:=ms) (i:=i) (by simpa using h);simp only [mc,List.flatMap_cons,show (i+1) * 2=i * 2+1+1 by omega] at this ⊢;simpa using this
theorem y0v {w wr:World} {row:Option Nat} (h:w.grownBy wr row) (o:Obj):w.grownBy (wr.alloc o) row:=⟨h.os,h.tape,h.output,by have:=h.size; simp; omega,fun k hk hn=>by rw [Below.heap_alloc wr o k (by have:=h.size; omega)]; exact h.block k hk hn⟩
theorem y3U {w wr:World} {row:Option Nat} (h:w.grownBy wr row) (p:Addr) (v:Value) (hp:some p.block=row\/w.heap.size<=p.block):w.grownBy (wr.setCell p v) row:=by
 have b:=(Below.refl 0 wr).setCell (p:=p) (Nat.zero_le _) v;refine ⟨b.os.trans h.os,b.tape.trans h.tape,b.output.trans h.output,Nat.le_trans h.size b.size,fun k hk hn=>?_⟩;rw [heap_setCell_other wr p k v ?_]
 ·exact h.block k hk hn
 ·intro e;rcases hp with hp | hp
  ·exact hn (by rw [e]; exact hp)
  ·omega
theorem y6G {w wr w':World} {row:Option Nat} {B:Nat} (h:w.grownBy wr row) (hb:Below B wr w') (hB:w.heap.size<=B):w.grownBy w' row:=⟨hb.os.trans h.os,hb.tape.trans h.tape,hb.output.trans h.output,by have:=h.size; have:=hb.size; omega,fun k hk hn=>by rw [hb.block k (by omega)]; exact h.block k hk hn⟩
theorem Blk.kept {w w':World} {g t:Nat} {vs:List Value} {row:Option Nat} (h:Blk w g t vs) (hg:w.grownBy w' row) (ag:some g≠row):Blk w' g t vs:=(hg.block g h.lt ag).trans h
def cnts (k:Int->Int) (ms:List Int):List Int:=(List.range 255).map fun c=>((Od.ft k c ms).length:Int)
theorem x1g (k:Int->Int) (ms:List Int):(cnts k ms).length=255:=by simp [cnts]
theorem x6z (k:Int->Int) (ms:List Int) {c:Nat} (hc:c<255):(cnts k ms).getD c 0=((Od.ft k c ms).length:Int):=by simp [cnts,List.getD,hc]
theorem y0k (k:Int->Int) (ms:List Int):∀ c:Nat,c<=255->((cnts k ms).take c).sum=((Od.bkN k ms c).length:Int)
 | 0,_=>by simp [Od.bkN]
 | c+1,h=>by
  rw [y0Y (by rw [x1g]; omega),y0k k ms c (by omega),x6z k ms (by omega),Od.y6e]; simp
theorem y8Z (k:Int->Int) (ms:List Int) {c:Nat} (hc:c<255):(beg (cnts k ms)).getD c 0=(Od.plc k ms 0 c:Int):=by
 rw [y7Z _ hc,y0k k ms c (by omega),Od.y7n]
theorem y0i (k:Int->Int) (ms:List Int) (h:ms.length<=3000000):∀ c∈cnts k ms,0<=c/\c<=3000000:=fun c hc=>by
 obtain ⟨i,_,rfl⟩:=List.mem_map.1 hc;have:(Od.ft k i ms).length<=ms.length:=List.length_filter_le _ _;omega
theorem z2r {A B C:List Value} {o i:Nat} (hA:A.length=o) (hi:i<B.length):(A++B++C)[o+i]?=B[i]?:=by
 rw [List.append_assoc,List.getElem?_append_right (by omega),List.getElem?_append_left (by omega)]; congr 1; omega
theorem z0t {A B C:List Value} {o i:Nat} (v:Value) (hA:A.length=o) (hi:i<B.length):(A++B++C).set (o+i) v=A++B.set i v++C:=by
 rw [List.append_assoc,List.set_append_right _ _ (by omega),List.set_append_left _ _ (by omega),List.append_assoc]; congr 3; omega
theorem x3u {g g2 t:Nat} {us:List Value} (h:g≠g2):∀ (vs:List Value) (o:Nat) (wr:World) (_:Blk wr g t us),Blk (wr.setCells g2 o vs) g t us
 | [],_,_,b=>b
 | v :: vs,o,_,b=>x3u h vs (o+1) _ (b.other (a:=⟨g2,o,none⟩) h v)
theorem x3M {P:Program} {bZ:Array Oper} {rest:List Oper} {op:Oper} {a:Act} {w w':World} {Q:Exit->Act->World->Prop} (cu:op.guard=none) (ty:TypeId) (x y:Operand) (ho:op.op=.store ty x y) (b o:Nat) (cells:Array Value) (hx:a.eval x=.pointer (some ⟨b,o,none⟩)) (hy:a.eval y=.agg cells) (ht:w.there b o cells.size) (hi:(P.info? ty).map (·.size)=some cells.size) (h1:cells.all (·.oneCell')=true) (hw:w.setCells b o cells.toList=w') (h:wpList P bZ Q rest (a.put op.dst undef) w'):wpList P bZ Q (op :: rest) a w:=by
 subst hw;exact wpList_store_mid cu ty x y ho b o cells hx hy ht hi h1 h
theorem x4R {w:World} {row:Option Nat} (g:Nat) (hp:some g=row\/w.heap.size<=g):∀ (vs:List Value) (o:Nat) (wr:World) (_:w.grownBy wr row),w.grownBy (wr.setCells g o vs) row
 | [],_,_,h=>h
 | v :: vs,o,_,h=>x4R g hp vs (o+1) _ (y3U h ⟨g,o,none⟩ v hp)
theorem y1A (k:Int->Int) (g mb aa yb yo ad:Nat) (ms ys:List Int) (J A C:List Value) (w:World) (hr:Blk w g 222 (.slice (some ⟨mb,0,none⟩) ms.length aa :: ia (cnts k ms))) (hm:Blk w mb 225 (mc k ms++J)) (aN:ms.length<=aa/\aa<=9223372036854775807) (hy:Blk w yb 21 (A++ir ys++C)) (hA:A.length=yo) (aX:ys.length=ms.length) (bB:ms.length<=ad/\ad<=9223372036854775807) (hk:Od.Mk k ms) (hn:ms.length<=3000000) (am:g≠yb) (cC:mb≠yb):Calls prog 210 #[.pointer (some ⟨g,0,none⟩),.slice (some ⟨yb,yo,none⟩) ms.length ad] w fun e w'=>e=.returned (.tuple #[])/\Blk w' yb 21 (A++ir (Od.bkt k ms)++C)/\w.grownBy w' (some yb):=by
 have K1:=O (x8l g _ (cnts k ms) w hr (x1g k ms) (y0i k ms hn));obtain ⟨cy,cz⟩:=aN;obtain ⟨cK,cL⟩:=bB;have HY:=O hy
 have HM:Hid (∀ (W:World),w.grownBy W (some yb)->∀ i:Nat,i<ms.length->W.cell? ⟨mb,i * 2,none⟩=some (.int .i32 (ms.getD i 0))/\W.cell? ⟨mb,i * 2+1,none⟩=some (.int .i64 (k (ms.getD i 0)))):=fun W hW i hi=>by
  have h:=hm.kept hW (fun e=>cC (by simpa using e));have h2:=z1N (k:=k) hi;have hl:=y8r k ms;exact ⟨h.cell (by rw [List.getElem?_append_left (by omega)]; exact h2.1),h.cell (by rw [List.getElem?_append_left (by omega)]; exact h2.2)⟩
 have cM:=hy.lt;have aK:w.cell? ⟨g,0,none⟩=some (.slice (some ⟨mb,0,none⟩) ms.length aa):=hr.cell rfl;have bF:Hid (∀ (W:World),w.grownBy W (some yb)->W.cell? ⟨g,0,none⟩=some (.slice (some ⟨mb,0,none⟩) ms.length aa)):=fun W hW=>(hr.kept hW (fun e=>am (by simpa using e))).cell rfl;have bJ:=O (Od.x9f hk aX);have be:=O hk;have af:=O (x3s (cnts k ms));have bH:Hid (∀ c,c<255->(beg (cnts k ms)).getD c 0=(Od.plc k ms 0 c:Int)):=fun c hc=>y8Z k ms hc;generalize beg (cnts k ms)=bg at *;clear hr hm hy hk;go_enter func210,ntmps210;go_wp2_with fail;refine (V K1).mono ?_;rintro e w1 ⟨rfl,b1⟩;have aw:=b1.size;obtain ⟨W2,ab⟩:∃ W2,w1.alloc (.cells Tryz.zeroCells220 220)=W2:=⟨_,rfl⟩;have k2:Blk W2 w1.heap.size 220 (ia z255):=(by rw [<- ab]; exact Blk.new w1 _ _ _ z0G);have g2:w.grownBy W2 (some yb):=(by rw [<- ab]; exact y0v (y6G (World.grownBy.refl w _) b1 (l0r _)) _);obtain ⟨g4,ct⟩:∃ g4,w1.heap.size=g4:=⟨_,rfl⟩;rw [ct] at k2;have aL:w.heap.size<=g4:=(by omega);clear K1 aK aw;have ah:=V af;have ai:W2.there g4 0 (ia bg).toArray.size:=k2.there (by simp [x2F,z255,ah]);have bV:(ia bg).toArray.size=255:=(by simp [x2F,ah]);obtain ⟨W3,ak⟩:∃ W3,W2.setCells g4 0 (ia bg).toArray.toList=W3:=⟨_,rfl⟩
 have k3:Blk W3 g4 220 (ia bg):=by
  have:=k2.setCells (ia bg) 0 (by simp [x2F,z255,ah]);rw [<- ak];rw [List.take_zero,List.nil_append,List.drop_of_length_le (by simp [x2F,z255,ah]),List.append_nil] at this;exact this
 have g3:w.grownBy W3 (some yb):=by rw [<- ak]; exact x4R g4 (Or.inr aL) _ _ _ g2
 have y3:Blk W3 yb 21 (A++ir ys++C):=by
  have h1:w1.heap[yb]?=w.heap[yb]?:=b1.block yb cM;have h2:Blk w1 yb 21 (A++ir ys++C):=h1.trans (V HY);have h3:Blk W2 yb 21 (A++ir ys++C):=(by rw [<- ab]; exact h2.alloc _);rw [<- ak];exact x3u (by omega) _ _ _ h3
 have aK:=V bF W3 g3;have K3:=O k3;have G3:=O g3;have Y3:=O y3;clear k2 g2 k3 g3 y3 HY bF b1 ah;go_wp2_with (refine x3M (by rfl) 220 (.tmp 4) (.tmp 8) (by rfl) g4 0 (ia bg).toArray (by rfl) (by rfl) ai (by rw [bV]; exact x2z) (y8m _) ak ?_);clear ab ak ai bV;go_loopw [6,14] (fun _ kk wr=>∃ (i:Nat) (y pl:List Int),kk=.int .i64 i/\i<=ms.length/\Od.y1e k ms i y/\y.length=ms.length/\Blk wr yb 21 (A++ir y++C)/\pl.length=255/\(∀ c,c<255->pl.getD c 0=(Od.plc k ms i c:Int))/\Blk wr g4 220 (ia pl)/\w.grownBy wr (some yb)) (fun _ kk _=>ms.length - (intOf kk).toNat)
 case atStart=>exact ⟨0,ys,bg,rfl,by omega,V bJ,aX,V Y3,V af,V bH,V K3,V G3⟩
 case round =>
  clear K3 G3 Y3 bJ bH af;obtain ⟨i,y,pl,rfl,hin,aT,bC,aY,cE,aW,aU,aB⟩:=hrel;by_cases hlt:i<ms.length
  ·obtain ⟨c0,c1⟩:=V HM wr aB i hlt;have bq:=V be (ms.getD i 0) (by simp [List.getD,hlt]);obtain ⟨c,hc⟩:∃ c:Nat,k (ms.getD i 0)=(c:Int):=⟨(k (ms.getD i 0)).toNat,by omega⟩;have aA:c<255:=(by omega);obtain ⟨p1,p2⟩:=Od.y1B aT hlt hc aA;have bT:=fun c'=>Od.y7m (k:=k) c' hlt;have aP:=aW c aA;obtain ⟨p,hp⟩:∃ p,Od.plc k ms i c=p:=⟨_,rfl⟩;rw [hp] at aP p1 p2;rw [hc] at c1;obtain ⟨m,hm⟩:∃ m,ms.getD i 0=m:=⟨_,rfl⟩;rw [hm] at c0 p2 hc;obtain ⟨gr,bQ⟩:∃ gr,wr.heap.size=gr:=⟨_,rfl⟩;have hgws:=aB.size;have hkwl:=aU.lt;obtain ⟨W1,ac⟩:∃ W1,wr.alloc (.cells #[.int .i32 m,.int .i64 c] 225)=W1:=⟨_,rfl⟩;have x0:W1.cell? ⟨gr,0,none⟩=some (.int .i32 m):=(by rw [<- ac,<- bQ]; simp);have x1:W1.cell? ⟨gr,1,none⟩=some (.int .i64 c):=(by rw [<- ac,<- bQ]; simp);have bD:Blk W1 g4 220 (ia pl):=(by rw [<- ac]; exact aU.alloc _);have a9:Blk W1 yb 21 (A++ir y++C):=(by rw [<- ac]; exact aY.alloc _);have bK:w.grownBy W1 (some yb):=(by rw [<- ac]; exact y0v aB _);have x2:W1.cell? ⟨g4,c,none⟩=some (.int .i64 p):=(by rw [bD.cell (y4b (by omega)),aP]);have x3:W1.cell? ⟨yb,yo+p,none⟩=some (.int .i32 (y.getD p 0)):=a9.cell (by rw [z2r hA (by rw [x2H]; omega)]; exact ir_at (by omega));have f3:=a9.frozen (yo+p);obtain ⟨W2,ab⟩:∃ W2,W1.setCell ⟨yb,yo+p,none⟩ (.int .i32 m)=W2:=⟨_,rfl⟩
   have b0:Blk W2 yb 21 (A++ir (y.set p m)++C):=by
    have:=a9.set (yo+p) (.int .i32 m);rw [z0t _ hA (by rw [x2H]; omega),ab] at this;have e:(ir y).set p (.int .i32 m)=ir (y.set p m):=(by unfold ir; rw [List.map_set]);rw [e] at this; exact this
   have aZ:Blk W2 g4 220 (ia pl):=(by rw [<- ab]; exact bD.other (a:=⟨yb,yo+p,none⟩) (by show g4≠yb; omega) _);have bL:w.grownBy W2 (some yb):=(by rw [<- ab]; exact y3U bK ⟨yb,yo+p,none⟩ _ (Or.inl rfl));have z0:W2.cell? ⟨gr,0,none⟩=some (.int .i32 m):=(by rw [<- ab,World.cell?_setCell_other _ _ _ _ (by intro e; have:yb=gr:=congrArg Addr.block e; omega)]; exact x0);have z1:W2.cell? ⟨gr,1,none⟩=some (.int .i64 c):=(by rw [<- ab,World.cell?_setCell_other _ _ _ _ (by intro e; have:yb=gr:=congrArg Addr.block e; omega)]; exact x1);have z2:W2.cell? ⟨g4,c,none⟩=some (.int .i64 p):=(by rw [aZ.cell (y4b (by omega)),aP]);have f4:=aZ.frozen c;have hd:Hid (Od.y1e k ms (i+1) (y.set p m)):=p2;have hbig:(p:Int)+1<=3000001:=(by omega);have bv:(p:Int)<ms.length:=(by omega);have hcc1:(c:Int)<255:=(by omega);have cg:=O aZ;have ch:=O b0;have b4:=O bL;have ca:=O aW;have cb:=O bT;have HPC:=O aP;have b9:=O hp;have b5:=O hc;have b8:=O hm;have cx:(y.set p m).length=ms.length:=(by rw [List.length_set]; exact bC);clear aT aY aU aB bq p2 bT aW bD a9 bK aZ b0 bL aP hp hc hm HM be;go_upto_region 4 with fail;go_region_held3 (fun w'=>w'.cell? ⟨gr,0,none⟩=some (.int .i32 m)/\w'.cell? ⟨gr,1,none⟩=some (.int .i64 c)/\w'.cell? ⟨g4,c,none⟩=some (.int .i64 p)) (first | exact ⟨x0,x1,x2⟩ | exact ⟨z0,z1,z2⟩ | go_keep) (fail);go_wp2
   go_roundw
   case rel =>
    have cQ:Blk (W2.setCell ⟨g4,c,none⟩ (.int .i64 ((p:Int)+1))) g4 220 (ia (pl.set c ((p:Int)+1))):=(by rw [<- y4c]; exact (V cg).set c _);have cR:Blk (W2.setCell ⟨g4,c,none⟩ (.int .i64 ((p:Int)+1))) yb 21 (A++ir (y.set p m)++C):=(V ch).other (a:=⟨g4,c,none⟩) (by show yb≠g4; omega) _;have aF:w.grownBy (W2.setCell ⟨g4,c,none⟩ (.int .i64 ((p:Int)+1))) (some yb):=y3U (V b4) ⟨g4,c,none⟩ _ (Or.inr aL);refine ⟨i+1,y.set p m,pl.set c ((p:Int)+1),by go_num,by omega,V hd,cx,cR,by rw [List.length_set]; exact cE,fun c' hc'=>?_,cQ,⟨aF.os,aF.tape,aF.output,aF.size,aF.block⟩⟩;rw [x5r pl c c' _ (by omega),V cb c',V b8,V b5];by_cases h:c'=c
    ·rw [if_pos h,if_pos (by rw [h]),h,V b9]; rfl
    ·rw [if_neg h,if_neg (fun e=>h (by omega))];exact V ca c' hc'
   case measure=>simp [intOf]; omega
  ·obtain rfl:i=ms.length:=(by omega);have he:=Od.y3v aT;subst he;have cd:=O aY;have b7:=O aB;clear aT aY aU aB aW HM be;go_wp2;go_end0;exact ⟨rfl,V cd,V b7⟩
end Od
open Ti
namespace Od
theorem x6o {P:Program} {w:World} (t e:TypeId) (ty:TypeId) (b o n cap:Nat) (z:Value) (hu:P.underlying t=some (.slice e)) (hz:∀ w,(zeroValue e).run P w=.ok z w) (hn:0<n) (us:List Value) (cJ:(Builtin.zeroCells z.cells n).toList=us) (ai:w.there b o us.length) (h1:∀ v∈us,v.oneCell'=true):(Builtin.clear_ #[t] ty #[.slice (some ⟨b,o,none⟩) n cap]).run P w=.ok (.tuple #[]) (w.setCells b o us):=by
 have hs:(storeCells ⟨b,o,none⟩ us 0).run P w=.ok () (w.setCells b o us):=by
  have:=run_storeCells_cells (P:=P) b o us 0 w (fun j hj=>by simpa using (ai j hj).1) (fun j hj=>by simpa using (ai j hj).2) h1;simpa using this
 obtain ⟨m,rfl⟩:∃ m,n=m+1:=⟨n - 1,by omega⟩;unfold Builtin.clear_;simp [Sem.run_bind,run_underlying hu,hz,cJ,hs]
def x1r (w:World) (k:Int->Int) (g:Nat) (ms:List Int):Prop:=∃ mv,Blk w g 222 (mv :: ia (cnts k ms))/\w.ownsRow (g+1) 225 2 mv ms.length (mc k ms)
theorem x1r.shape {w:World} {k:Int->Int} {g:Nat} {ms:List Int} (h:x1r w k g ms):∃ ao cap,Blk w g 222 (.slice ao ms.length cap :: ia (cnts k ms))/\w.ownsRow (g+1) 225 2 (.slice ao ms.length cap) ms.length (mc k ms)/\ms.length<=cap/\cap<=9223372036854775807:=by
 obtain ⟨mv,h1,h2⟩:=h;rcases h2.2 with ⟨rfl,h0⟩ | ⟨mb,cap,cur,rfl,_,_,hc,hm,_⟩
 ·rw [h0] at h2;exact ⟨none,0,by rw [h0]; exact h1,by rw [h0]; exact h2,by omega,by omega⟩
 ·exact ⟨_,cap,h1,h2,hc,by unfold maxLen at hm; omega⟩
theorem x6d (k:Int->Int) (g:Nat) (v:Value) (w:World) (h:x1r w k g []):Calls prog 170 #[.pointer (some ⟨g,0,none⟩),v] w fun e w'=>e=.returned (.tuple #[])/\w'=w:=by
 obtain ⟨ao,cap,h1,_,_,hc⟩:=h.shape;have aK:w.cell? ⟨g,0,none⟩=some (.slice ao 0 cap):=h1.cell rfl;clear h h1;go_enter func170,ntmps170;go_wp2;exact bodyPost_ret (v:=.tuple #[]) (results_none rfl _ _ _) rfl ⟨rfl,rfl⟩
theorem z0I (w:World):(zeroValue 3).run prog w=.ok (.int .i64 0) w:=(zero_of_info (n:=1) (by kernel_rfl)).1 w
theorem y7S (w:World):(zeroValue 225).run prog w=.ok (.agg #[.int .i32 0,.int .i64 0]) w:=(zero_of_info (n:=2) (by kernel_rfl)).1 w
theorem z0H:(Builtin.zeroCells (Value.int .i64 0).cells 255).toList=ia z255:=by kernel_rfl
theorem y1d (n:Nat):(Builtin.zeroCells (Value.agg #[.int .i32 0,.int .i64 0]).cells n).toList.length=n * 2/\∀ v∈(Builtin.zeroCells (Value.agg #[.int .i32 0,.int .i64 0]).cells n).toList,v.oneCell'=true:=by
 unfold Builtin.zeroCells;refine ⟨by simp [Value.cells],fun v hv=>?_⟩;simp only [Value.cells,Array.toList_map,List.mem_map] at hv;obtain ⟨i,_,rfl⟩:=hv
 have:i % #[Value.int .i32 0,.int .i64 0].size=0\/i % #[Value.int .i32 0,.int .i64 0].size=1:=by
  show i % 2=0\/i % 2=1;omega
 rcases this with h | h <;> rw [h] <;> rfl
theorem y0j (k:Int->Int):cnts k []=z255:=by
 refine List.eq_replicate_iff.2 ⟨x1g k [],fun b hb=>?_⟩;obtain ⟨i,_,rfl⟩:=List.mem_map.1 hb;rfl
theorem y1R (k:Int->Int) (g yb o ad:Nat) (ms ys:List Int) (A C:List Value) (w:World) (h:x1r w k g ms) (hy:Blk w yb 21 (A++ir ys++C)) (hA:A.length=o) (aX:ys.length=ms.length) (bB:o+ms.length<=ad/\ad<=9223372036854775807) (hk:Od.Mk k ms) (hn:ms.length<=3000000) (ho:o<=3000000) (ag:0<ms.length) (am:yb<g):Calls prog 170 #[.pointer (some ⟨g,0,none⟩),.slice (some ⟨yb,0,none⟩) (o+ms.length) ad] w fun e w'=>e=.returned (.tuple #[])/\Blk w' yb 21 (A++ir (Od.bkt k ms)++C)/\x1r w' k g []/\Below yb w w':=by
 obtain ⟨mv,h1,h2⟩:=h;obtain ⟨cA,h2⟩:=h2;rcases h2 with ⟨_,h0⟩ | ⟨mb,aa,cur,rfl,hmb,hcur,aN,hmm,hcs,hct⟩
 ·omega
 have hm:Blk w mb 225 (mc k ms++cur.toList.drop (ms.length * 2)):=by
  rw [<- hct,List.take_append_drop];unfold Blk; rw [hcur]
 have cB:aa<=9223372036854775807:=(by unfold maxLen at hmm; omega);obtain ⟨cK,cL⟩:=bB;have K1:=O (y1A k g mb aa yb o (ad - o) ms ys _ A C w h1 hm ⟨aN,cB⟩ hy hA aX ⟨by omega,by omega⟩ hk hn (by omega) (by omega));have aK:w.cell? ⟨g,0,none⟩=some (.slice (some ⟨mb,0,none⟩) ms.length aa):=h1.cell rfl
 have HK:Hid (∀ W:World,Blk W yb 21 (A++ir (Od.bkt k ms)++C)->w.grownBy W (some yb)->∃ W2 W3 W4,W.setCells g 1 (ia z255)=W2/\W2.setCells mb 0 (Builtin.zeroCells (Value.agg #[.int .i32 0,.int .i64 0]).cells ms.length).toList=W3/\W3.setCell ⟨g,0,none⟩ (.slice (some ⟨mb,0,none⟩) 0 aa)=W4/\W.there g 1 (ia z255).length/\W2.there mb 0 (Builtin.zeroCells (Value.agg #[.int .i32 0,.int .i64 0]).cells ms.length).toList.length/\W.cell? ⟨g,0,none⟩=some (.slice (some ⟨mb,0,none⟩) ms.length aa)/\W2.cell? ⟨g,0,none⟩=some (.slice (some ⟨mb,0,none⟩) ms.length aa)/\W3.cell? ⟨g,0,none⟩=some (.slice (some ⟨mb,0,none⟩) ms.length aa)/\W3.frozen? ⟨g,0,none⟩=false/\Blk W4 yb 21 (A++ir (Od.bkt k ms)++C)/\x1r W4 k g []/\Below yb w W4):=fun W hW hg=>by
  have r0:=h1.kept hg (fun e=>Nat.ne_of_gt am (by simpa using e));have m0:=hm.kept hg (fun e=>absurd (show mb=yb by simpa using e) (by omega));have bR:1+(ia z255).length<=(Value.slice (some ⟨mb,0,none⟩) ms.length aa :: ia (cnts k ms)).length:=(by simp [x2F,z255,x1g]);have r1:=r0.setCells (ia z255) 1 bR
  have e1:(Value.slice (some ⟨mb,0,none⟩) ms.length aa :: ia (cnts k ms)).take 1++ia z255++(Value.slice (some ⟨mb,0,none⟩) ms.length aa :: ia (cnts k ms)).drop (1+(ia z255).length)=.slice (some ⟨mb,0,none⟩) ms.length aa :: ia z255:=by
   rw [List.drop_of_length_le (by simp [x2F,z255,x1g])];simp
  rw [e1] at r1;have m1:=x3u (g2:=g) (by omega) (ia z255) 1 W m0;obtain ⟨zl,_⟩:=y1d ms.length;have bq:cur.toList.length=aa * 2:=(Array.length_toList (xs:=cur)).trans hcs;have bw:(mc k ms++cur.toList.drop (ms.length * 2)).length=aa * 2:=(by rw [List.length_append,y8r,List.length_drop,bq]; omega);have m2:=m1.setCells (Builtin.zeroCells (Value.agg #[.int .i32 0,.int .i64 0]).cells ms.length).toList 0 (by rw [zl,bw]; omega);have r2:=x3u (g2:=mb) (by omega) (Builtin.zeroCells (Value.agg #[.int .i32 0,.int .i64 0]).cells ms.length).toList 0 _ r1;have r3:=r2.set 0 (.slice (some ⟨mb,0,none⟩) 0 aa);have m3:=m2.other (a:=⟨g,0,none⟩) (by show mb≠g; omega) (.slice (some ⟨mb,0,none⟩) 0 aa);have y1:=x3u (g2:=g) (by omega) (ia z255) 1 W hW;have y2:=x3u (g2:=mb) (by omega) (Builtin.zeroCells (Value.agg #[.int .i32 0,.int .i64 0]).cells ms.length).toList 0 _ y1;have y3:=y2.other (a:=⟨g,0,none⟩) (by show yb≠g; omega) (.slice (some ⟨mb,0,none⟩) 0 aa);have b1:Below yb w W:=(b0r).grown hg (by have:=hy.lt; omega) (fun j hj=>by simp at hj; omega);have b2:=x0z (B:=yb) (g:=g) (by omega) (ia z255) 1 W b1;have b3:=x0z (B:=yb) (g:=mb) (by omega) (Builtin.zeroCells (Value.agg #[.int .i32 0,.int .i64 0]).cells ms.length).toList 0 _ b2;refine ⟨_,_,_,rfl,rfl,rfl,r0.there bR,m1.there (by rw [zl,bw]; omega),r0.cell rfl,r1.cell rfl,r2.cell rfl,r2.frozen 0,y3,⟨.slice (some ⟨mb,0,none⟩) 0 aa,?_,⟨by simp [mc],Or.inr ⟨mb,aa,_,rfl,hmb,m3,Nat.zero_le _,hmm,?_,by simp [mc]⟩⟩⟩,b3.setCell (p:=⟨g,0,none⟩) (by show yb<=g; omega) _⟩
  ·rw [y0j]; exact r3
  ·simp only [List.size_toArray,List.length_append,List.length_take,List.length_drop,zl,bw];omega
 have HZ:=O (y1d ms.length);have hc1:ms.length<=aa:=aN;generalize hgz:(Builtin.zeroCells (Value.agg #[.int .i32 0,.int .i64 0]).cells ms.length).toList=zz at *;have bG:=O hgz;clear h1 hm hy hk hcur hct hcs cA aN hgz;have hne2:¬ ((ms.length:Int)=0):=(by omega);go_enter func170,ntmps170;go_wp2_with fail;refine (V K1).mono ?_;rintro e w1 ⟨rfl,y1,g1⟩;obtain ⟨W2,W3,W4,ab,ak,hW4,t2,t3,c1,c2,c3,f3,aG,aH,bM⟩:=V HK w1 y1 g1;have bc:=O aG;have bd:=O aH;have b6:=O bM;clear K1 HK y1 g1 aK aG aH bM
 have q1:(Builtin.clear_ #[99] 0 #[.slice (some ⟨g,1,none⟩) 255 255]).run prog w1=.ok (.tuple #[]) W2:=by
  rw [<- ab];exact x6o 99 3 0 g 1 255 255 _ underlying99 z0I (by decide) (ia z255) z0H t2 (fun v hv=>by obtain ⟨z,_,rfl⟩:=List.mem_map.1 hv; rfl)
 have q2:(Builtin.clear_ #[219] 0 #[.slice (some ⟨mb,0,none⟩) ms.length aa]).run prog W2=.ok (.tuple #[]) W3:=by
  rw [<- ak];exact x6o 219 225 0 mb 0 ms.length aa _ underlying219 y7S ag zz (V bG) t3 (V HZ).2
 clear ab ak t2 t3 bG HZ;go_wp2;go_end0;exact ⟨rfl,V bc,V bd,V b6⟩
end Od
open Ti
namespace Od
theorem z1E:∃ i z,prog.info? 225=some i/\i.zero=some z/\i.size=2/\i.bytes=16/\z.cells.size=2:=by
 have h:(prog.info? 225).map (fun i=>(i.size,i.bytes,i.zero.map (·.cells.size)))=some (2,16,some 2):=(by kernel_rfl);obtain ⟨i,hi,h1⟩:=Option.map_eq_some_iff.1 h;simp only [Prod.mk.injEq] at h1;obtain ⟨h1,h2,h3⟩:=h1;obtain ⟨z,hz,cP⟩:=Option.map_eq_some_iff.1 h3;exact ⟨i,z,hi,hz,h1,h2,cP⟩
theorem y2r (w:World) (x y:Value):(Instr.buildSlice 219 1 #[(0,.agg #[x,y])]).run prog w=.ok (.slice (some ⟨w.heap.size,0,none⟩) 1 1) (w.alloc (.cells #[x,y] 225)):=by
 obtain ⟨i,z,hi,hz,h1,_,h3⟩:=z1E;refine run_buildSlice w 219 225 1 _ _ i z underlying219 hi hz (by rw [h1]; decide) (by rw [h1]; decide) ?_;rw [h1];have:=Great.fill_whole (s:=2) (by decide) [Value.agg #[x,y]] ((Array.range (1 * 2)).map (z.cells[· % z.cells.size]!)) (fun v hv=>by simp at hv; subst hv; simp [Value.cells]) (by simp);simpa [Value.cells] using this
theorem y3r (k:Int->Int) (ms:List Int) (m:Int) {c:Nat} (hc:k m=c) (h5:c<255):(cnts k ms).set c ((cnts k ms).getD c 0+1)=cnts k (ms++[m]):=by
 refine x3f (n:=255) (by rw [List.length_set,x1g]) (x1g _ _) (fun j hj=>?_);rw [x5r _ c j _ (by rw [x1g]; exact h5),x6z _ _ hj,x6z _ _ hj,x6z _ _ h5,Od.x4Q,List.length_append];by_cases h:j=c
 ·rw [if_pos h,h];simp [Od.ft,hc]
 ·rw [if_neg h]
  have:Od.ft k j [m]=[]:=by
   unfold Od.ft;rw [List.filter_cons_of_neg (by simp; omega)]; rfl
  rw [this]; simp
theorem y9U (k:Int->Int) (ms:List Int) (m:Int):mc k (ms++[m])=mc k ms++[.int .i32 m,.int .i64 (k m)]:=by simp [mc,List.flatMap_append]
theorem y0O {w:World} {b e sz n g o:Nat} {v:Value} {xs:List Value} (h:w.ownsRow b e sz v n xs) (ag:v.ownBlock≠some g) (u:Value):(w.setCell ⟨g,o,none⟩ u).ownsRow b e sz v n xs:=by
 refine ⟨h.1,?_⟩;rcases h.2 with h2 | ⟨j,cap,cur,e1,e2,e3,e4⟩
 ·exact Or.inl h2
 ·refine Or.inr ⟨j,cap,cur,e1,e2,?_,e4⟩;rw [heap_setCell_other w ⟨g,o,none⟩ j u (fun e=>ag (by rw [e1]; exact congrArg some e))]; exact e3
theorem x4X (W:World) (g:Nat) (u:Value) (h:W.cell? ⟨g,0,none⟩=some u):(Instr.loadAt 219 (.pointer (some ⟨g,0,none⟩))).run prog W=.ok u W:=by
 simp [Instr.loadAt,go_sem,Tryz.isAgg219,Tryz.sizeOf219,h,Addr.add]
theorem x7P (k:Int->Int) (g:Nat) (ms:List Int) (m:Int) (cn:Nat) (w:World) (h:x1r w k g ms) (hc:k m=(cn:Int)) (h1:1<=cn) (h2:cn<=254) (hn:ms.length<=3000000):Calls prog 169 #[.pointer (some ⟨g,0,none⟩),.agg #[.int .i32 m,.int .i64 (cn:Int)]] w fun e w'=>e=.returned (.tuple #[])/\x1r w' k g (ms++[m])/\Below g w w':=by
 obtain ⟨i0,z0,cv,cN,cO,aC,ar⟩:=z1E;obtain ⟨ao,aa,hb,av,cy,cz⟩:=h.shape;have au:cn<255:=(by omega);obtain ⟨gx,bu⟩:∃ gx,w.heap.size=gx:=⟨_,rfl⟩;obtain ⟨W1,ac⟩:∃ W1,w.alloc (.cells #[.int .i32 m,.int .i64 (cn:Int)] 225)=W1:=⟨_,rfl⟩;have bP:=hb.lt;have a7:W1.drew.cell? ⟨gx,0,none⟩=some (.int .i32 m):=(by rw [<- ac,<- bu]; simp);have a8:W1.drew.cell? ⟨gx,1,none⟩=some (.int .i64 (cn:Int)):=(by rw [<- ac,<- bu]; simp);have az:Blk W1.drew g 222 (.slice ao ms.length aa :: ia (cnts k ms)):=(by rw [<- ac]; exact hb.alloc _);have an:W1.drew.ownsRow (g+1) 225 2 (.slice ao ms.length aa) ms.length (mc k ms):=(by rw [<- ac]; exact (av.alloc _).drew);have aI:Below g w W1.drew:=(by rw [<- ac]; exact ((b0r).alloc (by omega) _).drew);have aw:W1.drew.heap.size=gx+1:=(by rw [<- ac,<- bu]; simp);obtain ⟨W2,ab⟩:∃ W2,W1.drew.alloc (.cells #[.int .i32 m,.int .i64 (cn:Int)] 225)=W2:=⟨_,rfl⟩;obtain ⟨gy,am⟩:∃ gy,W1.drew.heap.size=gy:=⟨_,rfl⟩;have cH:W2.heap.size=gy+1:=(by rw [<- ab]; simp [am]);have ah:(Instr.buildSlice 219 1 #[(0,.agg #[.int .i32 m,.int .i64 (cn:Int)])]).run prog W1.drew=.ok (.slice (some ⟨gy,0,none⟩) 1 1) W2:=(by rw [<- ab,<- am]; exact y2r _ _ _);have a5:W2.cell? ⟨gx,0,none⟩=some (.int .i32 m):=(by rw [<- ab,World.cell?_alloc_lt _ _ _ (by show gx<_; omega)]; exact a7);have a6:W2.cell? ⟨gx,1,none⟩=some (.int .i64 (cn:Int)):=(by rw [<- ab,World.cell?_alloc_lt _ _ _ (by show gx<_; omega)]; exact a8);have ae:Blk W2 g 222 (.slice ao ms.length aa :: ia (cnts k ms)):=(by rw [<- ab]; exact az.alloc _);have ap:W2.ownsRow (g+1) 225 2 (.slice ao ms.length aa) ms.length (mc k ms):=(by rw [<- ab]; exact an.alloc _);have aJ:Below g w W2:=(by rw [<- ab]; exact aI.alloc (by omega) _);have bN:g+1<=W2.heap.size:=(by omega);have bX:(Instr.loadAt 219 (.pointer (some ⟨g,0,none⟩))).run prog W1.drew=.ok (.slice ao ms.length aa) W1.drew:=x4X _ _ _ (az.cell rfl);have bY:(Instr.loadAt 219 (.pointer (some ⟨g,0,none⟩))).run prog W2=.ok (.slice ao ms.length aa) W2:=x4X _ _ _ (ae.cell rfl)
 have aO:∀ u∈[Value.int .i32 m,.int .i64 (cn:Int)],u.oneCell'=true:=fun u hu=>by
  rcases List.mem_cons.1 hu with rfl | hu
  ·rfl
  ·obtain rfl:=List.mem_singleton.1 hu; rfl
 have aE:=O ap
 have aD:Hid (∀ (j:Nat) (u:Value),[Value.int .i32 m,.int .i64 (cn:Int)][j]?=some u->W2.cell? ((⟨gy,0,none⟩:Addr).add j)=some u):=fun j u hu=>by
  rw [Addr.add_mid,Nat.zero_add,<- ab,<- am];exact (Blk.new W1.drew 225 [Value.int .i32 m,.int .i64 (cn:Int)] _ rfl).cell hu
 have bh:Hid (∀ (W:World) gg cap,W.cell? ⟨gx,0,none⟩=some (.int .i32 m)->W.cell? ⟨gx,1,none⟩=some (.int .i64 (cn:Int))->(W.setCell ⟨g,0,none⟩ (.slice (some ⟨gg,0,none⟩) (ms.length+1) cap)).cell? ⟨gx,0,none⟩=some (.int .i32 m)/\(W.setCell ⟨g,0,none⟩ (.slice (some ⟨gg,0,none⟩) (ms.length+1) cap)).cell? ⟨gx,1,none⟩=some (.int .i64 (cn:Int))):=fun W gg cap a b=>by
  have ag:∀ i,(⟨g,0,none⟩:Addr)≠⟨gx,i,none⟩:=fun i e=>(by have:g=gx:=congrArg Addr.block e; omega);rw [World.cell?_setCell_other _ _ _ _ (ag 0),World.cell?_setCell_other _ _ _ _ (ag 1)];exact ⟨a,b⟩
 obtain ⟨q,hq⟩:∃ q,(cnts k ms).getD cn 0=q:=⟨_,rfl⟩
 have bf:Hid (∀ (W:World) (v:Value),W.cell? ⟨gx,1,none⟩=some (.int .i64 (cn:Int))->(W.setCell ⟨g,1+cn,none⟩ v).cell? ⟨gx,1,none⟩=some (.int .i64 (cn:Int))):=fun W v a=>by
  rw [World.cell?_setCell_other _ _ _ _ (fun e=>by have:g=gx:=congrArg Addr.block e; omega)];exact a
 have aj:Hid (∀ gg cap (w8:World),w8.ownsRow (g+1) 225 2 (.slice (some ⟨gg,0,none⟩) (ms.length+1) cap) (ms.length+1) (mc k ms++[.int .i32 m,.int .i64 (cn:Int)])->W2.grownBy w8 (Value.slice ao ms.length aa).ownBlock->((Value.slice ao ms.length aa).ownBlock=some gg\/gg=W2.heap.size)->w8.cell? ⟨gx,0,none⟩=some (.int .i32 m)/\w8.cell? ⟨gx,1,none⟩=some (.int .i64 (cn:Int))/\w8.cell? ⟨g,0,none⟩=some (.slice ao ms.length aa)/\w8.frozen? ⟨g,0,none⟩=false/\∃ W9,(w8.setCell ⟨g,0,none⟩ (.slice (some ⟨gg,0,none⟩) (ms.length+1) cap)).drew=W9/\W9.cell? ⟨gx,1,none⟩=some (.int .i64 (cn:Int))/\W9.cell? ⟨g,1+cn,none⟩=some (.int .i64 q)/\W9.frozen? ⟨g,1+cn,none⟩=false/\x1r (W9.setCell ⟨g,1+cn,none⟩ (.int .i64 (q+1))) k g (ms++[m])/\Below g w (W9.setCell ⟨g,1+cn,none⟩ (.int .i64 (q+1)))):=fun gg cap w8 hr8 hg aS=>by
  have aV:∀ j,(Value.slice ao ms.length aa).ownBlock=some j->g+1<=j/\j<gx:=fun j hj=>by
   have:=av.lt j hj;omega
  have cD:some g≠(Value.slice ao ms.length aa).ownBlock:=fun e=>(by have:=aV g e.symm; omega);have bS:some gx≠(Value.slice ao ms.length aa).ownBlock:=fun e=>(by have:=aV gx e.symm; omega);have bm:=ae.kept hg cD;have u0:=hg.cell a5 bS;have u1:=hg.cell a6 bS
  have hgg:g+1<=gg:=by
   rcases aS with e | e
   ·exact (aV gg e).1
   ·omega
  have ck:=bm.set 0 (.slice (some ⟨gg,0,none⟩) (ms.length+1) cap);have hb9':Blk (w8.setCell ⟨g,0,none⟩ (.slice (some ⟨gg,0,none⟩) (ms.length+1) cap)).drew g 222 (.slice (some ⟨gg,0,none⟩) (ms.length+1) cap :: ia (cnts k ms)):=ck;have bn:Below g w w8:=aJ.grown hg (by omega) (fun j hj=>by have:=aV j hj; omega);have bo:Below g w (w8.setCell ⟨g,0,none⟩ (.slice (some ⟨gg,0,none⟩) (ms.length+1) cap)).drew:=(bn.setCell (p:=⟨g,0,none⟩) (l0r _) _).drew;have hr9:(w8.setCell ⟨g,0,none⟩ (.slice (some ⟨gg,0,none⟩) (ms.length+1) cap)).drew.ownsRow (g+1) 225 2 (.slice (some ⟨gg,0,none⟩) (ms.length+1) cap) (ms.length+1) (mc k ms++[.int .i32 m,.int .i64 (cn:Int)]):=y0O hr8 (fun e=>absurd (show gg=g by simpa [Value.ownBlock] using e) (by omega)) _
  have cG:(Value.slice (some ⟨gg,0,none⟩) (ms.length+1) cap :: ia (cnts k ms))[1+cn]?=some (.int .i64 q):=by
   rw [Nat.add_comm 1 cn,List.getElem?_cons_succ,y4b (by rw [x1g]; exact au),hq]
  refine ⟨u0,u1,bm.cell rfl,bm.frozen 0,_,rfl,?_,hb9'.cell cG,hb9'.frozen _,⟨.slice (some ⟨gg,0,none⟩) (ms.length+1) cap,?_,?_⟩,bo.setCell (p:=⟨g,1+cn,none⟩) (l0r _) _⟩
  ·exact (V bh w8 gg cap u0 u1).2
  ·have:=hb9'.set (1+cn) (.int .i64 (q+1));rw [Nat.add_comm 1 cn,List.set_cons_succ,y4c,<- hq,y3r k ms m hc au,hq] at this;rw [Nat.add_comm 1 cn];exact this
  ·rw [List.length_append,y9U,hc];exact y0O hr9 (fun e=>absurd (show gg=g by simpa [Value.ownBlock] using e) (by omega)) _
 have hci1:(cn:Int)<255:=(by omega);have cF:0<=q/\q<=3000000:=(by rw [<- hq]; exact y0i k ms hn _ (by have:=x1g k ms; simp [List.getD,show cn<(cnts k ms).length by omega]));obtain ⟨hq1,hq2⟩:=cF;have hwq:IntKind.i64.wrap (q+1)=q+1:=(by rw [IntKind.wrap_i64]; omega);clear h hb av az an aI aw ab cH ae ap aJ am hc hq au;go_enter func169,ntmps169;go_upto_region 1 with fail;refine wp_region_held_drew (S:=fun w'=>w'.cell? ⟨gx,0,none⟩=some (.int .i32 m)/\w'.cell? ⟨gx,1,none⟩=some (.int .i64 (cn:Int))) (by kernel_rfl) (⟨a7,a8⟩) (fun hHeld=>?_);generalize W1.drew=Wd at *;refine tk9 0 (.pointer (some ⟨g,0,none⟩)) ?_;refine tk9 1 (.pointer (some ⟨g,0,none⟩)) ?_;refine tk9 2 (.pointer (some ⟨g,0,none⟩)) ?_;refine tk9 3 (.pointer (some ⟨g,0,none⟩)) ?_;refine tk9 5 (.agg #[.int .i32 m,.int .i64 (cn:Int)]) ?_ (hy:=by (intro w ci; obtain ⟨s0,s1⟩:=ci; go_simp));refine wpAnyH_ready (rs:=[4,6]) (by kernel_rfl) (by simp) ?_;refine AllReadyH.cons (o:=⟨some 8,_,_,_,_,_⟩) rfl (fun K hK=>?pa) (AllReadyH.cons (o:=⟨some 10,_,_,_,_,_⟩) rfl (fun K hK=>?pb) AllReadyH.nil)
 case' pa =>
  refine x1D (by rfl) 219 (.tmp 7) (by rfl) _ _ (by rfl) bX ?_;refine hK.out _ _ (⟨a7,a8⟩) (fun hHeld=>?_);clear hK K
  try simp only [Act.put,sa9,sb9,sc9]
  refine rd9 6 fun K hK=>?_;refine x1S (by rfl) 219 (.tmp 9) (by rfl) _ _ (by rfl) ah ?_;refine hK.out _ _ (⟨a5,a6⟩) (fun hHeld=>?_);clear hK K
  try simp only [Act.put,sa9,sb9,sc9]
 case' pb =>
  refine x1S (by rfl) 219 (.tmp 9) (by rfl) _ _ (by rfl) ah ?_;refine hK.out _ _ (⟨a5,a6⟩) (fun hHeld=>?_);clear hK K
  try simp only [Act.put,sa9,sb9,sc9]
  refine rd9 4 fun K hK=>?_;refine x1D (by rfl) 219 (.tmp 7) (by rfl) _ _ (by rfl) bY ?_;refine hK.out _ _ (⟨a5,a6⟩) (fun hHeld=>?_);clear hK K
  try simp only [Act.put,sa9,sb9,sc9]
 all_goals
  refine rd9 7 fun K hK=>?_;refine step_append_lies _ (by rfl) (.tmp 8) (.tmp 10) 219 (by rfl) (g+1) 225 i0 z0 2 16 underlying219 cv cN cO aC ar (by omega) (.slice ao ms.length aa) ms.length (mc k ms) (by rfl) (V aE) ⟨gy,0,none⟩ 1 1 [.int .i32 m,.int .i64 (cn:Int)] (by rfl) (by rfl) (V aD) aO (by omega) (by unfold maxLen; omega) (by omega) bN W2.heap.size rfl ?_;intro gg cap w8 aq al aS bx;obtain ⟨s0,s1,cm,cp,W9,bk,y1,y2,fy,aG,aH⟩:=V aj gg cap w8 aq al aS;refine hK.out _ _ ?_ (fun hHeld=>?_)
  ·exact ⟨s0,s1⟩
  clear hK K
  try simp only [Act.put,sa9,sb9,sc9]
  refine tk9 8 (.pointer (some ⟨g,0,none⟩)) ?_;refine tk9 9 (.pointer (some ⟨g,0,none⟩)) ?_;refine rd9 10 fun K hK=>?_;go_simp;refine hK.out _ _ ?_ (fun hHeld=>?_)
  ·exact V bh _ _ _ s0 s1
  clear hK K;refine wpAnyH_done (by kernel_rfl) ?_ _;have bc:=O aG;have bd:=O aH;clear hHeld aq al aS bx s0 s1 cm cp aj aE aD ah bX bY aO bN aG aH bh a7 a8;go_upto_region 2 with fail;refine wp_region_held_drew (S:=fun w'=>w'.cell? ⟨gx,1,none⟩=some (.int .i64 (cn:Int))) (by kernel_rfl) (by rw [bk]; exact y1) (fun hHeld=>?_);rw [bk] at hHeld ⊢;clear bk;refine tk9 0 (.pointer (some ⟨g,0,none⟩)) ?_;refine tk9 1 (.pointer (some ⟨gx,1,none⟩)) ?_;refine tk9 2 (.int .i64 (cn:Int)) ?_;refine tk9 3 (.pointer (some ⟨g,0,none⟩)) ?_;refine tk9 4 (.pointer (some ⟨g,1,none⟩)) ?_;refine tk9 5 (.pointer (some ⟨g,1+cn,none⟩)) ?_;refine tk9 8 (.pointer (some ⟨g,0,none⟩)) ?_;refine tk9 9 (.pointer (some ⟨g,1,none⟩)) ?_;refine rd9 6 fun K hK=>?_;go_simp;refine hK.out _ _ ?_ (fun hHeld=>?_)
  ·exact y1
  clear hK K
  try simp only [Act.put,sa9,sb9,sc9]
  refine tk9 7 (.int .i64 (q+1)) ?_;refine tk9 10 (.pointer (some ⟨g,1+cn,none⟩)) ?_;refine rd9 11 fun K hK=>?_;go_simp;refine hK.out _ _ ?_ (fun hHeld=>?_)
  ·exact V bf _ _ y1
  clear hK K;refine wpAnyH_done (by kernel_rfl) ?_ _;clear hHeld;go_wp2;go_end0;exact ⟨rfl,V bc,V bd⟩
end Od
