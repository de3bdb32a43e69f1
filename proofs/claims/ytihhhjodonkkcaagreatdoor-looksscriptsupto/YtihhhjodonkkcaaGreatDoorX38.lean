/- Oh12 Oi12 Op12 Oj12 Ok12 Ol12 -/
import Derived.Test.YtihhhjodonkkcaaGreatDoorX16
import Derived.Test.YtihhhjodonkkcaaGreatDoorX2
namespace Go.Proofs.YtihhhjodonkkcaaGreatDoor
open Go.RowKit
open Ti
namespace Od
def Blk (w:World) (g:Nat) (t:TypeId) (vs:List Value):Prop:=w.heap[g]?=some (.cells vs.toArray t (0,0))
theorem Blk.lt {w} {g t:Nat} {vs} (h:Blk w g t vs):g<w.heap.size:=(Array.getElem?_eq_some_iff.1 h).1
theorem Blk.cell {w} {g t:Nat} {vs} (h:Blk w g t vs) {i v} (hv:vs[i]?=some v):w.cell? ⟨g,i,none⟩=some v:=by
 rw [cell_of_row _ _ _ _ _ _ h]; simpa using hv
theorem Blk.frozen {w} {g t:Nat} {vs} (h:Blk w g t vs) i:w.frozen? ⟨g,i,none⟩=false:=frozen_of_row _ _ _ _ _ h
theorem Blk.set {w} {g t:Nat} {vs} (h:Blk w g t vs) i v:Blk (w.setCell ⟨g,i,none⟩ v) g t (vs.set i v):=by
 unfold Blk at h ⊢
 rw [heap_setCell_same w g i _ _ _ h]
 simp
theorem Blk.other {w} {g t:Nat} {vs} (h:Blk w g t vs) {a} (hne:g≠a.block) v:Blk (w.setCell a v) g t vs:=by
 unfold Blk at h ⊢
 rw [heap_setCell_other w a g v hne]; exact h
theorem Blk.new (w:World) (t:Nat) vs C (hC:C=vs.toArray):Blk (w.alloc (.cells C t)) w.heap.size t vs:=by
 subst hC
 exact heap_alloc_last w _
theorem Blk.alloc {w} {g t:Nat} {vs} (h:Blk w g t vs) o:Blk (w.alloc o) g t vs:=by
 have hl:=h.lt
 unfold Blk at h ⊢
 rw [Below.heap_alloc w o g hl]; exact h
theorem Blk.below {w w'} {g t n:Nat} {vs} (h:Blk w g t vs) (hb:Below n w w') (hn:g<n):Blk w' g t vs:=by
 unfold Blk at h ⊢
 rw [hb.block g hn]; exact h
theorem Blk.range {w} {g t:Nat} {vs} (h:Blk w g t vs) o:w.rangeAt g o (vs.drop o):=fun j v hv=>h.cell (by rw [List.getElem?_drop] at hv; exact hv)
theorem Blk.there {w} {g t:Nat} {vs} (h:Blk w g t vs) {o n} (hn:o+n≤vs.length):w.there g o n:=fun j hj=>by
 refine ⟨?_,h.frozen _⟩
 rw [h.cell (List.getElem?_eq_getElem (show o+j<vs.length by omega))]; rfl
theorem Blk.setCells {w} {g t:Nat}:∀ (us:List Value) {vs:List Value} (o:Nat),Blk w g t vs→o+us.length≤vs.length→Blk (w.setCells g o us) g t (vs.take o++us++vs.drop (o+us.length)):=by
 intro us
 induction us generalizing w with
 | nil=>intro vs o h _; simpa [World.setCells] using h
 | cons u us ih =>
  intro vs o h hl
  rw [World.setCells]
  have:=ih (o+1) (h.set o u) (by rw [List.length_set]; simp at hl; omega)
  have e:(vs.set o u).take (o+1)++us++(vs.set o u).drop (o+1+us.length)=vs.take o++(u :: us)++vs.drop (o+(u :: us).length):=by
   simp only [List.length_cons] at hl
   have h1:(vs.set o u).take (o+1)=vs.take o++[u]:=by
    rw [List.take_add_one,List.take_set_of_le (Nat.le_refl _),List.getElem?_set_self (by omega)]; rfl
   rw [h1,List.drop_set_of_lt (by omega),List.length_cons,show o+1+us.length=o+(us.length+1) by omega]
   simp
  rw [e] at this
  exact this
def ia (zs:List Int):List Value:=zs.map (Value.int .i64)
def z255:List Int:=List.replicate 255 0
theorem ia_at {zs i} (hi:i<zs.length):(ia zs)[i]?=some (.int .i64 (zs.getD i 0)):=by
 unfold ia
 rw [List.getElem?_map,List.getElem?_eq_getElem hi]; simp [List.getD,hi]
theorem ia_set zs i v:(ia zs).set i (.int .i64 v)=ia (zs.set i v):=by unfold ia; rw [List.map_set]
theorem ia_len zs:(ia zs).length=zs.length:=List.length_map _
theorem ia_one zs:(ia zs).toArray.all (·.oneCell')=true:=all_oneCell_toArray (fun v hv=>by obtain ⟨z,_,rfl⟩:=List.mem_map.1 hv; rfl)
theorem infoCounts:(Tryz.prog.info? 151).map (·.size)=some 255:=by kernel_rfl
end Od
open Ti
namespace Od
def beg (cs:List Int):List Int:=(List.range 255).map fun i=>(cs.take i).sum
theorem beg_len cs:(beg cs).length=255:=by simp [beg]
theorem beg_at cs {i} (hi:i<255):(beg cs).getD i 0=(cs.take i).sum:=by simp [beg,List.getD,hi]
theorem sum_le (cs:List Int) (h:∀ c∈cs,0≤c∧c≤3000000):∀ k:Nat,0≤(cs.take k).sum∧(cs.take k).sum≤3000000 * (k:Int)
 | 0=>by simp
 | k+1=>by
  have ih:=sum_le cs h k
  rw [List.take_add_one,List.sum_append]
  cases hk:cs[k]? with
  | none=>simp; omega
  | some c =>
   have:=h c (List.mem_of_getElem? hk)
   simp; omega
theorem sum_step {cs:List Int} {k} (hk:k<cs.length):(cs.take (k+1)).sum=(cs.take k).sum+cs.getD k 0:=by
 rw [List.take_add_one,List.sum_append,List.getElem?_eq_getElem hk]; simp [List.getD,hk]
theorem zc255:Tryz.zeroCells151=(ia z255).toArray:=by kernel_rfl
theorem list_ext_getD {a b:List Int} {n} (ha:a.length=n) (hb:b.length=n) (h:∀ j,j<n→a.getD j 0=b.getD j 0):a=b:=by
 apply List.ext_getElem (by omega)
 intro i h1 h2
 have:=h i (by omega)
 simpa [List.getD,h1,h2] using this
set_option maxRecDepth 8000 in
set_option maxHeartbeats 4000000 in
theorem places_any12 g mv cs w (hr:Blk w g 153 (mv :: ia cs)) (hl:cs.length=255) (hc:∀ c∈cs,0≤c∧c≤3000000):Calls Tryz.prog 162 #[.pointer (some ⟨g,0,none⟩)] w fun e w'=>e=.returned (.agg (ia (beg cs)).toArray)∧Below w.heap.size w w':=by
 obtain ⟨W1,hW1⟩:∃ W1,w.alloc (.cells Tryz.zeroCells151 151)=W1:=⟨_,rfl⟩
 obtain ⟨W2,hW2⟩:∃ W2,W1.alloc (.cells Tryz.zeroCells151 151)=W2:=⟨_,rfl⟩
 have hb1:Below w.heap.size w W1:=by rw [← hW1]; exact (Below.refl _ _).alloc (Nat.le_refl _) _
 have hs1:W1.heap.size=w.heap.size+1:=by rw [← hW1]; simp
 have hb2:Below w.heap.size w W2:=by rw [← hW2]; exact hb1.alloc (by omega) _
 have k1:Blk W2 w.heap.size 151 (ia z255):=by
  rw [← hW2]; refine Blk.alloc ?_ _; rw [← hW1]; exact Blk.new w _ _ _ zc255
 have k2:Blk W2 (w.heap.size+1) 151 (ia z255):=by rw [← hW2,← hs1]; exact Blk.new W1 _ _ _ zc255
 have hgl:=hr.lt
 have HR:=Hd hr
 have HC:=Hd hc
 have HSL:Hid (∀ k,0≤(cs.take k).sum∧(cs.take k).sum≤3000000 * (k:Int)):=sum_le cs hc
 have HSS:Hid (∀ k,k<255→(cs.take (k+1)).sum=(cs.take k).sum+cs.getD k 0):=fun k hk=>sum_step (by omega)
 have HS0:Hid ((cs.take 0).sum=0):=by grind
 have HEX:Hid (∀ zs:List Int,zs.length=255→(∀ j,j<255→zs.getD j 0=(cs.take j).sum)→zs=beg cs):=fun zs h1 h2=>list_ext_getD h1 (beg_len cs) (fun j hj=>by rw [h2 j hj,beg_at cs hj])
 have HCA:Hid (∀ (W:World),Below w.heap.size w W→∀ k:Nat,k<255→W.cell? ⟨g,1+k,none⟩=some (.int .i64 (cs.getD k 0))):=fun W hW k hk=>by
  rw [hW.cell hgl]
  refine hr.cell ?_
  rw [Nat.add_comm,List.getElem?_cons_succ]; exact ia_at (by omega)
 have HCB:Hid (∀ k:Nat,k<255→0≤cs.getD k 0∧cs.getD k 0≤3000000):=fun k hk=>hc _ (by simp [List.getD,show k<cs.length by omega])
 obtain ⟨g3,hg3⟩:∃ g3,g3=w.heap.size+1:=⟨_,rfl⟩
 obtain ⟨g2,hg2⟩:∃ g2,g2=w.heap.size:=⟨_,rfl⟩
 have h23:g2≠g3:=by omega
 have hge2:w.heap.size≤g2:=by omega
 have hge3:w.heap.size≤g3:=by omega
 rw [← hg2] at k1
 rw [← hg3] at k2 hs1
 have K1:=Hd k1
 have K2:=Hd k2
 have HB2:=Hd hb2
 have hg2':=hg2.symm
 have Z0:Hid (z255.length=255):=by show _=_; simp [z255]
 clear hr hc hb1 hb2 k1 k2 hg2 hg3 hl
 go_enter Tryz.func162,Tryz.ntmps162
 go_wp2
 go_loopw [4,5,6] (fun nn _ kk wr=>∃ (k:Nat) (zs:List Int),kk=.int .i64 k∧nn=.int .i64 (cs.take k).sum∧k≤255∧zs.length=255∧Blk wr g3 151 (ia zs)∧Blk wr g2 151 (ia z255)∧Below w.heap.size w wr∧∀ j,j<k→zs.getD j 0=(cs.take j).sum) (fun _ _ kk _=>255 - (intOf kk).toNat)
 case atStart=>exact ⟨0,z255,rfl,by rw [Uh HS0],by omega,Uh Z0,Uh K2,Uh K1,Uh HB2,fun j hj=>by omega⟩
 case round =>
  obtain ⟨k,zs,rfl,rfl,hk,hzl,hz3,hz2,hb,hall⟩:=hrel
  have hsl:=(Uh HSL) k
  by_cases hlt:k<255
  ·have hss:=(Uh HSS) k hlt
   have hca:=(Uh HCA) wr hb k hlt
   obtain ⟨q0,q1⟩:=(Uh HCB) k hlt
   have hc3:=hz3.cell (ia_at (zs:=zs) (i:=k) (by omega))
   have hf3:=hz3.frozen k
   have hz32:Blk (wr.setCell ⟨g3,k,none⟩ (.int .i64 (cs.take k).sum)) g3 151 (ia (zs.set k (cs.take k).sum)):=by rw [← ia_set]; exact hz3.set k _
   have hz22:=hz2.other (a:=⟨g3,k,none⟩) h23 (.int .i64 (cs.take k).sum)
   have hb2:=hb.setCell (p:=⟨g3,k,none⟩) hge3 (.int .i64 (cs.take k).sum)
   have hca2:(wr.setCell ⟨g3,k,none⟩ (.int .i64 (cs.take k).sum)).cell? ⟨g,1+k,none⟩=some (.int .i64 (cs.getD k 0)):=(Uh HCA) _ hb2 k hlt
   have hal2:Hid (∀ j,j<k+1→(zs.set k (cs.take k).sum).getD j 0=(cs.take j).sum):=by
    intro j hj
    rw [set_at zs k j _ (by omega)]
    split
    ·rename_i e; rw [e]
    ·exact hall j (by omega)
   obtain ⟨W5,hW5⟩:∃ W5,wr.setCell ⟨g3,k,none⟩ (.int .i64 (cs.take k).sum)=W5:=⟨_,rfl⟩
   rw [hW5] at hz32 hz22 hb2 hca2
   have HZ3:=Hd hz32
   have HZ2:=Hd hz22
   have HB:=Hd hb2
   have HSE:=Hd hss
   generalize hq:cs.getD k 0=q at *
   generalize hs:(cs.take k).sum=s at *
   have hin1:(0:Int)≤(k:Int):=by omega
   have hin2:(k:Int)<255:=by omega
   go_wp2
   go_roundw
   case rel=>exact ⟨k+1,zs.set k s,by go_num,by rw [Uh HSE],by omega,by simp [hzl],Uh HZ3,Uh HZ2,Uh HB,Uh hal2⟩
   case measure=>simp [intOf]; omega
  ·obtain rfl:k=255:=by omega
   have hres:=(Uh HEX) zs hzl hall
   subst hres
   go_upto_region 9 with fail
   refine wp_region_list ?_
   have hrg:=hz3.range 0
   rw [List.drop_zero] at hrg
   refine wpList_load_mid (by rfl) 151 (.tmp 3) (by rfl) g3 0 (by rfl) (ia (beg cs)) _ hrg Tryz.underlying151 (by rfl) (by rw [ia_len,beg_len]; exact infoCounts) ?_
   have hth:wr.there g2 0 (ia (beg cs)).toArray.size:=hz2.there (by simp [ia_len,beg_len,z255])
   refine wpList_store_mid (by rfl) 151 (.tmp 2) (.tmp 21) (by rfl) g2 0 (ia (beg cs)).toArray (by rfl) (by rfl) hth (by rw [show (ia (beg cs)).toArray.size=255 by simp [ia_len,beg_len]]; exact infoCounts) (ia_one _) ?_
   have hrg2:=World.rangeAt_setCells_same wr g2 0 (ia (beg cs)) (by simpa using hth)
   have hbF:Below w.heap.size w (wr.setCells g2 0 (ia (beg cs))):=below_setCells4 hge2 _ _ _ hb
   have hld:=run_loadVar_mid (P:=Tryz.prog) _ g2 0 151 (ia (beg cs)) _ hrg2 Tryz.underlying151 (by rfl) (by rw [ia_len,beg_len]; exact infoCounts)
   go_wp2
   exact bodyPost_ret (v:=.agg (ia (beg cs)).toArray) (results_cellM rfl _ _ _ g2 _ (by rfl) hld) rfl ⟨rfl,hbF⟩
end Od
namespace Od
def srt (k:Int→Int):Int→List Int→Bool
 | _,[]=>true
 | a,c :: l=>if k c≠0∧k c<a then false else srt k (k c) l
def fl (k:Int→Int) (j:Int) (l:List Int):List Int:=l.filter fun m=>decide (k m=0∨k m=j)
def bkN (k:Int→Int) (ms:List Int) (n:Nat):List Int:=(List.range n).flatMap fun (c:Nat)=>ms.filter fun m=>decide (k m=(c:Int))
def bkt (k:Int→Int) (ms:List Int):List Int:=bkN k ms 255
def ordA (k:Int→Int):List Int→List Int→List Int
 | ms,[]=>bkt k ms
 | ms,c :: l=>if k c=0 then bkt k ms++c :: ordA k [] l else ordA k (ms++[c]) l
def ord (k:Int→Int) (xs:List Int):List Int:=ordA k [] xs
def Mk (k:Int→Int) (ms:List Int):Prop:=∀ m∈ms,1≤k m∧k m≤254
theorem bkt_nil k:bkt k []=[]:=by
 unfold bkt bkN
 simp
theorem bkN_succ k ms n:bkN k ms (n+1)=bkN k ms n++ms.filter fun m=>decide (k m=(n:Int)):=by
 simp [bkN,List.range_succ,List.flatMap_append]
theorem filt_sum (p q r:Int→Bool) (h:∀ m,r m=(p m || q m)) (hd:∀ m,¬ (p m=true∧q m=true)) (ms:List Int):(ms.filter r).length=(ms.filter p).length+(ms.filter q).length:=by
 induction ms with
 | nil=>rfl
 | cons m ms ih=>grind
theorem bkN_len k ms (h:∀ m∈ms,0≤k m) n:(bkN k ms n).length=(ms.filter fun m=>decide (k m<(n:Int))).length:=by
 induction n with
 | zero =>
  have:(ms.filter fun m=>decide (k m<((0:Nat):Int)))=[]:=by simp_all
  rw [this]; rfl
 | succ n ih =>
  rw [bkN_succ,List.length_append,ih]
  refine (filt_sum _ _ _ (fun m=>?_) (fun m=>?_) ms).symm
  ·grind
  ·simp; omega
theorem bkt_len {k ms} (h:Mk k ms):(bkt k ms).length=ms.length:=by
 unfold bkt
 rw [bkN_len k ms (fun m hm=>by have:=h m hm; omega),List.filter_eq_self.2]
 intro m hm
 have:=h m hm
 simp; omega
theorem bkN_mem {k ms n x} (h:x∈bkN k ms n):x∈ms∧0≤k x∧k x<n:=by
 unfold bkN at h
 rw [List.mem_flatMap] at h
 obtain ⟨c,hc,hx⟩:=h
 rw [List.mem_range] at hc
 rw [List.mem_filter] at hx
 have:=of_decide_eq_true hx.2
 exact ⟨hx.1,by omega,by omega⟩
theorem bkN_pair k ms n:(bkN k ms n).Pairwise (fun a b=>k a≤k b):=by
 induction n with
 | zero=>exact List.Pairwise.nil
 | succ n ih =>
  rw [bkN_succ,List.pairwise_append]
  refine ⟨ih,?_,?_⟩
  ·refine List.pairwise_iff_forall_sublist.2 ?_
   intro a b hs
   have ha:a∈ms.filter fun m=>decide (k m=(n:Int)):=hs.subset (by simp)
   have hb:b∈ms.filter fun m=>decide (k m=(n:Int)):=hs.subset (by simp)
   have h1:=of_decide_eq_true (List.mem_filter.1 ha).2
   have h2:=of_decide_eq_true (List.mem_filter.1 hb).2
   omega
  ·intro a ha b hb
   have h1:=bkN_mem ha
   have h2:=of_decide_eq_true (List.mem_filter.1 hb).2
   omega
theorem bkN_filt k ms j n:((bkN k ms n).filter fun m=>decide (k m=j))=if 0≤j∧j<n then ms.filter fun m=>decide (k m=j) else []:=by
 induction n with
 | zero=>rw [if_neg (by omega)]; rfl
 | succ n ih =>
  rw [bkN_succ,List.filter_append,ih,List.filter_filter]
  by_cases h:j=(n:Int)
  ·grind
  ·have:(ms.filter fun a=>decide (k a=j) && decide (k a=(n:Int)))=[]:=by
    rw [List.filter_eq_nil_iff]
    intro m _
    simp; omega
   rw [this,List.append_nil]
   by_cases h1:0≤j∧j<(n:Int)
   ·rw [if_pos h1,if_pos (by omega)]
   ·rw [if_neg h1,if_neg (by omega)]
theorem fl_marks {k ms} (h:Mk k ms) j:fl k j ms=if 1≤j∧j≤254 then ms.filter (fun m=>decide (k m=j)) else []:=by
 unfold fl
 by_cases hj:1≤j∧j≤254
 ·rw [if_pos hj]
  refine List.filter_congr (fun m hm=>?_)
  have:=h m hm
  simp; omega
 ·rw [if_neg hj,List.filter_eq_nil_iff]
  intro m hm
  have:=h m hm
  simp; omega
theorem bkt_mk {k ms} (h:Mk k ms):Mk k (bkt k ms):=fun m hm=>h m (bkN_mem hm).1
theorem fl_bkt {k ms} (h:Mk k ms) j:fl k j (bkt k ms)=fl k j ms:=by
 rw [fl_marks (bkt_mk h),fl_marks h]
 by_cases hj:1≤j∧j≤254
 ·rw [if_pos hj,if_pos hj]
  unfold bkt
  rw [bkN_filt,if_pos (by omega)]
 ·rw [if_neg hj,if_neg hj]
theorem fl_append k j a b:fl k j (a++b)=fl k j a++fl k j b:=by unfold fl; exact List.filter_append ..
theorem fl_cons k j c l:fl k j (c :: l)=if k c=0∨k c=j then c :: fl k j l else fl k j l:=by
 unfold fl
 rw [List.filter_cons]
 by_cases h:k c=0∨k c=j
 ·grind
 ·grind
theorem mk_snoc {k ms c} (h:Mk k ms) (h1:1≤k c) (h2:k c≤254):Mk k (ms++[c]):=by
 intro m hm
 rcases List.mem_append.1 hm with hm | hm
 ·exact h m hm
 ·grind
theorem fl_ordA {k:Int→Int} (hk:∀ c,0≤k c∧k c≤254) (j:Int):∀ (l ms:List Int),Mk k ms→fl k j (ordA k ms l)=fl k j (ms++l)
 | [],ms,h=>by rw [ordA,fl_bkt h,List.append_nil]
 | c :: l,ms,h=>by
  rw [ordA]
  by_cases hc:k c=0
  ·rw [if_pos hc,fl_append,fl_append,fl_bkt h,fl_cons,fl_cons,fl_ordA hk j l [] (fun _ h=>by cases h)]
   rfl
  ·rw [if_neg hc,fl_ordA hk j l _ (mk_snoc h (by have:=hk c; omega) (hk c).2)]
   simp
theorem fl_ord {k} (hk:∀ c,0≤k c∧k c≤254) j xs:fl k j (ord k xs)=fl k j xs:=fl_ordA hk j xs [] (fun _ h=>by cases h)
theorem srt_app {k:Int→Int} {rest:List Int} (hr:∀ a,srt k a rest=true):∀ (b:List Int) (a:Int),b.Pairwise (fun x y=>k x≤k y)→(∀ x∈b,a≤k x)→srt k a (b++rest)=true
 | [],a,_,_=>hr a
 | x :: b,a,hp,hm=>by
  rw [List.cons_append,srt,if_neg (fun h=>by have:=hm x (by simp); omega)]
  rw [List.pairwise_cons] at hp
  exact srt_app hr b (k x) hp.2 hp.1
theorem srt_ordA {k:Int→Int} (hk:∀ c,0≤k c∧k c≤254):∀ (l ms:List Int),Mk k ms→srt k 0 (ordA k ms l)=true
 | [],ms,h=>by
  rw [ordA,← List.append_nil (bkt k ms)]
  exact srt_app (fun _=>rfl) _ _ (bkN_pair k ms 255) (fun x hx=>by have:=bkN_mem hx; omega)
 | c :: l,ms,h=>by
  rw [ordA]
  by_cases hc:k c=0
  ·rw [if_pos hc]
   refine srt_app (fun a=>?_) _ _ (bkN_pair k ms 255) (fun x hx=>by have:=bkN_mem hx; omega)
   rw [srt,if_neg (fun h=>h.1 hc),hc]
   exact srt_ordA hk l [] (fun _ h=>by cases h)
  ·rw [if_neg hc]
   exact srt_ordA hk l _ (mk_snoc h (by have:=hk c; omega) (hk c).2)
theorem srt_ord {k} (hk:∀ c,0≤k c∧k c≤254) xs:srt k 0 (ord k xs)=true:=srt_ordA hk xs [] (fun _ h=>by cases h)
theorem fl_far {k:Int→Int} {j:Int} (hj:j≠0):∀ (l:List Int) (p:Int),srt k p l=true→j<p→∀ c r,fl k j l=c :: r→k c=0
 | [],_,_,_,c,r,h=>by cases h
 | x :: l,p,hs,hp,c,r,h=>by
  rw [srt] at hs
  split at hs
  ·cases hs
  ·rename_i hn
   rw [fl_cons] at h
   by_cases hx:k x=0
   ·rw [if_pos (Or.inl hx)] at h
    cases h; exact hx
   ·have:p≤k x:=Int.not_lt.1 (fun e=>hn ⟨hx,e⟩)
    rw [if_neg (fun e=>by rcases e with e | e <;> omega)] at h
    exact fl_far hj l (k x) hs (by omega) c r h
theorem fl_head {k j c} (h:k c=0∨k c=j) l:fl k j (c :: l)=c :: fl k j l:=by rw [fl_cons,if_pos h]
theorem uniq {k:Int→Int}:∀ (a b:List Int) (p q:Int),srt k p a=true→srt k q b=true→(∀ j,fl k j a=fl k j b)→a=b
 | [],[],_,_,_,_,_=>rfl
 | [],c :: l,_,_,_,_,h=>by
  have:=h (k c)
  rw [fl_head (Or.inr rfl)] at this
  cases this
 | c :: l,[],_,_,_,_,h=>by
  have:=h (k c)
  rw [fl_head (Or.inr rfl)] at this
  cases this
 | c :: l,d :: m,p,q,ha,hb,h=>by
  have hc:c=d:=by
   by_cases h0:k c=0
   ·have:=h (k d)
    rw [fl_head (Or.inl h0),fl_head (Or.inr rfl)] at this
    exact (List.cons.inj this).1
   ·by_cases h1:k d=0
    ·have:=h (k c)
     rw [fl_head (Or.inr rfl),fl_head (Or.inl h1)] at this
     exact (List.cons.inj this).1
    ·rw [srt] at ha hb
     split at ha
     ·cases ha
     ·split at hb
      ·cases hb
      ·rcases Int.lt_trichotomy (k c) (k d) with hlt | heq | hgt
       ·have:=h (k c)
        rw [fl_head (Or.inr rfl),fl_cons k (k c) d,if_neg (fun e=>by rcases e with e | e <;> omega)] at this
        exact absurd (fl_far h0 m (k d) hb hlt c _ this.symm) h0
       ·have:=h (k c)
        rw [fl_head (Or.inr rfl),fl_head (Or.inr heq.symm)] at this
        exact (List.cons.inj this).1
       ·have:=h (k d)
        rw [fl_head (Or.inr rfl) m,fl_cons k (k d) c,if_neg (fun e=>by rcases e with e | e <;> omega)] at this
        exact absurd (fl_far h1 l (k c) ha hgt d _ this) h1
  subst hc
  have ht:l=m:=by
   rw [srt] at ha hb
   split at ha
   ·cases ha
   ·split at hb
    ·cases hb
    ·refine uniq l m (k c) (k c) ha hb (fun j=>?_)
     have:=h j
     rw [fl_cons,fl_cons] at this
     split at this
     ·exact (List.cons.inj this).2
     ·exact this
  rw [ht]
theorem ord_of_srt {k} (hk:∀ c,0≤k c∧k c≤254) {xs} (h:srt k 0 xs=true):ord k xs=xs:=uniq _ _ 0 0 (srt_ord hk xs) h (fun j=>fl_ord hk j xs)
theorem ord_ord {k} (hk:∀ c,0≤k c∧k c≤254) xs:ord k (ord k xs)=ord k xs:=ord_of_srt hk (srt_ord hk xs)
theorem ord_of {k} (hk:∀ c,0≤k c∧k c≤254) {xs ys} (hs:srt k 0 ys=true) (h:∀ j,fl k j ys=fl k j xs):ys=ord k xs:=uniq _ _ 0 0 hs (srt_ord hk xs) (fun j=>by rw [h,fl_ord hk])
theorem ordA_len {k:Int→Int} (hk:∀ c,0≤k c∧k c≤254):∀ (l ms:List Int),Mk k ms→(ordA k ms l).length=ms.length+l.length
 | [],ms,h=>by rw [ordA,bkt_len h]; rfl
 | c :: l,ms,h=>by
  rw [ordA]
  by_cases hc:k c=0
  ·rw [if_pos hc,List.length_append,bkt_len h,List.length_cons,ordA_len hk l [] (fun _ h=>by cases h)]
   simp
  ·rw [if_neg hc,ordA_len hk l _ (mk_snoc h (by have:=hk c; omega) (hk c).2)]
   simp; omega
theorem ord_len {k} (hk:∀ c,0≤k c∧k c≤254) xs:(ord k xs).length=xs.length:=by
 unfold ord
 rw [ordA_len hk xs [] (fun _ h=>by cases h)]
 simp
theorem ord_mem {k} (hk:∀ c,0≤k c∧k c≤254) {xs x} (h:x∈ord k xs):x∈xs:=by
 have h1:x∈fl k (k x) (ord k xs):=List.mem_filter.2 ⟨h,by simp⟩
 rw [fl_ord hk] at h1
 exact (List.mem_filter.1 h1).1
end Od
namespace Od
theorem fm_succ (f:Nat→List Int) n:(List.range (n+1)).flatMap f=(List.range n).flatMap f++f n:=by
 simp [List.range_succ,List.flatMap_append]
theorem fm_le (f:Nat→List Int) {c n} (h:c<n):((List.range c).flatMap f).length+(f c).length≤((List.range n).flatMap f).length:=by
 induction n with
 | zero=>omega
 | succ n ih =>
  rw [fm_succ,List.length_append]
  rcases Nat.lt_succ_iff_lt_or_eq.1 h with h | rfl
  ·have:=ih h; omega
  ·exact Nat.le_refl _
theorem fm_congr {f g:Nat→List Int} {n} (h:∀ i,i<n→f i=g i):(List.range n).flatMap f=(List.range n).flatMap g:=by
 induction n with
 | zero=>rfl
 | succ n ih=>rw [fm_succ,fm_succ,ih (fun i hi=>h i (by omega)),h n (by omega)]
theorem fm_set (f g:Nat→List Int) {c r n} v (hc:c<n) (hr:r<(f c).length) (hg:g c=(f c).set r v) (hd:∀ i,i≠c→g i=f i):((List.range n).flatMap f).set (((List.range c).flatMap f).length+r) v=(List.range n).flatMap g:=by
 induction n with
 | zero=>omega
 | succ n ih =>
  rw [fm_succ,fm_succ]
  rcases Nat.lt_succ_iff_lt_or_eq.1 hc with h | rfl
  ·have:=fm_le f h
   rw [List.set_append_left _ _ (by omega),ih h,hd n (by omega)]
  ·rw [List.set_append_right _ _ (by omega),show ((List.range c).flatMap f).length+r - ((List.range c).flatMap f).length=r by omega,← hg,fm_congr (fun i hi=>(hd i (by omega)).symm)]
def ft (k:Int→Int) (c:Nat) (l:List Int):List Int:=l.filter fun m=>decide (k m=(c:Int))
theorem bk_ft k ms n:bkN k ms n=(List.range n).flatMap fun c=>ft k c ms:=rfl
theorem ft_append k c a b:ft k c (a++b)=ft k c a++ft k c b:=by unfold ft; exact List.filter_append ..
def Dealt (k:Int→Int) (ms:List Int) (j:Nat) (y:List Int):Prop:=∃ J:Nat→List Int,y=(List.range 255).flatMap (fun c=>ft k c (ms.take j)++J c)∧∀ c,c<255→(J c).length=(ft k c (ms.drop j)).length
theorem split (g:Nat→Nat):∀ (n:Nat) (y:List Int) (_:y.length=((List.range n).map g).sum),∃ J:Nat→List Int,y=(List.range n).flatMap J∧∀ c,c<n→(J c).length=g c
 | 0,y,h=>⟨fun _=>[],by simpa using h,fun c hc=>by omega⟩
 | n+1,y,h=>by
  rw [List.range_succ,List.map_append,List.sum_append] at h
  simp only [List.map_cons,List.map_nil,List.sum_cons,List.sum_nil,Nat.add_zero] at h
  obtain ⟨J,h1,h2⟩:=split g n (y.take (y.length - g n)) (by rw [List.length_take]; omega)
  refine ⟨fun i=>if i=n then y.drop (y.length - g n) else J i,?_,fun c hc=>?_⟩
  ·rw [fm_succ,if_pos rfl,fm_congr (g:=J) (fun i hi=>by rw [if_neg (by omega)]),← h1,List.take_append_drop]
  ·by_cases hcn:c=n
   ·subst hcn
    simp only [if_true,List.length_drop]
    omega
   ·simp only [if_neg hcn]
    exact h2 c (by omega)
theorem fm_len (f:Nat→List Int) n:((List.range n).flatMap f).length=((List.range n).map fun c=>(f c).length).sum:=by simp_all
theorem dealt_start {k ms y} (h:Mk k ms) (hy:y.length=ms.length):Dealt k ms 0 y:=by
 obtain ⟨J,h1,h2⟩:=split (fun c=>(ft k c ms).length) 255 y (by rw [hy,← bkt_len h]; unfold bkt; rw [bk_ft,fm_len])
 refine ⟨J,?_,fun c hc=>?_⟩
 ·rw [h1]; exact fm_congr (fun i _=>by simp [ft])
 ·rw [List.drop_zero]; exact h2 c hc
theorem dealt_end {k ms y} (h:Dealt k ms ms.length y):y=bkt k ms:=by
 obtain ⟨J,h1,h2⟩:=h
 rw [h1]
 unfold bkt
 rw [bk_ft]
 refine fm_congr (fun i hi=>?_)
 have:=h2 i hi
 rw [List.drop_length] at this
 rw [List.take_length,List.eq_nil_of_length_eq_zero (l:=J i) (by rw [this]; rfl),List.append_nil]
def plc (k:Int→Int) (ms:List Int) (j c:Nat):Nat:=(bkN k ms c).length+(ft k c (ms.take j)).length
theorem ft_parts k c ms j:(ft k c (ms.take j)).length+(ft k c (ms.drop j)).length=(ft k c ms).length:=by
 rw [← List.length_append,← ft_append,List.take_append_drop]
theorem ft_take {k} c {ms:List Int} {j} (hj:j<ms.length):ft k c (ms.take (j+1))=ft k c (ms.take j)++if k (ms.getD j 0)=c then [ms.getD j 0] else []:=by
 rw [List.take_add_one,ft_append,List.getElem?_eq_getElem hj]
 have:ms.getD j 0=ms[j]:=by simp [List.getD,hj]
 rw [this]
 unfold ft
 by_cases h:k ms[j]=(c:Int) <;> simp [h]
theorem ft_drop {k} c {ms:List Int} {j} (hj:j<ms.length):ft k c (ms.drop j)=(if k (ms.getD j 0)=c then [ms.getD j 0] else [])++ft k c (ms.drop (j+1)):=by
 have:ms.getD j 0=ms[j]:=by simp [List.getD,hj]
 rw [List.drop_eq_getElem_cons hj,this]
 unfold ft
 rw [List.filter_cons]
 by_cases h:k ms[j]=(c:Int)
 ·grind
 ·grind
theorem dealt_step {k ms y} {j c:Nat} (h:Dealt k ms j y) (hj:j<ms.length) (hc:k (ms.getD j 0)=c) (hc5:c<255):plc k ms j c<y.length∧Dealt k ms (j+1) (y.set (plc k ms j c) (ms.getD j 0)):=by
 obtain ⟨J,h1,h2⟩:=h
 have hJ:=h2 c hc5
 rw [ft_drop c hj,if_pos hc,List.length_append,List.length_singleton] at hJ
 have hb:(bkN k ms c).length=((List.range c).flatMap fun c=>ft k c (ms.take j)++J c).length:=by
  rw [bk_ft,fm_len,fm_len]
  congr 1
  refine List.map_congr_left (fun i hi=>?_)
  rw [List.mem_range] at hi
  rw [List.length_append,h2 i (by omega),ft_parts]
 have hfc:=fm_le (fun c=>ft k c (ms.take j)++J c) hc5
 simp only [List.length_append] at hfc
 unfold plc
 rw [h1,hb]
 refine ⟨by omega,fun i=>if i=c then (J c).drop 1 else J i,?_,fun i hi=>?_⟩
 ·refine fm_set _ _ _ hc5 (by rw [List.length_append]; omega) ?_ (fun i hi=>?_)
  ·simp only [if_true]
   rw [ft_take c hj,if_pos hc,List.set_append_right _ _ (Nat.le_refl _),Nat.sub_self]
   cases hq:J c with
   | nil=>grind
   | cons x l=>simp
  ·simp only [if_neg hi]
   rw [ft_take i hj,if_neg (fun e=>hi (by omega)),List.append_nil]
 ·by_cases hic:i=c
  ·grind
  ·simp only [if_neg hic]
   rw [h2 i hi,ft_drop i hj,if_neg (fun e=>hic (by omega)),List.nil_append]
theorem plc_step {k ms j} c (hj:j<ms.length):plc k ms (j+1) c=if k (ms.getD j 0)=c then plc k ms j c+1 else plc k ms j c:=by
 unfold plc
 rw [ft_take c hj]
 by_cases h:k (ms.getD j 0)=c
 ·grind
 ·grind
theorem plc_zero k ms c:plc k ms 0 c=(bkN k ms c).length:=by simp [plc,ft]
theorem bkN_next k ms c:(bkN k ms (c+1)).length=(bkN k ms c).length+(ft k c ms).length:=by rw [bkN_succ,List.length_append]; rfl
def innerK (k:Int→Int):Nat→List Int→List Int
 | 0,l=>l
 | n+1,l=>if k (l.getD (n+1) 0)≠0∧k (l.getD (n+1) 0)<k (l.getD n 0) then innerK k n ((l.set (n+1) (l.getD n 0)).set n (l.getD (n+1) 0)) else l
def outerK (k:Int→Int):Nat→Nat→List Int→List Int
 | 0,_,l=>l
 | f+1,i,l=>outerK k f (i+1) (innerK k i l)
def lastc (k:Int→Int):Int→List Int→Int
 | p,[]=>p
 | _,x :: l=>lastc k (k x) l
theorem lastc_snoc (k:Int→Int):∀ (l:List Int) (p a:Int),lastc k p (l++[a])=k a
 | [],_,_=>rfl
 | x :: l,_,a=>lastc_snoc k l (k x) a
theorem inner_ins (k:Int→Int) (hk:∀ c,0≤k c) (c:Int) (R:List Int):∀ (n:Nat) (A B:List Int),A.length=n→(∀ a∈B,k c≠0∧k c<k a)→∃ A1 A2,A++B=A1++A2∧innerK k n (A++c :: (B++R))=A1++c :: (A2++R)∧(∀ a∈A2,k c≠0∧k c<k a)∧¬ (k c≠0∧k c<lastc k 0 A1)
 | 0,A,B,hA,hB=>by
  obtain rfl:=List.eq_nil_of_length_eq_zero hA
  exact ⟨[],B,rfl,rfl,hB,fun h=>by have:=hk c; simp only [lastc] at h; omega⟩
 | n+1,A,B,hA,hB=>by
  obtain ⟨A',a,rfl⟩:∃ A' a,A=A'++[a]:=⟨A.dropLast,A.getLast (by intro e; rw [e] at hA; simp at hA),(List.dropLast_concat_getLast _).symm⟩
  have hA':A'.length=n:=by rw [List.length_append] at hA; simp at hA; exact hA
  have g1:(A'++[a]++c :: (B++R)).getD (n+1) 0=c:=by
   simp only [List.getD]
   rw [List.getElem?_append_right (by omega),hA]; simp
  have g0:(A'++[a]++c :: (B++R)).getD n 0=a:=by
   simp only [List.getD,List.append_assoc]
   rw [List.getElem?_append_right (by omega),hA']; simp
  have gs:((A'++[a]++c :: (B++R)).set (n+1) a).set n c=A'++c :: (([a]++B)++R):=by
   rw [List.set_append_right _ _ (by omega),hA,Nat.sub_self,List.append_assoc,List.set_append_right _ _ (by omega),hA',Nat.sub_self]
   simp
  rw [innerK,g1,g0]
  by_cases h:k c≠0∧k c<k a
  ·rw [if_pos h,gs]
   obtain ⟨A1,A2,e1,e2,e3,e4⟩:=inner_ins k hk c R n A' ([a]++B) hA' (fun x hx=>by
    rcases List.mem_append.1 hx with hx | hx
    ·obtain rfl:=List.mem_singleton.1 hx; exact h
    ·exact hB x hx)
   exact ⟨A1,A2,by rw [← e1]; simp,e2,e3,e4⟩
  ·rw [if_neg h]
   exact ⟨A'++[a],B,rfl,by simp,hB,by rw [lastc_snoc]; exact h⟩
theorem ins_fl {k c A2} (h:∀ a∈A2,k c≠0∧k c<k a) (hc:0≤k c) j:fl k j (c :: A2)=fl k j (A2++[c]):=by
 cases A2 with
 | nil=>rfl
 | cons a A =>
  have h0:=(h a (by simp)).1
  rw [fl_append,fl_cons k j c (a :: A),fl_cons k j c []]
  by_cases hj:k c=j
  ·rw [if_pos (Or.inr hj),if_pos (Or.inr hj)]
   have:fl k j (a :: A)=[]:=by
    unfold fl
    rw [List.filter_eq_nil_iff]
    intro m hm
    have:=h m hm
    simp; omega
   rw [this]; rfl
  ·rw [if_neg (by omega),if_neg (by omega)]
   simp [fl]
theorem ins_srt {k:Int→Int} {c:Int} {A2:List Int} (h:∀ a∈A2,k c≠0∧k c<k a):∀ (A1:List Int) (p:Int),srt k p (A1++A2)=true→¬ (k c≠0∧k c<lastc k p A1)→srt k p (A1++c :: A2)=true
 | [],p,hs,hn=>by
  rw [List.nil_append] at hs ⊢
  rw [srt,if_neg (show ¬ (k c≠0∧k c<p) from hn)]
  cases A2 with
  | nil=>rfl
  | cons a A =>
   have:=(h a (by simp)).2
   rw [srt] at hs ⊢
   split at hs
   ·cases hs
   ·rw [if_neg (by omega)]; exact hs
 | x :: A1,p,hs,hn=>by
  rw [List.cons_append] at hs ⊢
  rw [srt] at hs ⊢
  split at hs
  ·cases hs
  ·rename_i hx
   rw [if_neg hx]
   exact ins_srt h A1 (k x) hs hn
theorem outer_all {k:Int→Int} (hk:∀ c,0≤k c):∀ (f i:Nat) (l:List Int),l.length=i+f→srt k 0 (l.take i)=true→srt k 0 (outerK k f i l)=true∧∀ j,fl k j (outerK k f i l)=fl k j l
 | 0,i,l,hl,hs=>by
  rw [List.take_of_length_le (by omega)] at hs
  exact ⟨hs,fun _=>rfl⟩
 | f+1,i,l,hl,hs=>by
  rw [outerK]
  have hi:i<l.length:=by omega
  have hd:l=l.take i++l[i] :: ([]++l.drop (i+1)):=by
   rw [List.nil_append,← List.drop_eq_getElem_cons hi,List.take_append_drop]
  obtain ⟨A1,A2,e1,e2,e3,e4⟩:=inner_ins k hk l[i] (l.drop (i+1)) i (l.take i) [] (by rw [List.length_take]; omega) (fun a ha=>by cases ha)
  rw [← hd] at e2
  rw [List.append_nil] at e1
  have hlen:A1.length+A2.length=i:=by
   rw [← List.length_append,← e1,List.length_take]; omega
  have ht:(innerK k i l).take (i+1)=A1++l[i] :: A2:=by
   rw [e2,← List.cons_append,← List.append_assoc,List.take_append_of_le_length (by simp; omega),List.take_of_length_le (by simp; omega)]
  have hlen2:(innerK k i l).length=i+1+f:=by
   rw [e2]; simp; omega
  have hfl:∀ j,fl k j (innerK k i l)=fl k j l:=fun j=>by
   have hr:fl k j l=fl k j (l.take i++l[i] :: ([]++l.drop (i+1))):=congrArg (fl k j) hd
   rw [e2,hr,e1,List.nil_append,← List.cons_append,fl_append,fl_append,ins_fl e3 (hk _),fl_append k j (A1++A2),fl_append k j A1 A2,fl_append k j A2,fl_cons k j l[i] (l.drop (i+1)),fl_cons k j l[i] []]
   split <;> simp [fl]
  obtain ⟨r1,r2⟩:=outer_all hk f (i+1) (innerK k i l) hlen2 (by rw [ht]; exact ins_srt e3 A1 0 (by rw [← e1]; exact hs) e4)
  exact ⟨r1,fun j=>by rw [r2,hfl]⟩
theorem outer_ord {k} (hk:∀ c,0≤k c∧k c≤254) xs:outerK k (xs.length - 1) 1 xs=ord k xs:=by
 cases xs with
 | nil=>rw [ord,ordA,bkt_nil]; rfl
 | cons c l =>
  obtain ⟨h1,h2⟩:=outer_all (fun c=>(hk c).1) ((c :: l).length - 1) 1 (c :: l) (by simp; omega) (by simp [srt]; have:=(hk c).1; omega)
  exact ord_of hk h1 h2
end Od
open Ti
namespace Od
def ir (zs:List Int):List Value:=zs.map (Value.int .i32)
theorem ir_len zs:(ir zs).length=zs.length:=List.length_map _
theorem ir_at {zs i} (hi:i<zs.length):(ir zs)[i]?=some (.int .i32 (zs.getD i 0)):=by
 unfold ir
 rw [List.getElem?_map,List.getElem?_eq_getElem hi]; simp [List.getD,hi]
def mc (k:Int→Int) (ms:List Int):List Value:=ms.flatMap fun m=>[.int .i32 m,.int .i64 (k m)]
theorem mc_len k ms:(mc k ms).length=ms.length * 2:=by
 induction ms with
 | nil=>rfl
 | cons m ms ih=>simp only [mc,List.flatMap_cons,List.length_append,List.length_cons,List.length_nil] at ih ⊢; omega
theorem mc_at {k:Int→Int}:∀ {ms:List Int} {i:Nat},i<ms.length→(mc k ms)[i * 2]?=some (.int .i32 (ms.getD i 0))∧(mc k ms)[i * 2+1]?=some (.int .i64 (k (ms.getD i 0)))
 | [],i,h=>by simp at h
 | m :: ms,0,_=>⟨rfl,rfl⟩
 | m :: ms,i+1,h=>by
  have:=mc_at (k:=k) (ms:=ms) (i:=i) (by simpa using h)
  simp only [mc,List.flatMap_cons,show (i+1) * 2=i * 2+1+1 by omega] at this ⊢
  simpa using this
theorem gb_alloc {w wr:World} {row} (h:w.grownBy wr row) o:w.grownBy (wr.alloc o) row:=⟨h.os,h.tape,h.output,by have:=h.size; simp; omega,fun k hk hn=>by rw [Below.heap_alloc wr o k (by have:=h.size; omega)]; exact h.block k hk hn⟩
theorem gb_set {w wr:World} {row} (h:w.grownBy wr row) p v (hp:some p.block=row∨w.heap.size≤p.block):w.grownBy (wr.setCell p v) row:=by
 have b:=(Below.refl 0 wr).setCell (p:=p) (Nat.zero_le _) v
 refine ⟨b.os.trans h.os,b.tape.trans h.tape,b.output.trans h.output,Nat.le_trans h.size b.size,fun k hk hn=>?_⟩
 rw [heap_setCell_other wr p k v ?_]
 ·exact h.block k hk hn
 ·grind
theorem gb_below {w wr w':World} {row B} (h:w.grownBy wr row) (hb:Below B wr w') (hB:w.heap.size≤B):w.grownBy w' row:=⟨hb.os.trans h.os,hb.tape.trans h.tape,hb.output.trans h.output,by have:=h.size; have:=hb.size; omega,fun k hk hn=>by rw [hb.block k (by omega)]; exact h.block k hk hn⟩
theorem Blk.kept {w w'} {g t:Nat} {vs row} (h:Blk w g t vs) (hg:w.grownBy w' row) (hne:some g≠row):Blk w' g t vs:=(hg.block g h.lt hne).trans h
def cnts (k:Int→Int) (ms:List Int):List Int:=(List.range 255).map fun c=>((Od.ft k c ms).length:Int)
theorem cnts_len k ms:(cnts k ms).length=255:=by simp [cnts]
theorem cnts_at k ms {c} (hc:c<255):(cnts k ms).getD c 0=((Od.ft k c ms).length:Int):=by simp [cnts,List.getD,hc]
theorem cnts_sum (k:Int→Int) (ms:List Int):∀ c:Nat,c≤255→((cnts k ms).take c).sum=((Od.bkN k ms c).length:Int)
 | 0,_=>by simp [Od.bkN]
 | c+1,h=>by
  rw [sum_step (by rw [cnts_len]; omega),cnts_sum k ms c (by omega),cnts_at k ms (by omega),Od.bkN_next]; simp
theorem beg_plc k ms {c} (hc:c<255):(beg (cnts k ms)).getD c 0=(Od.plc k ms 0 c:Int):=by
 rw [beg_at _ hc,cnts_sum k ms c (by omega),Od.plc_zero]
theorem cnts_fit k ms (h:ms.length≤3000000):∀ c∈cnts k ms,0≤c∧c≤3000000:=fun c hc=>by
 obtain ⟨i,_,rfl⟩:=List.mem_map.1 hc
 have:(Od.ft k i ms).length≤ms.length:=List.length_filter_le _ _
 omega
theorem seg_at {A B C:List Value} {o i} (hA:A.length=o) (hi:i<B.length):(A++B++C)[o+i]?=B[i]?:=by grind
theorem seg_set {A B C:List Value} {o i} v (hA:A.length=o) (hi:i<B.length):(A++B++C).set (o+i) v=A++B.set i v++C:=by grind
theorem blk_far {g g2 t:Nat} {us:List Value} (h:g≠g2):∀ (vs:List Value) (o:Nat) (wr:World) (_:Blk wr g t us),Blk (wr.setCells g2 o vs) g t us
 | [],_,_,b=>b
 | v :: vs,o,_,b=>blk_far h vs (o+1) _ (b.other (a:=⟨g2,o,none⟩) h v)
theorem wpList_store_mid9 {P ops rest op} {a w w' Q} (hgd:op.guard=none) ty (x y:Operand) (ho:op.op=.store ty x y) b o cells (hx:a.eval x=.pointer (some ⟨b,o,none⟩)) (hy:a.eval y=.agg cells) (ht:w.there b o cells.size) (hi:(P.info? ty).map (·.size)=some cells.size) (h1:cells.all (·.oneCell')=true) (hw:w.setCells b o cells.toList=w') (h:wpList P ops Q rest (a.put op.dst undef) w'):wpList P ops Q (op :: rest) a w:=by
 subst hw
 exact wpList_store_mid hgd ty x y ho b o cells hx hy ht hi h1 h
theorem gb_setCells {w:World} {row:Option Nat} (g:Nat) (hp:some g=row∨w.heap.size≤g):∀ (vs:List Value) (o:Nat) (wr:World) (_:w.grownBy wr row),w.grownBy (wr.setCells g o vs) row
 | [],_,_,h=>h
 | v :: vs,o,_,h=>gb_setCells g hp vs (o+1) _ (gb_set h ⟨g,o,none⟩ v hp)
set_option maxRecDepth 8000 in
set_option maxHeartbeats 4000000 in
theorem deal_any12 k g mb mcap yb yo ycap ms ys J A C w (hr:Blk w g 153 (.slice (some ⟨mb,0,none⟩) ms.length mcap :: ia (cnts k ms))) (hm:Blk w mb 156 (mc k ms++J)) (hmc:ms.length≤mcap∧mcap≤9223372036854775807) (hy:Blk w yb 21 (A++ir ys++C)) (hA:A.length=yo) (hyl:ys.length=ms.length) (hyc:ms.length≤ycap∧ycap≤9223372036854775807) (hk:Od.Mk k ms) (hn:ms.length≤3000000) (hgy:g≠yb) (hmy:mb≠yb):Calls Tryz.prog 136 #[.pointer (some ⟨g,0,none⟩),.slice (some ⟨yb,yo,none⟩) ms.length ycap] w fun e w'=>e=.returned (.tuple #[])∧Blk w' yb 21 (A++ir (Od.bkt k ms)++C)∧w.grownBy w' (some yb):=by
 have K1:=Hd (places_any12 g _ (cnts k ms) w hr (cnts_len k ms) (cnts_fit k ms hn))
 obtain ⟨hm1,hm2⟩:=hmc
 obtain ⟨hy1,hy2⟩:=hyc
 have HY:=Hd hy
 have HM:Hid (∀ (W:World),w.grownBy W (some yb)→∀ i:Nat,i<ms.length→W.cell? ⟨mb,i * 2,none⟩=some (.int .i32 (ms.getD i 0))∧W.cell? ⟨mb,i * 2+1,none⟩=some (.int .i64 (k (ms.getD i 0)))):=fun W hW i hi=>by
  have h:=hm.kept hW (fun e=>hmy (by simpa using e))
  have h2:=mc_at (k:=k) hi
  have hl:=mc_len k ms
  exact ⟨h.cell (by rw [List.getElem?_append_left (by omega)]; exact h2.1),h.cell (by rw [List.getElem?_append_left (by omega)]; exact h2.2)⟩
 have hyb:=hy.lt
 have hc0:w.cell? ⟨g,0,none⟩=some (.slice (some ⟨mb,0,none⟩) ms.length mcap):=hr.cell rfl
 have HC0:Hid (∀ (W:World),w.grownBy W (some yb)→W.cell? ⟨g,0,none⟩=some (.slice (some ⟨mb,0,none⟩) ms.length mcap)):=fun W hW=>(hr.kept hW (fun e=>hgy (by simpa using e))).cell rfl
 have HST:=Hd (Od.dealt_start hk hyl)
 have HMK:=Hd hk
 have hl255:=Hd (beg_len (cnts k ms))
 have HPL:Hid (∀ c,c<255→(beg (cnts k ms)).getD c 0=(Od.plc k ms 0 c:Int)):=fun c hc=>beg_plc k ms hc
 generalize beg (cnts k ms)=bg at *
 go_enter Tryz.func136,Tryz.ntmps136
 go_wp2_with fail
 refine (Uh K1).mono ?_
 rintro e w1 ⟨rfl,b1⟩
 have hs1:=b1.size
 obtain ⟨W2,hW2⟩:∃ W2,w1.alloc (.cells Tryz.zeroCells151 151)=W2:=⟨_,rfl⟩
 have k2:Blk W2 w1.heap.size 151 (ia z255):=by rw [← hW2]; exact Blk.new w1 _ _ _ zc255
 have g2:w.grownBy W2 (some yb):=by rw [← hW2]; exact gb_alloc (gb_below (World.grownBy.refl w _) b1 (Nat.le_refl _)) _
 obtain ⟨g4,hg4⟩:∃ g4,w1.heap.size=g4:=⟨_,rfl⟩
 rw [hg4] at k2
 have hg4w:w.heap.size≤g4:=by omega
 have hbl:=Uh hl255
 have hth:W2.there g4 0 (ia bg).toArray.size:=k2.there (by simp [ia_len,z255,hbl])
 have hsz:(ia bg).toArray.size=255:=by simp [ia_len,hbl]
 obtain ⟨W3,hW3⟩:∃ W3,W2.setCells g4 0 (ia bg).toArray.toList=W3:=⟨_,rfl⟩
 have k3:Blk W3 g4 151 (ia bg):=by
  have:=k2.setCells (ia bg) 0 (by simp [ia_len,z255,hbl])
  rw [← hW3]
  rw [List.take_zero,List.nil_append,List.drop_of_length_le (by simp [ia_len,z255,hbl]),List.append_nil] at this
  exact this
 have g3:w.grownBy W3 (some yb):=by rw [← hW3]; exact gb_setCells g4 (Or.inr hg4w) _ _ _ g2
 have y3:Blk W3 yb 21 (A++ir ys++C):=by
  have h1:w1.heap[yb]?=w.heap[yb]?:=b1.block yb hyb
  have h2:Blk w1 yb 21 (A++ir ys++C):=h1.trans (Uh HY)
  have h3:Blk W2 yb 21 (A++ir ys++C):=by rw [← hW2]; exact h2.alloc _
  rw [← hW3]
  exact blk_far (by omega) _ _ _ h3
 have hc0:=(Uh HC0) W3 g3
 have K3:=Hd k3
 have G3:=Hd g3
 have Y3:=Hd y3
 go_wp2_with (refine wpList_store_mid9 (by rfl) 151 (.tmp 4) (.tmp 8) (by rfl) g4 0 (ia bg).toArray (by rfl) (by rfl) hth (by rw [hsz]; exact infoCounts) (ia_one _) hW3 ?_)
 go_loopw [6,14] (fun _ kk wr=>∃ (i:Nat) (y pl:List Int),kk=.int .i64 i∧i≤ms.length∧Od.Dealt k ms i y∧y.length=ms.length∧Blk wr yb 21 (A++ir y++C)∧pl.length=255∧(∀ c,c<255→pl.getD c 0=(Od.plc k ms i c:Int))∧Blk wr g4 151 (ia pl)∧w.grownBy wr (some yb)) (fun _ kk _=>ms.length - (intOf kk).toNat)
 case atStart=>exact ⟨0,ys,bg,rfl,by omega,Uh HST,hyl,Uh Y3,Uh hl255,Uh HPL,Uh K3,Uh G3⟩
 case round =>
  obtain ⟨i,y,pl,rfl,hin,hde,hyl2,hyw,hpl,hpp,hkw,hgw⟩:=hrel
  by_cases hlt:i<ms.length
  ·obtain ⟨c0,c1⟩:=(Uh HM) wr hgw i hlt
   have hcl:=(Uh HMK) (ms.getD i 0) (by simp [List.getD,hlt])
   obtain ⟨c,hc⟩:∃ c:Nat,k (ms.getD i 0)=(c:Int):=⟨(k (ms.getD i 0)).toNat,by omega⟩
   have hc5:c<255:=by omega
   obtain ⟨p1,p2⟩:=Od.dealt_step hde hlt hc hc5
   have hps:=fun c'=>Od.plc_step (k:=k) c' hlt
   have hpc:=hpp c hc5
   obtain ⟨p,hp⟩:∃ p,Od.plc k ms i c=p:=⟨_,rfl⟩
   rw [hp] at hpc p1 p2
   rw [hc] at c1
   obtain ⟨m,hm⟩:∃ m,ms.getD i 0=m:=⟨_,rfl⟩
   rw [hm] at c0 p2 hc
   obtain ⟨gr,hgr⟩:∃ gr,wr.heap.size=gr:=⟨_,rfl⟩
   have hgws:=hgw.size
   have hkwl:=hkw.lt
   obtain ⟨W1,hW1⟩:∃ W1,wr.alloc (.cells #[.int .i32 m,.int .i64 c] 156)=W1:=⟨_,rfl⟩
   have x0:W1.cell? ⟨gr,0,none⟩=some (.int .i32 m):=by rw [← hW1,← hgr]; simp
   have x1:W1.cell? ⟨gr,1,none⟩=some (.int .i64 c):=by rw [← hW1,← hgr]; simp
   have kw1:Blk W1 g4 151 (ia pl):=by rw [← hW1]; exact hkw.alloc _
   have yw1:Blk W1 yb 21 (A++ir y++C):=by rw [← hW1]; exact hyw.alloc _
   have gw1:w.grownBy W1 (some yb):=by rw [← hW1]; exact gb_alloc hgw _
   have x2:W1.cell? ⟨g4,c,none⟩=some (.int .i64 p):=by rw [kw1.cell (ia_at (by omega)),hpc]
   have x3:W1.cell? ⟨yb,yo+p,none⟩=some (.int .i32 (y.getD p 0)):=yw1.cell (by rw [seg_at hA (by rw [ir_len]; omega)]; exact ir_at (by omega))
   have f3:=yw1.frozen (yo+p)
   obtain ⟨W2,hW2⟩:∃ W2,W1.setCell ⟨yb,yo+p,none⟩ (.int .i32 m)=W2:=⟨_,rfl⟩
   have yw2:Blk W2 yb 21 (A++ir (y.set p m)++C):=by
    have:=yw1.set (yo+p) (.int .i32 m)
    rw [seg_set _ hA (by rw [ir_len]; omega),hW2] at this
    have e:(ir y).set p (.int .i32 m)=ir (y.set p m):=by unfold ir; rw [List.map_set]
    rw [e] at this; exact this
   have kw2:Blk W2 g4 151 (ia pl):=by rw [← hW2]; exact kw1.other (a:=⟨yb,yo+p,none⟩) (by show g4≠yb; omega) _
   have gw2:w.grownBy W2 (some yb):=by rw [← hW2]; exact gb_set gw1 ⟨yb,yo+p,none⟩ _ (Or.inl rfl)
   have z0:W2.cell? ⟨gr,0,none⟩=some (.int .i32 m):=by rw [← hW2,World.cell?_setCell_other _ _ _ _ (by intro e; have:yb=gr:=congrArg Addr.block e; omega)]; exact x0
   have z1:W2.cell? ⟨gr,1,none⟩=some (.int .i64 c):=by rw [← hW2,World.cell?_setCell_other _ _ _ _ (by intro e; have:yb=gr:=congrArg Addr.block e; omega)]; exact x1
   have z2:W2.cell? ⟨g4,c,none⟩=some (.int .i64 p):=by rw [kw2.cell (ia_at (by omega)),hpc]
   have f4:=kw2.frozen c
   have hd:Hid (Od.Dealt k ms (i+1) (y.set p m)):=p2
   have hbig:(p:Int)+1≤3000001:=by omega
   have hin1:(p:Int)<ms.length:=by omega
   have hcc1:(c:Int)<255:=by omega
   have KW2:=Hd kw2
   have YW2:=Hd yw2
   have GW2:=Hd gw2
   have HPP:=Hd hpp
   have HPS:=Hd hps
   have HPC:=Hd hpc
   have HPE:=Hd hp
   have HCE:=Hd hc
   have HME:=Hd hm
   have hll:(y.set p m).length=ms.length:=by rw [List.length_set]; exact hyl2
   go_upto_region 4 with fail
   go_region_held3 (fun w'=>w'.cell? ⟨gr,0,none⟩=some (.int .i32 m)∧w'.cell? ⟨gr,1,none⟩=some (.int .i64 c)∧w'.cell? ⟨g4,c,none⟩=some (.int .i64 p)) (first | exact ⟨x0,x1,x2⟩ | exact ⟨z0,z1,z2⟩ | go_keep) (fail)
   go_wp2
   go_roundw
   case rel =>
    have kw3:Blk (W2.setCell ⟨g4,c,none⟩ (.int .i64 ((p:Int)+1))) g4 151 (ia (pl.set c ((p:Int)+1))):=by rw [← ia_set]; exact (Uh KW2).set c _
    have yw3:Blk (W2.setCell ⟨g4,c,none⟩ (.int .i64 ((p:Int)+1))) yb 21 (A++ir (y.set p m)++C):=(Uh YW2).other (a:=⟨g4,c,none⟩) (by show yb≠g4; omega) _
    have gw3:w.grownBy (W2.setCell ⟨g4,c,none⟩ (.int .i64 ((p:Int)+1))) (some yb):=gb_set (Uh GW2) ⟨g4,c,none⟩ _ (Or.inr hg4w)
    refine ⟨i+1,y.set p m,pl.set c ((p:Int)+1),by go_num,by omega,Uh hd,hll,yw3,by rw [List.length_set]; exact hpl,fun c' hc'=>?_,kw3,⟨gw3.os,gw3.tape,gw3.output,gw3.size,gw3.block⟩⟩
    rw [set_at pl c c' _ (by omega),(Uh HPS) c',Uh HME,Uh HCE]
    by_cases h:c'=c
    ·rw [if_pos h,if_pos (by rw [h]),h,Uh HPE]; rfl
    ·rw [if_neg h,if_neg (fun e=>h (by omega))]
     exact (Uh HPP) c' hc'
   case measure=>simp [intOf]; omega
  ·obtain rfl:i=ms.length:=by omega
   have he:=Od.dealt_end hde
   subst he
   have HYW:=Hd hyw
   have HGW:=Hd hgw
   go_wp2
   go_end0
   exact ⟨rfl,Uh HYW,Uh HGW⟩
end Od
open Ti
namespace Od
theorem run_clear9 {P w} t e ty b o n cap z (hu:P.underlying t=some (.slice e)) (hz:∀ w,(zeroValue e).run P w=.ok z w) (hn:0<n) us (hus:(Builtin.zeroCells z.cells n).toList=us) (hth:w.there b o us.length) (h1:∀ v∈us,v.oneCell'=true):(Builtin.clear_ #[t] ty #[.slice (some ⟨b,o,none⟩) n cap]).run P w=.ok (.tuple #[]) (w.setCells b o us):=by
 have hs:(storeCells ⟨b,o,none⟩ us 0).run P w=.ok () (w.setCells b o us):=by
  have:=run_storeCells_cells (P:=P) b o us 0 w (fun j hj=>by simpa using (hth j hj).1) (fun j hj=>by simpa using (hth j hj).2) h1
  simpa using this
 obtain ⟨m,rfl⟩:∃ m,n=m+1:=⟨n - 1,by omega⟩
 unfold Builtin.clear_
 simp [Sem.run_bind,run_underlying hu,hz,hus,hs]
def RowAt (w:World) (k:Int→Int) (g:Nat) (ms:List Int):Prop:=∃ mv,Blk w g 153 (mv :: ia (cnts k ms))∧w.ownsRow (g+1) 156 2 mv ms.length (mc k ms)
theorem RowAt.shape {w k g ms} (h:RowAt w k g ms):∃ ao cap,Blk w g 153 (.slice ao ms.length cap :: ia (cnts k ms))∧w.ownsRow (g+1) 156 2 (.slice ao ms.length cap) ms.length (mc k ms)∧ms.length≤cap∧cap≤9223372036854775807:=by
 obtain ⟨mv,h1,h2⟩:=h
 rcases h2.2 with ⟨rfl,h0⟩ | ⟨mb,cap,cur,rfl,_,_,hc,hm,_⟩
 ·grind
 ·exact ⟨_,cap,h1,h2,hc,by unfold maxLen at hm; omega⟩
theorem lay_none12 k g v w (h:RowAt w k g []):Calls Tryz.prog 100 #[.pointer (some ⟨g,0,none⟩),v] w fun e w'=>e=.returned (.tuple #[])∧w'=w:=by
 obtain ⟨ao,cap,h1,_,_,hc⟩:=h.shape
 have hc0:w.cell? ⟨g,0,none⟩=some (.slice ao 0 cap):=h1.cell rfl
 go_enter Tryz.func100,Tryz.ntmps100
 go_wp2
 exact bodyPost_ret (v:=.tuple #[]) (results_none rfl _ _ _) rfl ⟨rfl,rfl⟩
theorem zeroI64 w:(zeroValue 3).run Tryz.prog w=.ok (.int .i64 0) w:=(zero_of_info (n:=1) (by kernel_rfl)).1 w
theorem zeroMark w:(zeroValue 156).run Tryz.prog w=.ok (.agg #[.int .i32 0,.int .i64 0]) w:=(zero_of_info (n:=2) (by kernel_rfl)).1 w
theorem zc_ints:(Builtin.zeroCells (Value.int .i64 0).cells 255).toList=ia z255:=by kernel_rfl
theorem zc_marks n:(Builtin.zeroCells (Value.agg #[.int .i32 0,.int .i64 0]).cells n).toList.length=n * 2∧∀ v∈(Builtin.zeroCells (Value.agg #[.int .i32 0,.int .i64 0]).cells n).toList,v.oneCell'=true:=by
 unfold Builtin.zeroCells
 refine ⟨by simp [Value.cells],fun v hv=>?_⟩
 simp only [Value.cells,Array.toList_map,List.mem_map] at hv
 obtain ⟨i,_,rfl⟩:=hv
 have:i % #[Value.int .i32 0,.int .i64 0].size=0∨i % #[Value.int .i32 0,.int .i64 0].size=1:=by grind
 rcases this with h | h <;> rw [h] <;> rfl
theorem cnts_nil k:cnts k []=z255:=by
 refine List.eq_replicate_iff.2 ⟨cnts_len k [],fun b hb=>?_⟩
 obtain ⟨i,_,rfl⟩:=List.mem_map.1 hb
 rfl
set_option maxRecDepth 8000 in
set_option maxHeartbeats 4000000 in
theorem lay_some12 k g yb o ycap ms ys A C w (h:RowAt w k g ms) (hy:Blk w yb 21 (A++ir ys++C)) (hA:A.length=o) (hyl:ys.length=ms.length) (hyc:o+ms.length≤ycap∧ycap≤9223372036854775807) (hk:Od.Mk k ms) (hn:ms.length≤3000000) (ho:o≤3000000) (hne:0<ms.length) (hgy:yb<g):Calls Tryz.prog 100 #[.pointer (some ⟨g,0,none⟩),.slice (some ⟨yb,0,none⟩) (o+ms.length) ycap] w fun e w'=>e=.returned (.tuple #[])∧Blk w' yb 21 (A++ir (Od.bkt k ms)++C)∧RowAt w' k g []∧Below yb w w':=by
 obtain ⟨mv,h1,h2⟩:=h
 obtain ⟨hml,h2⟩:=h2
 rcases h2 with ⟨_,h0⟩ | ⟨mb,mcap,cur,rfl,hmb,hcur,hmc,hmm,hcs,hct⟩
 ·omega
 have hm:Blk w mb 156 (mc k ms++cur.toList.drop (ms.length * 2)):=by
  rw [← hct,List.take_append_drop]
  unfold Blk; rw [hcur]
 have hmx:mcap≤9223372036854775807:=by unfold maxLen at hmm; omega
 obtain ⟨hy1,hy2⟩:=hyc
 have K1:=Hd (deal_any12 k g mb mcap yb o (ycap - o) ms ys _ A C w h1 hm ⟨hmc,hmx⟩ hy hA hyl ⟨by omega,by omega⟩ hk hn (by omega) (by omega))
 have hc0:w.cell? ⟨g,0,none⟩=some (.slice (some ⟨mb,0,none⟩) ms.length mcap):=h1.cell rfl
 have HK:Hid (∀ W:World,Blk W yb 21 (A++ir (Od.bkt k ms)++C)→w.grownBy W (some yb)→∃ W2 W3 W4,W.setCells g 1 (ia z255)=W2∧W2.setCells mb 0 (Builtin.zeroCells (Value.agg #[.int .i32 0,.int .i64 0]).cells ms.length).toList=W3∧W3.setCell ⟨g,0,none⟩ (.slice (some ⟨mb,0,none⟩) 0 mcap)=W4∧W.there g 1 (ia z255).length∧W2.there mb 0 (Builtin.zeroCells (Value.agg #[.int .i32 0,.int .i64 0]).cells ms.length).toList.length∧W.cell? ⟨g,0,none⟩=some (.slice (some ⟨mb,0,none⟩) ms.length mcap)∧W2.cell? ⟨g,0,none⟩=some (.slice (some ⟨mb,0,none⟩) ms.length mcap)∧W3.cell? ⟨g,0,none⟩=some (.slice (some ⟨mb,0,none⟩) ms.length mcap)∧W3.frozen? ⟨g,0,none⟩=false∧Blk W4 yb 21 (A++ir (Od.bkt k ms)++C)∧RowAt W4 k g []∧Below yb w W4):=fun W hW hg=>by
  have r0:=h1.kept hg (fun e=>Nat.ne_of_gt hgy (by simpa using e))
  have m0:=hm.kept hg (fun e=>absurd (show mb=yb by simpa using e) (by omega))
  have hl1:1+(ia z255).length≤(Value.slice (some ⟨mb,0,none⟩) ms.length mcap :: ia (cnts k ms)).length:=by simp [ia_len,z255,cnts_len]
  have r1:=r0.setCells (ia z255) 1 hl1
  have e1:(Value.slice (some ⟨mb,0,none⟩) ms.length mcap :: ia (cnts k ms)).take 1++ia z255++(Value.slice (some ⟨mb,0,none⟩) ms.length mcap :: ia (cnts k ms)).drop (1+(ia z255).length)=.slice (some ⟨mb,0,none⟩) ms.length mcap :: ia z255:=by
   rw [List.drop_of_length_le (by simp [ia_len,z255,cnts_len])]
   simp
  rw [e1] at r1
  have m1:=blk_far (g2:=g) (by omega) (ia z255) 1 W m0
  obtain ⟨zl,_⟩:=zc_marks ms.length
  have hcl:cur.toList.length=mcap * 2:=(Array.length_toList (xs:=cur)).trans hcs
  have hlm:(mc k ms++cur.toList.drop (ms.length * 2)).length=mcap * 2:=by grind
  have m2:=m1.setCells (Builtin.zeroCells (Value.agg #[.int .i32 0,.int .i64 0]).cells ms.length).toList 0 (by rw [zl,hlm]; omega)
  have r2:=blk_far (g2:=mb) (by omega) (Builtin.zeroCells (Value.agg #[.int .i32 0,.int .i64 0]).cells ms.length).toList 0 _ r1
  have r3:=r2.set 0 (.slice (some ⟨mb,0,none⟩) 0 mcap)
  have m3:=m2.other (a:=⟨g,0,none⟩) (by show mb≠g; omega) (.slice (some ⟨mb,0,none⟩) 0 mcap)
  have y1:=blk_far (g2:=g) (by omega) (ia z255) 1 W hW
  have y2:=blk_far (g2:=mb) (by omega) (Builtin.zeroCells (Value.agg #[.int .i32 0,.int .i64 0]).cells ms.length).toList 0 _ y1
  have y3:=y2.other (a:=⟨g,0,none⟩) (by show yb≠g; omega) (.slice (some ⟨mb,0,none⟩) 0 mcap)
  have b1:Below yb w W:=(Below.refl _ _).grown hg (by have:=hy.lt; omega) (fun j hj=>by simp at hj; omega)
  have b2:=below_setCells4 (B:=yb) (g:=g) (by omega) (ia z255) 1 W b1
  have b3:=below_setCells4 (B:=yb) (g:=mb) (by omega) (Builtin.zeroCells (Value.agg #[.int .i32 0,.int .i64 0]).cells ms.length).toList 0 _ b2
  refine ⟨_,_,_,rfl,rfl,rfl,r0.there hl1,m1.there (by rw [zl,hlm]; omega),r0.cell rfl,r1.cell rfl,r2.cell rfl,r2.frozen 0,y3,⟨.slice (some ⟨mb,0,none⟩) 0 mcap,?_,⟨by simp [mc],Or.inr ⟨mb,mcap,_,rfl,hmb,m3,Nat.zero_le _,hmm,?_,by simp [mc]⟩⟩⟩,b3.setCell (p:=⟨g,0,none⟩) (by show yb≤g; omega) _⟩
  ·rw [cnts_nil]; exact r3
  ·grind
 have HZ:=Hd (zc_marks ms.length)
 have hc1:ms.length≤mcap:=hmc
 generalize hgz:(Builtin.zeroCells (Value.agg #[.int .i32 0,.int .i64 0]).cells ms.length).toList=zz at *
 have HGZ:=Hd hgz
 have hne2:¬ ((ms.length:Int)=0):=by omega
 go_enter Tryz.func100,Tryz.ntmps100
 go_wp2_with fail
 refine (Uh K1).mono ?_
 rintro e w1 ⟨rfl,y1,g1⟩
 obtain ⟨W2,W3,W4,hW2,hW3,hW4,t2,t3,c1,c2,c3,f3,hF1,hF2,hF3⟩:=(Uh HK) w1 y1 g1
 have HF1:=Hd hF1
 have HF2:=Hd hF2
 have HF3:=Hd hF3
 have q1:(Builtin.clear_ #[193] 0 #[.slice (some ⟨g,1,none⟩) 255 255]).run Tryz.prog w1=.ok (.tuple #[]) W2:=by
  rw [← hW2]
  exact run_clear9 193 3 0 g 1 255 255 _ Tryz.underlying193 zeroI64 (by decide) (ia z255) zc_ints t2 (fun v hv=>by obtain ⟨z,_,rfl⟩:=List.mem_map.1 hv; rfl)
 have q2:(Builtin.clear_ #[150] 0 #[.slice (some ⟨mb,0,none⟩) ms.length mcap]).run Tryz.prog W2=.ok (.tuple #[]) W3:=by
  rw [← hW3]
  exact run_clear9 150 156 0 mb 0 ms.length mcap _ Tryz.underlying150 zeroMark hne zz (Uh HGZ) t3 (Uh HZ).2
 go_wp2
 go_end0
 exact ⟨rfl,Uh HF1,Uh HF2,Uh HF3⟩
end Od
open Ti
namespace Od
theorem infoM:∃ i z,Tryz.prog.info? 156=some i∧i.zero=some z∧i.size=2∧i.bytes=16∧z.cells.size=2:=by
 have h:(Tryz.prog.info? 156).map (fun i=>(i.size,i.bytes,i.zero.map (·.cells.size)))=some (2,16,some 2):=by kernel_rfl
 obtain ⟨i,hi,h1⟩:=Option.map_eq_some_iff.1 h
 simp only [Prod.mk.injEq] at h1
 obtain ⟨h1,h2,h3⟩:=h1
 obtain ⟨z,hz,hzs⟩:=Option.map_eq_some_iff.1 h3
 exact ⟨i,z,hi,hz,h1,h2,hzs⟩
theorem run_buildM (w:World) (x y:Value):(Instr.buildSlice 150 1 #[(0,.agg #[x,y])]).run Tryz.prog w=.ok (.slice (some ⟨w.heap.size,0,none⟩) 1 1) (w.alloc (.cells #[x,y] 156)):=by
 obtain ⟨i,z,hi,hz,h1,_,h3⟩:=infoM
 refine run_buildSlice w 150 156 1 _ _ i z Tryz.underlying150 hi hz (by rw [h1]; decide) (by rw [h1]; decide) ?_
 rw [h1]
 have:=Great.fill_whole (s:=2) (by decide) [Value.agg #[x,y]] ((Array.range (1 * 2)).map (z.cells[· % z.cells.size]!)) (fun v hv=>by simp at hv; subst hv; simp [Value.cells]) (by simp)
 simpa [Value.cells] using this
theorem cnts_snoc (k:Int→Int) (ms:List Int) (m:Int) {c:Nat} (hc:k m=c) (h5:c<255):(cnts k ms).set c ((cnts k ms).getD c 0+1)=cnts k (ms++[m]):=by
 refine list_ext_getD (n:=255) (by rw [List.length_set,cnts_len]) (cnts_len _ _) (fun j hj=>?_)
 rw [set_at _ c j _ (by rw [cnts_len]; exact h5),cnts_at _ _ hj,cnts_at _ _ hj,cnts_at _ _ h5,Od.ft_append,List.length_append]
 by_cases h:j=c
 ·rw [if_pos h,h]
  simp [Od.ft,hc]
 ·rw [if_neg h]
  have:Od.ft k j [m]=[]:=by
   unfold Od.ft
   rw [List.filter_cons_of_neg (by simp; omega)]; rfl
  rw [this]; simp
theorem mc_snoc (k:Int→Int) (ms:List Int) (m:Int):mc k (ms++[m])=mc k ms++[.int .i32 m,.int .i64 (k m)]:=by simp [mc,List.flatMap_append]
theorem owns_set {w:World} {b e sz n g o:Nat} {v:Value} {xs:List Value} (h:w.ownsRow b e sz v n xs) (hne:v.ownBlock≠some g) (u:Value):(w.setCell ⟨g,o,none⟩ u).ownsRow b e sz v n xs:=by
 refine ⟨h.1,?_⟩
 rcases h.2 with h2 | ⟨j,cap,cur,e1,e2,e3,e4⟩
 ·exact Or.inl h2
 ·refine Or.inr ⟨j,cap,cur,e1,e2,?_,e4⟩
  rw [heap_setCell_other w ⟨g,o,none⟩ j u (fun e=>hne (by rw [e1]; exact congrArg some e))]; exact e3
theorem load_slice9 (W:World) (g:Nat) (u:Value) (h:W.cell? ⟨g,0,none⟩=some u):(Instr.loadAt 150 (.pointer (some ⟨g,0,none⟩))).run Tryz.prog W=.ok u W:=by
 simp [Instr.loadAt,go_sem,Tryz.isAgg150,Tryz.sizeOf150,h,Addr.add]
set_option maxRecDepth 8000 in
set_option maxHeartbeats 4000000 in
theorem gather_any12 (k:Int→Int) (g:Nat) (ms:List Int) (m:Int) (cn:Nat) (w:World) (h:RowAt w k g ms) (hc:k m=(cn:Int)) (h1:1≤cn) (h2:cn≤254) (hn:ms.length≤3000000):Calls Tryz.prog 99 #[.pointer (some ⟨g,0,none⟩),.agg #[.int .i32 m,.int .i64 (cn:Int)]] w fun e w'=>e=.returned (.tuple #[])∧RowAt w' k g (ms++[m])∧Below g w w':=by
 obtain ⟨i0,z0,hi0,hz0,hz1,hz2,hz3⟩:=infoM
 obtain ⟨ao,mcap,hb,hrow,hm1,hm2⟩:=h.shape
 have hcn5:cn<255:=by omega
 obtain ⟨gx,hgx⟩:∃ gx,w.heap.size=gx:=⟨_,rfl⟩
 obtain ⟨W1,hW1⟩:∃ W1,w.alloc (.cells #[.int .i32 m,.int .i64 (cn:Int)] 156)=W1:=⟨_,rfl⟩
 have hgl:=hb.lt
 have xd0:W1.drew.cell? ⟨gx,0,none⟩=some (.int .i32 m):=by rw [← hW1,← hgx]; simp
 have xd1:W1.drew.cell? ⟨gx,1,none⟩=some (.int .i64 (cn:Int)):=by rw [← hW1,← hgx]; simp
 have hb1:Blk W1.drew g 153 (.slice ao ms.length mcap :: ia (cnts k ms)):=by rw [← hW1]; exact hb.alloc _
 have hrow1:W1.drew.ownsRow (g+1) 156 2 (.slice ao ms.length mcap) ms.length (mc k ms):=by rw [← hW1]; exact (hrow.alloc _).drew
 have hbw1:Below g w W1.drew:=by rw [← hW1]; exact ((Below.refl _ _).alloc (by omega) _).drew
 have hs1:W1.drew.heap.size=gx+1:=by rw [← hW1,← hgx]; simp
 obtain ⟨W2,hW2⟩:∃ W2,W1.drew.alloc (.cells #[.int .i32 m,.int .i64 (cn:Int)] 156)=W2:=⟨_,rfl⟩
 obtain ⟨gy,hgy⟩:∃ gy,W1.drew.heap.size=gy:=⟨_,rfl⟩
 have hs2:W2.heap.size=gy+1:=by rw [← hW2]; simp [hgy]
 have hbl:(Instr.buildSlice 150 1 #[(0,.agg #[.int .i32 m,.int .i64 (cn:Int)])]).run Tryz.prog W1.drew=.ok (.slice (some ⟨gy,0,none⟩) 1 1) W2:=by rw [← hW2,← hgy]; exact run_buildM _ _ _
 have xb0:W2.cell? ⟨gx,0,none⟩=some (.int .i32 m):=by rw [← hW2,World.cell?_alloc_lt _ _ _ (by show gx<_; omega)]; exact xd0
 have xb1:W2.cell? ⟨gx,1,none⟩=some (.int .i64 (cn:Int)):=by rw [← hW2,World.cell?_alloc_lt _ _ _ (by show gx<_; omega)]; exact xd1
 have hb2:Blk W2 g 153 (.slice ao ms.length mcap :: ia (cnts k ms)):=by rw [← hW2]; exact hb1.alloc _
 have hrow2:W2.ownsRow (g+1) 156 2 (.slice ao ms.length mcap) ms.length (mc k ms):=by rw [← hW2]; exact hrow1.alloc _
 have hbw2:Below g w W2:=by rw [← hW2]; exact hbw1.alloc (by omega) _
 have hbs:g+1≤W2.heap.size:=by omega
 have ld1:(Instr.loadAt 150 (.pointer (some ⟨g,0,none⟩))).run Tryz.prog W1.drew=.ok (.slice ao ms.length mcap) W1.drew:=load_slice9 _ _ _ (hb1.cell rfl)
 have ld2:(Instr.loadAt 150 (.pointer (some ⟨g,0,none⟩))).run Tryz.prog W2=.ok (.slice ao ms.length mcap) W2:=load_slice9 _ _ _ (hb2.cell rfl)
 have hone:∀ u∈[Value.int .i32 m,.int .i64 (cn:Int)],u.oneCell'=true:=fun u hu=>by
  rcases List.mem_cons.1 hu with rfl | hu
  ·rfl
  ·obtain rfl:=List.mem_singleton.1 hu; rfl
 have HROW:=Hd hrow2
 have HNEW:Hid (∀ (j:Nat) (u:Value),[Value.int .i32 m,.int .i64 (cn:Int)][j]?=some u→W2.cell? ((⟨gy,0,none⟩:Addr).add j)=some u):=fun j u hu=>by
  rw [Addr.add_mid,Nat.zero_add,← hW2,← hgy]
  exact (Blk.new W1.drew 156 [Value.int .i32 m,.int .i64 (cn:Int)] _ rfl).cell hu
 have HS9:Hid (∀ (W:World) gg cap,W.cell? ⟨gx,0,none⟩=some (.int .i32 m)→W.cell? ⟨gx,1,none⟩=some (.int .i64 (cn:Int))→(W.setCell ⟨g,0,none⟩ (.slice (some ⟨gg,0,none⟩) (ms.length+1) cap)).cell? ⟨gx,0,none⟩=some (.int .i32 m)∧(W.setCell ⟨g,0,none⟩ (.slice (some ⟨gg,0,none⟩) (ms.length+1) cap)).cell? ⟨gx,1,none⟩=some (.int .i64 (cn:Int))):=fun W gg cap a b=>by
  have hne:∀ i,(⟨g,0,none⟩:Addr)≠⟨gx,i,none⟩:=fun i e=>by have:g=gx:=congrArg Addr.block e; omega
  rw [World.cell?_setCell_other _ _ _ _ (hne 0),World.cell?_setCell_other _ _ _ _ (hne 1)]
  exact ⟨a,b⟩
 obtain ⟨q,hq⟩:∃ q,(cnts k ms).getD cn 0=q:=⟨_,rfl⟩
 have HS10:Hid (∀ (W:World) (v:Value),W.cell? ⟨gx,1,none⟩=some (.int .i64 (cn:Int))→(W.setCell ⟨g,1+cn,none⟩ v).cell? ⟨gx,1,none⟩=some (.int .i64 (cn:Int))):=fun W v a=>by
  rw [World.cell?_setCell_other _ _ _ _ (fun e=>by have:g=gx:=congrArg Addr.block e; omega)]
  exact a
 have HMORE:Hid (∀ gg cap (w8:World),w8.ownsRow (g+1) 156 2 (.slice (some ⟨gg,0,none⟩) (ms.length+1) cap) (ms.length+1) (mc k ms++[.int .i32 m,.int .i64 (cn:Int)])→W2.grownBy w8 (Value.slice ao ms.length mcap).ownBlock→((Value.slice ao ms.length mcap).ownBlock=some gg∨gg=W2.heap.size)→w8.cell? ⟨gx,0,none⟩=some (.int .i32 m)∧w8.cell? ⟨gx,1,none⟩=some (.int .i64 (cn:Int))∧w8.cell? ⟨g,0,none⟩=some (.slice ao ms.length mcap)∧w8.frozen? ⟨g,0,none⟩=false∧∃ W9,(w8.setCell ⟨g,0,none⟩ (.slice (some ⟨gg,0,none⟩) (ms.length+1) cap)).drew=W9∧W9.cell? ⟨gx,1,none⟩=some (.int .i64 (cn:Int))∧W9.cell? ⟨g,1+cn,none⟩=some (.int .i64 q)∧W9.frozen? ⟨g,1+cn,none⟩=false∧RowAt (W9.setCell ⟨g,1+cn,none⟩ (.int .i64 (q+1))) k g (ms++[m])∧Below g w (W9.setCell ⟨g,1+cn,none⟩ (.int .i64 (q+1)))):=fun gg cap w8 hr8 hg hat=>by
  have hob:∀ j,(Value.slice ao ms.length mcap).ownBlock=some j→g+1≤j∧j<gx:=fun j hj=>by
   have:=hrow.lt j hj
   omega
  have hng:some g≠(Value.slice ao ms.length mcap).ownBlock:=fun e=>by have:=hob g e.symm; omega
  have hnx:some gx≠(Value.slice ao ms.length mcap).ownBlock:=fun e=>by have:=hob gx e.symm; omega
  have hb8:=hb2.kept hg hng
  have u0:=hg.cell xb0 hnx
  have u1:=hg.cell xb1 hnx
  have hgg:g+1≤gg:=by
   rcases hat with e | e
   ·exact (hob gg e).1
   ·omega
  have hb9:=hb8.set 0 (.slice (some ⟨gg,0,none⟩) (ms.length+1) cap)
  have hb9':Blk (w8.setCell ⟨g,0,none⟩ (.slice (some ⟨gg,0,none⟩) (ms.length+1) cap)).drew g 153 (.slice (some ⟨gg,0,none⟩) (ms.length+1) cap :: ia (cnts k ms)):=hb9
  have hbe8:Below g w w8:=hbw2.grown hg (by omega) (fun j hj=>by have:=hob j hj; omega)
  have hbe9:Below g w (w8.setCell ⟨g,0,none⟩ (.slice (some ⟨gg,0,none⟩) (ms.length+1) cap)).drew:=(hbe8.setCell (p:=⟨g,0,none⟩) (Nat.le_refl _) _).drew
  have hr9:(w8.setCell ⟨g,0,none⟩ (.slice (some ⟨gg,0,none⟩) (ms.length+1) cap)).drew.ownsRow (g+1) 156 2 (.slice (some ⟨gg,0,none⟩) (ms.length+1) cap) (ms.length+1) (mc k ms++[.int .i32 m,.int .i64 (cn:Int)]):=owns_set hr8 (fun e=>absurd (show gg=g by simpa [Value.ownBlock] using e) (by omega)) _
  have hqc:(Value.slice (some ⟨gg,0,none⟩) (ms.length+1) cap :: ia (cnts k ms))[1+cn]?=some (.int .i64 q):=by
   rw [Nat.add_comm 1 cn,List.getElem?_cons_succ,ia_at (by rw [cnts_len]; exact hcn5),hq]
  refine ⟨u0,u1,hb8.cell rfl,hb8.frozen 0,_,rfl,?_,hb9'.cell hqc,hb9'.frozen _,⟨.slice (some ⟨gg,0,none⟩) (ms.length+1) cap,?_,?_⟩,hbe9.setCell (p:=⟨g,1+cn,none⟩) (Nat.le_refl _) _⟩
  ·exact ((Uh HS9) w8 gg cap u0 u1).2
  ·have:=hb9'.set (1+cn) (.int .i64 (q+1))
   rw [Nat.add_comm 1 cn,List.set_cons_succ,ia_set,← hq,cnts_snoc k ms m hc hcn5,hq] at this
   rw [Nat.add_comm 1 cn]
   exact this
  ·rw [List.length_append,mc_snoc,hc]
   exact owns_set hr9 (fun e=>absurd (show gg=g by simpa [Value.ownBlock] using e) (by omega)) _
 have hci1:(cn:Int)<255:=by omega
 have hq0:0≤q∧q≤3000000:=by rw [← hq]; exact cnts_fit k ms hn _ (by have:=cnts_len k ms; simp [List.getD,show cn<(cnts k ms).length by omega])
 obtain ⟨hq1,hq2⟩:=hq0
 have hwq:IntKind.i64.wrap (q+1)=q+1:=by rw [IntKind.wrap_i64]; omega
 clear h hb hrow hb1 hrow1 hbw1 hs1 hW2 hs2 hb2 hrow2 hbw2 hgy hc hq hcn5
 go_enter Tryz.func99,Tryz.ntmps99
 go_upto_region 1 with fail
 refine wp_region_held_drew (S:=fun w'=>w'.cell? ⟨gx,0,none⟩=some (.int .i32 m)∧w'.cell? ⟨gx,1,none⟩=some (.int .i64 (cn:Int))) (by kernel_rfl) (⟨xd0,xd1⟩) (fun hHeld=>?_)
 generalize W1.drew=Wd at *
 refine tk9 0 (.pointer (some ⟨g,0,none⟩)) ?_
 refine tk9 1 (.pointer (some ⟨g,0,none⟩)) ?_
 refine tk9 2 (.pointer (some ⟨g,0,none⟩)) ?_
 refine tk9 3 (.pointer (some ⟨g,0,none⟩)) ?_
 refine tk9 5 (.agg #[.int .i32 m,.int .i64 (cn:Int)]) ?_ (hy:=by (intro w hSw; obtain ⟨s0,s1⟩:=hSw; go_simp))
 refine wpAnyH_ready (rs:=[4,6]) (by kernel_rfl) (by simp) ?_
 refine AllReadyH.cons (o:=⟨some 8,_,_,_,_,_⟩) rfl (fun K hK=>?pa) (AllReadyH.cons (o:=⟨some 10,_,_,_,_,_⟩) rfl (fun K hK=>?pb) AllReadyH.nil)
 case' pa =>
  refine step_load (by rfl) 150 (.tmp 7) (by rfl) _ _ (by rfl) ld1 ?_
  refine hK.out _ _ (⟨xd0,xd1⟩) (fun hHeld=>?_)
  clear hK K
  try simp only [Act.put,sa9,sb9,sc9]
  refine rd9 6 fun K hK=>?_
  refine step_build (by rfl) 150 (.tmp 9) (by rfl) _ _ (by rfl) hbl ?_
  refine hK.out _ _ (⟨xb0,xb1⟩) (fun hHeld=>?_)
  clear hK K
  try simp only [Act.put,sa9,sb9,sc9]
 case' pb =>
  refine step_build (by rfl) 150 (.tmp 9) (by rfl) _ _ (by rfl) hbl ?_
  refine hK.out _ _ (⟨xb0,xb1⟩) (fun hHeld=>?_)
  clear hK K
  try simp only [Act.put,sa9,sb9,sc9]
  refine rd9 4 fun K hK=>?_
  refine step_load (by rfl) 150 (.tmp 7) (by rfl) _ _ (by rfl) ld2 ?_
  refine hK.out _ _ (⟨xb0,xb1⟩) (fun hHeld=>?_)
  clear hK K
  try simp only [Act.put,sa9,sb9,sc9]
 all_goals
  refine rd9 7 fun K hK=>?_
  refine step_append_lies _ (by rfl) (.tmp 8) (.tmp 10) 150 (by rfl) (g+1) 156 i0 z0 2 16 Tryz.underlying150 hi0 hz0 hz1 hz2 hz3 (by omega) (.slice ao ms.length mcap) ms.length (mc k ms) (by rfl) (Uh HROW) ⟨gy,0,none⟩ 1 1 [.int .i32 m,.int .i64 (cn:Int)] (by rfl) (by rfl) (Uh HNEW) hone (by omega) (by unfold maxLen; omega) (by omega) hbs W2.heap.size rfl ?_
  intro gg cap w8 hrow8 hgrow hat hlt8
  obtain ⟨s0,s1,hc8,hf8,W9,hW9,y1,y2,fy,hF1,hF2⟩:=(Uh HMORE) gg cap w8 hrow8 hgrow hat
  refine hK.out _ _ ?_ (fun hHeld=>?_)
  ·exact ⟨s0,s1⟩
  clear hK K
  try simp only [Act.put,sa9,sb9,sc9]
  refine tk9 8 (.pointer (some ⟨g,0,none⟩)) ?_
  refine tk9 9 (.pointer (some ⟨g,0,none⟩)) ?_
  refine rd9 10 fun K hK=>?_
  go_simp
  refine hK.out _ _ ?_ (fun hHeld=>?_)
  ·exact (Uh HS9) _ _ _ s0 s1
  clear hK K
  refine wpAnyH_done (by kernel_rfl) ?_ _
  have HF1:=Hd hF1
  have HF2:=Hd hF2
  clear hHeld hrow8 hgrow hat hlt8 s0 s1 hc8 hf8 HMORE HROW HNEW hbl ld1 ld2 hone hbs hF1 hF2 HS9 xd0 xd1
  go_upto_region 2 with fail
  refine wp_region_held_drew (S:=fun w'=>w'.cell? ⟨gx,1,none⟩=some (.int .i64 (cn:Int))) (by kernel_rfl) (by rw [hW9]; exact y1) (fun hHeld=>?_)
  rw [hW9] at hHeld ⊢
  clear hW9
  refine tk9 0 (.pointer (some ⟨g,0,none⟩)) ?_
  refine tk9 1 (.pointer (some ⟨gx,1,none⟩)) ?_
  refine tk9 2 (.int .i64 (cn:Int)) ?_
  refine tk9 3 (.pointer (some ⟨g,0,none⟩)) ?_
  refine tk9 4 (.pointer (some ⟨g,1,none⟩)) ?_
  refine tk9 5 (.pointer (some ⟨g,1+cn,none⟩)) ?_
  refine tk9 8 (.pointer (some ⟨g,0,none⟩)) ?_
  refine tk9 9 (.pointer (some ⟨g,1,none⟩)) ?_
  refine rd9 6 fun K hK=>?_
  go_simp
  refine hK.out _ _ ?_ (fun hHeld=>?_)
  ·exact y1
  clear hK K
  try simp only [Act.put,sa9,sb9,sc9]
  refine tk9 7 (.int .i64 (q+1)) ?_
  refine tk9 10 (.pointer (some ⟨g,1+cn,none⟩)) ?_
  refine rd9 11 fun K hK=>?_
  go_simp
  refine hK.out _ _ ?_ (fun hHeld=>?_)
  ·exact (Uh HS10) _ _ y1
  clear hK K
  refine wpAnyH_done (by kernel_rfl) ?_ _
  clear hHeld
  go_wp2
  go_end0
  exact ⟨rfl,Uh HF1,Uh HF2⟩
end Od
end Go.Proofs.YtihhhjodonkkcaaGreatDoor
