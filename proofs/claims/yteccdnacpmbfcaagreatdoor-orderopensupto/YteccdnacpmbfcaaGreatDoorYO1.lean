/- Oh12 Oi12 Op12 Oj12 -/
import Derived.Test.YteccdnacpmbfcaaGreatDoorW19
namespace Go.Proofs.YteccdnacpmbfcaaGreatDoor
open Go.RowKit
open Ti
namespace Od
def Blk (w:World) (g:Nat) (t:TypeId) (vs:List Value):Prop:=w.heap[g]?=some (.cells vs.toArray t (0,0))
theorem Blk.lt {w:World} {g t:Nat} {vs:List Value} (h:Blk w g t vs):g<w.heap.size:=(Array.getElem?_eq_some_iff.1 h).1
theorem Blk.cell {w:World} {g t:Nat} {vs:List Value} (h:Blk w g t vs) {i:Nat} {v:Value} (hv:vs[i]?=some v):w.cell? ⟨g,i,none⟩=some v:=by
 rw [cell_of_row _ _ _ _ _ _ h]; simpa using hv
theorem Blk.frozen {w:World} {g t:Nat} {vs:List Value} (h:Blk w g t vs) (i:Nat):w.frozen? ⟨g,i,none⟩=false:=frozen_of_row _ _ _ _ _ h
theorem Blk.set {w:World} {g t:Nat} {vs:List Value} (h:Blk w g t vs) (i:Nat) (v:Value):Blk (w.setCell ⟨g,i,none⟩ v) g t (vs.set i v):=by
 unfold Blk at h ⊢
 rw [heap_setCell_same w g i _ _ _ h]
 simp
theorem Blk.other {w:World} {g t:Nat} {vs:List Value} (h:Blk w g t vs) {a:Addr} (hne:g≠a.block) (v:Value):Blk (w.setCell a v) g t vs:=by
 unfold Blk at h ⊢
 rw [heap_setCell_other w a g v hne]; exact h
theorem Blk.new (w:World) (t:Nat) (vs:List Value) (C:Array Value) (hC:C=vs.toArray):Blk (w.alloc (.cells C t)) w.heap.size t vs:=by
 subst hC
 exact heap_alloc_last w _
theorem Blk.alloc {w:World} {g t:Nat} {vs:List Value} (h:Blk w g t vs) (o:Obj):Blk (w.alloc o) g t vs:=by
 have hl:=h.lt
 unfold Blk at h ⊢
 rw [Below.heap_alloc w o g hl]; exact h
theorem Blk.below {w w':World} {g t n:Nat} {vs:List Value} (h:Blk w g t vs) (hb:Below n w w') (hn:g<n):Blk w' g t vs:=by
 unfold Blk at h ⊢
 rw [hb.block g hn]; exact h
theorem Blk.range {w:World} {g t:Nat} {vs:List Value} (h:Blk w g t vs) (o:Nat):w.rangeAt g o (vs.drop o):=fun j v hv=>h.cell (by rw [List.getElem?_drop] at hv; exact hv)
theorem Blk.there {w:World} {g t:Nat} {vs:List Value} (h:Blk w g t vs) {o n:Nat} (hn:o+n≤vs.length):w.there g o n:=fun j hj=>by
 refine ⟨?_,h.frozen _⟩
 rw [h.cell (List.getElem?_eq_getElem (show o+j<vs.length by omega))]; rfl
theorem Blk.setCells {w:World} {g t:Nat}:∀ (us:List Value) {vs:List Value} (o:Nat),Blk w g t vs→o+us.length≤vs.length→Blk (w.setCells g o us) g t (vs.take o++us++vs.drop (o+us.length)):=by
 intro us
 induction us generalizing w with
 | nil=>intro vs o h _; simpa [World.setCells] using h
 | cons u us ih =>
  intro vs o h hl
  rw [World.setCells]
  have:=ih (o+1) (h.set o u) (by rw [List.length_set]; simp at hl; omega)
  have e:(vs.set o u).take (o+1)++us++(vs.set o u).drop (o+1+us.length)=vs.take o++(u :: us)++vs.drop (o+(u :: us).length):=by
   simp only [List.length_cons] at hl
   have h1:(vs.set o u).take (o+1)=vs.take o++[u]:=by
    rw [List.take_add_one,List.take_set_of_le (Nat.le_refl _),List.getElem?_set_self (by omega)]; rfl
   rw [h1,List.drop_set_of_lt (by omega),List.length_cons,show o+1+us.length=o+(us.length+1) by omega]
   simp
  rw [e] at this
  exact this
def ia (zs:List Int):List Value:=zs.map (Value.int .i64)
def z255:List Int:=List.replicate 255 0
theorem ia_at {zs:List Int} {i:Nat} (hi:i<zs.length):(ia zs)[i]?=some (.int .i64 (zs.getD i 0)):=by
 unfold ia
 rw [List.getElem?_map,List.getElem?_eq_getElem hi]; simp [List.getD,hi]
theorem ia_set (zs:List Int) (i:Nat) (v:Int):(ia zs).set i (.int .i64 v)=ia (zs.set i v):=by unfold ia; rw [List.map_set]
theorem ia_len (zs:List Int):(ia zs).length=zs.length:=List.length_map _
theorem ia_one (zs:List Int):(ia zs).toArray.all (·.oneCell')=true:=all_oneCell_toArray (fun v hv=>by obtain ⟨z,_,rfl⟩:=List.mem_map.1 hv; rfl)
theorem infoCounts:(Tryz.prog.info? 114).map (·.size)=some 255:=by kernel_rfl
end Od
open Ti
namespace Od
def beg (cs:List Int):List Int:=(List.range 255).map fun i=>(cs.take i).sum
theorem beg_len (cs:List Int):(beg cs).length=255:=by simp [beg]
theorem beg_at (cs:List Int) {i:Nat} (hi:i<255):(beg cs).getD i 0=(cs.take i).sum:=by simp [beg,List.getD,hi]
theorem sum_le (cs:List Int) (h:∀ c∈cs,0≤c∧c≤3000000):∀ k:Nat,0≤(cs.take k).sum∧(cs.take k).sum≤3000000 * (k:Int)
 | 0=>by simp
 | k+1=>by
  have ih:=sum_le cs h k
  rw [List.take_add_one,List.sum_append]
  cases hk:cs[k]? with
  | none=>simp; omega
  | some c =>
   have:=h c (List.mem_of_getElem? hk)
   simp; omega
theorem sum_step {cs:List Int} {k:Nat} (hk:k<cs.length):(cs.take (k+1)).sum=(cs.take k).sum+cs.getD k 0:=by
 rw [List.take_add_one,List.sum_append,List.getElem?_eq_getElem hk]; simp [List.getD,hk]
theorem zc255:Tryz.zeroCells114=(ia z255).toArray:=by kernel_rfl
theorem list_ext_getD {a b:List Int} {n:Nat} (ha:a.length=n) (hb:b.length=n) (h:∀ j,j<n→a.getD j 0=b.getD j 0):a=b:=by
 apply List.ext_getElem (by omega)
 intro i h1 h2
 have:=h i (by omega)
 simpa [List.getD,h1,h2] using this
set_option maxRecDepth 8000 in
set_option maxHeartbeats 4000000 in
theorem places_any12 (g:Nat) (mv:Value) (cs:List Int) (w:World) (hr:Blk w g 116 (mv :: ia cs)) (hl:cs.length=255) (hc:∀ c∈cs,0≤c∧c≤3000000):Calls Tryz.prog 123 #[.pointer (some ⟨g,0,none⟩)] w fun e w'=>e=.returned (.agg (ia (beg cs)).toArray)∧Below w.heap.size w w':=by
 obtain ⟨W1,hW1⟩:∃ W1,w.alloc (.cells Tryz.zeroCells114 114)=W1:=⟨_,rfl⟩
 obtain ⟨W2,hW2⟩:∃ W2,W1.alloc (.cells Tryz.zeroCells114 114)=W2:=⟨_,rfl⟩
 have hb1:Below w.heap.size w W1:=by rw [← hW1]; exact (Below.refl _ _).alloc (Nat.le_refl _) _
 have hs1:W1.heap.size=w.heap.size+1:=by rw [← hW1]; simp
 have hb2:Below w.heap.size w W2:=by rw [← hW2]; exact hb1.alloc (by omega) _
 have k1:Blk W2 w.heap.size 114 (ia z255):=by
  rw [← hW2]; refine Blk.alloc ?_ _; rw [← hW1]; exact Blk.new w _ _ _ zc255
 have k2:Blk W2 (w.heap.size+1) 114 (ia z255):=by rw [← hW2,← hs1]; exact Blk.new W1 _ _ _ zc255
 have hgl:=hr.lt
 have HR:=Hd hr
 have HC:=Hd hc
 have HSL:Hid (∀ k,0≤(cs.take k).sum∧(cs.take k).sum≤3000000 * (k:Int)):=sum_le cs hc
 have HSS:Hid (∀ k,k<255→(cs.take (k+1)).sum=(cs.take k).sum+cs.getD k 0):=fun k hk=>sum_step (by omega)
 have HS0:Hid ((cs.take 0).sum=0):=by show _=_; simp
 have HEX:Hid (∀ zs:List Int,zs.length=255→(∀ j,j<255→zs.getD j 0=(cs.take j).sum)→zs=beg cs):=fun zs h1 h2=>list_ext_getD h1 (beg_len cs) (fun j hj=>by rw [h2 j hj,beg_at cs hj])
 have HCA:Hid (∀ (W:World),Below w.heap.size w W→∀ k:Nat,k<255→W.cell? ⟨g,1+k,none⟩=some (.int .i64 (cs.getD k 0))):=fun W hW k hk=>by
  rw [hW.cell hgl]
  refine hr.cell ?_
  rw [Nat.add_comm,List.getElem?_cons_succ]; exact ia_at (by omega)
 have HCB:Hid (∀ k:Nat,k<255→0≤cs.getD k 0∧cs.getD k 0≤3000000):=fun k hk=>hc _ (by simp [List.getD,show k<cs.length by omega])
 obtain ⟨g3,hg3⟩:∃ g3,g3=w.heap.size+1:=⟨_,rfl⟩
 obtain ⟨g2,hg2⟩:∃ g2,g2=w.heap.size:=⟨_,rfl⟩
 have h23:g2≠g3:=by omega
 have hge2:w.heap.size≤g2:=by omega
 have hge3:w.heap.size≤g3:=by omega
 rw [← hg2] at k1
 rw [← hg3] at k2 hs1
 have K1:=Hd k1
 have K2:=Hd k2
 have HB2:=Hd hb2
 have hg2':=hg2.symm
 have Z0:Hid (z255.length=255):=by show _=_; simp [z255]
 clear hr hc hb1 hb2 k1 k2 hg2 hg3 hl
 go_enter Tryz.func123,Tryz.ntmps123
 go_wp2
 clear hW1 hW2 hs1
 go_loopw [4,5,6] (fun nn _ kk wr=>∃ (k:Nat) (zs:List Int),kk=.int .i64 k∧nn=.int .i64 (cs.take k).sum∧k≤255∧zs.length=255∧Blk wr g3 114 (ia zs)∧Blk wr g2 114 (ia z255)∧Below w.heap.size w wr∧∀ j,j<k→zs.getD j 0=(cs.take j).sum) (fun _ _ kk _=>255 - (intOf kk).toNat)
 case atStart=>exact ⟨0,z255,rfl,by rw [Uh HS0],by omega,Uh Z0,Uh K2,Uh K1,Uh HB2,fun j hj=>by omega⟩
 case round =>
  clear K1 K2 HB2 HS0 Z0
  obtain ⟨k,zs,rfl,rfl,hk,hzl,hz3,hz2,hb,hall⟩:=hrel
  have hsl:=(Uh HSL) k
  by_cases hlt:k<255
  ·have hss:=(Uh HSS) k hlt
   have hca:=(Uh HCA) wr hb k hlt
   obtain ⟨q0,q1⟩:=(Uh HCB) k hlt
   have hc3:=hz3.cell (ia_at (zs:=zs) (i:=k) (by omega))
   have hf3:=hz3.frozen k
   have hz32:Blk (wr.setCell ⟨g3,k,none⟩ (.int .i64 (cs.take k).sum)) g3 114 (ia (zs.set k (cs.take k).sum)):=by rw [← ia_set]; exact hz3.set k _
   have hz22:=hz2.other (a:=⟨g3,k,none⟩) h23 (.int .i64 (cs.take k).sum)
   have hb2:=hb.setCell (p:=⟨g3,k,none⟩) hge3 (.int .i64 (cs.take k).sum)
   have hca2:(wr.setCell ⟨g3,k,none⟩ (.int .i64 (cs.take k).sum)).cell? ⟨g,1+k,none⟩=some (.int .i64 (cs.getD k 0)):=(Uh HCA) _ hb2 k hlt
   have hal2:Hid (∀ j,j<k+1→(zs.set k (cs.take k).sum).getD j 0=(cs.take j).sum):=by
    intro j hj
    rw [set_at zs k j _ (by omega)]
    split
    ·rename_i e; rw [e]
    ·exact hall j (by omega)
   obtain ⟨W5,hW5⟩:∃ W5,wr.setCell ⟨g3,k,none⟩ (.int .i64 (cs.take k).sum)=W5:=⟨_,rfl⟩
   rw [hW5] at hz32 hz22 hb2 hca2
   have HZ3:=Hd hz32
   have HZ2:=Hd hz22
   have HB:=Hd hb2
   have HSE:=Hd hss
   clear hz3 hz2 hb hall hz32 hz22 hb2 hca hss HSS HCA HCB HSL HEX
   generalize zs.getD k 0=old at *
   generalize hq:cs.getD k 0=q at *
   generalize hs:(cs.take k).sum=s at *
   have hin1:(0:Int)≤(k:Int):=by omega
   have hin2:(k:Int)<255:=by omega
   go_wp2
   go_roundw
   case rel=>exact ⟨k+1,zs.set k s,by go_num,by rw [Uh HSE],by omega,by simp [hzl],Uh HZ3,Uh HZ2,Uh HB,Uh hal2⟩
   case measure=>simp [intOf]; omega
  ·obtain rfl:k=255:=by omega
   have hres:=(Uh HEX) zs hzl hall
   subst hres
   clear hall HCA HCB HSL HSS HEX hsl
   go_upto_region 9 with fail
   refine wp_region_list ?_
   have hrg:=hz3.range 0
   rw [List.drop_zero] at hrg
   refine wpList_load_mid (by rfl) 114 (.tmp 3) (by rfl) g3 0 (by rfl) (ia (beg cs)) _ hrg Tryz.underlying114 (by rfl) (by rw [ia_len,beg_len]; exact infoCounts) ?_
   have hth:wr.there g2 0 (ia (beg cs)).toArray.size:=hz2.there (by simp [ia_len,beg_len,z255])
   refine wpList_store_mid (by rfl) 114 (.tmp 2) (.tmp 21) (by rfl) g2 0 (ia (beg cs)).toArray (by rfl) (by rfl) hth (by rw [show (ia (beg cs)).toArray.size=255 by simp [ia_len,beg_len]]; exact infoCounts) (ia_one _) ?_
   have hrg2:=World.rangeAt_setCells_same wr g2 0 (ia (beg cs)) (by simpa using hth)
   have hbF:Below w.heap.size w (wr.setCells g2 0 (ia (beg cs))):=below_setCells4 hge2 _ _ _ hb
   have hld:=run_loadVar_mid (P:=Tryz.prog) _ g2 0 114 (ia (beg cs)) _ hrg2 Tryz.underlying114 (by rfl) (by rw [ia_len,beg_len]; exact infoCounts)
   clear hz3 hz2 hth hrg hrg2
   generalize wr.setCells g2 0 (ia (beg cs))=wf at *
   go_wp2
   exact bodyPost_ret (v:=.agg (ia (beg cs)).toArray) (results_cellM rfl _ _ _ g2 _ (by rfl) hld) rfl ⟨rfl,hbF⟩
end Od
namespace Od
def srt (k:Int→Int):Int→List Int→Bool
 | _,[]=>true
 | a,c :: l=>if k c≠0∧k c<a then false else srt k (k c) l
def fl (k:Int→Int) (j:Int) (l:List Int):List Int:=l.filter fun m=>decide (k m=0∨k m=j)
def bkN (k:Int→Int) (ms:List Int) (n:Nat):List Int:=(List.range n).flatMap fun (c:Nat)=>ms.filter fun m=>decide (k m=(c:Int))
def bkt (k:Int→Int) (ms:List Int):List Int:=bkN k ms 255
def ordA (k:Int→Int):List Int→List Int→List Int
 | ms,[]=>bkt k ms
 | ms,c :: l=>if k c=0 then bkt k ms++c :: ordA k [] l else ordA k (ms++[c]) l
def ord (k:Int→Int) (xs:List Int):List Int:=ordA k [] xs
def Mk (k:Int→Int) (ms:List Int):Prop:=∀ m∈ms,1≤k m∧k m≤254
theorem bkt_nil (k:Int→Int):bkt k []=[]:=by
 unfold bkt bkN
 simp
theorem bkN_succ (k:Int→Int) (ms:List Int) (n:Nat):bkN k ms (n+1)=bkN k ms n++ms.filter fun m=>decide (k m=(n:Int)):=by
 simp [bkN,List.range_succ,List.flatMap_append]
theorem filt_sum (p q r:Int→Bool) (h:∀ m,r m=(p m || q m)) (hd:∀ m,¬ (p m=true∧q m=true)) (ms:List Int):(ms.filter r).length=(ms.filter p).length+(ms.filter q).length:=by
 induction ms with
 | nil=>rfl
 | cons m ms ih =>
  have h1:=h m
  have h2:=hd m
  simp only [List.filter_cons,h1]
  cases hp:p m <;> cases hq:q m <;> simp_all <;> omega
theorem bkN_len (k:Int→Int) (ms:List Int) (h:∀ m∈ms,0≤k m) (n:Nat):(bkN k ms n).length=(ms.filter fun m=>decide (k m<(n:Int))).length:=by
 induction n with
 | zero =>
  have:(ms.filter fun m=>decide (k m<((0:Nat):Int)))=[]:=by
   rw [List.filter_eq_nil_iff]
   intro m hm
   have:=h m hm
   simp; omega
  rw [this]; rfl
 | succ n ih =>
  rw [bkN_succ,List.length_append,ih]
  refine (filt_sum _ _ _ (fun m=>?_) (fun m=>?_) ms).symm
  ·by_cases h1:k m<(n:Int) <;> by_cases h2:k m=(n:Int) <;> simp [h1,h2] <;> omega
  ·simp; omega
theorem bkt_len {k:Int→Int} {ms:List Int} (h:Mk k ms):(bkt k ms).length=ms.length:=by
 unfold bkt
 rw [bkN_len k ms (fun m hm=>by have:=h m hm; omega),List.filter_eq_self.2]
 intro m hm
 have:=h m hm
 simp; omega
theorem bkN_mem {k:Int→Int} {ms:List Int} {n:Nat} {x:Int} (h:x∈bkN k ms n):x∈ms∧0≤k x∧k x<n:=by
 unfold bkN at h
 rw [List.mem_flatMap] at h
 obtain ⟨c,hc,hx⟩:=h
 rw [List.mem_range] at hc
 rw [List.mem_filter] at hx
 have:=of_decide_eq_true hx.2
 exact ⟨hx.1,by omega,by omega⟩
theorem bkN_pair (k:Int→Int) (ms:List Int) (n:Nat):(bkN k ms n).Pairwise (fun a b=>k a≤k b):=by
 induction n with
 | zero=>exact List.Pairwise.nil
 | succ n ih =>
  rw [bkN_succ,List.pairwise_append]
  refine ⟨ih,?_,?_⟩
  ·refine List.pairwise_iff_forall_sublist.2 ?_
   intro a b hs
   have ha:a∈ms.filter fun m=>decide (k m=(n:Int)):=hs.subset (by simp)
   have hb:b∈ms.filter fun m=>decide (k m=(n:Int)):=hs.subset (by simp)
   have h1:=of_decide_eq_true (List.mem_filter.1 ha).2
   have h2:=of_decide_eq_true (List.mem_filter.1 hb).2
   omega
  ·intro a ha b hb
   have h1:=bkN_mem ha
   have h2:=of_decide_eq_true (List.mem_filter.1 hb).2
   omega
theorem bkN_filt (k:Int→Int) (ms:List Int) (j:Int) (n:Nat):((bkN k ms n).filter fun m=>decide (k m=j))=if 0≤j∧j<n then ms.filter fun m=>decide (k m=j) else []:=by
 induction n with
 | zero=>rw [if_neg (by omega)]; rfl
 | succ n ih =>
  rw [bkN_succ,List.filter_append,ih,List.filter_filter]
  by_cases h:j=(n:Int)
  ·rw [if_neg (by omega),if_pos (by omega),List.nil_append,h]
   exact List.filter_congr (fun m _=>by simp)
  ·have:(ms.filter fun a=>decide (k a=j) && decide (k a=(n:Int)))=[]:=by
    rw [List.filter_eq_nil_iff]
    intro m _
    simp; omega
   rw [this,List.append_nil]
   by_cases h1:0≤j∧j<(n:Int)
   ·rw [if_pos h1,if_pos (by omega)]
   ·rw [if_neg h1,if_neg (by omega)]
theorem fl_marks {k:Int→Int} {ms:List Int} (h:Mk k ms) (j:Int):fl k j ms=if 1≤j∧j≤254 then ms.filter (fun m=>decide (k m=j)) else []:=by
 unfold fl
 by_cases hj:1≤j∧j≤254
 ·rw [if_pos hj]
  refine List.filter_congr (fun m hm=>?_)
  have:=h m hm
  simp; omega
 ·rw [if_neg hj,List.filter_eq_nil_iff]
  intro m hm
  have:=h m hm
  simp; omega
theorem bkt_mk {k:Int→Int} {ms:List Int} (h:Mk k ms):Mk k (bkt k ms):=fun m hm=>h m (bkN_mem hm).1
theorem fl_bkt {k:Int→Int} {ms:List Int} (h:Mk k ms) (j:Int):fl k j (bkt k ms)=fl k j ms:=by
 rw [fl_marks (bkt_mk h),fl_marks h]
 by_cases hj:1≤j∧j≤254
 ·rw [if_pos hj,if_pos hj]
  unfold bkt
  rw [bkN_filt,if_pos (by omega)]
 ·rw [if_neg hj,if_neg hj]
theorem fl_append (k:Int→Int) (j:Int) (a b:List Int):fl k j (a++b)=fl k j a++fl k j b:=by unfold fl; exact List.filter_append ..
theorem fl_cons (k:Int→Int) (j c:Int) (l:List Int):fl k j (c :: l)=if k c=0∨k c=j then c :: fl k j l else fl k j l:=by
 unfold fl
 rw [List.filter_cons]
 by_cases h:k c=0∨k c=j
 ·rw [if_pos h,if_pos (decide_eq_true h)]
 ·rw [if_neg h,if_neg (by simpa using h)]
theorem mk_snoc {k:Int→Int} {ms:List Int} {c:Int} (h:Mk k ms) (h1:1≤k c) (h2:k c≤254):Mk k (ms++[c]):=by
 intro m hm
 rcases List.mem_append.1 hm with hm | hm
 ·exact h m hm
 ·obtain rfl:=List.mem_singleton.1 hm
  exact ⟨h1,h2⟩
theorem fl_ordA {k:Int→Int} (hk:∀ c,0≤k c∧k c≤254) (j:Int):∀ (l ms:List Int),Mk k ms→fl k j (ordA k ms l)=fl k j (ms++l)
 | [],ms,h=>by rw [ordA,fl_bkt h,List.append_nil]
 | c :: l,ms,h=>by
  rw [ordA]
  by_cases hc:k c=0
  ·rw [if_pos hc,fl_append,fl_append,fl_bkt h,fl_cons,fl_cons,fl_ordA hk j l [] (fun _ h=>by cases h)]
   rfl
  ·rw [if_neg hc,fl_ordA hk j l _ (mk_snoc h (by have:=hk c; omega) (hk c).2)]
   simp
theorem fl_ord {k:Int→Int} (hk:∀ c,0≤k c∧k c≤254) (j:Int) (xs:List Int):fl k j (ord k xs)=fl k j xs:=fl_ordA hk j xs [] (fun _ h=>by cases h)
theorem srt_app {k:Int→Int} {rest:List Int} (hr:∀ a,srt k a rest=true):∀ (b:List Int) (a:Int),b.Pairwise (fun x y=>k x≤k y)→(∀ x∈b,a≤k x)→srt k a (b++rest)=true
 | [],a,_,_=>hr a
 | x :: b,a,hp,hm=>by
  rw [List.cons_append,srt,if_neg (fun h=>by have:=hm x (by simp); omega)]
  rw [List.pairwise_cons] at hp
  exact srt_app hr b (k x) hp.2 hp.1
theorem srt_ordA {k:Int→Int} (hk:∀ c,0≤k c∧k c≤254):∀ (l ms:List Int),Mk k ms→srt k 0 (ordA k ms l)=true
 | [],ms,h=>by
  rw [ordA,← List.append_nil (bkt k ms)]
  exact srt_app (fun _=>rfl) _ _ (bkN_pair k ms 255) (fun x hx=>by have:=bkN_mem hx; omega)
 | c :: l,ms,h=>by
  rw [ordA]
  by_cases hc:k c=0
  ·rw [if_pos hc]
   refine srt_app (fun a=>?_) _ _ (bkN_pair k ms 255) (fun x hx=>by have:=bkN_mem hx; omega)
   rw [srt,if_neg (fun h=>h.1 hc),hc]
   exact srt_ordA hk l [] (fun _ h=>by cases h)
  ·rw [if_neg hc]
   exact srt_ordA hk l _ (mk_snoc h (by have:=hk c; omega) (hk c).2)
theorem srt_ord {k:Int→Int} (hk:∀ c,0≤k c∧k c≤254) (xs:List Int):srt k 0 (ord k xs)=true:=srt_ordA hk xs [] (fun _ h=>by cases h)
theorem fl_far {k:Int→Int} {j:Int} (hj:j≠0):∀ (l:List Int) (p:Int),srt k p l=true→j<p→∀ c r,fl k j l=c :: r→k c=0
 | [],_,_,_,c,r,h=>by cases h
 | x :: l,p,hs,hp,c,r,h=>by
  rw [srt] at hs
  split at hs
  ·cases hs
  ·rename_i hn
   rw [fl_cons] at h
   by_cases hx:k x=0
   ·rw [if_pos (Or.inl hx)] at h
    cases h; exact hx
   ·have:p≤k x:=Int.not_lt.1 (fun e=>hn ⟨hx,e⟩)
    rw [if_neg (fun e=>by rcases e with e | e <;> omega)] at h
    exact fl_far hj l (k x) hs (by omega) c r h
theorem fl_head {k:Int→Int} {j c:Int} (h:k c=0∨k c=j) (l:List Int):fl k j (c :: l)=c :: fl k j l:=by rw [fl_cons,if_pos h]
theorem uniq {k:Int→Int}:∀ (a b:List Int) (p q:Int),srt k p a=true→srt k q b=true→(∀ j,fl k j a=fl k j b)→a=b
 | [],[],_,_,_,_,_=>rfl
 | [],c :: l,_,_,_,_,h=>by
  have:=h (k c)
  rw [fl_head (Or.inr rfl)] at this
  cases this
 | c :: l,[],_,_,_,_,h=>by
  have:=h (k c)
  rw [fl_head (Or.inr rfl)] at this
  cases this
 | c :: l,d :: m,p,q,ha,hb,h=>by
  have hc:c=d:=by
   by_cases h0:k c=0
   ·have:=h (k d)
    rw [fl_head (Or.inl h0),fl_head (Or.inr rfl)] at this
    exact (List.cons.inj this).1
   ·by_cases h1:k d=0
    ·have:=h (k c)
     rw [fl_head (Or.inr rfl),fl_head (Or.inl h1)] at this
     exact (List.cons.inj this).1
    ·rw [srt] at ha hb
     split at ha
     ·cases ha
     ·split at hb
      ·cases hb
      ·rcases Int.lt_trichotomy (k c) (k d) with hlt | heq | hgt
       ·have:=h (k c)
        rw [fl_head (Or.inr rfl),fl_cons k (k c) d,if_neg (fun e=>by rcases e with e | e <;> omega)] at this
        exact absurd (fl_far h0 m (k d) hb hlt c _ this.symm) h0
       ·have:=h (k c)
        rw [fl_head (Or.inr rfl),fl_head (Or.inr heq.symm)] at this
        exact (List.cons.inj this).1
       ·have:=h (k d)
        rw [fl_head (Or.inr rfl) m,fl_cons k (k d) c,if_neg (fun e=>by rcases e with e | e <;> omega)] at this
        exact absurd (fl_far h1 l (k c) ha hgt d _ this) h1
  subst hc
  have ht:l=m:=by
   rw [srt] at ha hb
   split at ha
   ·cases ha
   ·split at hb
    ·cases hb
    ·refine uniq l m (k c) (k c) ha hb (fun j=>?_)
     have:=h j
     rw [fl_cons,fl_cons] at this
     split at this
     ·exact (List.cons.inj this).2
     ·exact this
  rw [ht]
theorem ord_of {k:Int→Int} (hk:∀ c,0≤k c∧k c≤254) {xs ys:List Int} (hs:srt k 0 ys=true) (h:∀ j,fl k j ys=fl k j xs):ys=ord k xs:=uniq _ _ 0 0 hs (srt_ord hk xs) (fun j=>by rw [h,fl_ord hk])
theorem ordA_len {k:Int→Int} (hk:∀ c,0≤k c∧k c≤254):∀ (l ms:List Int),Mk k ms→(ordA k ms l).length=ms.length+l.length
 | [],ms,h=>by rw [ordA,bkt_len h]; rfl
 | c :: l,ms,h=>by
  rw [ordA]
  by_cases hc:k c=0
  ·rw [if_pos hc,List.length_append,bkt_len h,List.length_cons,ordA_len hk l [] (fun _ h=>by cases h)]
   simp
  ·rw [if_neg hc,ordA_len hk l _ (mk_snoc h (by have:=hk c; omega) (hk c).2)]
   simp; omega
theorem ord_len {k:Int→Int} (hk:∀ c,0≤k c∧k c≤254) (xs:List Int):(ord k xs).length=xs.length:=by
 unfold ord
 rw [ordA_len hk xs [] (fun _ h=>by cases h)]
 simp
theorem ord_mem {k:Int→Int} (hk:∀ c,0≤k c∧k c≤254) {xs:List Int} {x:Int} (h:x∈ord k xs):x∈xs:=by
 have h1:x∈fl k (k x) (ord k xs):=List.mem_filter.2 ⟨h,by simp⟩
 rw [fl_ord hk] at h1
 exact (List.mem_filter.1 h1).1
end Od
namespace Od
theorem fm_succ (f:Nat→List Int) (n:Nat):(List.range (n+1)).flatMap f=(List.range n).flatMap f++f n:=by
 simp [List.range_succ,List.flatMap_append]
theorem fm_le (f:Nat→List Int) {c n:Nat} (h:c<n):((List.range c).flatMap f).length+(f c).length≤((List.range n).flatMap f).length:=by
 induction n with
 | zero=>omega
 | succ n ih =>
  rw [fm_succ,List.length_append]
  rcases Nat.lt_succ_iff_lt_or_eq.1 h with h | rfl
  ·have:=ih h; omega
  ·exact Nat.le_refl _
theorem fm_congr {f g:Nat→List Int} {n:Nat} (h:∀ i,i<n→f i=g i):(List.range n).flatMap f=(List.range n).flatMap g:=by
 induction n with
 | zero=>rfl
 | succ n ih=>rw [fm_succ,fm_succ,ih (fun i hi=>h i (by omega)),h n (by omega)]
theorem fm_set (f g:Nat→List Int) {c r n:Nat} (v:Int) (hc:c<n) (hr:r<(f c).length) (hg:g c=(f c).set r v) (hd:∀ i,i≠c→g i=f i):((List.range n).flatMap f).set (((List.range c).flatMap f).length+r) v=(List.range n).flatMap g:=by
 induction n with
 | zero=>omega
 | succ n ih =>
  rw [fm_succ,fm_succ]
  rcases Nat.lt_succ_iff_lt_or_eq.1 hc with h | rfl
  ·have:=fm_le f h
   rw [List.set_append_left _ _ (by omega),ih h,hd n (by omega)]
  ·rw [List.set_append_right _ _ (by omega),show ((List.range c).flatMap f).length+r - ((List.range c).flatMap f).length=r by omega,← hg,fm_congr (fun i hi=>(hd i (by omega)).symm)]
def ft (k:Int→Int) (c:Nat) (l:List Int):List Int:=l.filter fun m=>decide (k m=(c:Int))
theorem bk_ft (k:Int→Int) (ms:List Int) (n:Nat):bkN k ms n=(List.range n).flatMap fun c=>ft k c ms:=rfl
theorem ft_append (k:Int→Int) (c:Nat) (a b:List Int):ft k c (a++b)=ft k c a++ft k c b:=by unfold ft; exact List.filter_append ..
def Dealt (k:Int→Int) (ms:List Int) (j:Nat) (y:List Int):Prop:=∃ J:Nat→List Int,y=(List.range 255).flatMap (fun c=>ft k c (ms.take j)++J c)∧∀ c,c<255→(J c).length=(ft k c (ms.drop j)).length
theorem split (g:Nat→Nat):∀ (n:Nat) (y:List Int) (_:y.length=((List.range n).map g).sum),∃ J:Nat→List Int,y=(List.range n).flatMap J∧∀ c,c<n→(J c).length=g c
 | 0,y,h=>⟨fun _=>[],by simpa using h,fun c hc=>by omega⟩
 | n+1,y,h=>by
  rw [List.range_succ,List.map_append,List.sum_append] at h
  simp only [List.map_cons,List.map_nil,List.sum_cons,List.sum_nil,Nat.add_zero] at h
  obtain ⟨J,h1,h2⟩:=split g n (y.take (y.length - g n)) (by rw [List.length_take]; omega)
  refine ⟨fun i=>if i=n then y.drop (y.length - g n) else J i,?_,fun c hc=>?_⟩
  ·rw [fm_succ,if_pos rfl,fm_congr (g:=J) (fun i hi=>by rw [if_neg (by omega)]),← h1,List.take_append_drop]
  ·by_cases hcn:c=n
   ·subst hcn
    simp only [if_true,List.length_drop]
    omega
   ·simp only [if_neg hcn]
    exact h2 c (by omega)
theorem fm_len (f:Nat→List Int) (n:Nat):((List.range n).flatMap f).length=((List.range n).map fun c=>(f c).length).sum:=by
 induction n with
 | zero=>rfl
 | succ n ih =>
  rw [fm_succ,List.length_append,ih,List.range_succ,List.map_append,List.sum_append]
  simp
theorem dealt_start {k:Int→Int} {ms y:List Int} (h:Mk k ms) (hy:y.length=ms.length):Dealt k ms 0 y:=by
 obtain ⟨J,h1,h2⟩:=split (fun c=>(ft k c ms).length) 255 y (by rw [hy,← bkt_len h]; unfold bkt; rw [bk_ft,fm_len])
 refine ⟨J,?_,fun c hc=>?_⟩
 ·rw [h1]; exact fm_congr (fun i _=>by simp [ft])
 ·rw [List.drop_zero]; exact h2 c hc
theorem dealt_end {k:Int→Int} {ms y:List Int} (h:Dealt k ms ms.length y):y=bkt k ms:=by
 obtain ⟨J,h1,h2⟩:=h
 rw [h1]
 unfold bkt
 rw [bk_ft]
 refine fm_congr (fun i hi=>?_)
 have:=h2 i hi
 rw [List.drop_length] at this
 rw [List.take_length,List.eq_nil_of_length_eq_zero (l:=J i) (by rw [this]; rfl),List.append_nil]
def plc (k:Int→Int) (ms:List Int) (j c:Nat):Nat:=(bkN k ms c).length+(ft k c (ms.take j)).length
theorem ft_parts (k:Int→Int) (c:Nat) (ms:List Int) (j:Nat):(ft k c (ms.take j)).length+(ft k c (ms.drop j)).length=(ft k c ms).length:=by
 rw [← List.length_append,← ft_append,List.take_append_drop]
theorem ft_take {k:Int→Int} (c:Nat) {ms:List Int} {j:Nat} (hj:j<ms.length):ft k c (ms.take (j+1))=ft k c (ms.take j)++if k (ms.getD j 0)=c then [ms.getD j 0] else []:=by
 rw [List.take_add_one,ft_append,List.getElem?_eq_getElem hj]
 have:ms.getD j 0=ms[j]:=by simp [List.getD,hj]
 rw [this]
 unfold ft
 by_cases h:k ms[j]=(c:Int) <;> simp [h]
theorem ft_drop {k:Int→Int} (c:Nat) {ms:List Int} {j:Nat} (hj:j<ms.length):ft k c (ms.drop j)=(if k (ms.getD j 0)=c then [ms.getD j 0] else [])++ft k c (ms.drop (j+1)):=by
 have:ms.getD j 0=ms[j]:=by simp [List.getD,hj]
 rw [List.drop_eq_getElem_cons hj,this]
 unfold ft
 rw [List.filter_cons]
 by_cases h:k ms[j]=(c:Int)
 ·rw [if_pos h,if_pos (decide_eq_true h)]; rfl
 ·rw [if_neg h,if_neg (by simpa using h)]; rfl
theorem dealt_step {k:Int→Int} {ms y:List Int} {j c:Nat} (h:Dealt k ms j y) (hj:j<ms.length) (hc:k (ms.getD j 0)=c) (hc5:c<255):plc k ms j c<y.length∧Dealt k ms (j+1) (y.set (plc k ms j c) (ms.getD j 0)):=by
 obtain ⟨J,h1,h2⟩:=h
 have hJ:=h2 c hc5
 rw [ft_drop c hj,if_pos hc,List.length_append,List.length_singleton] at hJ
 have hb:(bkN k ms c).length=((List.range c).flatMap fun c=>ft k c (ms.take j)++J c).length:=by
  rw [bk_ft,fm_len,fm_len]
  congr 1
  refine List.map_congr_left (fun i hi=>?_)
  rw [List.mem_range] at hi
  rw [List.length_append,h2 i (by omega),ft_parts]
 have hfc:=fm_le (fun c=>ft k c (ms.take j)++J c) hc5
 simp only [List.length_append] at hfc
 unfold plc
 rw [h1,hb]
 refine ⟨by omega,fun i=>if i=c then (J c).drop 1 else J i,?_,fun i hi=>?_⟩
 ·refine fm_set _ _ _ hc5 (by rw [List.length_append]; omega) ?_ (fun i hi=>?_)
  ·simp only [if_true]
   rw [ft_take c hj,if_pos hc,List.set_append_right _ _ (Nat.le_refl _),Nat.sub_self]
   cases hq:J c with
   | nil=>rw [hq] at hJ; simp at hJ; omega
   | cons x l=>simp
  ·simp only [if_neg hi]
   rw [ft_take i hj,if_neg (fun e=>hi (by omega)),List.append_nil]
 ·by_cases hic:i=c
  ·subst hic
   simp only [if_true,List.length_drop]
   omega
  ·simp only [if_neg hic]
   rw [h2 i hi,ft_drop i hj,if_neg (fun e=>hic (by omega)),List.nil_append]
theorem plc_step {k:Int→Int} {ms:List Int} {j:Nat} (c:Nat) (hj:j<ms.length):plc k ms (j+1) c=if k (ms.getD j 0)=c then plc k ms j c+1 else plc k ms j c:=by
 unfold plc
 rw [ft_take c hj]
 by_cases h:k (ms.getD j 0)=c
 ·rw [if_pos h,if_pos h,List.length_append]; rfl
 ·rw [if_neg h,if_neg h,List.append_nil]
theorem plc_zero (k:Int→Int) (ms:List Int) (c:Nat):plc k ms 0 c=(bkN k ms c).length:=by simp [plc,ft]
theorem bkN_next (k:Int→Int) (ms:List Int) (c:Nat):(bkN k ms (c+1)).length=(bkN k ms c).length+(ft k c ms).length:=by rw [bkN_succ,List.length_append]; rfl
def innerK (k:Int→Int):Nat→List Int→List Int
 | 0,l=>l
 | n+1,l=>if k (l.getD (n+1) 0)≠0∧k (l.getD (n+1) 0)<k (l.getD n 0) then innerK k n ((l.set (n+1) (l.getD n 0)).set n (l.getD (n+1) 0)) else l
def outerK (k:Int→Int):Nat→Nat→List Int→List Int
 | 0,_,l=>l
 | f+1,i,l=>outerK k f (i+1) (innerK k i l)
def lastc (k:Int→Int):Int→List Int→Int
 | p,[]=>p
 | _,x :: l=>lastc k (k x) l
theorem lastc_snoc (k:Int→Int):∀ (l:List Int) (p a:Int),lastc k p (l++[a])=k a
 | [],_,_=>rfl
 | x :: l,_,a=>lastc_snoc k l (k x) a
theorem inner_ins (k:Int→Int) (hk:∀ c,0≤k c) (c:Int) (R:List Int):∀ (n:Nat) (A B:List Int),A.length=n→(∀ a∈B,k c≠0∧k c<k a)→∃ A1 A2,A++B=A1++A2∧innerK k n (A++c :: (B++R))=A1++c :: (A2++R)∧(∀ a∈A2,k c≠0∧k c<k a)∧¬ (k c≠0∧k c<lastc k 0 A1)
 | 0,A,B,hA,hB=>by
  obtain rfl:=List.eq_nil_of_length_eq_zero hA
  exact ⟨[],B,rfl,rfl,hB,fun h=>by have:=hk c; simp only [lastc] at h; omega⟩
 | n+1,A,B,hA,hB=>by
  obtain ⟨A',a,rfl⟩:∃ A' a,A=A'++[a]:=⟨A.dropLast,A.getLast (by intro e; rw [e] at hA; simp at hA),(List.dropLast_concat_getLast _).symm⟩
  have hA':A'.length=n:=by rw [List.length_append] at hA; simp at hA; exact hA
  have g1:(A'++[a]++c :: (B++R)).getD (n+1) 0=c:=by
   simp only [List.getD]
   rw [List.getElem?_append_right (by omega),hA]; simp
  have g0:(A'++[a]++c :: (B++R)).getD n 0=a:=by
   simp only [List.getD,List.append_assoc]
   rw [List.getElem?_append_right (by omega),hA']; simp
  have gs:((A'++[a]++c :: (B++R)).set (n+1) a).set n c=A'++c :: (([a]++B)++R):=by
   rw [List.set_append_right _ _ (by omega),hA,Nat.sub_self,List.append_assoc,List.set_append_right _ _ (by omega),hA',Nat.sub_self]
   simp
  rw [innerK,g1,g0]
  by_cases h:k c≠0∧k c<k a
  ·rw [if_pos h,gs]
   obtain ⟨A1,A2,e1,e2,e3,e4⟩:=inner_ins k hk c R n A' ([a]++B) hA' (fun x hx=>by
    rcases List.mem_append.1 hx with hx | hx
    ·obtain rfl:=List.mem_singleton.1 hx; exact h
    ·exact hB x hx)
   exact ⟨A1,A2,by rw [← e1]; simp,e2,e3,e4⟩
  ·rw [if_neg h]
   exact ⟨A'++[a],B,rfl,by simp,hB,by rw [lastc_snoc]; exact h⟩
theorem ins_fl {k:Int→Int} {c:Int} {A2:List Int} (h:∀ a∈A2,k c≠0∧k c<k a) (hc:0≤k c) (j:Int):fl k j (c :: A2)=fl k j (A2++[c]):=by
 cases A2 with
 | nil=>rfl
 | cons a A =>
  have h0:=(h a (by simp)).1
  rw [fl_append,fl_cons k j c (a :: A),fl_cons k j c []]
  by_cases hj:k c=j
  ·rw [if_pos (Or.inr hj),if_pos (Or.inr hj)]
   have:fl k j (a :: A)=[]:=by
    unfold fl
    rw [List.filter_eq_nil_iff]
    intro m hm
    have:=h m hm
    simp; omega
   rw [this]; rfl
  ·rw [if_neg (by omega),if_neg (by omega)]
   simp [fl]
theorem ins_srt {k:Int→Int} {c:Int} {A2:List Int} (h:∀ a∈A2,k c≠0∧k c<k a):∀ (A1:List Int) (p:Int),srt k p (A1++A2)=true→¬ (k c≠0∧k c<lastc k p A1)→srt k p (A1++c :: A2)=true
 | [],p,hs,hn=>by
  rw [List.nil_append] at hs ⊢
  rw [srt,if_neg (show ¬ (k c≠0∧k c<p) from hn)]
  cases A2 with
  | nil=>rfl
  | cons a A =>
   have:=(h a (by simp)).2
   rw [srt] at hs ⊢
   split at hs
   ·cases hs
   ·rw [if_neg (by omega)]; exact hs
 | x :: A1,p,hs,hn=>by
  rw [List.cons_append] at hs ⊢
  rw [srt] at hs ⊢
  split at hs
  ·cases hs
  ·rename_i hx
   rw [if_neg hx]
   exact ins_srt h A1 (k x) hs hn
theorem outer_all {k:Int→Int} (hk:∀ c,0≤k c):∀ (f i:Nat) (l:List Int),l.length=i+f→srt k 0 (l.take i)=true→srt k 0 (outerK k f i l)=true∧∀ j,fl k j (outerK k f i l)=fl k j l
 | 0,i,l,hl,hs=>by
  rw [List.take_of_length_le (by omega)] at hs
  exact ⟨hs,fun _=>rfl⟩
 | f+1,i,l,hl,hs=>by
  rw [outerK]
  have hi:i<l.length:=by omega
  have hd:l=l.take i++l[i] :: ([]++l.drop (i+1)):=by
   rw [List.nil_append,← List.drop_eq_getElem_cons hi,List.take_append_drop]
  obtain ⟨A1,A2,e1,e2,e3,e4⟩:=inner_ins k hk l[i] (l.drop (i+1)) i (l.take i) [] (by rw [List.length_take]; omega) (fun a ha=>by cases ha)
  rw [← hd] at e2
  rw [List.append_nil] at e1
  have hlen:A1.length+A2.length=i:=by
   rw [← List.length_append,← e1,List.length_take]; omega
  have ht:(innerK k i l).take (i+1)=A1++l[i] :: A2:=by
   rw [e2,← List.cons_append,← List.append_assoc,List.take_append_of_le_length (by simp; omega),List.take_of_length_le (by simp; omega)]
  have hlen2:(innerK k i l).length=i+1+f:=by
   rw [e2]; simp; omega
  have hfl:∀ j,fl k j (innerK k i l)=fl k j l:=fun j=>by
   have hr:fl k j l=fl k j (l.take i++l[i] :: ([]++l.drop (i+1))):=congrArg (fl k j) hd
   rw [e2,hr,e1,List.nil_append,← List.cons_append,fl_append,fl_append,ins_fl e3 (hk _),fl_append k j (A1++A2),fl_append k j A1 A2,fl_append k j A2,fl_cons k j l[i] (l.drop (i+1)),fl_cons k j l[i] []]
   split <;> simp [fl]
  obtain ⟨r1,r2⟩:=outer_all hk f (i+1) (innerK k i l) hlen2 (by rw [ht]; exact ins_srt e3 A1 0 (by rw [← e1]; exact hs) e4)
  exact ⟨r1,fun j=>by rw [r2,hfl]⟩
theorem outer_ord {k:Int→Int} (hk:∀ c,0≤k c∧k c≤254) (xs:List Int):outerK k (xs.length - 1) 1 xs=ord k xs:=by
 cases xs with
 | nil=>rw [ord,ordA,bkt_nil]; rfl
 | cons c l =>
  obtain ⟨h1,h2⟩:=outer_all (fun c=>(hk c).1) ((c :: l).length - 1) 1 (c :: l) (by simp; omega) (by simp [srt]; have:=(hk c).1; omega)
  exact ord_of hk h1 h2
end Od
open Ti
namespace Od
def ir (zs:List Int):List Value:=zs.map (Value.int .i32)
theorem ir_len (zs:List Int):(ir zs).length=zs.length:=List.length_map _
theorem ir_at {zs:List Int} {i:Nat} (hi:i<zs.length):(ir zs)[i]?=some (.int .i32 (zs.getD i 0)):=by
 unfold ir
 rw [List.getElem?_map,List.getElem?_eq_getElem hi]; simp [List.getD,hi]
def mc (k:Int→Int) (ms:List Int):List Value:=ms.flatMap fun m=>[.int .i32 m,.int .i64 (k m)]
theorem mc_len (k:Int→Int) (ms:List Int):(mc k ms).length=ms.length * 2:=by
 induction ms with
 | nil=>rfl
 | cons m ms ih=>simp only [mc,List.flatMap_cons,List.length_append,List.length_cons,List.length_nil] at ih ⊢; omega
theorem mc_at {k:Int→Int}:∀ {ms:List Int} {i:Nat},i<ms.length→(mc k ms)[i * 2]?=some (.int .i32 (ms.getD i 0))∧(mc k ms)[i * 2+1]?=some (.int .i64 (k (ms.getD i 0)))
 | [],i,h=>by simp at h
 | m :: ms,0,_=>⟨rfl,rfl⟩
 | m :: ms,i+1,h=>by
  have:=mc_at (k:=k) (ms:=ms) (i:=i) (by simpa using h)
  simp only [mc,List.flatMap_cons,show (i+1) * 2=i * 2+1+1 by omega] at this ⊢
  simpa using this
theorem gb_alloc {w wr:World} {row:Option Nat} (h:w.grownBy wr row) (o:Obj):w.grownBy (wr.alloc o) row:=⟨h.os,h.tape,h.output,by have:=h.size; simp; omega,fun k hk hn=>by rw [Below.heap_alloc wr o k (by have:=h.size; omega)]; exact h.block k hk hn⟩
theorem gb_set {w wr:World} {row:Option Nat} (h:w.grownBy wr row) (p:Addr) (v:Value) (hp:some p.block=row∨w.heap.size≤p.block):w.grownBy (wr.setCell p v) row:=by
 have b:=(Below.refl 0 wr).setCell (p:=p) (Nat.zero_le _) v
 refine ⟨b.os.trans h.os,b.tape.trans h.tape,b.output.trans h.output,Nat.le_trans h.size b.size,fun k hk hn=>?_⟩
 rw [heap_setCell_other wr p k v ?_]
 ·exact h.block k hk hn
 ·intro e
  rcases hp with hp | hp
  ·exact hn (by rw [e]; exact hp)
  ·omega
theorem gb_below {w wr w':World} {row:Option Nat} {B:Nat} (h:w.grownBy wr row) (hb:Below B wr w') (hB:w.heap.size≤B):w.grownBy w' row:=⟨hb.os.trans h.os,hb.tape.trans h.tape,hb.output.trans h.output,by have:=h.size; have:=hb.size; omega,fun k hk hn=>by rw [hb.block k (by omega)]; exact h.block k hk hn⟩
theorem Blk.kept {w w':World} {g t:Nat} {vs:List Value} {row:Option Nat} (h:Blk w g t vs) (hg:w.grownBy w' row) (hne:some g≠row):Blk w' g t vs:=(hg.block g h.lt hne).trans h
def cnts (k:Int→Int) (ms:List Int):List Int:=(List.range 255).map fun c=>((Od.ft k c ms).length:Int)
theorem cnts_len (k:Int→Int) (ms:List Int):(cnts k ms).length=255:=by simp [cnts]
theorem cnts_at (k:Int→Int) (ms:List Int) {c:Nat} (hc:c<255):(cnts k ms).getD c 0=((Od.ft k c ms).length:Int):=by simp [cnts,List.getD,hc]
theorem cnts_sum (k:Int→Int) (ms:List Int):∀ c:Nat,c≤255→((cnts k ms).take c).sum=((Od.bkN k ms c).length:Int)
 | 0,_=>by simp [Od.bkN]
 | c+1,h=>by
  rw [sum_step (by rw [cnts_len]; omega),cnts_sum k ms c (by omega),cnts_at k ms (by omega),Od.bkN_next]; simp
theorem beg_plc (k:Int→Int) (ms:List Int) {c:Nat} (hc:c<255):(beg (cnts k ms)).getD c 0=(Od.plc k ms 0 c:Int):=by
 rw [beg_at _ hc,cnts_sum k ms c (by omega),Od.plc_zero]
theorem cnts_fit (k:Int→Int) (ms:List Int) (h:ms.length≤3000000):∀ c∈cnts k ms,0≤c∧c≤3000000:=fun c hc=>by
 obtain ⟨i,_,rfl⟩:=List.mem_map.1 hc
 have:(Od.ft k i ms).length≤ms.length:=List.length_filter_le _ _
 omega
theorem seg_at {A B C:List Value} {o i:Nat} (hA:A.length=o) (hi:i<B.length):(A++B++C)[o+i]?=B[i]?:=by
 rw [List.append_assoc,List.getElem?_append_right (by omega),List.getElem?_append_left (by omega)]; congr 1; omega
theorem seg_set {A B C:List Value} {o i:Nat} (v:Value) (hA:A.length=o) (hi:i<B.length):(A++B++C).set (o+i) v=A++B.set i v++C:=by
 rw [List.append_assoc,List.set_append_right _ _ (by omega),List.set_append_left _ _ (by omega),List.append_assoc]; congr 3; omega
theorem blk_far {g g2 t:Nat} {us:List Value} (h:g≠g2):∀ (vs:List Value) (o:Nat) (wr:World) (_:Blk wr g t us),Blk (wr.setCells g2 o vs) g t us
 | [],_,_,b=>b
 | v :: vs,o,_,b=>blk_far h vs (o+1) _ (b.other (a:=⟨g2,o,none⟩) h v)
theorem wpList_store_mid9 {P:Program} {ops:Array Oper} {rest:List Oper} {op:Oper} {a:Act} {w w':World} {Q:Exit→Act→World→Prop} (hgd:op.guard=none) (ty:TypeId) (x y:Operand) (ho:op.op=.store ty x y) (b o:Nat) (cells:Array Value) (hx:a.eval x=.pointer (some ⟨b,o,none⟩)) (hy:a.eval y=.agg cells) (ht:w.there b o cells.size) (hi:(P.info? ty).map (·.size)=some cells.size) (h1:cells.all (·.oneCell')=true) (hw:w.setCells b o cells.toList=w') (h:wpList P ops Q rest (a.put op.dst undef) w'):wpList P ops Q (op :: rest) a w:=by
 subst hw
 exact wpList_store_mid hgd ty x y ho b o cells hx hy ht hi h1 h
theorem gb_setCells {w:World} {row:Option Nat} (g:Nat) (hp:some g=row∨w.heap.size≤g):∀ (vs:List Value) (o:Nat) (wr:World) (_:w.grownBy wr row),w.grownBy (wr.setCells g o vs) row
 | [],_,_,h=>h
 | v :: vs,o,_,h=>gb_setCells g hp vs (o+1) _ (gb_set h ⟨g,o,none⟩ v hp)
set_option maxRecDepth 8000 in
set_option maxHeartbeats 4000000 in
theorem deal_any12 (k:Int→Int) (g mb mcap yb yo ycap:Nat) (ms ys:List Int) (J A C:List Value) (w:World) (hr:Blk w g 116 (.slice (some ⟨mb,0,none⟩) ms.length mcap :: ia (cnts k ms))) (hm:Blk w mb 119 (mc k ms++J)) (hmc:ms.length≤mcap∧mcap≤9223372036854775807) (hy:Blk w yb 21 (A++ir ys++C)) (hA:A.length=yo) (hyl:ys.length=ms.length) (hyc:ms.length≤ycap∧ycap≤9223372036854775807) (hk:Od.Mk k ms) (hn:ms.length≤3000000) (hgy:g≠yb) (hmy:mb≠yb):Calls Tryz.prog 94 #[.pointer (some ⟨g,0,none⟩),.slice (some ⟨yb,yo,none⟩) ms.length ycap] w fun e w'=>e=.returned (.tuple #[])∧Blk w' yb 21 (A++ir (Od.bkt k ms)++C)∧w.grownBy w' (some yb):=by
 have K1:=Hd (places_any12 g _ (cnts k ms) w hr (cnts_len k ms) (cnts_fit k ms hn))
 obtain ⟨hm1,hm2⟩:=hmc
 obtain ⟨hy1,hy2⟩:=hyc
 have HY:=Hd hy
 have HM:Hid (∀ (W:World),w.grownBy W (some yb)→∀ i:Nat,i<ms.length→W.cell? ⟨mb,i * 2,none⟩=some (.int .i32 (ms.getD i 0))∧W.cell? ⟨mb,i * 2+1,none⟩=some (.int .i64 (k (ms.getD i 0)))):=fun W hW i hi=>by
  have h:=hm.kept hW (fun e=>hmy (by simpa using e))
  have h2:=mc_at (k:=k) hi
  have hl:=mc_len k ms
  exact ⟨h.cell (by rw [List.getElem?_append_left (by omega)]; exact h2.1),h.cell (by rw [List.getElem?_append_left (by omega)]; exact h2.2)⟩
 have hyb:=hy.lt
 have hc0:w.cell? ⟨g,0,none⟩=some (.slice (some ⟨mb,0,none⟩) ms.length mcap):=hr.cell rfl
 have HC0:Hid (∀ (W:World),w.grownBy W (some yb)→W.cell? ⟨g,0,none⟩=some (.slice (some ⟨mb,0,none⟩) ms.length mcap)):=fun W hW=>(hr.kept hW (fun e=>hgy (by simpa using e))).cell rfl
 have HST:=Hd (Od.dealt_start hk hyl)
 have HMK:=Hd hk
 have hl255:=Hd (beg_len (cnts k ms))
 have HPL:Hid (∀ c,c<255→(beg (cnts k ms)).getD c 0=(Od.plc k ms 0 c:Int)):=fun c hc=>beg_plc k ms hc
 generalize beg (cnts k ms)=bg at *
 clear hr hm hy hk
 go_enter Tryz.func94,Tryz.ntmps94
 go_wp2_with fail
 refine (Uh K1).mono ?_
 rintro e w1 ⟨rfl,b1⟩
 have hs1:=b1.size
 obtain ⟨W2,hW2⟩:∃ W2,w1.alloc (.cells Tryz.zeroCells114 114)=W2:=⟨_,rfl⟩
 have k2:Blk W2 w1.heap.size 114 (ia z255):=by rw [← hW2]; exact Blk.new w1 _ _ _ zc255
 have g2:w.grownBy W2 (some yb):=by rw [← hW2]; exact gb_alloc (gb_below (World.grownBy.refl w _) b1 (Nat.le_refl _)) _
 obtain ⟨g4,hg4⟩:∃ g4,w1.heap.size=g4:=⟨_,rfl⟩
 rw [hg4] at k2
 have hg4w:w.heap.size≤g4:=by omega
 clear K1 hc0 hs1
 have hbl:=Uh hl255
 have hth:W2.there g4 0 (ia bg).toArray.size:=k2.there (by simp [ia_len,z255,hbl])
 have hsz:(ia bg).toArray.size=255:=by simp [ia_len,hbl]
 obtain ⟨W3,hW3⟩:∃ W3,W2.setCells g4 0 (ia bg).toArray.toList=W3:=⟨_,rfl⟩
 have k3:Blk W3 g4 114 (ia bg):=by
  have:=k2.setCells (ia bg) 0 (by simp [ia_len,z255,hbl])
  rw [← hW3]
  rw [List.take_zero,List.nil_append,List.drop_of_length_le (by simp [ia_len,z255,hbl]),List.append_nil] at this
  exact this
 have g3:w.grownBy W3 (some yb):=by rw [← hW3]; exact gb_setCells g4 (Or.inr hg4w) _ _ _ g2
 have y3:Blk W3 yb 21 (A++ir ys++C):=by
  have h1:w1.heap[yb]?=w.heap[yb]?:=b1.block yb hyb
  have h2:Blk w1 yb 21 (A++ir ys++C):=h1.trans (Uh HY)
  have h3:Blk W2 yb 21 (A++ir ys++C):=by rw [← hW2]; exact h2.alloc _
  rw [← hW3]
  exact blk_far (by omega) _ _ _ h3
 have hc0:=(Uh HC0) W3 g3
 have K3:=Hd k3
 have G3:=Hd g3
 have Y3:=Hd y3
 clear k2 g2 k3 g3 y3 HY HC0 b1 hbl
 go_wp2_with (refine wpList_store_mid9 (by rfl) 114 (.tmp 4) (.tmp 8) (by rfl) g4 0 (ia bg).toArray (by rfl) (by rfl) hth (by rw [hsz]; exact infoCounts) (ia_one _) hW3 ?_)
 clear hW2 hW3 hth hsz
 go_loopw [6,14] (fun _ kk wr=>∃ (i:Nat) (y pl:List Int),kk=.int .i64 i∧i≤ms.length∧Od.Dealt k ms i y∧y.length=ms.length∧Blk wr yb 21 (A++ir y++C)∧pl.length=255∧(∀ c,c<255→pl.getD c 0=(Od.plc k ms i c:Int))∧Blk wr g4 114 (ia pl)∧w.grownBy wr (some yb)) (fun _ kk _=>ms.length - (intOf kk).toNat)
 case atStart=>exact ⟨0,ys,bg,rfl,by omega,Uh HST,hyl,Uh Y3,Uh hl255,Uh HPL,Uh K3,Uh G3⟩
 case round =>
  clear K3 G3 Y3 HST HPL hl255
  obtain ⟨i,y,pl,rfl,hin,hde,hyl2,hyw,hpl,hpp,hkw,hgw⟩:=hrel
  by_cases hlt:i<ms.length
  ·obtain ⟨c0,c1⟩:=(Uh HM) wr hgw i hlt
   have hcl:=(Uh HMK) (ms.getD i 0) (by simp [List.getD,hlt])
   obtain ⟨c,hc⟩:∃ c:Nat,k (ms.getD i 0)=(c:Int):=⟨(k (ms.getD i 0)).toNat,by omega⟩
   have hc5:c<255:=by omega
   obtain ⟨p1,p2⟩:=Od.dealt_step hde hlt hc hc5
   have hps:=fun c'=>Od.plc_step (k:=k) c' hlt
   have hpc:=hpp c hc5
   obtain ⟨p,hp⟩:∃ p,Od.plc k ms i c=p:=⟨_,rfl⟩
   rw [hp] at hpc p1 p2
   rw [hc] at c1
   obtain ⟨m,hm⟩:∃ m,ms.getD i 0=m:=⟨_,rfl⟩
   rw [hm] at c0 p2 hc
   obtain ⟨gr,hgr⟩:∃ gr,wr.heap.size=gr:=⟨_,rfl⟩
   have hgws:=hgw.size
   have hkwl:=hkw.lt
   obtain ⟨W1,hW1⟩:∃ W1,wr.alloc (.cells #[.int .i32 m,.int .i64 c] 119)=W1:=⟨_,rfl⟩
   have x0:W1.cell? ⟨gr,0,none⟩=some (.int .i32 m):=by rw [← hW1,← hgr]; simp
   have x1:W1.cell? ⟨gr,1,none⟩=some (.int .i64 c):=by rw [← hW1,← hgr]; simp
   have kw1:Blk W1 g4 114 (ia pl):=by rw [← hW1]; exact hkw.alloc _
   have yw1:Blk W1 yb 21 (A++ir y++C):=by rw [← hW1]; exact hyw.alloc _
   have gw1:w.grownBy W1 (some yb):=by rw [← hW1]; exact gb_alloc hgw _
   have x2:W1.cell? ⟨g4,c,none⟩=some (.int .i64 p):=by rw [kw1.cell (ia_at (by omega)),hpc]
   have x3:W1.cell? ⟨yb,yo+p,none⟩=some (.int .i32 (y.getD p 0)):=yw1.cell (by rw [seg_at hA (by rw [ir_len]; omega)]; exact ir_at (by omega))
   have f3:=yw1.frozen (yo+p)
   obtain ⟨W2,hW2⟩:∃ W2,W1.setCell ⟨yb,yo+p,none⟩ (.int .i32 m)=W2:=⟨_,rfl⟩
   have yw2:Blk W2 yb 21 (A++ir (y.set p m)++C):=by
    have:=yw1.set (yo+p) (.int .i32 m)
    rw [seg_set _ hA (by rw [ir_len]; omega),hW2] at this
    have e:(ir y).set p (.int .i32 m)=ir (y.set p m):=by unfold ir; rw [List.map_set]
    rw [e] at this; exact this
   have kw2:Blk W2 g4 114 (ia pl):=by rw [← hW2]; exact kw1.other (a:=⟨yb,yo+p,none⟩) (by show g4≠yb; omega) _
   have gw2:w.grownBy W2 (some yb):=by rw [← hW2]; exact gb_set gw1 ⟨yb,yo+p,none⟩ _ (Or.inl rfl)
   have z0:W2.cell? ⟨gr,0,none⟩=some (.int .i32 m):=by rw [← hW2,World.cell?_setCell_other _ _ _ _ (by intro e; have:yb=gr:=congrArg Addr.block e; omega)]; exact x0
   have z1:W2.cell? ⟨gr,1,none⟩=some (.int .i64 c):=by rw [← hW2,World.cell?_setCell_other _ _ _ _ (by intro e; have:yb=gr:=congrArg Addr.block e; omega)]; exact x1
   have z2:W2.cell? ⟨g4,c,none⟩=some (.int .i64 p):=by rw [kw2.cell (ia_at (by omega)),hpc]
   have f4:=kw2.frozen c
   have hd:Hid (Od.Dealt k ms (i+1) (y.set p m)):=p2
   have hbig:(p:Int)+1≤3000001:=by omega
   have hin1:(p:Int)<ms.length:=by omega
   have hcc1:(c:Int)<255:=by omega
   have KW2:=Hd kw2
   have YW2:=Hd yw2
   have GW2:=Hd gw2
   have HPP:=Hd hpp
   have HPS:=Hd hps
   have HPC:=Hd hpc
   have HPE:=Hd hp
   have HCE:=Hd hc
   have HME:=Hd hm
   have hll:(y.set p m).length=ms.length:=by rw [List.length_set]; exact hyl2
   clear hde hyw hkw hgw hcl p2 hps hpp kw1 yw1 gw1 kw2 yw2 gw2 hpc hp hc hm HM HMK
   go_upto_region 4 with fail
   go_region_held3 (fun w'=>w'.cell? ⟨gr,0,none⟩=some (.int .i32 m)∧w'.cell? ⟨gr,1,none⟩=some (.int .i64 c)∧w'.cell? ⟨g4,c,none⟩=some (.int .i64 p)) (first | exact ⟨x0,x1,x2⟩ | exact ⟨z0,z1,z2⟩ | go_keep) (fail)
   go_wp2
   go_roundw
   case rel =>
    have kw3:Blk (W2.setCell ⟨g4,c,none⟩ (.int .i64 ((p:Int)+1))) g4 114 (ia (pl.set c ((p:Int)+1))):=by rw [← ia_set]; exact (Uh KW2).set c _
    have yw3:Blk (W2.setCell ⟨g4,c,none⟩ (.int .i64 ((p:Int)+1))) yb 21 (A++ir (y.set p m)++C):=(Uh YW2).other (a:=⟨g4,c,none⟩) (by show yb≠g4; omega) _
    have gw3:w.grownBy (W2.setCell ⟨g4,c,none⟩ (.int .i64 ((p:Int)+1))) (some yb):=gb_set (Uh GW2) ⟨g4,c,none⟩ _ (Or.inr hg4w)
    refine ⟨i+1,y.set p m,pl.set c ((p:Int)+1),by go_num,by omega,Uh hd,hll,yw3,by rw [List.length_set]; exact hpl,fun c' hc'=>?_,kw3,⟨gw3.os,gw3.tape,gw3.output,gw3.size,gw3.block⟩⟩
    rw [set_at pl c c' _ (by omega),(Uh HPS) c',Uh HME,Uh HCE]
    by_cases h:c'=c
    ·rw [if_pos h,if_pos (by rw [h]),h,Uh HPE]; rfl
    ·rw [if_neg h,if_neg (fun e=>h (by omega))]
     exact (Uh HPP) c' hc'
   case measure=>simp [intOf]; omega
  ·obtain rfl:i=ms.length:=by omega
   have he:=Od.dealt_end hde
   subst he
   have HYW:=Hd hyw
   have HGW:=Hd hgw
   clear hde hyw hkw hgw hpp HM HMK
   go_wp2
   go_end0
   exact ⟨rfl,Uh HYW,Uh HGW⟩
end Od
end Go.Proofs.YteccdnacpmbfcaaGreatDoor
