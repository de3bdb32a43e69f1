/- Lemmas. -/
import Derived.Test.YtkfcabdmkmljjaaGreatDoorF18
import Derived.Test.YtkfcabdmkmljjaaGreatDoorF3
set_option maxHeartbeats 4000000
set_option maxRecDepth 8000
namespace Go.Proofs.YtkfcabdmkmljjaaGreatDoor
open Go.Proofs.Tryz
open Go.RowKit
open Ti
section
variable{p:Prop}
theorem f3f(h:p:=by rw[List.getElem?_map,List.getElem?_eq_getElem hi];exact n7A):p:=h
theorem v2t(h:p:=by intro e;have:yb=L:=congrArg Addr.block e;exact f6J):p:=h
theorem I8a(h:p:=by obtain⟨z,_,rfl⟩:=List.mem_map.1 N;rfl):p:=h
theorem r9D(h:p:=by rw[<- z,<- ay];simp):p:=h
theorem v1t(h:p:=by have:g=c:=congrArg Addr.block e;exact f6J):p:=h
theorem n8y(h:p:=by simp[x3r,z255,n]):p:=h
end
namespace Od
def Blk(w:World)(g:Nat)(t:TypeId)(vs:List Value):Prop:=w.heap[g]?=some (.cells vs.toArray t (0,0))
theorem Blk.lt{w}{g t:Nat}{vs}(h:Blk w g t vs):g<w.heap.size:=(Array.getElem?_eq_some_iff.1 h).1
theorem Blk.cell{w}{g t:Nat}{vs}(h:Blk w g t vs){i v}(N:vs[i]?=some v):w.cell? ⟨g,i,none⟩=some v:=by
 rw[cell_of_row _ _ _ _ _ _ h];simpa using N
theorem Blk.frozen{w}{g t:Nat}{vs}(h:Blk w g t vs) i:w.frozen? ⟨g,i,none⟩=false:=frozen_of_row _ _ _ _ _ h
theorem Blk.set{w}{g t:Nat}{vs}(h:Blk w g t vs) i v:Blk (w.setCell ⟨g,i,none⟩ v) g t (vs.set i v):=by
 unfold Blk at h ⊢;rw[heap_setCell_same w g i _ _ _ h];simp
theorem Blk.other{w}{g t:Nat}{vs}(h:Blk w g t vs){a}(y:g≠a.block) v:Blk (w.setCell a v) g t vs:=by
 unfold Blk at h ⊢;exact i7e
theorem Blk.new(w:World)(t:Nat) vs C(l:C=vs.toArray):Blk (w.alloc (.cells C t)) w.heap.size t vs:=s7C
theorem Blk.alloc{w}{g t:Nat}{vs}(h:Blk w g t vs) o:Blk (w.alloc o) g t vs:=P1G
theorem Blk.below{w w'}{g t n:Nat}{vs}(h:Blk w g t vs)(Y:Below n w w')(F:g<n):Blk w' g t vs:=by
 unfold Blk at h ⊢;rw[Y.block g F];exact h
theorem Blk.range{w}{g t:Nat}{vs}(h:Blk w g t vs) o:w.rangeAt g o (vs.drop o):=fun j v N=>h.cell (by rw[List.getElem?_drop]at N;exact N)
theorem Blk.there{w}{g t:Nat}{vs}(h:Blk w g t vs){o n}(F:o+n<=vs.length):w.there g o n:=fun j R=>by
 refine⟨?_,h.frozen _⟩;rw[h.cell (List.getElem?_eq_getElem (f6J:o+j<vs.length))];rfl
theorem Blk.setCells{w}{g t:Nat}:∀(us:List Value) {K:List Value} (o:Nat),Blk w g t K->o+us.length<=K.length->Blk (w.setCells g o us) g t (K.take o++us++K.drop (o+us.length)):=by
 intro us
 induction us generalizing w with
 | nil=>intro K o h _;simpa[World.setCells]using h
 | cons u us ih =>
  intro K o h S;rw[World.setCells];have:=ih (o+1) (h.set o u) (by rw[List.length_set];simp at S;exact f6J)
  have e:(K.set o u).take (o+1)++us++(K.set o u).drop (o+1+us.length)=K.take o++(u::us)++K.drop (o+(u::us).length):=by
   simp only[List.length_cons]at S
   have Z:(K.set o u).take (o+1)=K.take o++[u]:=by
    rw[List.take_add_one,List.take_set_of_le (l0r _),List.getElem?_set_self f6J];rfl
   rw[Z,List.drop_set_of_lt f6J,List.length_cons,(f6J:o+1+us.length=o+(us.length+1))];simp
  rw[e]at this;exact this
def ia(zs:List Int):List Value:=zs.map (Value.int .i64)
def z255:List Int:=List.replicate 255 0
theorem y9h{zs i}(hi:i<zs.length):(ia zs)[i]?=some (.int .i64 (zs.getD i 0)):=by
 unfold ia;exact f3f
theorem y9i zs i v:(ia zs).set i (.int .i64 v)=ia (zs.set i v):=by unfold ia;rw[List.map_set]
theorem x3r zs:(ia zs).length=zs.length:=List.length_map _
theorem z5a zs:(ia zs).toArray.all (·.oneCell')=true:=all_oneCell_toArray (fun v N=>I8a)
theorem x3d:(prog.info? 290).map (·.size)=some 255:=f4x
end Od
open Ti
namespace Od
def beg(cs:List Int):List Int:=(List.range 255).map fun i=>(cs.take i).sum
theorem x4C cs:(beg cs).length=255:=by simp[beg]
theorem z4Q cs{i}(hi:i<255):(beg cs).getD i 0=(cs.take i).sum:=by simp[beg,List.getD,hi]
theorem z5t(cs:List Int)(h:∀c∈cs,0<=c/\c<=3000000):∀k:Nat,0<=(cs.take k).sum/\(cs.take k).sum<=3000000*(k:Int)
 | 0=>M7K
 | k+1=>by
  have B:=z5t cs h k;rw[List.take_add_one,List.sum_append]
  cases hk:cs[k]? with
  | none=>exact f4R
  | some c =>
   have:=h c (List.mem_of_getElem? hk);simp;omega
theorem y4I{cs:List Int}{k}(G:k<cs.length):(cs.take (k+1)).sum=(cs.take k).sum+cs.getD k 0:=by
 rw[List.take_add_one,List.sum_append,List.getElem?_eq_getElem G];exact w7Y
theorem z8z:Tryz.zeroCells290=(ia z255).toArray:=f4x
theorem x4k{a b:List Int}{n}(E:a.length=n)(Y:b.length=n)(h:∀j,j<n->a.getD j 0=b.getD j 0):a=b:=by
 apply List.ext_getElem f6J;intro i Z D;have:=h i f6J;simpa[List.getD,Z,D]using this
theorem y1s g mv cs w(hr:Blk w g 292 (mv::ia cs))(hl:cs.length=255)(hc:∀c∈cs,0<=c/\c<=3000000):Calls prog 289 #[.pointer (some ⟨g,0,none⟩)] w fun e w'=>e=.returned (.agg (ia (beg cs)).toArray)/\Bw w w':=by
 obtain⟨W1,z⟩:∃W1,w.alloc (.cells Tryz.zeroCells290 290)=W1:=⟨_,rfl⟩;obtain⟨M,f⟩:∃M,W1.alloc (.cells Tryz.zeroCells290 290)=M:=⟨_,rfl⟩;have F:Bw w W1:=(by rw[<- z];exact t9C);have N:W1.heap.size=w.heap.size+1:=(by rw[<- z];exact M7O);have t:Bw w M:=by rw[<- f];exact F.alloc f6J _
 have k1:Blk M w.heap.size 290 (ia z255):=by
  rw[<- f];refine Blk.alloc ?_ _;rw[<- z];exact Blk.new w _ _ _ z8z
 have k2:Blk M (w.heap.size+1) 290 (ia z255):=(by rw[<- f,<- N];exact Blk.new W1 _ _ _ z8z);have n:=hr.lt;have HR:=O hr;have HC:=O hc;have aA:Hid (∀k,0<=(cs.take k).sum/\(cs.take k).sum<=3000000*(k:Int)):=z5t cs hc;have aB:Hid (∀k,k<255->(cs.take (k+1)).sum=(cs.take k).sum+cs.getD k 0):=fun k hk=>y4I f6J;have aw:Hid ((cs.take 0).sum=0):=(by grind);have ar:Hid (∀zs:List Int,zs.length=255->(∀j,j<255->zs.getD j 0=(cs.take j).sum)->zs=beg cs):=fun zs Z h2=>x4k Z (x4C cs) (fun j R=>by rw[h2 j R,z4Q cs R])
 have D:Hid (∀(W:World),Bw w W->∀k:Nat,k<255->W.cell? ⟨g,1+k,none⟩=some (.int .i64 (cs.getD k 0))):=fun W hW k hk=>by
  rw[hW.cell n];refine hr.cell ?_;rw[Nat.add_comm,List.getElem?_cons_succ];exact y9h f6J
 have L:Hid (∀k:Nat,k<255->0<=cs.getD k 0/\cs.getD k 0<=3000000):=fun k hk=>hc _ (by simp[List.getD,(f6J:k<cs.length)]);obtain⟨K,ae⟩:∃K,K=w.heap.size+1:=⟨_,rfl⟩;obtain⟨A,I⟩:∃A,A=w.heap.size:=⟨_,rfl⟩;have aD:A≠K:=f6J;have aj:w.heap.size<=A:=f6J;have J:w.heap.size<=K:=f6J;rw[<- I]at k1;rw[<- ae]at k2 N;have l:=O k1;have K2:=O k2;have X:=O t;have aF:=I.symm;have Z0:Hid (z255.length=255):=(by show _=_;simp[z255]);clear hr hc F t k1 k2 I ae hl;go_enter func289,ntmps289;go_wp2;go_loopw[4,5,6] (fun nn _ kk wr=>∃(k:Nat) (zs:List Int),kk=.int .i64 k/\nn=.int .i64 (cs.take k).sum/\k<=255/\zs.length=255/\Blk wr K 290 (ia zs)/\Blk wr A 290 (ia z255)/\Bw w wr/\∀j,j<k->zs.getD j 0=(cs.take j).sum) (fun _ _ kk _=>255-(intOf kk).toNat)
 case atStart=>exact⟨0,z255,rfl,by rw[V aw],f6J,V Z0,V K2,V l,V X,fun j R=>f6J⟩
 case round =>
  obtain⟨k,zs,rfl,rfl,hk,b,B,U,Y,o⟩:=hrel;have aJ:=V aA k;by_cases E:k<255
  ·have u:=V aB k E;have aH:=V D wr Y k E;obtain⟨q0,q1⟩:=V L k E;have aG:=B.cell (y9h (zs:=zs) (i:=k) f6J);have aI:=B.frozen k;have C:Blk (wr.setCell ⟨K,k,none⟩ (.int .i64 (cs.take k).sum)) K 290 (ia (zs.set k (cs.take k).sum)):=(by rw[<- y9i];exact B.set k _);have ab:=U.other (a:=⟨K,k,none⟩) aD (.int .i64 (cs.take k).sum);have t:=Y.setCell (p:=⟨K,k,none⟩) J (.int .i64 (cs.take k).sum);have G:(wr.setCell ⟨K,k,none⟩ (.int .i64 (cs.take k).sum)).cell? ⟨g,1+k,none⟩=some (.int .i64 (cs.getD k 0)):=V D _ t k E
   have H:Hid (∀j,j<k+1->(zs.set k (cs.take k).sum).getD j 0=(cs.take j).sum):=by
    intro j R;rw[x8L zs k j _ f6J];split
    ·rename_i e;rw[e]
    ·exact o j f6J
   obtain⟨W5,S⟩:∃W5,wr.setCell ⟨K,k,none⟩ (.int .i64 (cs.take k).sum)=W5:=⟨_,rfl⟩;rw[S]at C ab t G;have Q:=O C;have aC:=O ab;have HB:=O t;have ay:=O u;generalize hq:cs.getD k 0=q,hs:(cs.take k).sum=s at *;have r:(0:Int)<=(k:Int):=f6J;have m:(k:Int)<255:=f6J;go_wp2
   go_roundw
   case rel=>exact⟨k+1,zs.set k s,g2A,by rw[V ay],f6J,by simp[b],V Q,V aC,V HB,V H⟩
   case measure=>exact g7T
  ·obtain rfl:k=255:=f6J;have x:=V ar zs b o;subst x;go_upto_region 9 with fail;refine wp_region_list ?_;have T:=B.range 0;rw[List.drop_zero]at T;refine wpList_load_mid (by rfl) 290 (.tmp 3) (by rfl) K 0 (by rfl) (ia (beg cs)) _ T underlying290 (by rfl) (by rw[x3r,x4C];exact x3d) ?_;have aq:wr.there A 0 (ia (beg cs)).toArray.size:=U.there (by simp[x3r,x4C,z255]);refine wpList_store_mid (by rfl) 290 (.tmp 2) (.tmp 21) (by rfl) A 0 (ia (beg cs)).toArray (by rfl) (by rfl) aq (by rw[show(ia (beg cs)).toArray.size=255 by simp[x3r,x4C]];exact x3d) (z5a _) ?_;have am:=World.rangeAt_setCells_same wr A 0 (ia (beg cs)) (by simpa using aq);have d:Bw w (wr.setCells A 0 (ia (beg cs))):=x0H aj _ _ _ Y;have y:=run_loadVar_mid (P:=prog) _ A 0 290 (ia (beg cs)) _ am underlying290 (by rfl) (by rw[x3r,x4C];exact x3d);go_wp2;exact bodyPost_ret (v:=.agg (ia (beg cs)).toArray) (x2w rfl _ _ _ A _ (by rfl) y) rfl ⟨rfl,d⟩
end Od
namespace Od
def fl(k:Int->Int)(j:Int)(l:List Int):List Int:=l.filter fun m=>decide (k m=0\/k m=j)
def bkN(k:Int->Int)(ms:List Int)(n:Nat):List Int:=(List.range n).flatMap fun(c:Nat)=>ms.filter fun m=>decide (k m=(c:Int))
def bkt(k:Int->Int)(ms:List Int):List Int:=bkN k ms 255
def ordA(k:Int->Int):List Int->List Int->List Int
 | ms,[]=>bkt k ms
 | ms,c::l=>if k c=0 then bkt k ms++c::ordA k [] l else ordA k (ms++[c]) l
def ord(k:Int->Int)(xs:List Int):List Int:=ordA k [] xs
def Mk(k:Int->Int)(ms:List Int):Prop:=∀m∈ms,1<=k m/\k m<=254
theorem y7D k:bkt k []=[]:=by
 unfold bkt bkN;simp
theorem x8Y k ms n:bkN k ms (n+1)=bkN k ms n++ms.filter fun m=>decide (k m=(n:Int)):=by
 simp[bkN,List.range_succ,List.flatMap_append]
theorem z2Q(p q r:Int->Bool)(h:∀m,r m=(p m||q m))(hd:∀m,¬(p m=true/\q m=true))(ms:List Int):(ms.filter r).length=(ms.filter p).length+(ms.filter q).length:=by
 induction ms with
 | nil=>rfl
 | cons m ms ih=>grind
theorem z5T k ms(h:∀m∈ms,0<=k m) n:(bkN k ms n).length=(ms.filter fun m=>decide (k m<(n:Int))).length:=by
 induction n with
 | zero =>
  have:(ms.filter fun m=>decide (k m<((0:Nat):Int)))=[]:=f0h;rw[this];rfl
 | succ n ih =>
  rw[x8Y,List.length_append,ih];refine(z2Q _ _ _ (fun m=>?_) (fun m=>?_) ms).symm
  ·grind
  ·exact f4R
theorem x8Z{k ms}(h:Mk k ms):(bkt k ms).length=ms.length:=by
 unfold bkt;rw[z5T k ms (fun m o=>by have:=h m o;exact f6J),List.filter_eq_self.2];intro m o;have:=h m o;exact f4R
theorem z5U{k ms n x}(h:x∈bkN k ms n):x∈ms/\0<=k x/\k x<n:=by
 unfold bkN at h;rw[List.mem_flatMap]at h;obtain⟨c,I,A⟩:=h;rw[List.mem_range]at I;rw[List.mem_filter]at A;have:=o0d A.2;exact⟨A.1,f6J,f6J⟩
theorem z2i k ms j n:((bkN k ms n).filter fun m=>decide (k m=j))=if 0<=j/\j<n then ms.filter fun m=>decide (k m=j)else[]:=by
 induction n with
 | zero=>rw[if_neg f6J];rfl
 | succ n ih =>
  rw[x8Y,List.filter_append,ih,List.filter_filter];by_cases h:j=(n:Int)
  ·grind
  ·have:(ms.filter fun a=>decide (k a=j)&&decide (k a=(n:Int)))=[]:=by
    rw[List.filter_eq_nil_iff];intro m _;exact f4R
   rw[this,List.append_nil];by_cases Z:0<=j/\j<(n:Int)
   ·rw[if_pos Z,if_pos f6J]
   ·rw[if_neg Z,if_neg f6J]
theorem y3Z{k ms}(h:Mk k ms) j:fl k j ms=if 1<=j/\j<=254 then ms.filter (fun m=>decide (k m=j))else[]:=by
 unfold fl;by_cases R:1<=j/\j<=254
 ·rw[if_pos R];refine List.filter_congr (fun m o=>?_);have:=h m o;exact f4R
 ·rw[if_neg R,List.filter_eq_nil_iff];intro m o;have:=h m o;exact f4R
theorem z8W{k ms}(h:Mk k ms):Mk k (bkt k ms):=fun m o=>h m (z5U o).1
theorem z4W{k ms}(h:Mk k ms) j:fl k j (bkt k ms)=fl k j ms:=by
 rw[y3Z (z8W h),y3Z h];by_cases R:1<=j/\j<=254
 ·rw[if_pos R,if_pos R];unfold bkt;rw[z2i,if_pos f6J]
 ·rw[if_neg R,if_neg R]
theorem y0N k j a b:fl k j (a++b)=fl k j a++fl k j b:=by unfold fl;exact List.filter_append ..
theorem y8O k j c l:fl k j (c::l)=if k c=0\/k c=j then c::fl k j l else fl k j l:=by
 unfold fl;rw[List.filter_cons];by_cases h:k c=0\/k c=j
 ·grind
 ·grind
theorem y2Q{k ms c}(h:Mk k ms)(Z:1<=k c)(D:k c<=254):Mk k (ms++[c]):=by
 intro m hm;rcases List.mem_append.1 hm with hm | hm
 ·exact h m hm
 ·grind
theorem y2z{k:Int->Int}(G:∀c,0<=k c/\k c<=254)(j:Int):∀(l ms:List Int),Mk k ms->fl k j (ordA k ms l)=fl k j (ms++l)
 | [],ms,h=>by rw[ordA,z4W h,List.append_nil]
 | c::l,ms,h=>by
  rw[ordA];by_cases I:k c=0
  ·rw[if_pos I,y0N,y0N,z4W h,y8O,y8O,y2z G j l [] (fun _ h=>m5j)];rfl
  ·rw[if_neg I,y2z G j l _ (y2Q h (by have:=G c;exact f6J) (G c).2)];simp
theorem z9L{k}(G:∀c,0<=k c/\k c<=254) j xs:fl k j (ord k xs)=fl k j xs:=y2z G j xs [] (fun _ h=>m5j)
theorem x9N{k:Int->Int}(G:∀c,0<=k c/\k c<=254):∀(l ms:List Int),Mk k ms->(ordA k ms l).length=ms.length+l.length
 | [],ms,h=>by rw[ordA,x8Z h];rfl
 | c::l,ms,h=>by
  rw[ordA];by_cases I:k c=0
  ·rw[if_pos I,List.length_append,x8Z h,List.length_cons,x9N G l [] (fun _ h=>m5j)];simp
  ·rw[if_neg I,x9N G l _ (y2Q h (by have:=G c;exact f6J) (G c).2)];simp;omega
theorem z0q{k}(G:∀c,0<=k c/\k c<=254) xs:(ord k xs).length=xs.length:=by
 unfold ord;rw[x9N G xs [] (fun _ h=>m5j)];simp
theorem z0r{k}(G:∀c,0<=k c/\k c<=254){xs x}(h:x∈ord k xs):x∈xs:=by
 have Z:x∈fl k (k x) (ord k xs):=List.mem_filter.2 ⟨h,M7K⟩;rw[z9L G]at Z;exact(List.mem_filter.1 Z).1
end Od
namespace Od
theorem x4J(f:Nat->List Int) n:(List.range (n+1)).flatMap f=(List.range n).flatMap f++f n:=by
 simp[List.range_succ,List.flatMap_append]
theorem z9M(f:Nat->List Int){c n}(h:c<n):((List.range c).flatMap f).length+(f c).length<=((List.range n).flatMap f).length:=by
 induction n with
 | zero=>omega
 | succ n ih =>
  rw[x4J,List.length_append];rcases Nat.lt_succ_iff_lt_or_eq.1 h with h | rfl
  ·have:=ih h;omega
  ·exact l0r _
theorem x6a{f g:Nat->List Int}{n}(h:∀i,i<n->f i=g i):(List.range n).flatMap f=(List.range n).flatMap g:=by
 induction n with
 | zero=>rfl
 | succ n ih=>rw[x4J,x4J,ih (fun i hi=>h i f6J),h n f6J]
theorem z9N(f g:Nat->List Int){c r n} v(I:c<n)(hr:r<(f c).length)(H:g c=(f c).set r v)(hd:∀i,i≠c->g i=f i):((List.range n).flatMap f).set (((List.range c).flatMap f).length+r) v=(List.range n).flatMap g:=by
 induction n with
 | zero=>omega
 | succ n ih =>
  rw[x4J,x4J];rcases Nat.lt_succ_iff_lt_or_eq.1 I with h | rfl
  ·have:=z9M f h;rw[List.set_append_left _ _ f6J,ih h,hd n f6J]
  ·rw[List.set_append_right _ _ f6J,(f6J:((List.range c).flatMap f).length+r-((List.range c).flatMap f).length=r),<- H,x6a (fun i hi=>(hd i f6J).symm)]
def ft(k:Int->Int)(c:Nat)(l:List Int):List Int:=l.filter fun m=>decide (k m=(c:Int))
theorem z5V k ms n:bkN k ms n=(List.range n).flatMap fun c=>ft k c ms:=rfl
theorem x6I k c a b:ft k c (a++b)=ft k c a++ft k c b:=by unfold ft;exact List.filter_append ..
def y4P(k:Int->Int)(ms:List Int)(j:Nat)(y:List Int):Prop:=∃J:Nat->List Int,y=(List.range 255).flatMap (fun c=>ft k c (ms.take j)++J c)/\∀c,c<255->(J c).length=(ft k c (ms.drop j)).length
theorem split(g:Nat->Nat):∀(n:Nat) (y:List Int) (_:y.length=((List.range n).map g).sum),∃J:Nat->List Int,y=(List.range n).flatMap J/\∀c,c<n->(J c).length=g c
 | 0,y,h=>⟨fun _=>[],S4r,fun c I=>f6J⟩
 | n+1,y,h=>by
  rw[List.range_succ,List.map_append,List.sum_append]at h;simp only[List.map_cons,List.map_nil,List.sum_cons,List.sum_nil,Nat.add_zero]at h;obtain⟨J,Z,D⟩:=split g n (y.take (y.length-g n)) U3s;refine⟨fun i=>if i=n then y.drop (y.length-g n)else J i,?_,fun c I=>?_⟩
  ·rw[x4J,if_pos rfl,x6a (g:=J) (fun i hi=>by rw[if_neg f6J]),<- Z,List.take_append_drop]
  ·by_cases A:c=n
   ·subst A;simp only[if_true,List.length_drop];omega
   ·simp only[if_neg A];exact D c f6J
theorem y8Q(f:Nat->List Int) n:((List.range n).flatMap f).length=((List.range n).map fun c=>(f c).length).sum:=f0h
theorem y2q{k ms y}(h:Mk k ms)(hy:y.length=ms.length):y4P k ms 0 y:=by
 obtain⟨J,Z,D⟩:=split (fun c=>(ft k c ms).length) 255 y (by rw[hy,<- x8Z h];unfold bkt;rw[z5V,y8Q]);refine⟨J,?_,fun c I=>?_⟩
 ·rw[Z];exact x6a (fun i _=>by simp[ft])
 ·rw[List.drop_zero];exact D c I
theorem y8j{k ms y}(h:y4P k ms ms.length y):y=bkt k ms:=by
 obtain⟨J,Z,D⟩:=h;rw[Z];unfold bkt;rw[z5V];refine x6a (fun i hi=>?_);have:=D i hi;rw[List.drop_length]at this;rw[List.take_length,List.eq_nil_of_length_eq_zero (l:=J i) (by rw[this];rfl),List.append_nil]
def plc(k:Int->Int)(ms:List Int)(j c:Nat):Nat:=(bkN k ms c).length+(ft k c (ms.take j)).length
theorem z2V k c ms j:(ft k c (ms.take j)).length+(ft k c (ms.drop j)).length=(ft k c ms).length:=by
 rw[<- List.length_append,<- x6I,List.take_append_drop]
theorem y2D{k} c{ms:List Int}{j}(R:j<ms.length):ft k c (ms.take (j+1))=ft k c (ms.take j)++if k (ms.getD j 0)=c then[ms.getD j 0]else[]:=by
 rw[List.take_add_one,x6I,List.getElem?_eq_getElem R];have:ms.getD j 0=ms[j]:=t7U;rw[this];unfold ft;by_cases h:k ms[j]=(c:Int)<;>simp[h]
theorem y8R{k} c{ms:List Int}{j}(R:j<ms.length):ft k c (ms.drop j)=(if k (ms.getD j 0)=c then[ms.getD j 0]else[])++ft k c (ms.drop (j+1)):=by
 have:ms.getD j 0=ms[j]:=t7U;rw[List.drop_eq_getElem_cons R,this];unfold ft;rw[List.filter_cons];by_cases h:k ms[j]=(c:Int)
 ·grind
 ·grind
theorem y5u{k ms y}{j c:Nat}(h:y4P k ms j y)(R:j<ms.length)(I:k (ms.getD j 0)=c)(N:c<255):plc k ms j c<y.length/\y4P k ms (j+1) (y.set (plc k ms j c) (ms.getD j 0)):=by
 obtain⟨J,Z,D⟩:=h;have t:=D c N;rw[y8R c R,if_pos I,List.length_append,List.length_singleton]at t
 have Y:(bkN k ms c).length=((List.range c).flatMap fun c=>ft k c (ms.take j)++J c).length:=by
  rw[z5V,y8Q,y8Q];congr 1;refine List.map_congr_left (fun i hi=>?_);rw[List.mem_range]at hi;rw[List.length_append,D i f6J,z2V]
 have B:=z9M (fun c=>ft k c (ms.take j)++J c) N;simp only[List.length_append]at B;unfold plc;rw[Z,Y];refine⟨f6J,fun i=>if i=c then(J c).drop 1 else J i,?_,fun i hi=>?_⟩
 ·refine z9N _ _ _ N u7B ?_ (fun i hi=>?_)
  ·simp only[if_true];rw[y2D c R,if_pos I,List.set_append_right _ _ (l0r _),Nat.sub_self]
   cases hq:J c with
   | nil=>grind
   | cons x l=>simp
  ·simp only[if_neg hi];rw[y2D i R,if_neg (fun e=>hi f6J),List.append_nil]
 ·by_cases C:i=c
  ·grind
  ·simp only[if_neg C];rw[D i hi,y8R i R,if_neg (fun e=>C f6J),List.nil_append]
theorem z3S{k ms j} c(R:j<ms.length):plc k ms (j+1) c=if k (ms.getD j 0)=c then plc k ms j c+1 else plc k ms j c:=by
 unfold plc;rw[y2D c R];by_cases h:k (ms.getD j 0)=c
 ·grind
 ·grind
theorem z3T k ms c:plc k ms 0 c=(bkN k ms c).length:=by simp[plc,ft]
theorem z2j k ms c:(bkN k ms (c+1)).length=(bkN k ms c).length+(ft k c ms).length:=by rw[x8Y,List.length_append];rfl
end Od
open Ti
namespace Od
def ir(zs:List Int):List Value:=zs.map (Value.int .i32)
theorem x3t zs:(ir zs).length=zs.length:=List.length_map _
theorem ir_at{zs i}(hi:i<zs.length):(ir zs)[i]?=some (.int .i32 (zs.getD i 0)):=by
 unfold ir;exact f3f
def mc(k:Int->Int)(ms:List Int):List Value:=ms.flatMap fun m=>[.int .i32 m,.int .i64 (k m)]
theorem q0i k ms:(mc k ms).length=ms.length*2:=by
 induction ms with
 | nil=>rfl
 | cons m ms ih=>simp only[mc,List.flatMap_cons,List.length_append,List.length_cons,List.length_nil]at ih ⊢;omega
theorem q0h{k:Int->Int}:∀{ms:List Int} {i:Nat},i<ms.length->(mc k ms)[i*2]?=some (.int .i32 (ms.getD i 0))/\(mc k ms)[i*2+1]?=some (.int .i64 (k (ms.getD i 0)))
 | [],i,h=>by simp at h
 | m::ms,0,_=>⟨rfl,rfl⟩
 | m::ms,i+1,h=>by
  have:=q0h (k:=k) (ms:=ms) (i:=i) S4r;simp only[mc,List.flatMap_cons,(f6J:(i+1)*2=i*2+1+1)]at this ⊢;exact W2K
theorem y4d{w wr:World}{row}(h:w.grownBy wr row) o:w.grownBy (wr.alloc o) row:=⟨h.os,h.tape,h.output,by have:=h.size;exact P8P,fun k G F=>by rw[Below.heap_alloc wr o k (by have:=h.size;exact f6J)];exact g5I⟩
theorem y8W{w wr:World}{row}(h:w.grownBy wr row) p v(s:some p.block=row\/w.heap.size<=p.block):w.grownBy (wr.setCell p v) row:=by
 have b:=(Below.refl 0 wr).setCell (p:=p) (Nat.zero_le _) v;refine⟨b.os.trans h.os,b.tape.trans h.tape,b.output.trans h.output,Nat.le_trans h.size b.size,fun k G F=>?_⟩;rw[heap_setCell_other wr p k v ?_]
 ·exact g5I
 ·grind
theorem z3a{w wr w':World}{row B}(h:w.grownBy wr row)(Y:Below B wr w')(m:w.heap.size<=B):w.grownBy w' row:=⟨Y.os.trans h.os,Y.tape.trans h.tape,Y.output.trans h.output,by have:=h.size;have:=Y.size;exact f6J,fun k G F=>by rw[Y.block k f6J];exact g5I⟩
theorem Blk.kept{w w'}{g t:Nat}{vs row}(h:Blk w g t vs)(H:w.grownBy w' row)(y:some g≠row):Blk w' g t vs:=(H.block g h.lt y).trans h
def cnts(k:Int->Int)(ms:List Int):List Int:=(List.range 255).map fun c=>((Od.ft k c ms).length:Int)
theorem x1r k ms:(cnts k ms).length=255:=by simp[cnts]
theorem x9c k ms{c}(I:c<255):(cnts k ms).getD c 0=((Od.ft k c ms).length:Int):=by simp[cnts,List.getD,I]
theorem y3Q(k:Int->Int)(ms:List Int):∀c:Nat,c<=255->((cnts k ms).take c).sum=((Od.bkN k ms c).length:Int)
 | 0,_=>by simp[Od.bkN]
 | c+1,h=>by
  rw[y4I (by rw[x1r];exact f6J),y3Q k ms c f6J,x9c k ms f6J,Od.z2j];simp
theorem z5S k ms{c}(I:c<255):(beg (cnts k ms)).getD c 0=(Od.plc k ms 0 c:Int):=by
 rw[z4Q _ I,y3Q k ms c f6J,Od.z3T]
theorem y3O k ms(h:ms.length<=3000000):∀c∈cnts k ms,0<=c/\c<=3000000:=fun c I=>by
 obtain⟨i,_,rfl⟩:=List.mem_map.1 I;have:(Od.ft k i ms).length<=ms.length:=List.length_filter_le _ _;omega
theorem q0Q{A B C:List Value}{o i}(c:A.length=o)(hi:i<B.length):(A++B++C)[o+i]?=B[i]?:=by grind
theorem z7X{A B C:List Value}{o i} v(c:A.length=o)(hi:i<B.length):(A++B++C).set (o+i) v=A++B.set i v++C:=by grind
theorem x4E{g g2 t:Nat}{us:List Value}(h:g≠g2):∀(K:List Value) (o:Nat) (wr:World) (_:Blk wr g t us),Blk (wr.setCells g2 o K) g t us
 | [],_,_,b=>b
 | v::K,o,_,b=>x4E h K (o+1) _ (b.other (a:=⟨g2,o,none⟩) h v)
theorem x5i{P ops rest B}{a w w' Q}(C:B.guard=none) ty(x y:Operand)(R:B.op=.store ty x y) b o cells(A:a.eval x=.pointer (some ⟨b,o,none⟩))(hy:a.eval y=.agg cells)(K:w.there b o cells.size)(hi:(P.info? ty).map (·.size)=some cells.size)(Z:cells.all (·.oneCell')=true)(D:w.setCells b o cells.toList=w')(h:wpList P ops Q rest (a.put B.dst undef) w'):wpList P ops Q (B::rest) a w:=by
 subst D;exact wpList_store_mid C ty x y R b o cells A hy K hi Z h
theorem x6J{w:World}{row:Option Nat}(g:Nat)(s:some g=row\/w.heap.size<=g):∀(K:List Value) (o:Nat) (wr:World) (_:w.grownBy wr row),w.grownBy (wr.setCells g o K) row
 | [],_,_,h=>h
 | v::K,o,_,h=>x6J g s K (o+1) _ (y8W h ⟨g,o,none⟩ v s)
theorem y5t k g mb mcap yb yo ycap ms ys J A C w(hr:Blk w g 292 (.slice (some ⟨mb,0,none⟩) ms.length mcap::ia (cnts k ms)))(o:Blk w mb 295 (mc k ms++J))(aK:ms.length<=mcap/\mcap<=9223372036854775807)(hy:Blk w yb 21 (A++ir ys++C))(hA:A.length=yo)(u:ys.length=ms.length)(aR:ms.length<=ycap/\ycap<=9223372036854775807)(hk:Od.Mk k ms)(hn:ms.length<=3000000)(aI:g≠yb)(aL:mb≠yb):Calls prog 255 #[.pointer (some ⟨g,0,none⟩),.slice (some ⟨yb,yo,none⟩) ms.length ycap] w fun e w'=>e=.returned (.tuple #[])/\Blk w' yb 21 (A++ir (Od.bkt k ms)++C)/\w.grownBy w' (some yb):=by
 have K1:=O (y1s g _ (cnts k ms) w hr (x1r k ms) (y3O k ms hn));obtain⟨bj,bm⟩:=aK;obtain⟨bp,bt⟩:=aR;have HY:=O hy
 have HM:Hid (∀(W:World),w.grownBy W (some yb)->∀i:Nat,i<ms.length->W.cell? ⟨mb,i*2,none⟩=some (.int .i32 (ms.getD i 0))/\W.cell? ⟨mb,i*2+1,none⟩=some (.int .i64 (k (ms.getD i 0)))):=fun W hW i hi=>by
  have h:=o.kept hW (fun e=>aL (by simpa using e));have h2:=q0h (k:=k) hi;have hl:=q0i k ms;exact⟨h.cell (by rw[List.getElem?_append_left f6J];exact h2.1),h.cell (by rw[List.getElem?_append_left f6J];exact h2.2)⟩
 have aQ:=hy.lt;have r:w.cell? ⟨g,0,none⟩=some (.slice (some ⟨mb,0,none⟩) ms.length mcap):=hr.cell rfl;have aw:Hid (∀(W:World),w.grownBy W (some yb)->W.cell? ⟨g,0,none⟩=some (.slice (some ⟨mb,0,none⟩) ms.length mcap)):=fun W hW=>(hr.kept hW (fun e=>aI (by simpa using e))).cell rfl;have Z:=O (Od.y2q hk u);have Y:=O hk;have v:=O (x4C (cnts k ms));have d:Hid (∀c,c<255->(beg (cnts k ms)).getD c 0=(Od.plc k ms 0 c:Int)):=fun c I=>z5S k ms I;generalize beg (cnts k ms)=bg at *;go_enter func255,ntmps255;go_wp2_with fail;refine c0m K1 fun Q b1=>?_;have bn:=b1.size;obtain⟨M,f⟩:∃M,Q.alloc (.cells Tryz.zeroCells290 290)=M:=⟨_,rfl⟩;have k2:Blk M Q.heap.size 290 (ia z255):=(by rw[<- f];exact Blk.new Q _ _ _ z8z);have g2:w.grownBy M (some yb):=(by rw[<- f];exact y4d (z3a (World.grownBy.refl w _) b1 (l0r _)) _);obtain⟨R,s⟩:∃R,Q.heap.size=R:=⟨_,rfl⟩;rw[s]at k2;have D:w.heap.size<=R:=f6J;have n:=V v;have aP:M.there R 0 (ia bg).toArray.size:=k2.there n8y;have aO:(ia bg).toArray.size=255:=(by simp[x3r,n]);obtain⟨T,x⟩:∃T,M.setCells R 0 (ia bg).toArray.toList=T:=⟨_,rfl⟩
 have k3:Blk T R 290 (ia bg):=by
  have:=k2.setCells (ia bg) 0 n8y;rw[<- x];rw[List.take_zero,List.nil_append,List.drop_of_length_le n8y,List.append_nil]at this;exact this
 have g3:w.grownBy T (some yb):=by rw[<- x];exact x6J R (Or.inr D) _ _ _ g2
 have y3:Blk T yb 21 (A++ir ys++C):=by
  have h1:Q.heap[yb]?=w.heap[yb]?:=b1.block yb aQ;have h2:Blk Q yb 21 (A++ir ys++C):=h1.trans (V HY);have h3:Blk M yb 21 (A++ir ys++C):=(by rw[<- f];exact h2.alloc _);rw[<- x];exact x4E f6J _ _ _ h3
 have r:=V aw T g3;have K3:=O k3;have G3:=O g3;have Y3:=O y3;go_wp2_with(refine x5i (by rfl) 290 (.tmp 4) (.tmp 8) (by rfl) R 0 (ia bg).toArray (by rfl) (by rfl) aP (by rw[aO];exact x3d) (z5a _) x ?_);go_loopw[6,14] (fun _ kk wr=>∃(i:Nat) (y X:List Int),kk=.int .i64 i/\i<=ms.length/\Od.y4P k ms i y/\y.length=ms.length/\Blk wr yb 21 (A++ir y++C)/\X.length=255/\(∀c,c<255->X.getD c 0=(Od.plc k ms i c:Int))/\Blk wr R 290 (ia X)/\w.grownBy wr (some yb)) (fun _ kk _=>ms.length-(intOf kk).toNat)
 case atStart=>exact⟨0,ys,bg,rfl,f6J,V Z,u,V Y3,V v,V d,V K3,V G3⟩
 case round =>
  obtain⟨i,y,X,rfl,bh,ae,B,b,aM,K,am,t⟩:=hrel;by_cases E:i<ms.length
  ·obtain⟨c0,c1⟩:=V HM wr t i E;have be:=V Y (ms.getD i 0) N0e;obtain⟨c,I⟩:∃c:Nat,k (ms.getD i 0)=(c:Int):=⟨(k (ms.getD i 0)).toNat,f6J⟩;have N:c<255:=f6J;obtain⟨p1,p2⟩:=Od.y5u ae E I N;have aN:=fun G=>Od.z3S (k:=k) G E;have H:=K c N;obtain⟨p,hp⟩:∃p,Od.plc k ms i c=p:=⟨_,rfl⟩;rw[hp]at H p1 p2;rw[I]at c1;obtain⟨m,o⟩:∃m,ms.getD i 0=m:=⟨_,rfl⟩;rw[o]at c0 p2 I;obtain⟨L,aj⟩:∃L,wr.heap.size=L:=⟨_,rfl⟩;have aX:=t.size;have aZ:=am.lt;obtain⟨q,z⟩:∃q,wr.alloc (.cells #[.int .i32 m,.int .i64 c] 295)=q:=⟨_,rfl⟩;have x0:q.cell? ⟨L,0,none⟩=some (.int .i32 m):=(by rw[<- z,<- aj];exact M7O);have x1:q.cell? ⟨L,1,none⟩=some (.int .i64 c):=(by rw[<- z,<- aj];exact M7O);have aq:Blk q R 290 (ia X):=(by rw[<- z];exact am.alloc _);have ab:Blk q yb 21 (A++ir y++C):=(by rw[<- z];exact b.alloc _);have aF:w.grownBy q (some yb):=(by rw[<- z];exact y4d t _);have x2:q.cell? ⟨R,c,none⟩=some (.int .i64 p):=(by rw[aq.cell (y9h f6J),H]);have x3:q.cell? ⟨yb,yo+p,none⟩=some (.int .i32 (y.getD p 0)):=ab.cell (by rw[q0Q hA (by rw[x3t];exact f6J)];exact ir_at f6J);have f3:=ab.frozen (yo+p);obtain⟨M,f⟩:∃M,q.setCell ⟨yb,yo+p,none⟩ (.int .i32 m)=M:=⟨_,rfl⟩
   have aT:Blk M yb 21 (A++ir (y.set p m)++C):=by
    have:=ab.set (yo+p) (.int .i32 m);rw[z7X _ hA (by rw[x3t];exact f6J),f]at this;have e:(ir y).set p (.int .i32 m)=ir (y.set p m):=(by unfold ir;rw[List.map_set]);rw[e]at this;exact this
   have F:Blk M R 290 (ia X):=(by rw[<- f];exact aq.other (a:=⟨yb,yo+p,none⟩) (by show R≠yb;exact f6J) _);have aG:w.grownBy M (some yb):=(by rw[<- f];exact y8W aF ⟨yb,yo+p,none⟩ _ (Or.inl rfl));have z0:M.cell? ⟨L,0,none⟩=some (.int .i32 m):=(by rw[<- f,World.cell?_setCell_other _ _ _ _ v2t];exact x0);have z1:M.cell? ⟨L,1,none⟩=some (.int .i64 c):=(by rw[<- f,World.cell?_setCell_other _ _ _ _ v2t];exact x1);have z2:M.cell? ⟨R,c,none⟩=some (.int .i64 p):=(by rw[F.cell (y9h f6J),H]);have f4:=F.frozen c;have hd:Hid (Od.y4P k ms (i+1) (y.set p m)):=p2;have aV:(p:Int)+1<=3000001:=f6J;have aY:(p:Int)<ms.length:=f6J;have aW:(c:Int)<255:=f6J;have aD:=O F;have U:=O aT;have ar:=O aG;have S:=O K;have aC:=O aN;have ba:=O H;have aB:=O hp;have ay:=O I;have aA:=O o;have aJ:(y.set p m).length=ms.length:=(by rw[List.length_set];exact B);go_upto_region 4 with fail;go_region_held3(fun w'=>w'.cell? ⟨L,0,none⟩=some (.int .i32 m)/\w'.cell? ⟨L,1,none⟩=some (.int .i64 c)/\w'.cell? ⟨R,c,none⟩=some (.int .i64 p)) (first| exact⟨x0,x1,x2⟩ | exact⟨z0,z1,z2⟩ | go_keep) (fail);go_wp2
   go_roundw
   case rel =>
    have aS:Blk (M.setCell ⟨R,c,none⟩ (.int .i64 ((p:Int)+1))) R 290 (ia (X.set c ((p:Int)+1))):=(by rw[<- y9i];exact(V aD).set c _);have aU:Blk (M.setCell ⟨R,c,none⟩ (.int .i64 ((p:Int)+1))) yb 21 (A++ir (y.set p m)++C):=(V U).other (a:=⟨R,c,none⟩) (by show yb≠R;exact f6J) _;have l:w.grownBy (M.setCell ⟨R,c,none⟩ (.int .i64 ((p:Int)+1))) (some yb):=y8W (V ar) ⟨R,c,none⟩ _ (Or.inr D);refine⟨i+1,y.set p m,X.set c ((p:Int)+1),g2A,f6J,V hd,aJ,aU,by rw[List.length_set];exact aM,fun G aH=>?_,aS,⟨l.os,l.tape,l.output,l.size,l.block⟩⟩;rw[x8L X c G _ f6J,V aC G,V aA,V ay];by_cases h:G=c
    ·rw[if_pos h,if_pos (by rw[h]),h,V aB];rfl
    ·rw[if_neg h,if_neg (fun e=>h f6J)];exact V S G aH
   case measure=>exact g7T
  ·obtain rfl:i=ms.length:=f6J;have he:=Od.y8j ae;subst he;have j:=O b;have P:=O t;go_wp2;go_end0;exact⟨rfl,V j,V P⟩
end Od
open Ti
namespace Od
theorem x8I{P w} t e ty b o n cap z(d:P.underlying t=some (.slice e))(u:∀w,(zeroValue e).run P w=.ok z w)(F:0<n) us(A:(Builtin.zeroCells z.cells n).toList=us)(J:w.there b o us.length)(Z:∀v∈us,v.oneCell'=true):(Builtin.clear_ #[t] ty #[.slice (some ⟨b,o,none⟩) n cap]).run P w=.ok (.tuple #[]) (w.setCells b o us):=by
 have L:(storeCells ⟨b,o,none⟩ us 0).run P w=.ok () (w.setCells b o us):=by
  have:=run_storeCells_cells (P:=P) b o us 0 w (fun j R=>by simpa using(J j R).1) (fun j R=>by simpa using(J j R).2) Z;exact W2K
 obtain⟨m,rfl⟩:∃m,n=m+1:=⟨n-1,f6J⟩;unfold Builtin.clear_;simp[Sem.run_bind,run_underlying d,u,A,L]
def x1B(w:World)(k:Int->Int)(g:Nat)(ms:List Int):Prop:=∃mv,Blk w g 292 (mv::ia (cnts k ms))/\w.ownsRow (g+1) 295 2 mv ms.length (mc k ms)
theorem x1B.shape{w k g ms}(h:x1B w k g ms):∃ao cap,Blk w g 292 (.slice ao ms.length cap::ia (cnts k ms))/\w.ownsRow (g+1) 295 2 (.slice ao ms.length cap) ms.length (mc k ms)/\ms.length<=cap/\cap<=9223372036854775807:=by
 obtain⟨A,Z,D⟩:=h;rcases D.2 with⟨rfl,U⟩ | ⟨K,cap,t,rfl,_,_,I,o,_⟩
 ·grind
 ·exact⟨_,cap,Z,D,I,by unfold maxLen at o;exact f6J⟩
theorem x8s k g v w(h:x1B w k g []):Calls prog 211 #[.pointer (some ⟨g,0,none⟩),v] w fun e w'=>e=.returned (.tuple #[])/\w'=w:=by
 obtain⟨J,M,Z,_,_,I⟩:=h.shape;have r:w.cell? ⟨g,0,none⟩=some (.slice J 0 M):=Z.cell rfl;go_enter func211,ntmps211;go_wp2;exact bodyPost_ret (v:=.tuple #[]) (results_none rfl _ _ _) rfl ⟨rfl,rfl⟩
theorem z8B w:(zeroValue 3).run prog w=.ok (.int .i64 0) w:=(zero_of_info (n:=1) f4x).1 w
theorem z4J w:(zeroValue 295).run prog w=.ok (.agg #[.int .i32 0,.int .i64 0]) w:=(zero_of_info (n:=2) f4x).1 w
theorem z8A:(Builtin.zeroCells (Value.int .i64 0).cells 255).toList=ia z255:=f4x
theorem y4O n:(Builtin.zeroCells (Value.agg #[.int .i32 0,.int .i64 0]).cells n).toList.length=n*2/\∀v∈(Builtin.zeroCells (Value.agg #[.int .i32 0,.int .i64 0]).cells n).toList,v.oneCell'=true:=by
 unfold Builtin.zeroCells;refine⟨by simp[Value.cells],fun v N=>?_⟩;simp only[Value.cells,Array.toList_map,List.mem_map]at N;obtain⟨i,_,rfl⟩:=N;have:i%#[Value.int .i32 0,.int .i64 0].size=0\/i%#[Value.int .i32 0,.int .i64 0].size=1:=(by grind);rcases this with h | h<;>rw[h]<;>rfl
theorem y3P k:cnts k []=z255:=by
 refine List.eq_replicate_iff.2 ⟨x1r k [],fun b Y=>?_⟩;obtain⟨i,_,rfl⟩:=List.mem_map.1 Y;rfl
theorem y5S k g yb o ycap ms ys A C w(h:x1B w k g ms)(hy:Blk w yb 21 (A++ir ys++C))(c:A.length=o)(u:ys.length=ms.length)(aw:o+ms.length<=ycap/\ycap<=9223372036854775807)(hk:Od.Mk k ms)(hn:ms.length<=3000000)(ho:o<=3000000)(y:0<ms.length)(P:yb<g):Calls prog 211 #[.pointer (some ⟨g,0,none⟩),.slice (some ⟨yb,0,none⟩) (o+ms.length) ycap] w fun e w'=>e=.returned (.tuple #[])/\Blk w' yb 21 (A++ir (Od.bkt k ms)++C)/\x1B w' k g []/\Below yb w w':=by
 obtain⟨mv,Z,D⟩:=h;obtain⟨aC,D⟩:=D;rcases D with⟨_,h0⟩ | ⟨K,E,t,rfl,ar,d,S,ab,am,aq⟩
 ·omega
 have hm:Blk w K 295 (mc k ms++t.toList.drop (ms.length*2)):=by
  rw[<- aq,List.take_append_drop];unfold Blk;rw[d]
 have q:E<=9223372036854775807:=(by unfold maxLen at ab;exact f6J);obtain⟨aD,aF⟩:=aw;have K1:=O (y5t k g K E yb o (ycap-o) ms ys _ A C w Z hm ⟨S,q⟩ hy c u ⟨f6J,f6J⟩ hk hn f6J f6J);have r:w.cell? ⟨g,0,none⟩=some (.slice (some ⟨K,0,none⟩) ms.length E):=Z.cell rfl
 have HK:Hid (∀W:World,Blk W yb 21 (A++ir (Od.bkt k ms)++C)->w.grownBy W (some yb)->∃M T n,W.setCells g 1 (ia z255)=M/\M.setCells K 0 (Builtin.zeroCells (Value.agg #[.int .i32 0,.int .i64 0]).cells ms.length).toList=T/\T.setCell ⟨g,0,none⟩ (.slice (some ⟨K,0,none⟩) 0 E)=n/\W.there g 1 (ia z255).length/\M.there K 0 (Builtin.zeroCells (Value.agg #[.int .i32 0,.int .i64 0]).cells ms.length).toList.length/\W.cell? ⟨g,0,none⟩=some (.slice (some ⟨K,0,none⟩) ms.length E)/\M.cell? ⟨g,0,none⟩=some (.slice (some ⟨K,0,none⟩) ms.length E)/\T.cell? ⟨g,0,none⟩=some (.slice (some ⟨K,0,none⟩) ms.length E)/\T.frozen? ⟨g,0,none⟩=false/\Blk n yb 21 (A++ir (Od.bkt k ms)++C)/\x1B n k g []/\Below yb w n):=fun W hW H=>by
  have r0:=Z.kept H (fun e=>Nat.ne_of_gt P N5i);have m0:=hm.kept H (fun e=>absurd (N5i:K=yb) f6J);have L:1+(ia z255).length<=(Value.slice (some ⟨K,0,none⟩) ms.length E::ia (cnts k ms)).length:=(by simp[x3r,z255,x1r]);have s:=r0.setCells (ia z255) 1 L
  have e1:(Value.slice (some ⟨K,0,none⟩) ms.length E::ia (cnts k ms)).take 1++ia z255++(Value.slice (some ⟨K,0,none⟩) ms.length E::ia (cnts k ms)).drop (1+(ia z255).length)=.slice (some ⟨K,0,none⟩) ms.length E::ia z255:=by
   rw[List.drop_of_length_le (by simp[x3r,z255,x1r])];simp
  rw[e1]at s;have l:=x4E (g2:=g) f6J (ia z255) 1 W m0;obtain⟨zl,_⟩:=y4O ms.length;have aB:t.toList.length=E*2:=(Array.length_toList (xs:=t)).trans am;have I:(mc k ms++t.toList.drop (ms.length*2)).length=E*2:=(by grind);have m2:=l.setCells (Builtin.zeroCells (Value.agg #[.int .i32 0,.int .i64 0]).cells ms.length).toList 0 (by rw[zl,I];exact f6J);have r2:=x4E (g2:=K) f6J (Builtin.zeroCells (Value.agg #[.int .i32 0,.int .i64 0]).cells ms.length).toList 0 _ s;have r3:=r2.set 0 (.slice (some ⟨K,0,none⟩) 0 E);have m3:=m2.other (a:=⟨g,0,none⟩) (by show K≠g;exact f6J) (.slice (some ⟨K,0,none⟩) 0 E);have F:=x4E (g2:=g) f6J (ia z255) 1 W hW;have y2:=x4E (g2:=K) f6J (Builtin.zeroCells (Value.agg #[.int .i32 0,.int .i64 0]).cells ms.length).toList 0 _ F;have y3:=y2.other (a:=⟨g,0,none⟩) (by show yb≠g;exact f6J) (.slice (some ⟨K,0,none⟩) 0 E);have b1:Below yb w W:=(b0r).grown H (by have:=hy.lt;exact f6J) (fun j R=>by simp at R;exact f6J);have i:=x0H (B:=yb) (g:=g) f6J (ia z255) 1 W b1;have G:=x0H (B:=yb) (g:=K) f6J (Builtin.zeroCells (Value.agg #[.int .i32 0,.int .i64 0]).cells ms.length).toList 0 _ i;refine⟨_,_,_,rfl,rfl,rfl,r0.there L,l.there (by rw[zl,I];exact f6J),r0.cell rfl,s.cell rfl,r2.cell rfl,r2.frozen 0,y3,⟨.slice (some ⟨K,0,none⟩) 0 E,?_,⟨by simp[mc],Or.inr ⟨K,E,_,rfl,ar,m3,Nat.zero_le _,ab,?_,by simp[mc]⟩⟩⟩,G.setCell (p:=⟨g,0,none⟩) (by show yb<=g;exact f6J) _⟩
  ·rw[y3P];exact r3
  ·grind
 have HZ:=O (y4O ms.length);have aA:ms.length<=E:=S;generalize hgz:(Builtin.zeroCells (Value.agg #[.int .i32 0,.int .i64 0]).cells ms.length).toList=zz at *;have ae:=O hgz;have ay:¬((ms.length:Int)=0):=f6J;go_enter func211,ntmps211;go_wp2_with fail;refine(V K1).mono ?_;rintro e Q ⟨rfl,F,g1⟩;obtain⟨M,T,n,f,x,b,t2,t3,c1,c2,c3,f3,U,aj,J⟩:=V HK Q F g1;have m:=O U;have X:=O aj;have Y:=O J
 have q1:(Builtin.clear_ #[279] 0 #[.slice (some ⟨g,1,none⟩) 255 255]).run prog Q=.ok (.tuple #[]) M:=by
  rw[<- f];exact x8I 279 3 0 g 1 255 255 _ underlying279 z8B e8N (ia z255) z8A t2 (fun v N=>I8a)
 have q2:(Builtin.clear_ #[289] 0 #[.slice (some ⟨K,0,none⟩) ms.length E]).run prog M=.ok (.tuple #[]) T:=by
  rw[<- x];exact x8I 289 295 0 K 0 ms.length E _ underlying289 z4J y zz (V ae) t3 (V HZ).2
 go_wp2;go_end0;exact⟨rfl,V m,V X,V Y⟩
end Od
open Ti
namespace Od
theorem z9Y:∃i z,prog.info? 295=some i/\i.zero=some z/\i.size=2/\i.bytes=16/\z.cells.size=2:=by
 have h:(prog.info? 295).map (fun i=>(i.size,i.bytes,i.zero.map (·.cells.size)))=some (2,16,some 2):=f4x;obtain⟨i,hi,Z⟩:=Option.map_eq_some_iff.1 h;simp only[Prod.mk.injEq]at Z;obtain⟨Z,D,J⟩:=Z;obtain⟨z,u,P⟩:=Option.map_eq_some_iff.1 J;exact⟨i,z,hi,u,Z,D,P⟩
theorem y6F(w:World)(x y:Value):(Instr.buildSlice 289 1 #[(0,.agg #[x,y])]).run prog w=.ok (.slice (some ⟨w.heap.size,0,none⟩) 1 1) (w.alloc (.cells #[x,y] 295)):=by
 obtain⟨i,z,hi,u,Z,_,J⟩:=z9Y;refine run_buildSlice w 289 295 1 _ _ i z underlying289 hi u f0R f0R ?_;rw[Z];have:=Great.fill_whole (s:=2) e8M [Value.agg #[x,y]] ((Array.range (1*2)).map (z.cells[·%z.cells.size]!)) (fun v N=>by simp at N;subst N;simp[Value.cells]) M7L;simpa[Value.cells]using this
theorem y7Z(k:Int->Int)(ms:List Int)(m:Int){c:Nat}(I:k m=c)(E:c<255):(cnts k ms).set c ((cnts k ms).getD c 0+1)=cnts k (ms++[m]):=by
 refine x4k (n:=255) (by rw[List.length_set,x1r]) (x1r _ _) (fun j R=>?_);rw[x8L _ c j _ (by rw[x1r];exact E),x9c _ _ R,x9c _ _ R,x9c _ _ E,Od.x6I,List.length_append];by_cases h:j=c
 ·rw[if_pos h,h];simp[Od.ft,I]
 ·rw[if_neg h]
  have:Od.ft k j [m]=[]:=by
   unfold Od.ft;rw[List.filter_cons_of_neg P8P];rfl
  rw[this];simp
theorem z7q(k:Int->Int)(ms:List Int)(m:Int):mc k (ms++[m])=mc k ms++[.int .i32 m,.int .i64 (k m)]:=by simp[mc,List.flatMap_append]
theorem y4w{w:World}{b e C n g o:Nat}{v:Value}{xs:List Value}(h:w.ownsRow b e C v n xs)(y:v.ownBlock≠some g)(u:Value):(w.setCell ⟨g,o,none⟩ u).ownsRow b e C v n xs:=by
 refine⟨h.1,?_⟩;rcases h.2 with D | ⟨j,M,t,P,z,N,A⟩
 ·exact Or.inl D
 ·refine Or.inr ⟨j,M,t,P,z,?_,A⟩;rw[heap_setCell_other w ⟨g,o,none⟩ j u (fun e=>y (by rw[P];exact congrArg some e))];exact N
theorem x6W(W:World)(g:Nat)(u:Value)(h:W.cell? ⟨g,0,none⟩=some u):(Instr.loadAt 289 (.pointer (some ⟨g,0,none⟩))).run prog W=.ok u W:=by
 simp[Instr.loadAt,go_sem,Tryz.isAgg289,Tryz.sizeOf289,h,Addr.add]
theorem y0R(k:Int->Int)(g:Nat)(ms:List Int)(m:Int)(P:Nat)(w:World)(h:x1B w k g ms)(hc:k m=(P:Int))(h1:1<=P)(h2:P<=254)(hn:ms.length<=3000000):Calls prog 210 #[.pointer (some ⟨g,0,none⟩),.agg #[.int .i32 m,.int .i64 (P:Int)]] w fun e w'=>e=.returned (.tuple #[])/\x1B w' k g (ms++[m])/\Below g w w':=by
 obtain⟨i0,z0,aO,aW,aX,aY,aZ⟩:=z9Y;obtain⟨J,E,hb,Q,bj,bm⟩:=h.shape;have x:P<255:=f6J;obtain⟨c,ay⟩:∃c,w.heap.size=c:=⟨_,rfl⟩;obtain⟨W1,z⟩:∃W1,w.alloc (.cells #[.int .i32 m,.int .i64 (P:Int)] 295)=W1:=⟨_,rfl⟩;have bh:=hb.lt;have D:W1.drew.cell? ⟨c,0,none⟩=some (.int .i32 m):=r9D;have am:W1.drew.cell? ⟨c,1,none⟩=some (.int .i64 (P:Int)):=r9D;have F:Blk W1.drew g 292 (.slice J ms.length E::ia (cnts k ms)):=(by rw[<- z];exact hb.alloc _);have N:W1.drew.ownsRow (g+1) 295 2 (.slice J ms.length E) ms.length (mc k ms):=(by rw[<- z];exact(Q.alloc _).drew);have H:Below g w W1.drew:=(by rw[<- z];exact((b0r).alloc f6J _).drew);have aU:W1.drew.heap.size=c+1:=r9D;obtain⟨W2,f⟩:∃W2,W1.drew.alloc (.cells #[.int .i32 m,.int .i64 (P:Int)] 295)=W2:=⟨_,rfl⟩;obtain⟨gy,ae⟩:∃gy,W1.drew.heap.size=gy:=⟨_,rfl⟩;have aV:W2.heap.size=gy+1:=(by rw[<- f];simp[ae]);have n:(Instr.buildSlice 289 1 #[(0,.agg #[.int .i32 m,.int .i64 (P:Int)])]).run prog W1.drew=.ok (.slice (some ⟨gy,0,none⟩) 1 1) W2:=(by rw[<- f,<- ae];exact y6F _ _ _);have A:W2.cell? ⟨c,0,none⟩=some (.int .i32 m):=(by rw[<- f,World.cell?_alloc_lt _ _ _ (by show c<_;exact f6J)];exact D);have C:W2.cell? ⟨c,1,none⟩=some (.int .i64 (P:Int)):=(by rw[<- f,World.cell?_alloc_lt _ _ _ (by show c<_;exact f6J)];exact am);have t:Blk W2 g 292 (.slice J ms.length E::ia (cnts k ms)):=(by rw[<- f];exact F.alloc _);have r:W2.ownsRow (g+1) 295 2 (.slice J ms.length E) ms.length (mc k ms):=(by rw[<- f];exact N.alloc _);have T:Below g w W2:=(by rw[<- f];exact H.alloc f6J _);have aF:g+1<=W2.heap.size:=f6J;have Y:(Instr.loadAt 289 (.pointer (some ⟨g,0,none⟩))).run prog W1.drew=.ok (.slice J ms.length E) W1.drew:=x6W _ _ _ (F.cell rfl);have aI:(Instr.loadAt 289 (.pointer (some ⟨g,0,none⟩))).run prog W2=.ok (.slice J ms.length E) W2:=x6W _ _ _ (t.cell rfl)
 have L:∀u∈[Value.int .i32 m,.int .i64 (P:Int)],u.oneCell'=true:=fun u hu=>by
  rcases List.mem_cons.1 hu with rfl | hu
  ·rfl
  ·obtain rfl:=List.mem_singleton.1 hu;rfl
 have ar:=O r
 have aq:Hid (∀(j:Nat) (u:Value),[Value.int .i32 m,.int .i64 (P:Int)][j]?=some u->W2.cell? ((⟨gy,0,none⟩:Addr).add j)=some u):=fun j u hu=>by
  rw[Addr.add_mid,Nat.zero_add,<- f,<- ae];exact(Blk.new W1.drew 295 [Value.int .i32 m,.int .i64 (P:Int)] _ rfl).cell hu
 have I:Hid (∀(W:World) s M,W.cell? ⟨c,0,none⟩=some (.int .i32 m)->W.cell? ⟨c,1,none⟩=some (.int .i64 (P:Int))->(W.setCell ⟨g,0,none⟩ (.slice (some ⟨s,0,none⟩) (ms.length+1) M)).cell? ⟨c,0,none⟩=some (.int .i32 m)/\(W.setCell ⟨g,0,none⟩ (.slice (some ⟨s,0,none⟩) (ms.length+1) M)).cell? ⟨c,1,none⟩=some (.int .i64 (P:Int))):=fun W s M a b=>by
  have y:∀i,(⟨g,0,none⟩:Addr)≠⟨c,i,none⟩:=fun i e=>v1t;rw[World.cell?_setCell_other _ _ _ _ (y 0),World.cell?_setCell_other _ _ _ _ (y 1)];exact⟨a,b⟩
 obtain⟨q,d⟩:∃q,(cnts k ms).getD P 0=q:=⟨_,rfl⟩
 have aA:Hid (∀(W:World) (v:Value),W.cell? ⟨c,1,none⟩=some (.int .i64 (P:Int))->(W.setCell ⟨g,1+P,none⟩ v).cell? ⟨c,1,none⟩=some (.int .i64 (P:Int))):=fun W v a=>by
  rw[World.cell?_setCell_other _ _ _ _ (fun e=>v1t)];exact a
 have ab:Hid (∀s M (R:World),R.ownsRow (g+1) 295 2 (.slice (some ⟨s,0,none⟩) (ms.length+1) M) (ms.length+1) (mc k ms++[.int .i32 m,.int .i64 (P:Int)])->W2.grownBy R (Value.slice J ms.length E).ownBlock->((Value.slice J ms.length E).ownBlock=some s\/s=W2.heap.size)->R.cell? ⟨c,0,none⟩=some (.int .i32 m)/\R.cell? ⟨c,1,none⟩=some (.int .i64 (P:Int))/\R.cell? ⟨g,0,none⟩=some (.slice J ms.length E)/\R.frozen? ⟨g,0,none⟩=false/\∃W9,(R.setCell ⟨g,0,none⟩ (.slice (some ⟨s,0,none⟩) (ms.length+1) M)).drew=W9/\W9.cell? ⟨c,1,none⟩=some (.int .i64 (P:Int))/\W9.cell? ⟨g,1+P,none⟩=some (.int .i64 q)/\W9.frozen? ⟨g,1+P,none⟩=false/\x1B (W9.setCell ⟨g,1+P,none⟩ (.int .i64 (q+1))) k g (ms++[m])/\Below g w (W9.setCell ⟨g,1+P,none⟩ (.int .i64 (q+1)))):=fun s M R aS hg U=>by
  have aj:∀j,(Value.slice J ms.length E).ownBlock=some j->g+1<=j/\j<c:=fun j hj=>by
   have:=Q.lt j hj;omega
  have aP:some g≠(Value.slice J ms.length E).ownBlock:=fun e=>(by have:=aj g e.symm;exact f6J);have aH:some c≠(Value.slice J ms.length E).ownBlock:=fun e=>(by have:=aj c e.symm;exact f6J);have Z:=t.kept hg aP;have u0:=hg.cell A aH;have u1:=hg.cell C aH
  have be:g+1<=s:=by
   rcases U with e | e
   ·exact(aj s e).1
   ·omega
  have aL:=Z.set 0 (.slice (some ⟨s,0,none⟩) (ms.length+1) M);have l:Blk (R.setCell ⟨g,0,none⟩ (.slice (some ⟨s,0,none⟩) (ms.length+1) M)).drew g 292 (.slice (some ⟨s,0,none⟩) (ms.length+1) M::ia (cnts k ms)):=aL;have aC:Below g w R:=T.grown hg f6J (fun j hj=>by have:=aj j hj;exact f6J);have aD:Below g w (R.setCell ⟨g,0,none⟩ (.slice (some ⟨s,0,none⟩) (ms.length+1) M)).drew:=(aC.setCell (p:=⟨g,0,none⟩) (l0r _) _).drew;have aT:(R.setCell ⟨g,0,none⟩ (.slice (some ⟨s,0,none⟩) (ms.length+1) M)).drew.ownsRow (g+1) 295 2 (.slice (some ⟨s,0,none⟩) (ms.length+1) M) (ms.length+1) (mc k ms++[.int .i32 m,.int .i64 (P:Int)]):=y4w aS (fun e=>absurd (G5X:s=g) f6J) _
  have aR:(Value.slice (some ⟨s,0,none⟩) (ms.length+1) M::ia (cnts k ms))[1+P]?=some (.int .i64 q):=by
   rw[Nat.add_comm 1 P,List.getElem?_cons_succ,y9h (by rw[x1r];exact x),d]
  refine⟨u0,u1,Z.cell rfl,Z.frozen 0,_,rfl,?_,l.cell aR,l.frozen _,⟨.slice (some ⟨s,0,none⟩) (ms.length+1) M,?_,?_⟩,aD.setCell (p:=⟨g,1+P,none⟩) (l0r _) _⟩
  ·exact(V I R s M u0 u1).2
  ·have:=l.set (1+P) (.int .i64 (q+1));rw[Nat.add_comm 1 P,List.set_cons_succ,y9i,<- d,y7Z k ms m hc x,d]at this;rw[Nat.add_comm 1 P];exact this
  ·rw[List.length_append,z7q,hc];exact y4w aT (fun e=>absurd (G5X:s=g) f6J) _
 have ba:(P:Int)<255:=f6J;have aQ:0<=q/\q<=3000000:=(by rw[<- d];exact y3O k ms hn _ (by have:=x1r k ms;simp[List.getD,(f6J:P<(cnts k ms).length)]));obtain⟨bn,bp⟩:=aQ;have bt:IntKind.i64.wrap (q+1)=q+1:=s7E;clear h hb Q F N H aU f aV t r T ae hc d x;go_enter func210,ntmps210;go_upto_region 1 with fail;refine wp_region_held_drew (S:=fun w'=>w'.cell? ⟨c,0,none⟩=some (.int .i32 m)/\w'.cell? ⟨c,1,none⟩=some (.int .i64 (P:Int))) f4y (⟨D,am⟩) (fun hHeld=>?_);generalize W1.drew=Wd at *;refine tk9 0 (.pointer (some ⟨g,0,none⟩)) ?_;refine tk9 1 (.pointer (some ⟨g,0,none⟩)) ?_;refine tk9 2 (.pointer (some ⟨g,0,none⟩)) ?_;refine tk9 3 (.pointer (some ⟨g,0,none⟩)) ?_;refine tk9 5 (.agg #[.int .i32 m,.int .i64 (P:Int)]) ?_ (hy:=by(intro w hSw;obtain⟨s0,s1⟩:=hSw;go_simp));refine wpAnyH_ready (rs:=[4,6]) f4y M7P ?_;refine AllReadyH.cons (o:=⟨some 8,_,_,_,_,_⟩) rfl (fun K hK=>?pa) (AllReadyH.cons (o:=⟨some 10,_,_,_,_,_⟩) rfl (fun K hK=>?pb) AllReadyH.nil)
 case' pa =>
  refine x1P (by rfl) 289 (.tmp 7) (by rfl) _ _ (by rfl) Y ?_;refine hK.out _ _ (⟨D,am⟩) (fun hHeld=>?_);clear hK K
  try simp only[Act.put,sa9,sb9,sc9]
  refine rd9 6 fun K hK=>?_;refine x2j (by rfl) 289 (.tmp 9) (by rfl) _ _ (by rfl) n ?_;refine hK.out _ _ (⟨A,C⟩) (fun hHeld=>?_);clear hK K
  try simp only[Act.put,sa9,sb9,sc9]
 case' pb =>
  refine x2j (by rfl) 289 (.tmp 9) (by rfl) _ _ (by rfl) n ?_;refine hK.out _ _ (⟨A,C⟩) (fun hHeld=>?_);clear hK K
  try simp only[Act.put,sa9,sb9,sc9]
  refine rd9 4 fun K hK=>?_;refine x1P (by rfl) 289 (.tmp 7) (by rfl) _ _ (by rfl) aI ?_;refine hK.out _ _ (⟨A,C⟩) (fun hHeld=>?_);clear hK K
  try simp only[Act.put,sa9,sb9,sc9]
 all_goals
  refine rd9 7 fun K hK=>?_;refine step_append_lies _ (by rfl) (.tmp 8) (.tmp 10) 289 (by rfl) (g+1) 295 i0 z0 2 16 underlying289 aO aW aX aY aZ f6J (.slice J ms.length E) ms.length (mc k ms) (by rfl) (V ar) ⟨gy,0,none⟩ 1 1 [.int .i32 m,.int .i64 (P:Int)] (by rfl) (by rfl) (V aq) L f6J T7X f6J aF W2.heap.size rfl ?_;intro s M R B G U aG;obtain⟨s0,s1,aM,aN,W9,aw,y1,y2,fy,aB,X⟩:=V ab s M R B G U;refine hK.out _ _ ?_ (fun hHeld=>?_)
  ·exact⟨s0,s1⟩
  clear hK K
  try simp only[Act.put,sa9,sb9,sc9]
  refine tk9 8 (.pointer (some ⟨g,0,none⟩)) ?_;refine tk9 9 (.pointer (some ⟨g,0,none⟩)) ?_;refine rd9 10 fun K hK=>?_;go_simp;refine hK.out _ _ ?_ (fun hHeld=>?_)
  ·exact V I _ _ _ s0 s1
  clear hK K;refine wpAnyH_done f4y ?_ _;have aJ:=O aB;have aK:=O X;clear hHeld B G U aG s0 s1 aM aN ab ar aq n Y aI L aF aB X I D am;go_upto_region 2 with fail;refine wp_region_held_drew (S:=fun w'=>w'.cell? ⟨c,1,none⟩=some (.int .i64 (P:Int))) f4y (by rw[aw];exact y1) (fun hHeld=>?_);rw[aw]at hHeld ⊢;clear aw;refine tk9 0 (.pointer (some ⟨g,0,none⟩)) ?_;refine tk9 1 (.pointer (some ⟨c,1,none⟩)) ?_;refine tk9 2 (.int .i64 (P:Int)) ?_;refine tk9 3 (.pointer (some ⟨g,0,none⟩)) ?_;refine tk9 4 (.pointer (some ⟨g,1,none⟩)) ?_;refine tk9 5 (.pointer (some ⟨g,1+P,none⟩)) ?_;refine tk9 8 (.pointer (some ⟨g,0,none⟩)) ?_;refine tk9 9 (.pointer (some ⟨g,1,none⟩)) ?_;refine rd9 6 fun K hK=>?_;go_simp;refine hK.out _ _ ?_ (fun hHeld=>?_)
  ·exact y1
  clear hK K
  try simp only[Act.put,sa9,sb9,sc9]
  refine tk9 7 (.int .i64 (q+1)) ?_;refine tk9 10 (.pointer (some ⟨g,1+P,none⟩)) ?_;refine rd9 11 fun K hK=>?_;go_simp;refine hK.out _ _ ?_ (fun hHeld=>?_)
  ·exact V aA _ _ y1
  clear hK K;refine wpAnyH_done f4y ?_ _;clear hHeld;go_wp2;go_end0;exact⟨rfl,V aJ,V aK⟩
end Od
