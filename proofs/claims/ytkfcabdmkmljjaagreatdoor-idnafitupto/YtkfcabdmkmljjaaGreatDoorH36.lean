/- Lemmas. -/
import Derived.Test.YtkfcabdmkmljjaaGreatDoorH18
import Derived.Test.YtkfcabdmkmljjaaGreatDoorH3
set_option maxHeartbeats 4000000
set_option maxRecDepth 8000
namespace Go.Proofs.YtkfcabdmkmljjaaGreatDoor
open Go.Proofs.Tryz
open Go.RowKit
open Ti
section
variable{p:Prop}
theorem f3f(h:p:=by rw[List.getElem?_map,List.getElem?_eq_getElem hi];exact n7A):p:=h
theorem e5i(h:p:=by intro e;have:yb=b:=congrArg Addr.block e;exact f6J):p:=h
theorem I6p(h:p:=by rw[<- z,<- aC];simp):p:=h
theorem M8Z(h:p:=by have:g=X:=congrArg Addr.block e;exact f6J):p:=h
theorem m5X(h:p:=by simp[x3p,z255,H]):p:=h
end
namespace Od
def Blk(w:World)(g:Nat)(t:TypeId)(vs:List Value):Prop:=w.heap[g]?=some (.cells vs.toArray t (0,0))
theorem Blk.lt{w}{g t:Nat}{vs}(h:Blk w g t vs):g<w.heap.size:=(Array.getElem?_eq_some_iff.1 h).1
theorem Blk.cell{w}{g t:Nat}{vs}(h:Blk w g t vs){i v}(N:vs[i]?=some v):w.cell? ⟨g,i,none⟩=some v:=by
 rw[cell_of_row _ _ _ _ _ _ h];simpa using N
theorem Blk.frozen{w}{g t:Nat}{vs}(h:Blk w g t vs) i:w.frozen? ⟨g,i,none⟩=false:=frozen_of_row _ _ _ _ _ h
theorem Blk.set{w}{g t:Nat}{vs}(h:Blk w g t vs) i v:Blk (w.setCell ⟨g,i,none⟩ v) g t (vs.set i v):=by
 unfold Blk at h ⊢;rw[heap_setCell_same w g i _ _ _ h];simp
theorem Blk.other{w}{g t:Nat}{vs}(h:Blk w g t vs){a}(A:g≠a.block) v:Blk (w.setCell a v) g t vs:=by
 unfold Blk at h ⊢;rw[heap_setCell_other w a g v A];exact h
theorem Blk.new(w:World)(t:Nat) vs C(o:C=vs.toArray):Blk (w.alloc (.cells C t)) w.heap.size t vs:=by
 subst o;exact heap_alloc_last w _
theorem Blk.alloc{w}{g t:Nat}{vs}(h:Blk w g t vs) o:Blk (w.alloc o) g t vs:=P1G
theorem Blk.below{w w'}{g t n:Nat}{vs}(h:Blk w g t vs)(Y:Below n w w')(F:g<n):Blk w' g t vs:=by
 unfold Blk at h ⊢;rw[Y.block g F];exact h
theorem Blk.range{w}{g t:Nat}{vs}(h:Blk w g t vs) o:w.rangeAt g o (vs.drop o):=fun j v N=>h.cell (by rw[List.getElem?_drop]at N;exact N)
theorem Blk.there{w}{g t:Nat}{vs}(h:Blk w g t vs){o n}(F:o+n<=vs.length):w.there g o n:=fun j X=>by
 refine⟨?_,h.frozen _⟩;rw[h.cell (List.getElem?_eq_getElem (f6J:o+j<vs.length))];rfl
theorem Blk.setCells{w}{g t:Nat}:∀(us:List Value) {T:List Value} (o:Nat),Blk w g t T->o+us.length<=T.length->Blk (w.setCells g o us) g t (T.take o++us++T.drop (o+us.length)):=by
 intro us
 induction us generalizing w with
 | nil=>intro T o h _;simpa[World.setCells]using h
 | cons u us ih =>
  intro T o h S;rw[World.setCells];have:=ih (o+1) (h.set o u) (by rw[List.length_set];simp at S;exact f6J)
  have e:(T.set o u).take (o+1)++us++(T.set o u).drop (o+1+us.length)=T.take o++(u::us)++T.drop (o+(u::us).length):=by
   simp only[List.length_cons]at S
   have Z:(T.set o u).take (o+1)=T.take o++[u]:=by
    rw[List.take_add_one,List.take_set_of_le (l0r _),List.getElem?_set_self f6J];rfl
   rw[Z,List.drop_set_of_lt f6J,List.length_cons,(f6J:o+1+us.length=o+(us.length+1))];simp
  rw[e]at this;exact this
def ia(zs:List Int):List Value:=zs.map (Value.int .i64)
def z255:List Int:=List.replicate 255 0
theorem y9i{zs i}(hi:i<zs.length):(ia zs)[i]?=some (.int .i64 (zs.getD i 0)):=by
 unfold ia;exact f3f
theorem y9j zs i v:(ia zs).set i (.int .i64 v)=ia (zs.set i v):=by unfold ia;rw[List.map_set]
theorem x3p zs:(ia zs).length=zs.length:=List.length_map _
theorem z5b zs:(ia zs).toArray.all (·.oneCell')=true:=all_oneCell_toArray (fun v N=>by obtain⟨z,_,rfl⟩:=List.mem_map.1 N;rfl)
theorem x3c:(prog.info? 290).map (·.size)=some 255:=f4x
end Od
open Ti
namespace Od
def beg(cs:List Int):List Int:=(List.range 255).map fun i=>(cs.take i).sum
theorem x4E cs:(beg cs).length=255:=by simp[beg]
theorem z4P cs{i}(hi:i<255):(beg cs).getD i 0=(cs.take i).sum:=by simp[beg,List.getD,hi]
theorem z5u(cs:List Int)(h:∀c∈cs,0<=c/\c<=3000000):∀k:Nat,0<=(cs.take k).sum/\(cs.take k).sum<=3000000*(k:Int)
 | 0=>M7K
 | k+1=>by
  have B:=z5u cs h k;rw[List.take_add_one,List.sum_append]
  cases hk:cs[k]? with
  | none=>exact f4R
  | some c =>
   have:=h c (List.mem_of_getElem? hk);simp;omega
theorem y4P{cs:List Int}{k}(G:k<cs.length):(cs.take (k+1)).sum=(cs.take k).sum+cs.getD k 0:=by
 rw[List.take_add_one,List.sum_append,List.getElem?_eq_getElem G];exact w7Y
theorem z8u:Tryz.zeroCells290=(ia z255).toArray:=f4x
theorem x4k{a b:List Int}{n}(g:a.length=n)(Y:b.length=n)(h:∀j,j<n->a.getD j 0=b.getD j 0):a=b:=by
 apply List.ext_getElem f6J;intro i Z D;have:=h i f6J;simpa[List.getD,Z,D]using this
theorem y1s g mv cs w(hr:Blk w g 292 (mv::ia cs))(hl:cs.length=255)(I:∀c∈cs,0<=c/\c<=3000000):Calls prog 289 #[.pointer (some ⟨g,0,none⟩)] w fun e w'=>e=.returned (.agg (ia (beg cs)).toArray)/\Bw w w':=by
 obtain⟨d,z⟩:∃d,w.alloc (.cells Tryz.zeroCells290 290)=d:=⟨_,rfl⟩;obtain⟨x,L⟩:∃x,d.alloc (.cells Tryz.zeroCells290 290)=x:=⟨_,rfl⟩;have F:Bw w d:=(by rw[<- z];exact t9C);have N:d.heap.size=w.heap.size+1:=(by rw[<- z];exact M7N);have H:Bw w x:=by rw[<- L];exact F.alloc f6J _
 have k1:Blk x w.heap.size 290 (ia z255):=by
  rw[<- L];refine Blk.alloc ?_ _;rw[<- z];exact Blk.new w _ _ _ z8u
 have o:Blk x (w.heap.size+1) 290 (ia z255):=(by rw[<- L,<- N];exact Blk.new d _ _ _ z8u);have u:=hr.lt;have HR:=O hr;have HC:=O I;have ar:Hid (∀k,0<=(cs.take k).sum/\(cs.take k).sum<=3000000*(k:Int)):=z5u cs I;have aw:Hid (∀k,k<255->(cs.take (k+1)).sum=(cs.take k).sum+cs.getD k 0):=fun k G=>y4P f6J;have am:Hid ((cs.take 0).sum=0):=(by grind);have aj:Hid (∀zs:List Int,zs.length=255->(∀j,j<255->zs.getD j 0=(cs.take j).sum)->zs=beg cs):=fun zs h1 h2=>x4k h1 (x4E cs) (fun j X=>by rw[h2 j X,z4P cs X])
 have ae:Hid (∀(W:World),Bw w W->∀k:Nat,k<255->W.cell? ⟨g,1+k,none⟩=some (.int .i64 (cs.getD k 0))):=fun W hW k G=>by
  rw[hW.cell u];refine hr.cell ?_;rw[Nat.add_comm,List.getElem?_cons_succ];exact y9i f6J
 have ai:Hid (∀k:Nat,k<255->0<=cs.getD k 0/\cs.getD k 0<=3000000):=fun k G=>I _ (by simp[List.getD,(f6J:k<cs.length)]);obtain⟨M,n⟩:∃M,M=w.heap.size+1:=⟨_,rfl⟩;obtain⟨A,b⟩:∃A,A=w.heap.size:=⟨_,rfl⟩;have aB:A≠M:=f6J;have D:w.heap.size<=A:=f6J;have af:w.heap.size<=M:=f6J;rw[<- b]at k1;rw[<- n]at o N;have K1:=O k1;have K2:=O o;have T:=O H;have aG:=b.symm;have Z0:Hid (z255.length=255):=(by show _=_;simp[z255]);clear hr I F H k1 o b n hl;go_enter func289,ntmps289;go_wp2;go_loopw[4,5,6] (fun nn _ Z wr=>∃(k:Nat) (zs:List Int),Z=.int .i64 k/\nn=.int .i64 (cs.take k).sum/\k<=255/\zs.length=255/\Blk wr M 290 (ia zs)/\Blk wr A 290 (ia z255)/\Bw w wr/\∀j,j<k->zs.getD j 0=(cs.take j).sum) (fun _ _ Z _=>255-(intOf Z).toNat)
 case atStart=>exact⟨0,z255,rfl,by rw[V am],f6J,V Z0,V K2,V K1,V T,fun j X=>f6J⟩
 case round =>
  obtain⟨k,zs,rfl,rfl,G,K,B,R,Y,Q⟩:=hrel;have aK:=V ar k;by_cases E:k<255
  ·have aF:=V aw k E;have aI:=V ae wr Y k E;obtain⟨q0,q1⟩:=V ai k E;have aH:=B.cell (y9i (zs:=zs) (i:=k) f6J);have aJ:=B.frozen k;have ab:Blk (wr.setCell ⟨M,k,none⟩ (.int .i64 (cs.take k).sum)) M 290 (ia (zs.set k (cs.take k).sum)):=(by rw[<- y9j];exact B.set k _);have y:=R.other (a:=⟨M,k,none⟩) aB (.int .i64 (cs.take k).sum);have H:=Y.setCell (p:=⟨M,k,none⟩) af (.int .i64 (cs.take k).sum);have C:(wr.setCell ⟨M,k,none⟩ (.int .i64 (cs.take k).sum)).cell? ⟨g,1+k,none⟩=some (.int .i64 (cs.getD k 0)):=V ae _ H k E
   have S:Hid (∀j,j<k+1->(zs.set k (cs.take k).sum).getD j 0=(cs.take j).sum):=by
    intro j X;rw[x8P zs k j _ f6J];split
    ·rename_i e;rw[e]
    ·exact Q j f6J
   obtain⟨l,aC⟩:∃l,wr.setCell ⟨M,k,none⟩ (.int .i64 (cs.take k).sum)=l:=⟨_,rfl⟩;rw[aC]at ab y H C;have aA:=O ab;have az:=O y;have HB:=O H;have aq:=O aF;generalize hq:cs.getD k 0=q,hs:(cs.take k).sum=s at *;have t:(0:Int)<=(k:Int):=f6J;have m:(k:Int)<255:=f6J;go_wp2
   go_roundw
   case rel=>exact⟨k+1,zs.set k s,g2A,by rw[V aq],f6J,by simp[K],V aA,V az,V HB,V S⟩
   case measure=>exact g7T
  ·obtain rfl:k=255:=f6J;have J:=V aj zs K Q;subst J;go_upto_region 9 with fail;refine wp_region_list ?_;have U:=B.range 0;rw[List.drop_zero]at U;refine wpList_load_mid (by rfl) 290 (.tmp 3) (by rfl) M 0 (by rfl) (ia (beg cs)) _ U underlying290 (by rfl) (by rw[x3p,x4E];exact x3c) ?_;have r:wr.there A 0 (ia (beg cs)).toArray.size:=R.there (by simp[x3p,x4E,z255]);refine wpList_store_mid (by rfl) 290 (.tmp 2) (.tmp 21) (by rfl) A 0 (ia (beg cs)).toArray (by rfl) (by rfl) r (by rw[show(ia (beg cs)).toArray.size=255 by simp[x3p,x4E]];exact x3c) (z5b _) ?_;have ag:=World.rangeAt_setCells_same wr A 0 (ia (beg cs)) I2B;have aD:Bw w (wr.setCells A 0 (ia (beg cs))):=x0E D _ _ _ Y;have f:=run_loadVar_mid (P:=prog) _ A 0 290 (ia (beg cs)) _ ag underlying290 (by rfl) (by rw[x3p,x4E];exact x3c);go_wp2;exact bodyPost_ret (v:=.agg (ia (beg cs)).toArray) (x2t rfl _ _ _ A _ (by rfl) f) rfl ⟨rfl,aD⟩
end Od
namespace Od
def fl(k:Int->Int)(j:Int)(l:List Int):List Int:=l.filter fun m=>decide (k m=0\/k m=j)
def bkN(k:Int->Int)(ms:List Int)(n:Nat):List Int:=(List.range n).flatMap fun(c:Nat)=>ms.filter fun m=>decide (k m=(c:Int))
def bkt(k:Int->Int)(ms:List Int):List Int:=bkN k ms 255
def ordA(k:Int->Int):List Int->List Int->List Int
 | ms,[]=>bkt k ms
 | ms,c::l=>if k c=0 then bkt k ms++c::ordA k [] l else ordA k (ms++[c]) l
def ord(k:Int->Int)(xs:List Int):List Int:=ordA k [] xs
def Mk(k:Int->Int)(ms:List Int):Prop:=∀m∈ms,1<=k m/\k m<=254
theorem y2i k:bkt k []=[]:=by
 unfold bkt bkN;simp
theorem x9b k ms n:bkN k ms (n+1)=bkN k ms n++ms.filter fun m=>decide (k m=(n:Int)):=by
 simp[bkN,List.range_succ,List.flatMap_append]
theorem z2T(p q r:Int->Bool)(h:∀m,r m=(p m||q m))(hd:∀m,¬(p m=true/\q m=true))(ms:List Int):(ms.filter r).length=(ms.filter p).length+(ms.filter q).length:=by
 induction ms with
 | nil=>rfl
 | cons m ms ih=>grind
theorem z5S k ms(h:∀m∈ms,0<=k m) n:(bkN k ms n).length=(ms.filter fun m=>decide (k m<(n:Int))).length:=by
 induction n with
 | zero =>
  have:(ms.filter fun m=>decide (k m<((0:Nat):Int)))=[]:=f0h;rw[this];rfl
 | succ n ih =>
  rw[x9b,List.length_append,ih];refine(z2T _ _ _ (fun m=>?_) (fun m=>?_) ms).symm
  ·grind
  ·exact f4R
theorem x9c{k ms}(h:Mk k ms):(bkt k ms).length=ms.length:=by
 unfold bkt;rw[z5S k ms (fun m o=>by have:=h m o;exact f6J),List.filter_eq_self.2];intro m o;have:=h m o;exact f4R
theorem z5T{k ms n x}(h:x∈bkN k ms n):x∈ms/\0<=k x/\k x<n:=by
 unfold bkN at h;rw[List.mem_flatMap]at h;obtain⟨c,I,A⟩:=h;rw[List.mem_range]at I;rw[List.mem_filter]at A;have:=o0d A.2;exact⟨A.1,f6J,f6J⟩
theorem z2k k ms j n:((bkN k ms n).filter fun m=>decide (k m=j))=if 0<=j/\j<n then ms.filter fun m=>decide (k m=j)else[]:=by
 induction n with
 | zero=>rw[if_neg f6J];rfl
 | succ n ih =>
  rw[x9b,List.filter_append,ih,List.filter_filter];by_cases h:j=(n:Int)
  ·grind
  ·have:(ms.filter fun a=>decide (k a=j)&&decide (k a=(n:Int)))=[]:=by
    rw[List.filter_eq_nil_iff];intro m _;exact f4R
   rw[this,List.append_nil];by_cases Z:0<=j/\j<(n:Int)
   ·rw[if_pos Z,if_pos f6J]
   ·rw[if_neg Z,if_neg f6J]
theorem y4a{k ms}(h:Mk k ms) j:fl k j ms=if 1<=j/\j<=254 then ms.filter (fun m=>decide (k m=j))else[]:=by
 unfold fl;by_cases X:1<=j/\j<=254
 ·rw[if_pos X];refine List.filter_congr (fun m o=>?_);have:=h m o;exact f4R
 ·rw[if_neg X,List.filter_eq_nil_iff];intro m o;have:=h m o;exact f4R
theorem z8R{k ms}(h:Mk k ms):Mk k (bkt k ms):=fun m o=>h m (z5T o).1
theorem z4X{k ms}(h:Mk k ms) j:fl k j (bkt k ms)=fl k j ms:=by
 rw[y4a (z8R h),y4a h];by_cases X:1<=j/\j<=254
 ·rw[if_pos X,if_pos X];unfold bkt;rw[z2k,if_pos f6J]
 ·rw[if_neg X,if_neg X]
theorem y0O k j a b:fl k j (a++b)=fl k j a++fl k j b:=by unfold fl;exact List.filter_append ..
theorem y8P k j c l:fl k j (c::l)=if k c=0\/k c=j then c::fl k j l else fl k j l:=by
 unfold fl;rw[List.filter_cons];by_cases h:k c=0\/k c=j
 ·grind
 ·grind
theorem y2Q{k ms c}(h:Mk k ms)(Z:1<=k c)(D:k c<=254):Mk k (ms++[c]):=by
 intro m hm;rcases List.mem_append.1 hm with hm | hm
 ·exact h m hm
 ·grind
theorem y2A{k:Int->Int}(G:∀c,0<=k c/\k c<=254)(j:Int):∀(l ms:List Int),Mk k ms->fl k j (ordA k ms l)=fl k j (ms++l)
 | [],ms,h=>by rw[ordA,z4X h,List.append_nil]
 | c::l,ms,h=>by
  rw[ordA];by_cases I:k c=0
  ·rw[if_pos I,y0O,y0O,z4X h,y8P,y8P,y2A G j l [] (fun _ h=>m5j)];rfl
  ·rw[if_neg I,y2A G j l _ (y2Q h (by have:=G c;exact f6J) (G c).2)];simp
theorem z9E{k}(G:∀c,0<=k c/\k c<=254) j xs:fl k j (ord k xs)=fl k j xs:=y2A G j xs [] (fun _ h=>m5j)
theorem x9Q{k:Int->Int}(G:∀c,0<=k c/\k c<=254):∀(l ms:List Int),Mk k ms->(ordA k ms l).length=ms.length+l.length
 | [],ms,h=>by rw[ordA,x9c h];rfl
 | c::l,ms,h=>by
  rw[ordA];by_cases I:k c=0
  ·rw[if_pos I,List.length_append,x9c h,List.length_cons,x9Q G l [] (fun _ h=>m5j)];simp
  ·rw[if_neg I,x9Q G l _ (y2Q h (by have:=G c;exact f6J) (G c).2)];simp;omega
theorem z0o{k}(G:∀c,0<=k c/\k c<=254) xs:(ord k xs).length=xs.length:=by
 unfold ord;rw[x9Q G xs [] (fun _ h=>m5j)];simp
theorem z0p{k}(G:∀c,0<=k c/\k c<=254){xs x}(h:x∈ord k xs):x∈xs:=by
 have Z:x∈fl k (k x) (ord k xs):=List.mem_filter.2 ⟨h,M7K⟩;rw[z9E G]at Z;exact(List.mem_filter.1 Z).1
end Od
namespace Od
theorem x4L(f:Nat->List Int) n:(List.range (n+1)).flatMap f=(List.range n).flatMap f++f n:=by
 simp[List.range_succ,List.flatMap_append]
theorem z9F(f:Nat->List Int){c n}(h:c<n):((List.range c).flatMap f).length+(f c).length<=((List.range n).flatMap f).length:=by
 induction n with
 | zero=>omega
 | succ n ih =>
  rw[x4L,List.length_append];rcases Nat.lt_succ_iff_lt_or_eq.1 h with h | rfl
  ·have:=ih h;omega
  ·exact l0r _
theorem x6c{f g:Nat->List Int}{n}(h:∀i,i<n->f i=g i):(List.range n).flatMap f=(List.range n).flatMap g:=by
 induction n with
 | zero=>rfl
 | succ n ih=>rw[x4L,x4L,ih (fun i hi=>h i f6J),h n f6J]
theorem z9G(f g:Nat->List Int){c r n} v(I:c<n)(hr:r<(f c).length)(C:g c=(f c).set r v)(hd:∀i,i≠c->g i=f i):((List.range n).flatMap f).set (((List.range c).flatMap f).length+r) v=(List.range n).flatMap g:=by
 induction n with
 | zero=>omega
 | succ n ih =>
  rw[x4L,x4L];rcases Nat.lt_succ_iff_lt_or_eq.1 I with h | rfl
  ·have:=z9F f h;rw[List.set_append_left _ _ f6J,ih h,hd n f6J]
  ·rw[List.set_append_right _ _ f6J,(f6J:((List.range c).flatMap f).length+r-((List.range c).flatMap f).length=r),<- C,x6c (fun i hi=>(hd i f6J).symm)]
def ft(k:Int->Int)(c:Nat)(l:List Int):List Int:=l.filter fun m=>decide (k m=(c:Int))
theorem z5U k ms n:bkN k ms n=(List.range n).flatMap fun c=>ft k c ms:=rfl
theorem x6H k c a b:ft k c (a++b)=ft k c a++ft k c b:=by unfold ft;exact List.filter_append ..
def y4U(k:Int->Int)(ms:List Int)(j:Nat)(y:List Int):Prop:=∃J:Nat->List Int,y=(List.range 255).flatMap (fun c=>ft k c (ms.take j)++J c)/\∀c,c<255->(J c).length=(ft k c (ms.drop j)).length
theorem split(g:Nat->Nat):∀(n:Nat) (y:List Int) (_:y.length=((List.range n).map g).sum),∃J:Nat->List Int,y=(List.range n).flatMap J/\∀c,c<n->(J c).length=g c
 | 0,y,h=>⟨fun _=>[],S4r,fun c I=>f6J⟩
 | n+1,y,h=>by
  rw[List.range_succ,List.map_append,List.sum_append]at h;simp only[List.map_cons,List.map_nil,List.sum_cons,List.sum_nil,Nat.add_zero]at h;obtain⟨J,Z,D⟩:=split g n (y.take (y.length-g n)) U3s;refine⟨fun i=>if i=n then y.drop (y.length-g n)else J i,?_,fun c I=>?_⟩
  ·rw[x4L,if_pos rfl,x6c (g:=J) (fun i hi=>by rw[if_neg f6J]),<- Z,List.take_append_drop]
  ·by_cases j:c=n
   ·subst j;simp only[if_true,List.length_drop];omega
   ·simp only[if_neg j];exact D c f6J
theorem y8R(f:Nat->List Int) n:((List.range n).flatMap f).length=((List.range n).map fun c=>(f c).length).sum:=f0h
theorem y2r{k ms y}(h:Mk k ms)(hy:y.length=ms.length):y4U k ms 0 y:=by
 obtain⟨J,Z,D⟩:=split (fun c=>(ft k c ms).length) 255 y (by rw[hy,<- x9c h];unfold bkt;rw[z5U,y8R]);refine⟨J,?_,fun c I=>?_⟩
 ·rw[Z];exact x6c (fun i _=>by simp[ft])
 ·rw[List.drop_zero];exact D c I
theorem y8m{k ms y}(h:y4U k ms ms.length y):y=bkt k ms:=by
 obtain⟨J,Z,D⟩:=h;rw[Z];unfold bkt;rw[z5U];refine x6c (fun i hi=>?_);have:=D i hi;rw[List.drop_length]at this;rw[List.take_length,List.eq_nil_of_length_eq_zero (l:=J i) (by rw[this];rfl),List.append_nil]
def plc(k:Int->Int)(ms:List Int)(j c:Nat):Nat:=(bkN k ms c).length+(ft k c (ms.take j)).length
theorem z2Y k c ms j:(ft k c (ms.take j)).length+(ft k c (ms.drop j)).length=(ft k c ms).length:=by
 rw[<- List.length_append,<- x6H,List.take_append_drop]
theorem y2E{k} c{ms:List Int}{j}(X:j<ms.length):ft k c (ms.take (j+1))=ft k c (ms.take j)++if k (ms.getD j 0)=c then[ms.getD j 0]else[]:=by
 rw[List.take_add_one,x6H,List.getElem?_eq_getElem X];have:ms.getD j 0=ms[j]:=S8d;rw[this];unfold ft;by_cases h:k ms[j]=(c:Int)<;>simp[h]
theorem y8S{k} c{ms:List Int}{j}(X:j<ms.length):ft k c (ms.drop j)=(if k (ms.getD j 0)=c then[ms.getD j 0]else[])++ft k c (ms.drop (j+1)):=by
 have:ms.getD j 0=ms[j]:=S8d;rw[List.drop_eq_getElem_cons X,this];unfold ft;rw[List.filter_cons];by_cases h:k ms[j]=(c:Int)
 ·grind
 ·grind
theorem y5z{k ms y}{j c:Nat}(h:y4U k ms j y)(X:j<ms.length)(I:k (ms.getD j 0)=c)(M:c<255):plc k ms j c<y.length/\y4U k ms (j+1) (y.set (plc k ms j c) (ms.getD j 0)):=by
 obtain⟨J,Z,D⟩:=h;have N:=D c M;rw[y8S c X,if_pos I,List.length_append,List.length_singleton]at N
 have Y:(bkN k ms c).length=((List.range c).flatMap fun c=>ft k c (ms.take j)++J c).length:=by
  rw[z5U,y8R,y8R];congr 1;refine List.map_congr_left (fun i hi=>?_);rw[List.mem_range]at hi;rw[List.length_append,D i f6J,z2Y]
 have E:=z9F (fun c=>ft k c (ms.take j)++J c) M;simp only[List.length_append]at E;unfold plc;rw[Z,Y];refine⟨f6J,fun i=>if i=c then(J c).drop 1 else J i,?_,fun i hi=>?_⟩
 ·refine z9G _ _ _ M u7B ?_ (fun i hi=>?_)
  ·simp only[if_true];rw[y2E c X,if_pos I,List.set_append_right _ _ (l0r _),Nat.sub_self]
   cases hq:J c with
   | nil=>grind
   | cons x l=>simp
  ·simp only[if_neg hi];rw[y2E i X,if_neg (fun e=>hi f6J),List.append_nil]
 ·by_cases o:i=c
  ·grind
  ·simp only[if_neg o];rw[D i hi,y8S i X,if_neg (fun e=>o f6J),List.nil_append]
theorem z3U{k ms j} c(X:j<ms.length):plc k ms (j+1) c=if k (ms.getD j 0)=c then plc k ms j c+1 else plc k ms j c:=by
 unfold plc;rw[y2E c X];by_cases h:k (ms.getD j 0)=c
 ·grind
 ·grind
theorem z3V k ms c:plc k ms 0 c=(bkN k ms c).length:=by simp[plc,ft]
theorem z2l k ms c:(bkN k ms (c+1)).length=(bkN k ms c).length+(ft k c ms).length:=by rw[x9b,List.length_append];rfl
end Od
open Ti
namespace Od
def ir(zs:List Int):List Value:=zs.map (Value.int .i32)
theorem x3r zs:(ir zs).length=zs.length:=List.length_map _
theorem ir_at{zs i}(hi:i<zs.length):(ir zs)[i]?=some (.int .i32 (zs.getD i 0)):=by
 unfold ir;exact f3f
def mc(k:Int->Int)(ms:List Int):List Value:=ms.flatMap fun m=>[.int .i32 m,.int .i64 (k m)]
theorem q0f k ms:(mc k ms).length=ms.length*2:=by
 induction ms with
 | nil=>rfl
 | cons m ms ih=>simp only[mc,List.flatMap_cons,List.length_append,List.length_cons,List.length_nil]at ih ⊢;omega
theorem q0e{k:Int->Int}:∀{ms:List Int} {i:Nat},i<ms.length->(mc k ms)[i*2]?=some (.int .i32 (ms.getD i 0))/\(mc k ms)[i*2+1]?=some (.int .i64 (k (ms.getD i 0)))
 | [],i,h=>by simp at h
 | m::ms,0,_=>⟨rfl,rfl⟩
 | m::ms,i+1,h=>by
  have:=q0e (k:=k) (ms:=ms) (i:=i) S4r;simp only[mc,List.flatMap_cons,(f6J:(i+1)*2=i*2+1+1)]at this ⊢;exact W2K
theorem y4f{w wr:World}{row}(h:w.grownBy wr row) o:w.grownBy (wr.alloc o) row:=⟨h.os,h.tape,h.output,by have:=h.size;exact P8P,fun k G F=>by rw[Below.heap_alloc wr o k (by have:=h.size;exact f6J)];exact g5I⟩
theorem y8X{w wr:World}{row}(h:w.grownBy wr row) p v(s:some p.block=row\/w.heap.size<=p.block):w.grownBy (wr.setCell p v) row:=by
 have b:=(Below.refl 0 wr).setCell (p:=p) (Nat.zero_le _) v;refine⟨b.os.trans h.os,b.tape.trans h.tape,b.output.trans h.output,Nat.le_trans h.size b.size,fun k G F=>?_⟩;rw[heap_setCell_other wr p k v ?_]
 ·exact g5I
 ·grind
theorem z3d{w wr w':World}{row B}(h:w.grownBy wr row)(Y:Below B wr w')(m:w.heap.size<=B):w.grownBy w' row:=⟨Y.os.trans h.os,Y.tape.trans h.tape,Y.output.trans h.output,by have:=h.size;have:=Y.size;exact f6J,fun k G F=>by rw[Y.block k f6J];exact g5I⟩
theorem Blk.kept{w w'}{g t:Nat}{vs row}(h:Blk w g t vs)(C:w.grownBy w' row)(A:some g≠row):Blk w' g t vs:=(C.block g h.lt A).trans h
def cnts(k:Int->Int)(ms:List Int):List Int:=(List.range 255).map fun c=>((Od.ft k c ms).length:Int)
theorem x1p k ms:(cnts k ms).length=255:=by simp[cnts]
theorem x9f k ms{c}(I:c<255):(cnts k ms).getD c 0=((Od.ft k c ms).length:Int):=by simp[cnts,List.getD,I]
theorem y3S(k:Int->Int)(ms:List Int):∀c:Nat,c<=255->((cnts k ms).take c).sum=((Od.bkN k ms c).length:Int)
 | 0,_=>by simp[Od.bkN]
 | c+1,h=>by
  rw[y4P (by rw[x1p];exact f6J),y3S k ms c f6J,x9f k ms f6J,Od.z2l];simp
theorem z5R k ms{c}(I:c<255):(beg (cnts k ms)).getD c 0=(Od.plc k ms 0 c:Int):=by
 rw[z4P _ I,y3S k ms c f6J,Od.z3V]
theorem y3Q k ms(h:ms.length<=3000000):∀c∈cnts k ms,0<=c/\c<=3000000:=fun c I=>by
 obtain⟨i,_,rfl⟩:=List.mem_map.1 I;have:(Od.ft k i ms).length<=ms.length:=List.length_filter_le _ _;omega
theorem q0O{A B C:List Value}{o i}(Y:A.length=o)(hi:i<B.length):(A++B++C)[o+i]?=B[i]?:=by grind
theorem z7T{A B C:List Value}{o i} v(Y:A.length=o)(hi:i<B.length):(A++B++C).set (o+i) v=A++B.set i v++C:=by grind
theorem x4G{g g2 t:Nat}{us:List Value}(h:g≠g2):∀(T:List Value) (o:Nat) (wr:World) (_:Blk wr g t us),Blk (wr.setCells g2 o T) g t us
 | [],_,_,b=>b
 | v::T,o,_,b=>x4G h T (o+1) _ (b.other (a:=⟨g2,o,none⟩) h v)
theorem x5m{P ops rest B}{a w w' Q}(T:B.guard=none) ty(x y:Operand)(X:B.op=.store ty x y) b o cells(A:a.eval x=.pointer (some ⟨b,o,none⟩))(hy:a.eval y=.agg cells)(p:w.there b o cells.size)(hi:(P.info? ty).map (·.size)=some cells.size)(Z:cells.all (·.oneCell')=true)(m:w.setCells b o cells.toList=w')(h:wpList P ops Q rest (a.put B.dst undef) w'):wpList P ops Q (B::rest) a w:=by
 subst m;exact wpList_store_mid T ty x y X b o cells A hy p hi Z h
theorem x6I{w:World}{row:Option Nat}(g:Nat)(s:some g=row\/w.heap.size<=g):∀(T:List Value) (o:Nat) (wr:World) (_:w.grownBy wr row),w.grownBy (wr.setCells g o T) row
 | [],_,_,h=>h
 | v::T,o,_,h=>x6I g s T (o+1) _ (y8X h ⟨g,o,none⟩ v s)
theorem y5y k g mb mcap yb yo ycap ms ys J A C w(hr:Blk w g 292 (.slice (some ⟨mb,0,none⟩) ms.length mcap::ia (cnts k ms)))(o:Blk w mb 295 (mc k ms++J))(aJ:ms.length<=mcap/\mcap<=9223372036854775807)(hy:Blk w yb 21 (A++ir ys++C))(hA:A.length=yo)(n:ys.length=ms.length)(aP:ms.length<=ycap/\ycap<=9223372036854775807)(hk:Od.Mk k ms)(hn:ms.length<=3000000)(r:g≠yb)(aK:mb≠yb):Calls prog 255 #[.pointer (some ⟨g,0,none⟩),.slice (some ⟨yb,yo,none⟩) ms.length ycap] w fun e w'=>e=.returned (.tuple #[])/\Blk w' yb 21 (A++ir (Od.bkt k ms)++C)/\w.grownBy w' (some yb):=by
 have K1:=O (y1s g _ (cnts k ms) w hr (x1p k ms) (y3Q k ms hn));obtain⟨be,bh⟩:=aJ;obtain⟨bm,bn⟩:=aP;have HY:=O hy
 have HM:Hid (∀(W:World),w.grownBy W (some yb)->∀i:Nat,i<ms.length->W.cell? ⟨mb,i*2,none⟩=some (.int .i32 (ms.getD i 0))/\W.cell? ⟨mb,i*2+1,none⟩=some (.int .i64 (k (ms.getD i 0)))):=fun W hW i hi=>by
  have h:=o.kept hW (fun e=>aK (by simpa using e));have D:=q0e (k:=k) hi;have hl:=q0f k ms;exact⟨h.cell (by rw[List.getElem?_append_left f6J];exact D.1),h.cell (by rw[List.getElem?_append_left f6J];exact D.2)⟩
 have aO:=hy.lt;have aG:w.cell? ⟨g,0,none⟩=some (.slice (some ⟨mb,0,none⟩) ms.length mcap):=hr.cell rfl;have ar:Hid (∀(W:World),w.grownBy W (some yb)->W.cell? ⟨g,0,none⟩=some (.slice (some ⟨mb,0,none⟩) ms.length mcap)):=fun W hW=>(hr.kept hW (fun e=>r (by simpa using e))).cell rfl;have v:=O (Od.y2r hk n);have Y:=O hk;have B:=O (x4E (cnts k ms));have s:Hid (∀c,c<255->(beg (cnts k ms)).getD c 0=(Od.plc k ms 0 c:Int)):=fun c hc=>z5R k ms hc;generalize beg (cnts k ms)=G at *;go_enter func255,ntmps255;go_wp2_with fail;refine c0m K1 fun Q b1=>?_;have bj:=b1.size;obtain⟨x,L⟩:∃x,Q.alloc (.cells Tryz.zeroCells290 290)=x:=⟨_,rfl⟩;have k2:Blk x Q.heap.size 290 (ia z255):=(by rw[<- L];exact Blk.new Q _ _ _ z8u);have g2:w.grownBy x (some yb):=(by rw[<- L];exact y4f (z3d (World.grownBy.refl w _) b1 (l0r _)) _);obtain⟨j,aH⟩:∃j,Q.heap.size=j:=⟨_,rfl⟩;rw[aH]at k2;have af:w.heap.size<=j:=f6J;have H:=V B;have aN:x.there j 0 (ia G).toArray.size:=k2.there m5X;have f:(ia G).toArray.size=255:=(by simp[x3p,H]);obtain⟨q,U⟩:∃q,x.setCells j 0 (ia G).toArray.toList=q:=⟨_,rfl⟩
 have k3:Blk q j 290 (ia G):=by
  have:=k2.setCells (ia G) 0 m5X;rw[<- U];rw[List.take_zero,List.nil_append,List.drop_of_length_le m5X,List.append_nil]at this;exact this
 have g3:w.grownBy q (some yb):=by rw[<- U];exact x6I j (Or.inr af) _ _ _ g2
 have y3:Blk q yb 21 (A++ir ys++C):=by
  have h1:Q.heap[yb]?=w.heap[yb]?:=b1.block yb aO;have D:Blk Q yb 21 (A++ir ys++C):=h1.trans (V HY);have h3:Blk x yb 21 (A++ir ys++C):=(by rw[<- L];exact D.alloc _);rw[<- U];exact x4G f6J _ _ _ h3
 have aG:=V ar q g3;have K3:=O k3;have G3:=O g3;have Y3:=O y3;go_wp2_with(refine x5m (by rfl) 290 (.tmp 4) (.tmp 8) (by rfl) j 0 (ia G).toArray (by rfl) (by rfl) aN (by rw[f];exact x3c) (z5b _) U ?_);go_loopw[6,14] (fun _ kk wr=>∃(i:Nat) (y P:List Int),kk=.int .i64 i/\i<=ms.length/\Od.y4U k ms i y/\y.length=ms.length/\Blk wr yb 21 (A++ir y++C)/\P.length=255/\(∀c,c<255->P.getD c 0=(Od.plc k ms i c:Int))/\Blk wr j 290 (ia P)/\w.grownBy wr (some yb)) (fun _ kk _=>ms.length-(intOf kk).toNat)
 case atStart=>exact⟨0,ys,G,rfl,f6J,V v,n,V Y3,V B,V s,V K3,V G3⟩
 case round =>
  obtain⟨i,y,P,rfl,ba,K,F,S,aL,aj,ai,ae⟩:=hrel;by_cases E:i<ms.length
  ·obtain⟨c0,c1⟩:=V HM wr ae i E;have aZ:=V Y (ms.getD i 0) N0c;obtain⟨c,hc⟩:∃c:Nat,k (ms.getD i 0)=(c:Int):=⟨(k (ms.getD i 0)).toNat,f6J⟩;have M:c<255:=f6J;obtain⟨p1,p2⟩:=Od.y5z K E hc M;have aM:=fun t=>Od.z3U (k:=k) t E;have l:=aj c M;obtain⟨p,hp⟩:∃p,Od.plc k ms i c=p:=⟨_,rfl⟩;rw[hp]at l p1 p2;rw[hc]at c1;obtain⟨m,o⟩:∃m,ms.getD i 0=m:=⟨_,rfl⟩;rw[o]at c0 p2 hc;obtain⟨b,N⟩:∃b,wr.heap.size=b:=⟨_,rfl⟩;have aV:=ae.size;have aX:=ai.lt;obtain⟨d,z⟩:∃d,wr.alloc (.cells #[.int .i32 m,.int .i64 c] 295)=d:=⟨_,rfl⟩;have x0:d.cell? ⟨b,0,none⟩=some (.int .i32 m):=(by rw[<- z,<- N];exact M7N);have x1:d.cell? ⟨b,1,none⟩=some (.int .i64 c):=(by rw[<- z,<- N];exact M7N);have am:Blk d j 290 (ia P):=(by rw[<- z];exact ai.alloc _);have ag:Blk d yb 21 (A++ir y++C):=(by rw[<- z];exact S.alloc _);have aC:w.grownBy d (some yb):=(by rw[<- z];exact y4f ae _);have x2:d.cell? ⟨j,c,none⟩=some (.int .i64 p):=(by rw[am.cell (y9i f6J),l]);have x3:d.cell? ⟨yb,yo+p,none⟩=some (.int .i32 (y.getD p 0)):=ag.cell (by rw[q0O hA (by rw[x3r];exact f6J)];exact ir_at f6J);have f3:=ag.frozen (yo+p);obtain⟨x,L⟩:∃x,d.setCell ⟨yb,yo+p,none⟩ (.int .i32 m)=x:=⟨_,rfl⟩
   have aR:Blk x yb 21 (A++ir (y.set p m)++C):=by
    have:=ag.set (yo+p) (.int .i32 m);rw[z7T _ hA (by rw[x3r];exact f6J),L]at this;have e:(ir y).set p (.int .i32 m)=ir (y.set p m):=(by unfold ir;rw[List.map_set]);rw[e]at this;exact this
   have I:Blk x j 290 (ia P):=(by rw[<- L];exact am.other (a:=⟨yb,yo+p,none⟩) (by show j≠yb;exact f6J) _);have aD:w.grownBy x (some yb):=(by rw[<- L];exact y8X aC ⟨yb,yo+p,none⟩ _ (Or.inl rfl));have z0:x.cell? ⟨b,0,none⟩=some (.int .i32 m):=(by rw[<- L,World.cell?_setCell_other _ _ _ _ e5i];exact x0);have z1:x.cell? ⟨b,1,none⟩=some (.int .i64 c):=(by rw[<- L,World.cell?_setCell_other _ _ _ _ e5i];exact x1);have z2:x.cell? ⟨j,c,none⟩=some (.int .i64 p):=(by rw[I.cell (y9i f6J),l]);have f4:=I.frozen c;have hd:Hid (Od.y4U k ms (i+1) (y.set p m)):=p2;have aT:(p:Int)+1<=3000001:=f6J;have aW:(p:Int)<ms.length:=f6J;have aU:(c:Int)<255:=f6J;have aB:=O I;have X:=O aR;have aq:=O aD;have az:=O aj;have aA:=O aM;have aY:=O l;have T:=O hp;have u:=O hc;have aw:=O o;have aI:(y.set p m).length=ms.length:=(by rw[List.length_set];exact F);go_upto_region 4 with fail;go_region_held3(fun w'=>w'.cell? ⟨b,0,none⟩=some (.int .i32 m)/\w'.cell? ⟨b,1,none⟩=some (.int .i64 c)/\w'.cell? ⟨j,c,none⟩=some (.int .i64 p)) (first| exact⟨x0,x1,x2⟩ | exact⟨z0,z1,z2⟩ | go_keep) (fail);go_wp2
   go_roundw
   case rel =>
    have aQ:Blk (x.setCell ⟨j,c,none⟩ (.int .i64 ((p:Int)+1))) j 290 (ia (P.set c ((p:Int)+1))):=(by rw[<- y9j];exact(V aB).set c _);have aS:Blk (x.setCell ⟨j,c,none⟩ (.int .i64 ((p:Int)+1))) yb 21 (A++ir (y.set p m)++C):=(V X).other (a:=⟨j,c,none⟩) (by show yb≠j;exact f6J) _;have ab:w.grownBy (x.setCell ⟨j,c,none⟩ (.int .i64 ((p:Int)+1))) (some yb):=y8X (V aq) ⟨j,c,none⟩ _ (Or.inr af);refine⟨i+1,y.set p m,P.set c ((p:Int)+1),g2A,f6J,V hd,aI,aS,by rw[List.length_set];exact aL,fun t aF=>?_,aQ,⟨ab.os,ab.tape,ab.output,ab.size,ab.block⟩⟩;rw[x8P P c t _ f6J,V aA t,V aw,V u];by_cases h:t=c
    ·rw[if_pos h,if_pos (by rw[h]),h,V T];rfl
    ·rw[if_neg h,if_neg (fun e=>h f6J)];exact V az t aF
   case measure=>exact g7T
  ·obtain rfl:i=ms.length:=f6J;have he:=Od.y8m K;subst he;have Z:=O S;have R:=O ae;go_wp2;go_end0;exact⟨rfl,V Z,V R⟩
end Od
open Ti
namespace Od
theorem x8M{P w} t e ty b o n cap z(W:P.underlying t=some (.slice e))(T:∀w,(zeroValue e).run P w=.ok z w)(F:0<n) us(S:(Builtin.zeroCells z.cells n).toList=us)(r:w.there b o us.length)(Z:∀v∈us,v.oneCell'=true):(Builtin.clear_ #[t] ty #[.slice (some ⟨b,o,none⟩) n cap]).run P w=.ok (.tuple #[]) (w.setCells b o us):=by
 have L:(storeCells ⟨b,o,none⟩ us 0).run P w=.ok () (w.setCells b o us):=by
  have:=run_storeCells_cells (P:=P) b o us 0 w (fun j X=>by simpa using(r j X).1) (fun j X=>by simpa using(r j X).2) Z;exact W2K
 obtain⟨m,rfl⟩:∃m,n=m+1:=⟨n-1,f6J⟩;unfold Builtin.clear_;simp[Sem.run_bind,run_underlying W,T,S,L]
def x1z(w:World)(k:Int->Int)(g:Nat)(ms:List Int):Prop:=∃mv,Blk w g 292 (mv::ia (cnts k ms))/\w.ownsRow (g+1) 295 2 mv ms.length (mc k ms)
theorem x1z.shape{w k g ms}(h:x1z w k g ms):∃ao cap,Blk w g 292 (.slice ao ms.length cap::ia (cnts k ms))/\w.ownsRow (g+1) 295 2 (.slice ao ms.length cap) ms.length (mc k ms)/\ms.length<=cap/\cap<=9223372036854775807:=by
 obtain⟨A,Z,D⟩:=h;rcases D.2 with⟨rfl,R⟩ | ⟨b,cap,Q,rfl,_,_,I,o,_⟩
 ·grind
 ·exact⟨_,cap,Z,D,I,by unfold maxLen at o;exact f6J⟩
theorem x8v k g v w(h:x1z w k g []):Calls prog 211 #[.pointer (some ⟨g,0,none⟩),v] w fun e w'=>e=.returned (.tuple #[])/\w'=w:=by
 obtain⟨B,M,Z,_,_,I⟩:=h.shape;have K:w.cell? ⟨g,0,none⟩=some (.slice B 0 M):=Z.cell rfl;go_enter func211,ntmps211;go_wp2;exact bodyPost_ret (v:=.tuple #[]) (results_none rfl _ _ _) rfl ⟨rfl,rfl⟩
theorem z8w w:(zeroValue 3).run prog w=.ok (.int .i64 0) w:=(zero_of_info (n:=1) f4x).1 w
theorem z4J w:(zeroValue 295).run prog w=.ok (.agg #[.int .i32 0,.int .i64 0]) w:=(zero_of_info (n:=2) f4x).1 w
theorem z8v:(Builtin.zeroCells (Value.int .i64 0).cells 255).toList=ia z255:=f4x
theorem y4T n:(Builtin.zeroCells (Value.agg #[.int .i32 0,.int .i64 0]).cells n).toList.length=n*2/\∀v∈(Builtin.zeroCells (Value.agg #[.int .i32 0,.int .i64 0]).cells n).toList,v.oneCell'=true:=by
 unfold Builtin.zeroCells;refine⟨by simp[Value.cells],fun v N=>?_⟩;simp only[Value.cells,Array.toList_map,List.mem_map]at N;obtain⟨i,_,rfl⟩:=N;have:i%#[Value.int .i32 0,.int .i64 0].size=0\/i%#[Value.int .i32 0,.int .i64 0].size=1:=(by grind);rcases this with h | h<;>rw[h]<;>rfl
theorem y3R k:cnts k []=z255:=by
 refine List.eq_replicate_iff.2 ⟨x1p k [],fun b Y=>?_⟩;obtain⟨i,_,rfl⟩:=List.mem_map.1 Y;rfl
theorem y5Y k g yb o ycap ms ys A C w(h:x1z w k g ms)(hy:Blk w yb 21 (A++ir ys++C))(hA:A.length=o)(n:ys.length=ms.length)(aq:o+ms.length<=ycap/\ycap<=9223372036854775807)(hk:Od.Mk k ms)(hn:ms.length<=3000000)(ho:o<=3000000)(t:0<ms.length)(r:yb<g):Calls prog 211 #[.pointer (some ⟨g,0,none⟩),.slice (some ⟨yb,0,none⟩) (o+ms.length) ycap] w fun e w'=>e=.returned (.tuple #[])/\Blk w' yb 21 (A++ir (Od.bkt k ms)++C)/\x1z w' k g []/\Below yb w w':=by
 obtain⟨mv,Z,D⟩:=h;obtain⟨aw,D⟩:=D;rcases D with⟨_,h0⟩ | ⟨b,E,Q,rfl,Y,f,T,ab,ai,aj⟩
 ·omega
 have hm:Blk w b 295 (mc k ms++Q.toList.drop (ms.length*2)):=by
  rw[<- aj,List.take_append_drop];unfold Blk;rw[f]
 have am:E<=9223372036854775807:=(by unfold maxLen at ab;exact f6J);obtain⟨az,S⟩:=aq;have i:=O (y5y k g b E yb o (ycap-o) ms ys _ A C w Z hm ⟨T,am⟩ hy hA n ⟨f6J,f6J⟩ hk hn f6J f6J);have K:w.cell? ⟨g,0,none⟩=some (.slice (some ⟨b,0,none⟩) ms.length E):=Z.cell rfl
 have H:Hid (∀W:World,Blk W yb 21 (A++ir (Od.bkt k ms)++C)->w.grownBy W (some yb)->∃x q y,W.setCells g 1 (ia z255)=x/\x.setCells b 0 (Builtin.zeroCells (Value.agg #[.int .i32 0,.int .i64 0]).cells ms.length).toList=q/\q.setCell ⟨g,0,none⟩ (.slice (some ⟨b,0,none⟩) 0 E)=y/\W.there g 1 (ia z255).length/\x.there b 0 (Builtin.zeroCells (Value.agg #[.int .i32 0,.int .i64 0]).cells ms.length).toList.length/\W.cell? ⟨g,0,none⟩=some (.slice (some ⟨b,0,none⟩) ms.length E)/\x.cell? ⟨g,0,none⟩=some (.slice (some ⟨b,0,none⟩) ms.length E)/\q.cell? ⟨g,0,none⟩=some (.slice (some ⟨b,0,none⟩) ms.length E)/\q.frozen? ⟨g,0,none⟩=false/\Blk y yb 21 (A++ir (Od.bkt k ms)++C)/\x1z y k g []/\Below yb w y):=fun W R hg=>by
  have r0:=Z.kept hg (fun e=>Nat.ne_of_gt r N5i);have m0:=hm.kept hg (fun e=>absurd (N5i:b=yb) f6J);have J:1+(ia z255).length<=(Value.slice (some ⟨b,0,none⟩) ms.length E::ia (cnts k ms)).length:=(by simp[x3p,z255,x1p]);have I:=r0.setCells (ia z255) 1 J
  have P:(Value.slice (some ⟨b,0,none⟩) ms.length E::ia (cnts k ms)).take 1++ia z255++(Value.slice (some ⟨b,0,none⟩) ms.length E::ia (cnts k ms)).drop (1+(ia z255).length)=.slice (some ⟨b,0,none⟩) ms.length E::ia z255:=by
   rw[List.drop_of_length_le (by simp[x3p,z255,x1p])];simp
  rw[P]at I;have u:=x4G (g2:=g) f6J (ia z255) 1 W m0;obtain⟨N,_⟩:=y4T ms.length;have F:Q.toList.length=E*2:=(Array.length_toList (xs:=Q)).trans ai;have G:(mc k ms++Q.toList.drop (ms.length*2)).length=E*2:=(by grind);have m2:=u.setCells (Builtin.zeroCells (Value.agg #[.int .i32 0,.int .i64 0]).cells ms.length).toList 0 (by rw[N,G];exact f6J);have r2:=x4G (g2:=b) f6J (Builtin.zeroCells (Value.agg #[.int .i32 0,.int .i64 0]).cells ms.length).toList 0 _ I;have r3:=r2.set 0 (.slice (some ⟨b,0,none⟩) 0 E);have m3:=m2.other (a:=⟨g,0,none⟩) (by show b≠g;exact f6J) (.slice (some ⟨b,0,none⟩) 0 E);have y1:=x4G (g2:=g) f6J (ia z255) 1 W R;have y2:=x4G (g2:=b) f6J (Builtin.zeroCells (Value.agg #[.int .i32 0,.int .i64 0]).cells ms.length).toList 0 _ y1;have y3:=y2.other (a:=⟨g,0,none⟩) (by show yb≠g;exact f6J) (.slice (some ⟨b,0,none⟩) 0 E);have b1:Below yb w W:=(b0r).grown hg (by have:=hy.lt;exact f6J) (fun j X=>by simp at X;exact f6J);have b2:=x0E (B:=yb) (g:=g) f6J (ia z255) 1 W b1;have b3:=x0E (B:=yb) (g:=b) f6J (Builtin.zeroCells (Value.agg #[.int .i32 0,.int .i64 0]).cells ms.length).toList 0 _ b2;refine⟨_,_,_,rfl,rfl,rfl,r0.there J,u.there (by rw[N,G];exact f6J),r0.cell rfl,I.cell rfl,r2.cell rfl,r2.frozen 0,y3,⟨.slice (some ⟨b,0,none⟩) 0 E,?_,⟨by simp[mc],Or.inr ⟨b,E,_,rfl,Y,m3,Nat.zero_le _,ab,?_,by simp[mc]⟩⟩⟩,b3.setCell (p:=⟨g,0,none⟩) (by show yb<=g;exact f6J) _⟩
  ·rw[y3R];exact r3
  ·grind
 have HZ:=O (y4T ms.length);have l:ms.length<=E:=T;generalize hgz:(Builtin.zeroCells (Value.agg #[.int .i32 0,.int .i64 0]).cells ms.length).toList=zz at *;have L:=O hgz;have ar:¬((ms.length:Int)=0):=f6J;go_enter func211,ntmps211;go_wp2_with fail;refine(V i).mono ?_;rintro e w1 ⟨rfl,y1,g1⟩;obtain⟨x,q,y,ag,U,d,t2,t3,c1,c2,c3,f3,s,af,M⟩:=V H w1 y1 g1;have m:=O s;have ae:=O af;have c:=O M
 have q1:(Builtin.clear_ #[279] 0 #[.slice (some ⟨g,1,none⟩) 255 255]).run prog w1=.ok (.tuple #[]) x:=by
  rw[<- ag];exact x8M 279 3 0 g 1 255 255 _ underlying279 z8w e8N (ia z255) z8v t2 (fun v hv=>by obtain⟨z,_,rfl⟩:=List.mem_map.1 hv;rfl)
 have q2:(Builtin.clear_ #[289] 0 #[.slice (some ⟨b,0,none⟩) ms.length E]).run prog x=.ok (.tuple #[]) q:=by
  rw[<- U];exact x8M 289 295 0 b 0 ms.length E _ underlying289 z4J t zz (V L) t3 (V HZ).2
 go_wp2;go_end0;exact⟨rfl,V m,V ae,V c⟩
end Od
open Ti
namespace Od
theorem z9R:∃i z,prog.info? 295=some i/\i.zero=some z/\i.size=2/\i.bytes=16/\z.cells.size=2:=by
 have h:(prog.info? 295).map (fun i=>(i.size,i.bytes,i.zero.map (·.cells.size)))=some (2,16,some 2):=f4x;obtain⟨i,hi,Z⟩:=Option.map_eq_some_iff.1 h;simp only[Prod.mk.injEq]at Z;obtain⟨Z,D,J⟩:=Z;obtain⟨z,T,P⟩:=Option.map_eq_some_iff.1 J;exact⟨i,z,hi,T,Z,D,P⟩
theorem y6J(w:World)(x y:Value):(Instr.buildSlice 289 1 #[(0,.agg #[x,y])]).run prog w=.ok (.slice (some ⟨w.heap.size,0,none⟩) 1 1) (w.alloc (.cells #[x,y] 295)):=by
 obtain⟨i,z,hi,T,Z,_,J⟩:=z9R;refine run_buildSlice w 289 295 1 _ _ i z underlying289 hi T f0R f0R ?_;rw[Z];have:=Great.fill_whole (s:=2) e8M [Value.agg #[x,y]] ((Array.range (1*2)).map (z.cells[·%z.cells.size]!)) (fun v N=>by simp at N;subst N;simp[Value.cells]) M7L;simpa[Value.cells]using this
theorem y8d(k:Int->Int)(ms:List Int)(m:Int){c:Nat}(I:k m=c)(K:c<255):(cnts k ms).set c ((cnts k ms).getD c 0+1)=cnts k (ms++[m]):=by
 refine x4k (n:=255) (by rw[List.length_set,x1p]) (x1p _ _) (fun j X=>?_);rw[x8P _ c j _ (by rw[x1p];exact K),x9f _ _ X,x9f _ _ X,x9f _ _ K,Od.x6H,List.length_append];by_cases h:j=c
 ·rw[if_pos h,h];simp[Od.ft,I]
 ·rw[if_neg h]
  have:Od.ft k j [m]=[]:=by
   unfold Od.ft;rw[List.filter_cons_of_neg P8P];rfl
  rw[this];simp
theorem z7p(k:Int->Int)(ms:List Int)(m:Int):mc k (ms++[m])=mc k ms++[.int .i32 m,.int .i64 (k m)]:=by simp[mc,List.flatMap_append]
theorem y4A{w:World}{b e F n g o:Nat}{v:Value}{xs:List Value}(h:w.ownsRow b e F v n xs)(t:v.ownBlock≠some g)(u:Value):(w.setCell ⟨g,o,none⟩ u).ownsRow b e F v n xs:=by
 refine⟨h.1,?_⟩;rcases h.2 with D | ⟨j,M,Q,P,E,N,I⟩
 ·exact Or.inl D
 ·refine Or.inr ⟨j,M,Q,P,E,?_,I⟩;rw[heap_setCell_other w ⟨g,o,none⟩ j u (fun e=>t (by rw[P];exact congrArg some e))];exact N
theorem x6W(W:World)(g:Nat)(u:Value)(h:W.cell? ⟨g,0,none⟩=some u):(Instr.loadAt 289 (.pointer (some ⟨g,0,none⟩))).run prog W=.ok u W:=by
 simp[Instr.loadAt,go_sem,Tryz.isAgg289,Tryz.sizeOf289,h,Addr.add]
theorem y0S(k:Int->Int)(g:Nat)(ms:List Int)(m:Int)(N:Nat)(w:World)(h:x1z w k g ms)(hc:k m=(N:Int))(h1:1<=N)(h2:N<=254)(hn:ms.length<=3000000):Calls prog 210 #[.pointer (some ⟨g,0,none⟩),.agg #[.int .i32 m,.int .i64 (N:Int)]] w fun e w'=>e=.returned (.tuple #[])/\x1z w' k g (ms++[m])/\Below g w w':=by
 obtain⟨i0,z0,aP,aX,aY,aZ,ba⟩:=z9R;obtain⟨B,E,Y,J,bm,bn⟩:=h.shape;have ae:N<255:=f6J;obtain⟨X,aC⟩:∃X,w.heap.size=X:=⟨_,rfl⟩;obtain⟨d,z⟩:∃d,w.alloc (.cells #[.int .i32 m,.int .i64 (N:Int)] 295)=d:=⟨_,rfl⟩;have bj:=Y.lt;have F:d.drew.cell? ⟨X,0,none⟩=some (.int .i32 m):=I6p;have aj:d.drew.cell? ⟨X,1,none⟩=some (.int .i64 (N:Int)):=I6p;have aA:Blk d.drew g 292 (.slice B ms.length E::ia (cnts k ms)):=(by rw[<- z];exact Y.alloc _);have C:d.drew.ownsRow (g+1) 295 2 (.slice B ms.length E) ms.length (mc k ms):=(by rw[<- z];exact(J.alloc _).drew);have aq:Below g w d.drew:=(by rw[<- z];exact((b0r).alloc f6J _).drew);have aV:d.drew.heap.size=X+1:=I6p;obtain⟨x,L⟩:∃x,d.drew.alloc (.cells #[.int .i32 m,.int .i64 (N:Int)] 295)=x:=⟨_,rfl⟩;obtain⟨R,r⟩:∃R,d.drew.heap.size=R:=⟨_,rfl⟩;have aW:x.heap.size=R+1:=(by rw[<- L];simp[r]);have aB:(Instr.buildSlice 289 1 #[(0,.agg #[.int .i32 m,.int .i64 (N:Int)])]).run prog d.drew=.ok (.slice (some ⟨R,0,none⟩) 1 1) x:=(by rw[<- L,<- r];exact y6J _ _ _);have D:x.cell? ⟨X,0,none⟩=some (.int .i32 m):=(by rw[<- L,World.cell?_alloc_lt _ _ _ (by show X<_;exact f6J)];exact F);have ai:x.cell? ⟨X,1,none⟩=some (.int .i64 (N:Int)):=(by rw[<- L,World.cell?_alloc_lt _ _ _ (by show X<_;exact f6J)];exact aj);have H:Blk x g 292 (.slice B ms.length E::ia (cnts k ms)):=(by rw[<- L];exact aA.alloc _);have s:x.ownsRow (g+1) 295 2 (.slice B ms.length E) ms.length (mc k ms):=(by rw[<- L];exact C.alloc _);have ar:Below g w x:=(by rw[<- L];exact aq.alloc f6J _);have y:g+1<=x.heap.size:=f6J;have aJ:(Instr.loadAt 289 (.pointer (some ⟨g,0,none⟩))).run prog d.drew=.ok (.slice B ms.length E) d.drew:=x6W _ _ _ (aA.cell rfl);have aK:(Instr.loadAt 289 (.pointer (some ⟨g,0,none⟩))).run prog x=.ok (.slice B ms.length E) x:=x6W _ _ _ (H.cell rfl)
 have l:∀u∈[Value.int .i32 m,.int .i64 (N:Int)],u.oneCell'=true:=fun u hu=>by
  rcases List.mem_cons.1 hu with rfl | hu
  ·rfl
  ·obtain rfl:=List.mem_singleton.1 hu;rfl
 have am:=O s
 have c:Hid (∀(j:Nat) (u:Value),[Value.int .i32 m,.int .i64 (N:Int)][j]?=some u->x.cell? ((⟨R,0,none⟩:Addr).add j)=some u):=fun j u hu=>by
  rw[Addr.add_mid,Nat.zero_add,<- L,<- r];exact(Blk.new d.drew 295 [Value.int .i32 m,.int .i64 (N:Int)] _ rfl).cell hu
 have aw:Hid (∀(W:World) I M,W.cell? ⟨X,0,none⟩=some (.int .i32 m)->W.cell? ⟨X,1,none⟩=some (.int .i64 (N:Int))->(W.setCell ⟨g,0,none⟩ (.slice (some ⟨I,0,none⟩) (ms.length+1) M)).cell? ⟨X,0,none⟩=some (.int .i32 m)/\(W.setCell ⟨g,0,none⟩ (.slice (some ⟨I,0,none⟩) (ms.length+1) M)).cell? ⟨X,1,none⟩=some (.int .i64 (N:Int))):=fun W I M a b=>by
  have t:∀i,(⟨g,0,none⟩:Addr)≠⟨X,i,none⟩:=fun i e=>M8Z;rw[World.cell?_setCell_other _ _ _ _ (t 0),World.cell?_setCell_other _ _ _ _ (t 1)];exact⟨a,b⟩
 obtain⟨q,hq⟩:∃q,(cnts k ms).getD N 0=q:=⟨_,rfl⟩
 have aD:Hid (∀(W:World) (v:Value),W.cell? ⟨X,1,none⟩=some (.int .i64 (N:Int))->(W.setCell ⟨g,1+N,none⟩ v).cell? ⟨X,1,none⟩=some (.int .i64 (N:Int))):=fun W v a=>by
  rw[World.cell?_setCell_other _ _ _ _ (fun e=>M8Z)];exact a
 have Q:Hid (∀I M (A:World),A.ownsRow (g+1) 295 2 (.slice (some ⟨I,0,none⟩) (ms.length+1) M) (ms.length+1) (mc k ms++[.int .i32 m,.int .i64 (N:Int)])->x.grownBy A (Value.slice B ms.length E).ownBlock->((Value.slice B ms.length E).ownBlock=some I\/I=x.heap.size)->A.cell? ⟨X,0,none⟩=some (.int .i32 m)/\A.cell? ⟨X,1,none⟩=some (.int .i64 (N:Int))/\A.cell? ⟨g,0,none⟩=some (.slice B ms.length E)/\A.frozen? ⟨g,0,none⟩=false/\∃W9,(A.setCell ⟨g,0,none⟩ (.slice (some ⟨I,0,none⟩) (ms.length+1) M)).drew=W9/\W9.cell? ⟨X,1,none⟩=some (.int .i64 (N:Int))/\W9.cell? ⟨g,1+N,none⟩=some (.int .i64 q)/\W9.frozen? ⟨g,1+N,none⟩=false/\x1z (W9.setCell ⟨g,1+N,none⟩ (.int .i64 (q+1))) k g (ms++[m])/\Below g w (W9.setCell ⟨g,1+N,none⟩ (.int .i64 (q+1)))):=fun I M A aT hg af=>by
  have ag:∀j,(Value.slice B ms.length E).ownBlock=some j->g+1<=j/\j<X:=fun j hj=>by
   have:=J.lt j hj;omega
  have aQ:some g≠(Value.slice B ms.length E).ownBlock:=fun e=>(by have:=ag g e.symm;exact f6J);have aI:some X≠(Value.slice B ms.length E).ownBlock:=fun e=>(by have:=ag X e.symm;exact f6J);have P:=H.kept hg aQ;have u0:=hg.cell D aI;have u1:=hg.cell ai aI
  have bh:g+1<=I:=by
   rcases af with e | e
   ·exact(ag I e).1
   ·omega
  have n:=P.set 0 (.slice (some ⟨I,0,none⟩) (ms.length+1) M);have ab:Blk (A.setCell ⟨g,0,none⟩ (.slice (some ⟨I,0,none⟩) (ms.length+1) M)).drew g 292 (.slice (some ⟨I,0,none⟩) (ms.length+1) M::ia (cnts k ms)):=n;have T:Below g w A:=ar.grown hg f6J (fun j hj=>by have:=ag j hj;exact f6J);have U:Below g w (A.setCell ⟨g,0,none⟩ (.slice (some ⟨I,0,none⟩) (ms.length+1) M)).drew:=(T.setCell (p:=⟨g,0,none⟩) (l0r _) _).drew;have aU:(A.setCell ⟨g,0,none⟩ (.slice (some ⟨I,0,none⟩) (ms.length+1) M)).drew.ownsRow (g+1) 295 2 (.slice (some ⟨I,0,none⟩) (ms.length+1) M) (ms.length+1) (mc k ms++[.int .i32 m,.int .i64 (N:Int)]):=y4A aT (fun e=>absurd (G5X:I=g) f6J) _
  have aS:(Value.slice (some ⟨I,0,none⟩) (ms.length+1) M::ia (cnts k ms))[1+N]?=some (.int .i64 q):=by
   rw[Nat.add_comm 1 N,List.getElem?_cons_succ,y9i (by rw[x1p];exact ae),hq]
  refine⟨u0,u1,P.cell rfl,P.frozen 0,_,rfl,?_,ab.cell aS,ab.frozen _,⟨.slice (some ⟨I,0,none⟩) (ms.length+1) M,?_,?_⟩,U.setCell (p:=⟨g,1+N,none⟩) (l0r _) _⟩
  ·exact(V aw A I M u0 u1).2
  ·have:=ab.set (1+N) (.int .i64 (q+1));rw[Nat.add_comm 1 N,List.set_cons_succ,y9j,<- hq,y8d k ms m hc ae,hq]at this;rw[Nat.add_comm 1 N];exact this
  ·rw[List.length_append,z7p,hc];exact y4A aU (fun e=>absurd (G5X:I=g) f6J) _
 have be:(N:Int)<255:=f6J;have aR:0<=q/\q<=3000000:=(by rw[<- hq];exact y3Q k ms hn _ (by have:=x1p k ms;simp[List.getD,(f6J:N<(cnts k ms).length)]));obtain⟨bp,bt⟩:=aR;have bu:IntKind.i64.wrap (q+1)=q+1:=s7D;clear h Y J aA C aq aV L aW H s ar r hc hq ae;go_enter func210,ntmps210;go_upto_region 1 with fail;refine wp_region_held_drew (S:=fun w'=>w'.cell? ⟨X,0,none⟩=some (.int .i32 m)/\w'.cell? ⟨X,1,none⟩=some (.int .i64 (N:Int))) f4y (⟨F,aj⟩) (fun hHeld=>?_);generalize d.drew=Wd at *;refine tk9 0 (.pointer (some ⟨g,0,none⟩)) ?_;refine tk9 1 (.pointer (some ⟨g,0,none⟩)) ?_;refine tk9 2 (.pointer (some ⟨g,0,none⟩)) ?_;refine tk9 3 (.pointer (some ⟨g,0,none⟩)) ?_;refine tk9 5 (.agg #[.int .i32 m,.int .i64 (N:Int)]) ?_ (hy:=by(intro w hSw;obtain⟨f,s1⟩:=hSw;go_simp));refine wpAnyH_ready (rs:=[4,6]) f4y M7N ?_;refine AllReadyH.cons (o:=⟨some 8,_,_,_,_,_⟩) rfl (fun K hK=>?pa) (AllReadyH.cons (o:=⟨some 10,_,_,_,_,_⟩) rfl (fun K hK=>?pb) AllReadyH.nil)
 case' pa =>
  refine x1P (by rfl) 289 (.tmp 7) (by rfl) _ _ (by rfl) aJ ?_;refine hK.out _ _ (⟨F,aj⟩) (fun hHeld=>?_);clear hK K
  try simp only[Act.put,sa9,sb9,sc9]
  refine rd9 6 fun K hK=>?_;refine x2h (by rfl) 289 (.tmp 9) (by rfl) _ _ (by rfl) aB ?_;refine hK.out _ _ (⟨D,ai⟩) (fun hHeld=>?_);clear hK K
  try simp only[Act.put,sa9,sb9,sc9]
 case' pb =>
  refine x2h (by rfl) 289 (.tmp 9) (by rfl) _ _ (by rfl) aB ?_;refine hK.out _ _ (⟨D,ai⟩) (fun hHeld=>?_);clear hK K
  try simp only[Act.put,sa9,sb9,sc9]
  refine rd9 4 fun K hK=>?_;refine x1P (by rfl) 289 (.tmp 7) (by rfl) _ _ (by rfl) aK ?_;refine hK.out _ _ (⟨D,ai⟩) (fun hHeld=>?_);clear hK K
  try simp only[Act.put,sa9,sb9,sc9]
 all_goals
  refine rd9 7 fun K hK=>?_;refine step_append_lies _ (by rfl) (.tmp 8) (.tmp 10) 289 (by rfl) (g+1) 295 i0 z0 2 16 underlying289 aP aX aY aZ ba f6J (.slice B ms.length E) ms.length (mc k ms) (by rfl) (V am) ⟨R,0,none⟩ 1 1 [.int .i32 m,.int .i64 (N:Int)] (by rfl) (by rfl) (V c) l f6J T7X f6J y x.heap.size rfl ?_;intro I M A Z G af aH;obtain⟨f,s1,aN,aO,W9,az,y1,y2,fy,aF,aG⟩:=V Q I M A Z G af;refine hK.out _ _ ?_ (fun hHeld=>?_)
  ·exact⟨f,s1⟩
  clear hK K
  try simp only[Act.put,sa9,sb9,sc9]
  refine tk9 8 (.pointer (some ⟨g,0,none⟩)) ?_;refine tk9 9 (.pointer (some ⟨g,0,none⟩)) ?_;refine rd9 10 fun K hK=>?_;go_simp;refine hK.out _ _ ?_ (fun hHeld=>?_)
  ·exact V aw _ _ _ f s1
  clear hK K;refine wpAnyH_done f4y ?_ _;have aL:=O aF;have aM:=O aG;clear hHeld Z G af aH f s1 aN aO Q am c aB aJ aK l y aF aG aw F aj;go_upto_region 2 with fail;refine wp_region_held_drew (S:=fun w'=>w'.cell? ⟨X,1,none⟩=some (.int .i64 (N:Int))) f4y (by rw[az];exact y1) (fun hHeld=>?_);rw[az]at hHeld ⊢;clear az;refine tk9 0 (.pointer (some ⟨g,0,none⟩)) ?_;refine tk9 1 (.pointer (some ⟨X,1,none⟩)) ?_;refine tk9 2 (.int .i64 (N:Int)) ?_;refine tk9 3 (.pointer (some ⟨g,0,none⟩)) ?_;refine tk9 4 (.pointer (some ⟨g,1,none⟩)) ?_;refine tk9 5 (.pointer (some ⟨g,1+N,none⟩)) ?_;refine tk9 8 (.pointer (some ⟨g,0,none⟩)) ?_;refine tk9 9 (.pointer (some ⟨g,1,none⟩)) ?_;refine rd9 6 fun K hK=>?_;go_simp;refine hK.out _ _ ?_ (fun hHeld=>?_)
  ·exact y1
  clear hK K
  try simp only[Act.put,sa9,sb9,sc9]
  refine tk9 7 (.int .i64 (q+1)) ?_;refine tk9 10 (.pointer (some ⟨g,1+N,none⟩)) ?_;refine rd9 11 fun K hK=>?_;go_simp;refine hK.out _ _ ?_ (fun hHeld=>?_)
  ·exact V aD _ _ y1
  clear hK K;refine wpAnyH_done f4y ?_ _;clear hHeld;go_wp2;go_end0;exact⟨rfl,V aL,V aM⟩
end Od
