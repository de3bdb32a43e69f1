/- Lemmas. -/
import Derived.Test.YtbmckadcjdedcaaGreatDoorK19
import Derived.Test.YtbmckadcjdedcaaGreatDoorK3
set_option maxHeartbeats 4000000
set_option maxRecDepth 8000
namespace Go.Proofs.YtbmckadcjdedcaaGreatDoor
open Go.Proofs.Tryz
open Go.RowKit
open Ti
section
variable{p:Prop}
theorem f3f(h:p:=by rw[List.getElem?_map,List.getElem?_eq_getElem hi];exact n7A):p:=h
theorem v5C(h:p:=by rw[<- J,<- az];exact M7N):p:=h
theorem M1q(h:p:=by intro e;have:yb=t:=congrArg Addr.block e;exact f6J):p:=h
theorem E8Y(h:p:=by have:g=l:=congrArg Addr.block e;exact f6J):p:=h
theorem R1D(h:p:=by simp[x3B,z255,G]):p:=h
theorem G5Z(h:p:=by simpa[Value.ownBlock]using e):p:=h
end
namespace Od
def Blk(w:World)(g:Nat)(t:TypeId)(vs:List Value):Prop:=w.heap[g]?=some (.cells vs.toArray t (0,0))
theorem Blk.lt{w}{g t:Nat}{vs}(h:Blk w g t vs):g<w.heap.size:=(Array.getElem?_eq_some_iff.1 h).1
theorem Blk.cell{w}{g t:Nat}{vs}(h:Blk w g t vs){i v}(N:vs[i]?=some v):w.cell? ⟨g,i,none⟩=some v:=by
 rw[cell_of_row _ _ _ _ _ _ h];simpa using N
theorem Blk.frozen{w}{g t:Nat}{vs}(h:Blk w g t vs) i:w.frozen? ⟨g,i,none⟩=false:=frozen_of_row _ _ _ _ _ h
theorem Blk.set{w}{g t:Nat}{vs}(h:Blk w g t vs) i v:Blk (w.setCell ⟨g,i,none⟩ v) g t (vs.set i v):=by
 unfold Blk at h ⊢;rw[heap_setCell_same w g i _ _ _ h];simp
theorem Blk.other{w}{g t:Nat}{vs}(h:Blk w g t vs){a}(F:g≠a.block) v:Blk (w.setCell a v) g t vs:=by
 unfold Blk at h ⊢;exact r7O
theorem Blk.new(w:World)(t:Nat) vs C(o:C=vs.toArray):Blk (w.alloc (.cells C t)) w.heap.size t vs:=by
 subst o;exact heap_alloc_last w _
theorem Blk.alloc{w}{g t:Nat}{vs}(h:Blk w g t vs) o:Blk (w.alloc o) g t vs:=P1G
theorem Blk.below{w w'}{g t n:Nat}{vs}(h:Blk w g t vs)(Q:Below n w w')(E:g<n):Blk w' g t vs:=by
 unfold Blk at h ⊢;rw[Q.block g E];exact h
theorem Blk.range{w}{g t:Nat}{vs}(h:Blk w g t vs) o:w.rangeAt g o (vs.drop o):=fun j v N=>h.cell (by rw[List.getElem?_drop]at N;exact N)
theorem Blk.there{w}{g t:Nat}{vs}(h:Blk w g t vs){o n}(E:o+n<=vs.length):w.there g o n:=fun j K=>by
 refine⟨?_,h.frozen _⟩;rw[h.cell (List.getElem?_eq_getElem (f6J:o+j<vs.length))];rfl
theorem Blk.setCells{w}{g t:Nat}:∀(us:List Value) {l:List Value} (o:Nat),Blk w g t l->o+us.length<=l.length->Blk (w.setCells g o us) g t (l.take o++us++l.drop (o+us.length)):=by
 intro us
 induction us generalizing w with
 | nil=>intro l o h _;simpa[World.setCells]using h
 | cons u us ih =>
  intro l o h S;rw[World.setCells];have:=ih (o+1) (h.set o u) (by rw[List.length_set];simp at S;exact f6J)
  have e:(l.set o u).take (o+1)++us++(l.set o u).drop (o+1+us.length)=l.take o++(u::us)++l.drop (o+(u::us).length):=by
   simp only[List.length_cons]at S
   have Z:(l.set o u).take (o+1)=l.take o++[u]:=by
    rw[List.take_add_one,List.take_set_of_le (l0r _),List.getElem?_set_self f6J];rfl
   rw[Z,List.drop_set_of_lt f6J,List.length_cons,(f6J:o+1+us.length=o+(us.length+1))];simp
  rw[e]at this;exact this
def ia(zs:List Int):List Value:=zs.map (Value.int .i64)
def z255:List Int:=List.replicate 255 0
theorem y8y{zs i}(hi:i<zs.length):(ia zs)[i]?=some (.int .i64 (zs.getD i 0)):=by
 unfold ia;exact f3f
theorem y8z zs i v:(ia zs).set i (.int .i64 v)=ia (zs.set i v):=by unfold ia;rw[List.map_set]
theorem x3B zs:(ia zs).length=zs.length:=List.length_map _
theorem z3J zs:(ia zs).toArray.all (·.oneCell')=true:=all_oneCell_toArray (fun v N=>by obtain⟨z,_,rfl⟩:=List.mem_map.1 N;rfl)
theorem x3q:(prog.info? 226).map (·.size)=some 255:=f4x
end Od
open Ti
namespace Od
def beg(cs:List Int):List Int:=(List.range 255).map fun i=>(cs.take i).sum
theorem x4H cs:(beg cs).length=255:=by simp[beg]
theorem z3A cs{i}(hi:i<255):(beg cs).getD i 0=(cs.take i).sum:=by simp[beg,List.getD,hi]
theorem z4a(cs:List Int)(h:∀c∈cs,0<=c/\c<=3000000):∀k:Nat,0<=(cs.take k).sum/\(cs.take k).sum<=3000000*(k:Int)
 | 0=>M7K
 | k+1=>by
  have B:=z4a cs h k;rw[List.take_add_one,List.sum_append]
  cases hk:cs[k]? with
  | none=>exact f4R
  | some c =>
   have:=h c (List.mem_of_getElem? hk);simp;omega
theorem y4f{cs:List Int}{k}(G:k<cs.length):(cs.take (k+1)).sum=(cs.take k).sum+cs.getD k 0:=by
 rw[List.take_add_one,List.sum_append,List.getElem?_eq_getElem G];exact w7Y
theorem z7b:Tryz.zeroCells226=(ia z255).toArray:=f4x
theorem x4n{a b:List Int}{n}(H:a.length=n)(Q:b.length=n)(h:∀j,j<n->a.getD j 0=b.getD j 0):a=b:=by
 apply List.ext_getElem f6J;intro i Z D;have:=h i f6J;simpa[List.getD,Z,D]using this
theorem y0P g mv cs w(hr:Blk w g 228 (mv::ia cs))(hl:cs.length=255)(hc:∀c∈cs,0<=c/\c<=3000000):Calls prog 249 #[.pointer (some ⟨g,0,none⟩)] w fun e w'=>e=.returned (.agg (ia (beg cs)).toArray)/\Bw w w':=by
 obtain⟨W1,J⟩:∃W1,w.alloc (.cells Tryz.zeroCells226 226)=W1:=⟨_,rfl⟩;obtain⟨x,R⟩:∃x,W1.alloc (.cells Tryz.zeroCells226 226)=x:=⟨_,rfl⟩;have E:Bw w W1:=(by rw[<- J];exact(b0r).alloc (l0r _) _);have N:W1.heap.size=w.heap.size+1:=(by rw[<- J];exact M7L);have F:Bw w x:=by rw[<- R];exact E.alloc f6J _
 have k1:Blk x w.heap.size 226 (ia z255):=by
  rw[<- R];refine Blk.alloc ?_ _;rw[<- J];exact Blk.new w _ _ _ z7b
 have k2:Blk x (w.heap.size+1) 226 (ia z255):=(by rw[<- R,<- N];exact Blk.new W1 _ _ _ z7b);have aB:=hr.lt;have HR:=O hr;have HC:=O hc;have ar:Hid (∀k,0<=(cs.take k).sum/\(cs.take k).sum<=3000000*(k:Int)):=z4a cs hc;have t:Hid (∀k,k<255->(cs.take (k+1)).sum=(cs.take k).sum+cs.getD k 0):=fun k hk=>y4f f6J;have l:Hid ((cs.take 0).sum=0):=(by grind);have am:Hid (∀zs:List Int,zs.length=255->(∀j,j<255->zs.getD j 0=(cs.take j).sum)->zs=beg cs):=fun zs Z h2=>x4n Z (x4H cs) (fun j K=>by rw[h2 j K,z3A cs K])
 have ab:Hid (∀(W:World),Bw w W->∀k:Nat,k<255->W.cell? ⟨g,1+k,none⟩=some (.int .i64 (cs.getD k 0))):=fun W hW k hk=>by
  rw[hW.cell aB];refine hr.cell ?_;rw[Nat.add_comm,List.getElem?_cons_succ];exact y8y f6J
 have aj:Hid (∀k:Nat,k<255->0<=cs.getD k 0/\cs.getD k 0<=3000000):=fun k hk=>hc _ (by simp[List.getD,(f6J:k<cs.length)]);obtain⟨I,L⟩:∃I,I=w.heap.size+1:=⟨_,rfl⟩;obtain⟨T,M⟩:∃T,T=w.heap.size:=⟨_,rfl⟩;have az:T≠I:=f6J;have af:w.heap.size<=T:=f6J;have G:w.heap.size<=I:=f6J;rw[<- M]at k1;rw[<- L]at k2 N;have o:=O k1;have K2:=O k2;have ai:=O F;have U:=M.symm;have Z0:Hid (z255.length=255):=(by show _=_;simp[z255]);clear hr hc E F k1 k2 M L hl;go_enter func249,ntmps249;go_wp2;go_loopw[4,5,6] (fun nn _ kk wr=>∃(k:Nat) (zs:List Int),kk=.int .i64 k/\nn=.int .i64 (cs.take k).sum/\k<=255/\zs.length=255/\Blk wr I 226 (ia zs)/\Blk wr T 226 (ia z255)/\Bw w wr/\∀j,j<k->zs.getD j 0=(cs.take j).sum) (fun _ _ kk _=>255-(intOf kk).toNat)
 case atStart=>exact⟨0,z255,rfl,by rw[V l],f6J,V Z0,V K2,V o,V ai,fun j K=>f6J⟩
 case round =>
  obtain⟨k,zs,rfl,rfl,hk,X,A,f,Q,S⟩:=hrel;have aG:=V ar k;by_cases H:k<255
  ·have d:=V t k H;have aD:=V ab wr Q k H;obtain⟨q0,q1⟩:=V aj k H;have aC:=A.cell (y8y (zs:=zs) (i:=k) f6J);have aF:=A.frozen k;have z:Blk (wr.setCell ⟨I,k,none⟩ (.int .i64 (cs.take k).sum)) I 226 (ia (zs.set k (cs.take k).sum)):=(by rw[<- y8z];exact A.set k _);have m:=f.other (a:=⟨I,k,none⟩) az (.int .i64 (cs.take k).sum);have F:=Q.setCell (p:=⟨I,k,none⟩) G (.int .i64 (cs.take k).sum);have D:(wr.setCell ⟨I,k,none⟩ (.int .i64 (cs.take k).sum)).cell? ⟨g,1+k,none⟩=some (.int .i64 (cs.getD k 0)):=V ab _ F k H
   have ae:Hid (∀j,j<k+1->(zs.set k (cs.take k).sum).getD j 0=(cs.take j).sum):=by
    intro j K;rw[x7c zs k j _ f6J];split
    ·rename_i e;rw[e]
    ·exact S j f6J
   obtain⟨Y,aA⟩:∃Y,wr.setCell ⟨I,k,none⟩ (.int .i64 (cs.take k).sum)=Y:=⟨_,rfl⟩;rw[aA]at z m F D;have ay:=O z;have aw:=O m;have HB:=O F;have aq:=O d;generalize hq:cs.getD k 0=q,hs:(cs.take k).sum=s at *;have n:(0:Int)<=(k:Int):=f6J;have u:(k:Int)<255:=f6J;go_wp2
   go_roundw
   case rel=>exact⟨k+1,zs.set k s,g2A,by rw[V aq],f6J,by simp[X],V ay,V aw,V HB,V ae⟩
   case measure=>exact g7V
  ·obtain rfl:k=255:=f6J;have B:=V am zs X S;subst B;go_upto_region 9 with fail;refine wp_region_list ?_;have C:=A.range 0;rw[List.drop_zero]at C;refine wpList_load_mid (by rfl) 226 (.tmp 3) (by rfl) I 0 (by rfl) (ia (beg cs)) _ C underlying226 (by rfl) (by rw[x3B,x4H];exact x3q) ?_;have r:wr.there T 0 (ia (beg cs)).toArray.size:=f.there (by simp[x3B,x4H,z255]);refine wpList_store_mid (by rfl) 226 (.tmp 2) (.tmp 21) (by rfl) T 0 (ia (beg cs)).toArray (by rfl) (by rfl) r (by rw[show(ia (beg cs)).toArray.size=255 by simp[x3B,x4H]];exact x3q) (z3J _) ?_;have ag:=World.rangeAt_setCells_same wr T 0 (ia (beg cs)) I2w;have b:Bw w (wr.setCells T 0 (ia (beg cs))):=x0G af _ _ _ Q;have y:=run_loadVar_mid (P:=prog) _ T 0 226 (ia (beg cs)) _ ag underlying226 (by rfl) (by rw[x3B,x4H];exact x3q);go_wp2;exact bodyPost_ret (v:=.agg (ia (beg cs)).toArray) (x2G rfl _ _ _ T _ (by rfl) y) rfl ⟨rfl,b⟩
end Od
namespace Od
def fl(k:Int->Int)(j:Int)(l:List Int):List Int:=l.filter fun m=>decide (k m=0\/k m=j)
def bkN(k:Int->Int)(ms:List Int)(n:Nat):List Int:=(List.range n).flatMap fun(c:Nat)=>ms.filter fun m=>decide (k m=(c:Int))
def bkt(k:Int->Int)(ms:List Int):List Int:=bkN k ms 255
def ordA(k:Int->Int):List Int->List Int->List Int
 | ms,[]=>bkt k ms
 | ms,c::l=>if k c=0 then bkt k ms++c::ordA k [] l else ordA k (ms++[c]) l
def ord(k:Int->Int)(xs:List Int):List Int:=ordA k [] xs
def Mk(k:Int->Int)(ms:List Int):Prop:=∀m∈ms,1<=k m/\k m<=254
theorem y6T k:bkt k []=[]:=by
 unfold bkt bkN;simp
theorem x8G k ms n:bkN k ms (n+1)=bkN k ms n++ms.filter fun m=>decide (k m=(n:Int)):=by
 simp[bkN,List.range_succ,List.flatMap_append]
theorem z1N(p q r:Int->Bool)(h:∀m,r m=(p m||q m))(hd:∀m,¬(p m=true/\q m=true))(ms:List Int):(ms.filter r).length=(ms.filter p).length+(ms.filter q).length:=by
 induction ms with
 | nil=>rfl
 | cons m ms ih=>grind
theorem z4E k ms(h:∀m∈ms,0<=k m) n:(bkN k ms n).length=(ms.filter fun m=>decide (k m<(n:Int))).length:=by
 induction n with
 | zero =>
  have:(ms.filter fun m=>decide (k m<((0:Nat):Int)))=[]:=f0h;rw[this];rfl
 | succ n ih =>
  rw[x8G,List.length_append,ih];refine(z1N _ _ _ (fun m=>?_) (fun m=>?_) ms).symm
  ·grind
  ·exact f4R
theorem x8H{k ms}(h:Mk k ms):(bkt k ms).length=ms.length:=by
 unfold bkt;rw[z4E k ms (fun m y=>by have:=h m y;exact f6J),List.filter_eq_self.2];intro m y;have:=h m y;exact f4R
theorem z4F{k ms n x}(h:x∈bkN k ms n):x∈ms/\0<=k x/\k x<n:=by
 unfold bkN at h;rw[List.mem_flatMap]at h;obtain⟨c,T,J⟩:=h;rw[List.mem_range]at T;rw[List.mem_filter]at J;have:=o0d J.2;exact⟨J.1,f6J,f6J⟩
theorem z1l k ms j n:((bkN k ms n).filter fun m=>decide (k m=j))=if 0<=j/\j<n then ms.filter fun m=>decide (k m=j)else[]:=by
 induction n with
 | zero=>rw[if_neg f6J];rfl
 | succ n ih =>
  rw[x8G,List.filter_append,ih,List.filter_filter];by_cases h:j=(n:Int)
  ·grind
  ·have:(ms.filter fun a=>decide (k a=j)&&decide (k a=(n:Int)))=[]:=by
    rw[List.filter_eq_nil_iff];intro m _;exact f4R
   rw[this,List.append_nil];by_cases Z:0<=j/\j<(n:Int)
   ·rw[if_pos Z,if_pos f6J]
   ·rw[if_neg Z,if_neg f6J]
theorem y3x{k ms}(h:Mk k ms) j:fl k j ms=if 1<=j/\j<=254 then ms.filter (fun m=>decide (k m=j))else[]:=by
 unfold fl;by_cases K:1<=j/\j<=254
 ·rw[if_pos K];refine List.filter_congr (fun m y=>?_);have:=h m y;exact f4R
 ·rw[if_neg K,List.filter_eq_nil_iff];intro m y;have:=h m y;exact f4R
theorem z7y{k ms}(h:Mk k ms):Mk k (bkt k ms):=fun m y=>h m (z4F y).1
theorem z3F{k ms}(h:Mk k ms) j:fl k j (bkt k ms)=fl k j ms:=by
 rw[y3x (z7y h),y3x h];by_cases K:1<=j/\j<=254
 ·rw[if_pos K,if_pos K];unfold bkt;rw[z1l,if_pos f6J]
 ·rw[if_neg K,if_neg K]
theorem y0o k j a b:fl k j (a++b)=fl k j a++fl k j b:=by unfold fl;exact List.filter_append ..
theorem y8g k j c l:fl k j (c::l)=if k c=0\/k c=j then c::fl k j l else fl k j l:=by
 unfold fl;rw[List.filter_cons];by_cases h:k c=0\/k c=j
 ·grind
 ·grind
theorem y2s{k ms c}(h:Mk k ms)(Z:1<=k c)(D:k c<=254):Mk k (ms++[c]):=by
 intro m hm;rcases List.mem_append.1 hm with hm | hm
 ·exact h m hm
 ·grind
theorem y2b{k:Int->Int}(G:∀c,0<=k c/\k c<=254)(j:Int):∀(l ms:List Int),Mk k ms->fl k j (ordA k ms l)=fl k j (ms++l)
 | [],ms,h=>by rw[ordA,z3F h,List.append_nil]
 | c::l,ms,h=>by
  rw[ordA];by_cases T:k c=0
  ·rw[if_pos T,y0o,y0o,z3F h,y8g,y8g,y2b G j l [] (fun _ h=>m5j)];rfl
  ·rw[if_neg T,y2b G j l _ (y2s h (by have:=G c;exact f6J) (G c).2)];simp
theorem z8j{k}(G:∀c,0<=k c/\k c<=254) j xs:fl k j (ord k xs)=fl k j xs:=y2b G j xs [] (fun _ h=>m5j)
theorem x9t{k:Int->Int}(G:∀c,0<=k c/\k c<=254):∀(l ms:List Int),Mk k ms->(ordA k ms l).length=ms.length+l.length
 | [],ms,h=>by rw[ordA,x8H h];rfl
 | c::l,ms,h=>by
  rw[ordA];by_cases T:k c=0
  ·rw[if_pos T,List.length_append,x8H h,List.length_cons,x9t G l [] (fun _ h=>m5j)];simp
  ·rw[if_neg T,x9t G l _ (y2s h (by have:=G c;exact f6J) (G c).2)];simp;omega
theorem y9x{k}(G:∀c,0<=k c/\k c<=254) xs:(ord k xs).length=xs.length:=by
 unfold ord;rw[x9t G xs [] (fun _ h=>m5j)];simp
theorem y9y{k}(G:∀c,0<=k c/\k c<=254){xs x}(h:x∈ord k xs):x∈xs:=by
 have Z:x∈fl k (k x) (ord k xs):=List.mem_filter.2 ⟨h,M7K⟩;rw[z8j G]at Z;exact(List.mem_filter.1 Z).1
end Od
namespace Od
theorem x4R(f:Nat->List Int) n:(List.range (n+1)).flatMap f=(List.range n).flatMap f++f n:=by
 simp[List.range_succ,List.flatMap_append]
theorem z8k(f:Nat->List Int){c n}(h:c<n):((List.range c).flatMap f).length+(f c).length<=((List.range n).flatMap f).length:=by
 induction n with
 | zero=>omega
 | succ n ih =>
  rw[x4R,List.length_append];rcases Nat.lt_succ_iff_lt_or_eq.1 h with h | rfl
  ·have:=ih h;omega
  ·exact l0r _
theorem x5X{f g:Nat->List Int}{n}(h:∀i,i<n->f i=g i):(List.range n).flatMap f=(List.range n).flatMap g:=by
 induction n with
 | zero=>rfl
 | succ n ih=>rw[x4R,x4R,ih (fun i hi=>h i f6J),h n f6J]
theorem z8l(f g:Nat->List Int){c r n} v(T:c<n)(hr:r<(f c).length)(C:g c=(f c).set r v)(hd:∀i,i≠c->g i=f i):((List.range n).flatMap f).set (((List.range c).flatMap f).length+r) v=(List.range n).flatMap g:=by
 induction n with
 | zero=>omega
 | succ n ih =>
  rw[x4R,x4R];rcases Nat.lt_succ_iff_lt_or_eq.1 T with h | rfl
  ·have:=z8k f h;rw[List.set_append_left _ _ f6J,ih h,hd n f6J]
  ·rw[List.set_append_right _ _ f6J,(f6J:((List.range c).flatMap f).length+r-((List.range c).flatMap f).length=r),<- C,x5X (fun i hi=>(hd i f6J).symm)]
def ft(k:Int->Int)(c:Nat)(l:List Int):List Int:=l.filter fun m=>decide (k m=(c:Int))
theorem z4G k ms n:bkN k ms n=(List.range n).flatMap fun c=>ft k c ms:=rfl
theorem x6y k c a b:ft k c (a++b)=ft k c a++ft k c b:=by unfold ft;exact List.filter_append ..
def y4o(k:Int->Int)(ms:List Int)(j:Nat)(y:List Int):Prop:=∃J:Nat->List Int,y=(List.range 255).flatMap (fun c=>ft k c (ms.take j)++J c)/\∀c,c<255->(J c).length=(ft k c (ms.drop j)).length
theorem split(g:Nat->Nat):∀(n:Nat) (y:List Int) (_:y.length=((List.range n).map g).sum),∃J:Nat->List Int,y=(List.range n).flatMap J/\∀c,c<n->(J c).length=g c
 | 0,y,h=>⟨fun _=>[],S4r,fun c T=>f6J⟩
 | n+1,y,h=>by
  rw[List.range_succ,List.map_append,List.sum_append]at h;simp only[List.map_cons,List.map_nil,List.sum_cons,List.sum_nil,Nat.add_zero]at h;obtain⟨J,Z,D⟩:=split g n (y.take (y.length-g n)) U3s;refine⟨fun i=>if i=n then y.drop (y.length-g n)else J i,?_,fun c T=>?_⟩
  ·rw[x4R,if_pos rfl,x5X (g:=J) (fun i hi=>by rw[if_neg f6J]),<- Z,List.take_append_drop]
  ·by_cases j:c=n
   ·subst j;simp only[if_true,List.length_drop];omega
   ·simp only[if_neg j];exact D c f6J
theorem y8i(f:Nat->List Int) n:((List.range n).flatMap f).length=((List.range n).map fun c=>(f c).length).sum:=f0h
theorem y1R{k ms y}(h:Mk k ms)(hy:y.length=ms.length):y4o k ms 0 y:=by
 obtain⟨J,Z,D⟩:=split (fun c=>(ft k c ms).length) 255 y (by rw[hy,<- x8H h];unfold bkt;rw[z4G,y8i]);refine⟨J,?_,fun c T=>?_⟩
 ·rw[Z];exact x5X (fun i _=>by simp[ft])
 ·rw[List.drop_zero];exact D c T
theorem y7v{k ms y}(h:y4o k ms ms.length y):y=bkt k ms:=by
 obtain⟨J,Z,D⟩:=h;rw[Z];unfold bkt;rw[z4G];refine x5X (fun i hi=>?_);have:=D i hi;rw[List.drop_length]at this;rw[List.take_length,List.eq_nil_of_length_eq_zero (l:=J i) (by rw[this];rfl),List.append_nil]
def plc(k:Int->Int)(ms:List Int)(j c:Nat):Nat:=(bkN k ms c).length+(ft k c (ms.take j)).length
theorem z1S k c ms j:(ft k c (ms.take j)).length+(ft k c (ms.drop j)).length=(ft k c ms).length:=by
 rw[<- List.length_append,<- x6y,List.take_append_drop]
theorem y2f{k} c{ms:List Int}{j}(K:j<ms.length):ft k c (ms.take (j+1))=ft k c (ms.take j)++if k (ms.getD j 0)=c then[ms.getD j 0]else[]:=by
 rw[List.take_add_one,x6y,List.getElem?_eq_getElem K];have:ms.getD j 0=ms[j]:=E3i;rw[this];unfold ft;by_cases h:k ms[j]=(c:Int)<;>simp[h]
theorem y8j{k} c{ms:List Int}{j}(K:j<ms.length):ft k c (ms.drop j)=(if k (ms.getD j 0)=c then[ms.getD j 0]else[])++ft k c (ms.drop (j+1)):=by
 have:ms.getD j 0=ms[j]:=E3i;rw[List.drop_eq_getElem_cons K,this];unfold ft;rw[List.filter_cons];by_cases h:k ms[j]=(c:Int)
 ·grind
 ·grind
theorem y4T{k ms y}{j c:Nat}(h:y4o k ms j y)(K:j<ms.length)(T:k (ms.getD j 0)=c)(o:c<255):plc k ms j c<y.length/\y4o k ms (j+1) (y.set (plc k ms j c) (ms.getD j 0)):=by
 obtain⟨J,Z,D⟩:=h;have r:=D c o;rw[y8j c K,if_pos T,List.length_append,List.length_singleton]at r
 have Q:(bkN k ms c).length=((List.range c).flatMap fun c=>ft k c (ms.take j)++J c).length:=by
  rw[z4G,y8i,y8i];congr 1;refine List.map_congr_left (fun i hi=>?_);rw[List.mem_range]at hi;rw[List.length_append,D i f6J,z1S]
 have B:=z8k (fun c=>ft k c (ms.take j)++J c) o;simp only[List.length_append]at B;unfold plc;rw[Z,Q];refine⟨f6J,fun i=>if i=c then(J c).drop 1 else J i,?_,fun i hi=>?_⟩
 ·refine z8l _ _ _ o u7B ?_ (fun i hi=>?_)
  ·simp only[if_true];rw[y2f c K,if_pos T,List.set_append_right _ _ (l0r _),Nat.sub_self]
   cases hq:J c with
   | nil=>grind
   | cons x l=>simp
  ·simp only[if_neg hi];rw[y2f i K,if_neg (fun e=>hi f6J),List.append_nil]
 ·by_cases A:i=c
  ·grind
  ·simp only[if_neg A];rw[D i hi,y8j i K,if_neg (fun e=>A f6J),List.nil_append]
theorem z2N{k ms j} c(K:j<ms.length):plc k ms (j+1) c=if k (ms.getD j 0)=c then plc k ms j c+1 else plc k ms j c:=by
 unfold plc;rw[y2f c K];by_cases h:k (ms.getD j 0)=c
 ·grind
 ·grind
theorem z2O k ms c:plc k ms 0 c=(bkN k ms c).length:=by simp[plc,ft]
theorem z1m k ms c:(bkN k ms (c+1)).length=(bkN k ms c).length+(ft k c ms).length:=by rw[x8G,List.length_append];rfl
end Od
open Ti
namespace Od
def ir(zs:List Int):List Value:=zs.map (Value.int .i32)
theorem x3D zs:(ir zs).length=zs.length:=List.length_map _
theorem ir_at{zs i}(hi:i<zs.length):(ir zs)[i]?=some (.int .i32 (zs.getD i 0)):=by
 unfold ir;exact f3f
def mc(k:Int->Int)(ms:List Int):List Value:=ms.flatMap fun m=>[.int .i32 m,.int .i64 (k m)]
theorem z8E k ms:(mc k ms).length=ms.length*2:=by
 induction ms with
 | nil=>rfl
 | cons m ms ih=>simp only[mc,List.flatMap_cons,List.length_append,List.length_cons,List.length_nil]at ih ⊢;omega
theorem z8D{k:Int->Int}:∀{ms:List Int} {i:Nat},i<ms.length->(mc k ms)[i*2]?=some (.int .i32 (ms.getD i 0))/\(mc k ms)[i*2+1]?=some (.int .i64 (k (ms.getD i 0)))
 | [],i,h=>by simp at h
 | m::ms,0,_=>⟨rfl,rfl⟩
 | m::ms,i+1,h=>by
  have:=z8D (k:=k) (ms:=ms) (i:=i) S4r;simp only[mc,List.flatMap_cons,(f6J:(i+1)*2=i*2+1+1)]at this ⊢;exact W2K
theorem y3C{w wr:World}{row}(h:w.grownBy wr row) o:w.grownBy (wr.alloc o) row:=⟨h.os,h.tape,h.output,by have:=h.size;exact P8P,fun k G E=>by rw[Below.heap_alloc wr o k (by have:=h.size;exact f6J)];exact g5F⟩
theorem y8p{w wr:World}{row}(h:w.grownBy wr row) p v(L:some p.block=row\/w.heap.size<=p.block):w.grownBy (wr.setCell p v) row:=by
 have b:=(Below.refl 0 wr).setCell (p:=p) (Nat.zero_le _) v;refine⟨b.os.trans h.os,b.tape.trans h.tape,b.output.trans h.output,Nat.le_trans h.size b.size,fun k G E=>?_⟩;rw[heap_setCell_other wr p k v ?_]
 ·exact g5F
 ·grind
theorem z1U{w wr w':World}{row B}(h:w.grownBy wr row)(Q:Below B wr w')(l:w.heap.size<=B):w.grownBy w' row:=⟨Q.os.trans h.os,Q.tape.trans h.tape,Q.output.trans h.output,by have:=h.size;have:=Q.size;exact f6J,fun k G E=>by rw[Q.block k f6J];exact g5F⟩
theorem Blk.kept{w w'}{g t:Nat}{vs row}(h:Blk w g t vs)(C:w.grownBy w' row)(F:some g≠row):Blk w' g t vs:=(C.block g h.lt F).trans h
def cnts(k:Int->Int)(ms:List Int):List Int:=(List.range 255).map fun c=>((Od.ft k c ms).length:Int)
theorem x1s k ms:(cnts k ms).length=255:=by simp[cnts]
theorem x8J k ms{c}(T:c<255):(cnts k ms).getD c 0=((Od.ft k c ms).length:Int):=by simp[cnts,List.getD,T]
theorem y3p(k:Int->Int)(ms:List Int):∀c:Nat,c<=255->((cnts k ms).take c).sum=((Od.bkN k ms c).length:Int)
 | 0,_=>by simp[Od.bkN]
 | c+1,h=>by
  rw[y4f (by rw[x1s];exact f6J),y3p k ms c f6J,x8J k ms f6J,Od.z1m];simp
theorem z4D k ms{c}(T:c<255):(beg (cnts k ms)).getD c 0=(Od.plc k ms 0 c:Int):=by
 rw[z3A _ T,y3p k ms c f6J,Od.z2O]
theorem y3n k ms(h:ms.length<=3000000):∀c∈cnts k ms,0<=c/\c<=3000000:=fun c T=>by
 obtain⟨i,_,rfl⟩:=List.mem_map.1 T;have:(Od.ft k i ms).length<=ms.length:=List.length_filter_le _ _;omega
theorem z9B{A B C:List Value}{o i}(c:A.length=o)(hi:i<B.length):(A++B++C)[o+i]?=B[i]?:=by grind
theorem z6K{A B C:List Value}{o i} v(c:A.length=o)(hi:i<B.length):(A++B++C).set (o+i) v=A++B.set i v++C:=by grind
theorem x4J{g g2 t:Nat}{us:List Value}(h:g≠g2):∀(l:List Value) (o:Nat) (wr:World) (_:Blk wr g t us),Blk (wr.setCells g2 o l) g t us
 | [],_,_,b=>b
 | v::l,o,_,b=>x4J h l (o+1) _ (b.other (a:=⟨g2,o,none⟩) h v)
theorem x5n{P ops rest A}{a w w' Q}(I:A.guard=none) ty(x y:Operand)(j:A.op=.store ty x y) b o cells(J:a.eval x=.pointer (some ⟨b,o,none⟩))(hy:a.eval y=.agg cells)(K:w.there b o cells.size)(hi:(P.info? ty).map (·.size)=some cells.size)(Z:cells.all (·.oneCell')=true)(q:w.setCells b o cells.toList=w')(h:wpList P ops Q rest (a.put A.dst undef) w'):wpList P ops Q (A::rest) a w:=by
 subst q;exact wpList_store_mid I ty x y j b o cells J hy K hi Z h
theorem x6z{w:World}{row:Option Nat}(g:Nat)(L:some g=row\/w.heap.size<=g):∀(l:List Value) (o:Nat) (wr:World) (_:w.grownBy wr row),w.grownBy (wr.setCells g o l) row
 | [],_,_,h=>h
 | v::l,o,_,h=>x6z g L l (o+1) _ (y8p h ⟨g,o,none⟩ v L)
theorem y4S k g mb mcap yb yo ycap ms ys J A C w(hr:Blk w g 228 (.slice (some ⟨mb,0,none⟩) ms.length mcap::ia (cnts k ms)))(hm:Blk w mb 231 (mc k ms++J))(aI:ms.length<=mcap/\mcap<=9223372036854775807)(hy:Blk w yb 21 (A++ir ys++C))(hA:A.length=yo)(am:ys.length=ms.length)(aO:ms.length<=ycap/\ycap<=9223372036854775807)(hk:Od.Mk k ms)(hn:ms.length<=3000000)(r:g≠yb)(aJ:mb≠yb):Calls prog 195 #[.pointer (some ⟨g,0,none⟩),.slice (some ⟨yb,yo,none⟩) ms.length ycap] w fun e w'=>e=.returned (.tuple #[])/\Blk w' yb 21 (A++ir (Od.bkt k ms)++C)/\w.grownBy w' (some yb):=by
 have K1:=O (y0P g _ (cnts k ms) w hr (x1s k ms) (y3n k ms hn));obtain⟨ba,be⟩:=aI;obtain⟨bj,bm⟩:=aO;have HY:=O hy
 have HM:Hid (∀(W:World),w.grownBy W (some yb)->∀i:Nat,i<ms.length->W.cell? ⟨mb,i*2,none⟩=some (.int .i32 (ms.getD i 0))/\W.cell? ⟨mb,i*2+1,none⟩=some (.int .i64 (k (ms.getD i 0)))):=fun W hW i hi=>by
  have h:=hm.kept hW (fun e=>aJ (by simpa using e));have D:=z8D (k:=k) hi;have hl:=z8E k ms;exact⟨h.cell (by rw[List.getElem?_append_left f6J];exact D.1),h.cell (by rw[List.getElem?_append_left f6J];exact D.2)⟩
 have aN:=hy.lt;have aF:w.cell? ⟨g,0,none⟩=some (.slice (some ⟨mb,0,none⟩) ms.length mcap):=hr.cell rfl;have Z:Hid (∀(W:World),w.grownBy W (some yb)->W.cell? ⟨g,0,none⟩=some (.slice (some ⟨mb,0,none⟩) ms.length mcap)):=fun W hW=>(hr.kept hW (fun e=>r (by simpa using e))).cell rfl;have f:=O (Od.y1R hk am);have P:=O hk;have v:=O (x4H (cnts k ms));have j:Hid (∀c,c<255->(beg (cnts k ms)).getD c 0=(Od.plc k ms 0 c:Int)):=fun c T=>z4D k ms T;generalize beg (cnts k ms)=B at *;go_enter func195,ntmps195;go_wp2_with fail;refine c0m K1 fun I b1=>?_;have bh:=b1.size;obtain⟨x,R⟩:∃x,I.alloc (.cells Tryz.zeroCells226 226)=x:=⟨_,rfl⟩;have k2:Blk x I.heap.size 226 (ia z255):=(by rw[<- R];exact Blk.new I _ _ _ z7b);have g2:w.grownBy x (some yb):=(by rw[<- R];exact y3C (z1U (World.grownBy.refl w _) b1 (l0r _)) _);obtain⟨K,aG⟩:∃K,I.heap.size=K:=⟨_,rfl⟩;rw[aG]at k2;have ae:w.heap.size<=K:=f6J;have G:=V v;have aM:x.there K 0 (ia B).toArray.size:=k2.there R1D;have aL:(ia B).toArray.size=255:=(by simp[x3B,G]);obtain⟨Y,l⟩:∃Y,x.setCells K 0 (ia B).toArray.toList=Y:=⟨_,rfl⟩
 have k3:Blk Y K 226 (ia B):=by
  have:=k2.setCells (ia B) 0 R1D;rw[<- l];rw[List.take_zero,List.nil_append,List.drop_of_length_le R1D,List.append_nil]at this;exact this
 have g3:w.grownBy Y (some yb):=by rw[<- l];exact x6z K (Or.inr ae) _ _ _ g2
 have y3:Blk Y yb 21 (A++ir ys++C):=by
  have h1:I.heap[yb]?=w.heap[yb]?:=b1.block yb aN;have D:Blk I yb 21 (A++ir ys++C):=h1.trans (V HY);have h3:Blk x yb 21 (A++ir ys++C):=(by rw[<- R];exact D.alloc _);rw[<- l];exact x4J f6J _ _ _ h3
 have aF:=V Z Y g3;have K3:=O k3;have G3:=O g3;have Y3:=O y3;go_wp2_with(refine x5n (by rfl) 226 (.tmp 4) (.tmp 8) (by rfl) K 0 (ia B).toArray (by rfl) (by rfl) aM (by rw[aL];exact x3q) (z3J _) l ?_);go_loopw[6,14] (fun _ kk wr=>∃(i:Nat) (y F:List Int),kk=.int .i64 i/\i<=ms.length/\Od.y4o k ms i y/\y.length=ms.length/\Blk wr yb 21 (A++ir y++C)/\F.length=255/\(∀c,c<255->F.getD c 0=(Od.plc k ms i c:Int))/\Blk wr K 226 (ia F)/\w.grownBy wr (some yb)) (fun _ kk _=>ms.length-(intOf kk).toNat)
 case atStart=>exact⟨0,ys,B,rfl,f6J,V f,am,V Y3,V v,V j,V K3,V G3⟩
 case round =>
  obtain⟨i,y,F,rfl,aZ,ag,aq,b,d,aj,ai,L⟩:=hrel;by_cases H:i<ms.length
  ·obtain⟨c0,c1⟩:=V HM wr L i H;have aY:=V P (ms.getD i 0) N3K;obtain⟨c,T⟩:∃c:Nat,k (ms.getD i 0)=(c:Int):=⟨(k (ms.getD i 0)).toNat,f6J⟩;have o:c<255:=f6J;obtain⟨p1,p2⟩:=Od.y4T ag H T o;have aK:=fun N=>Od.z2N (k:=k) N H;have M:=aj c o;obtain⟨p,hp⟩:∃p,Od.plc k ms i c=p:=⟨_,rfl⟩;rw[hp]at M p1 p2;rw[T]at c1;obtain⟨m,hm⟩:∃m,ms.getD i 0=m:=⟨_,rfl⟩;rw[hm]at c0 p2 T;obtain⟨t,s⟩:∃t,wr.heap.size=t:=⟨_,rfl⟩;have aU:=L.size;have aW:=ai.lt;obtain⟨q,ab⟩:∃q,wr.alloc (.cells #[.int .i32 m,.int .i64 c] 231)=q:=⟨_,rfl⟩;have x0:q.cell? ⟨t,0,none⟩=some (.int .i32 m):=(by rw[<- ab,<- s];exact M7L);have x1:q.cell? ⟨t,1,none⟩=some (.int .i64 c):=(by rw[<- ab,<- s];exact M7L);have ar:Blk q K 226 (ia F):=(by rw[<- ab];exact ai.alloc _);have E:Blk q yb 21 (A++ir y++C):=(by rw[<- ab];exact b.alloc _);have aC:w.grownBy q (some yb):=(by rw[<- ab];exact y3C L _);have x2:q.cell? ⟨K,c,none⟩=some (.int .i64 p):=(by rw[ar.cell (y8y f6J),M]);have x3:q.cell? ⟨yb,yo+p,none⟩=some (.int .i32 (y.getD p 0)):=E.cell (by rw[z9B hA (by rw[x3D];exact f6J)];exact ir_at f6J);have f3:=E.frozen (yo+p);obtain⟨x,R⟩:∃x,q.setCell ⟨yb,yo+p,none⟩ (.int .i32 m)=x:=⟨_,rfl⟩
   have aQ:Blk x yb 21 (A++ir (y.set p m)++C):=by
    have:=E.set (yo+p) (.int .i32 m);rw[z6K _ hA (by rw[x3D];exact f6J),R]at this;have e:(ir y).set p (.int .i32 m)=ir (y.set p m):=(by unfold ir;rw[List.map_set]);rw[e]at this;exact this
   have af:Blk x K 226 (ia F):=(by rw[<- R];exact ar.other (a:=⟨yb,yo+p,none⟩) (by show K≠yb;exact f6J) _);have U:w.grownBy x (some yb):=(by rw[<- R];exact y8p aC ⟨yb,yo+p,none⟩ _ (Or.inl rfl));have z0:x.cell? ⟨t,0,none⟩=some (.int .i32 m):=(by rw[<- R,World.cell?_setCell_other _ _ _ _ M1q];exact x0);have z1:x.cell? ⟨t,1,none⟩=some (.int .i64 c):=(by rw[<- R,World.cell?_setCell_other _ _ _ _ M1q];exact x1);have z2:x.cell? ⟨K,c,none⟩=some (.int .i64 p):=(by rw[af.cell (y8y f6J),M]);have f4:=af.frozen c;have hd:Hid (Od.y4o k ms (i+1) (y.set p m)):=p2;have aS:(p:Int)+1<=3000001:=f6J;have aV:(p:Int)<ms.length:=f6J;have aT:(c:Int)<255:=f6J;have aB:=O af;have S:=O aQ;have aw:=O U;have Q:=O aj;have z:=O aK;have aX:=O M;have aA:=O hp;have X:=O T;have az:=O hm;have aH:(y.set p m).length=ms.length:=(by rw[List.length_set];exact aq);go_upto_region 4 with fail;go_region_held3(fun w'=>w'.cell? ⟨t,0,none⟩=some (.int .i32 m)/\w'.cell? ⟨t,1,none⟩=some (.int .i64 c)/\w'.cell? ⟨K,c,none⟩=some (.int .i64 p)) (first| exact⟨x0,x1,x2⟩ | exact⟨z0,z1,z2⟩ | go_keep) (fail);go_wp2
   go_roundw
   case rel =>
    have aP:Blk (x.setCell ⟨K,c,none⟩ (.int .i64 ((p:Int)+1))) K 226 (ia (F.set c ((p:Int)+1))):=(by rw[<- y8z];exact(V aB).set c _);have aR:Blk (x.setCell ⟨K,c,none⟩ (.int .i64 ((p:Int)+1))) yb 21 (A++ir (y.set p m)++C):=(V S).other (a:=⟨K,c,none⟩) (by show yb≠K;exact f6J) _;have u:w.grownBy (x.setCell ⟨K,c,none⟩ (.int .i64 ((p:Int)+1))) (some yb):=y8p (V aw) ⟨K,c,none⟩ _ (Or.inr ae);refine⟨i+1,y.set p m,F.set c ((p:Int)+1),g2A,f6J,V hd,aH,aR,by rw[List.length_set];exact d,fun N aD=>?_,aP,⟨u.os,u.tape,u.output,u.size,u.block⟩⟩;rw[x7c F c N _ f6J,V z N,V az,V X];by_cases h:N=c
    ·rw[if_pos h,if_pos (by rw[h]),h,V aA];rfl
    ·rw[if_neg h,if_neg (fun e=>h f6J)];exact V Q N aD
   case measure=>exact g7V
  ·obtain rfl:i=ms.length:=f6J;have he:=Od.y7v ag;subst he;have n:=O b;have ay:=O L;go_wp2;go_end0;exact⟨rfl,V n,V ay⟩
end Od
open Ti
namespace Od
theorem x8r{P w} t e ty b o n cap z(W:P.underlying t=some (.slice e))(A:∀w,(zeroValue e).run P w=.ok z w)(E:0<n) us(Y:(Builtin.zeroCells z.cells n).toList=us)(r:w.there b o us.length)(Z:∀v∈us,v.oneCell'=true):(Builtin.clear_ #[t] ty #[.slice (some ⟨b,o,none⟩) n cap]).run P w=.ok (.tuple #[]) (w.setCells b o us):=by
 have X:(storeCells ⟨b,o,none⟩ us 0).run P w=.ok () (w.setCells b o us):=by
  have:=run_storeCells_cells (P:=P) b o us 0 w (fun j K=>by simpa using(r j K).1) (fun j K=>by simpa using(r j K).2) Z;exact W2K
 obtain⟨m,rfl⟩:∃m,n=m+1:=⟨n-1,f6J⟩;unfold Builtin.clear_;simp[Sem.run_bind,run_underlying W,A,Y,X]
def x1F(w:World)(k:Int->Int)(g:Nat)(ms:List Int):Prop:=∃mv,Blk w g 228 (mv::ia (cnts k ms))/\w.ownsRow (g+1) 231 2 mv ms.length (mc k ms)
theorem x1F.shape{w k g ms}(h:x1F w k g ms):∃ao cap,Blk w g 228 (.slice ao ms.length cap::ia (cnts k ms))/\w.ownsRow (g+1) 231 2 (.slice ao ms.length cap) ms.length (mc k ms)/\ms.length<=cap/\cap<=9223372036854775807:=by
 obtain⟨B,Z,D⟩:=h;rcases D.2 with⟨rfl,A⟩ | ⟨S,cap,t,rfl,_,_,T,y,_⟩
 ·grind
 ·exact⟨_,cap,Z,D,T,by unfold maxLen at y;exact f6J⟩
theorem x8c k g v w(h:x1F w k g []):Calls prog 150 #[.pointer (some ⟨g,0,none⟩),v] w fun e w'=>e=.returned (.tuple #[])/\w'=w:=by
 obtain⟨R,M,Z,_,_,T⟩:=h.shape;have Q:w.cell? ⟨g,0,none⟩=some (.slice R 0 M):=Z.cell rfl;go_enter func150,ntmps150;go_wp2;exact bodyPost_ret (v:=.tuple #[]) (results_none rfl _ _ _) rfl ⟨rfl,rfl⟩
theorem z7d w:(zeroValue 3).run prog w=.ok (.int .i64 0) w:=(zero_of_info (n:=1) f4x).1 w
theorem z3t w:(zeroValue 231).run prog w=.ok (.agg #[.int .i32 0,.int .i64 0]) w:=(zero_of_info (n:=2) f4x).1 w
theorem z7c:(Builtin.zeroCells (Value.int .i64 0).cells 255).toList=ia z255:=f4x
theorem y4n n:(Builtin.zeroCells (Value.agg #[.int .i32 0,.int .i64 0]).cells n).toList.length=n*2/\∀v∈(Builtin.zeroCells (Value.agg #[.int .i32 0,.int .i64 0]).cells n).toList,v.oneCell'=true:=by
 unfold Builtin.zeroCells;refine⟨by simp[Value.cells],fun v N=>?_⟩;simp only[Value.cells,Array.toList_map,List.mem_map]at N;obtain⟨i,_,rfl⟩:=N;have:i%#[Value.int .i32 0,.int .i64 0].size=0\/i%#[Value.int .i32 0,.int .i64 0].size=1:=(by grind);rcases this with h | h<;>rw[h]<;>rfl
theorem y3o k:cnts k []=z255:=by
 refine List.eq_replicate_iff.2 ⟨x1s k [],fun b Q=>?_⟩;obtain⟨i,_,rfl⟩:=List.mem_map.1 Q;rfl
theorem y5s k g yb o ycap ms ys A C w(h:x1F w k g ms)(hy:Blk w yb 21 (A++ir ys++C))(c:A.length=o)(ag:ys.length=ms.length)(K:o+ms.length<=ycap/\ycap<=9223372036854775807)(hk:Od.Mk k ms)(hn:ms.length<=3000000)(ho:o<=3000000)(af:0<ms.length)(r:yb<g):Calls prog 150 #[.pointer (some ⟨g,0,none⟩),.slice (some ⟨yb,0,none⟩) (o+ms.length) ycap] w fun e w'=>e=.returned (.tuple #[])/\Blk w' yb 21 (A++ir (Od.bkt k ms)++C)/\x1F w' k g []/\Below yb w w':=by
 obtain⟨mv,Z,h2⟩:=h;obtain⟨b,h2⟩:=h2;rcases h2 with⟨_,h0⟩ | ⟨S,X,t,rfl,N,H,D,I,i,u⟩
 ·omega
 have y:Blk w S 231 (mc k ms++t.toList.drop (ms.length*2)):=by
  rw[<- u,List.take_append_drop];unfold Blk;rw[H]
 have J:X<=9223372036854775807:=(by unfold maxLen at I;exact f6J);obtain⟨d,aq⟩:=K;have K1:=O (y4S k g S X yb o (ycap-o) ms ys _ A C w Z y ⟨D,J⟩ hy c ag ⟨f6J,f6J⟩ hk hn f6J f6J);have am:w.cell? ⟨g,0,none⟩=some (.slice (some ⟨S,0,none⟩) ms.length X):=Z.cell rfl
 have HK:Hid (∀W:World,Blk W yb 21 (A++ir (Od.bkt k ms)++C)->w.grownBy W (some yb)->∃x Y G,W.setCells g 1 (ia z255)=x/\x.setCells S 0 (Builtin.zeroCells (Value.agg #[.int .i32 0,.int .i64 0]).cells ms.length).toList=Y/\Y.setCell ⟨g,0,none⟩ (.slice (some ⟨S,0,none⟩) 0 X)=G/\W.there g 1 (ia z255).length/\x.there S 0 (Builtin.zeroCells (Value.agg #[.int .i32 0,.int .i64 0]).cells ms.length).toList.length/\W.cell? ⟨g,0,none⟩=some (.slice (some ⟨S,0,none⟩) ms.length X)/\x.cell? ⟨g,0,none⟩=some (.slice (some ⟨S,0,none⟩) ms.length X)/\Y.cell? ⟨g,0,none⟩=some (.slice (some ⟨S,0,none⟩) ms.length X)/\Y.frozen? ⟨g,0,none⟩=false/\Blk G yb 21 (A++ir (Od.bkt k ms)++C)/\x1F G k g []/\Below yb w G):=fun W U hg=>by
  have L:=Z.kept hg (fun e=>Nat.ne_of_gt r N5i);have m0:=y.kept hg (fun e=>absurd (N5i:S=yb) f6J);have F:1+(ia z255).length<=(Value.slice (some ⟨S,0,none⟩) ms.length X::ia (cnts k ms)).length:=(by simp[x3B,z255,x1s]);have r1:=L.setCells (ia z255) 1 F
  have e1:(Value.slice (some ⟨S,0,none⟩) ms.length X::ia (cnts k ms)).take 1++ia z255++(Value.slice (some ⟨S,0,none⟩) ms.length X::ia (cnts k ms)).drop (1+(ia z255).length)=.slice (some ⟨S,0,none⟩) ms.length X::ia z255:=by
   rw[List.drop_of_length_le (by simp[x3B,z255,x1s])];simp
  rw[e1]at r1;have m1:=x4J (g2:=g) f6J (ia z255) 1 W m0;obtain⟨zl,_⟩:=y4n ms.length;have E:t.toList.length=X*2:=(Array.length_toList (xs:=t)).trans i;have M:(mc k ms++t.toList.drop (ms.length*2)).length=X*2:=(by grind);have m2:=m1.setCells (Builtin.zeroCells (Value.agg #[.int .i32 0,.int .i64 0]).cells ms.length).toList 0 (by rw[zl,M];exact f6J);have r2:=x4J (g2:=S) f6J (Builtin.zeroCells (Value.agg #[.int .i32 0,.int .i64 0]).cells ms.length).toList 0 _ r1;have r3:=r2.set 0 (.slice (some ⟨S,0,none⟩) 0 X);have m3:=m2.other (a:=⟨g,0,none⟩) (by show S≠g;exact f6J) (.slice (some ⟨S,0,none⟩) 0 X);have m:=x4J (g2:=g) f6J (ia z255) 1 W U;have y2:=x4J (g2:=S) f6J (Builtin.zeroCells (Value.agg #[.int .i32 0,.int .i64 0]).cells ms.length).toList 0 _ m;have y3:=y2.other (a:=⟨g,0,none⟩) (by show yb≠g;exact f6J) (.slice (some ⟨S,0,none⟩) 0 X);have b1:Below yb w W:=(b0r).grown hg (by have:=hy.lt;exact f6J) (fun j hj=>by simp at hj;exact f6J);have b2:=x0G (B:=yb) (g:=g) f6J (ia z255) 1 W b1;have b3:=x0G (B:=yb) (g:=S) f6J (Builtin.zeroCells (Value.agg #[.int .i32 0,.int .i64 0]).cells ms.length).toList 0 _ b2;refine⟨_,_,_,rfl,rfl,rfl,L.there F,m1.there (by rw[zl,M];exact f6J),L.cell rfl,r1.cell rfl,r2.cell rfl,r2.frozen 0,y3,⟨.slice (some ⟨S,0,none⟩) 0 X,?_,⟨by simp[mc],Or.inr ⟨S,X,_,rfl,N,m3,Nat.zero_le _,I,?_,by simp[mc]⟩⟩⟩,b3.setCell (p:=⟨g,0,none⟩) (by show yb<=g;exact f6J) _⟩
  ·rw[y3o];exact r3
  ·grind
 have n:=O (y4n ms.length);have q:ms.length<=X:=D;generalize hgz:(Builtin.zeroCells (Value.agg #[.int .i32 0,.int .i64 0]).cells ms.length).toList=zz at *;have P:=O hgz;have ai:¬((ms.length:Int)=0):=f6J;go_enter func150,ntmps150;go_wp2_with fail;refine(V K1).mono ?_;rintro e w1 ⟨rfl,m,g1⟩;obtain⟨x,Y,G,R,l,aj,t2,t3,c1,c2,c3,f3,ab,ae,Q⟩:=V HK w1 m g1;have T:=O ab;have f:=O ae;have s:=O Q
 have q1:(Builtin.clear_ #[275] 0 #[.slice (some ⟨g,1,none⟩) 255 255]).run prog w1=.ok (.tuple #[]) x:=by
  rw[<- R];exact x8r 275 3 0 g 1 255 255 _ underlying275 z7d e8N (ia z255) z7c t2 (fun v hv=>by obtain⟨z,_,rfl⟩:=List.mem_map.1 hv;rfl)
 have q2:(Builtin.clear_ #[225] 0 #[.slice (some ⟨S,0,none⟩) ms.length X]).run prog x=.ok (.tuple #[]) Y:=by
  rw[<- l];exact x8r 225 231 0 S 0 ms.length X _ underlying225 z3t af zz (V P) t3 (V n).2
 go_wp2;go_end0;exact⟨rfl,V T,V f,V s⟩
end Od
open Ti
namespace Od
theorem z8v:∃i z,prog.info? 231=some i/\i.zero=some z/\i.size=2/\i.bytes=16/\z.cells.size=2:=by
 have h:(prog.info? 231).map (fun i=>(i.size,i.bytes,i.zero.map (·.cells.size)))=some (2,16,some 2):=f4x;exact w4S
theorem y6a w x y:(Instr.buildSlice 225 1 #[(0,.agg #[x,y])]).run prog w=.ok (.slice (some ⟨w.heap.size,0,none⟩) 1 1) (w.alloc (.cells #[x,y] 231)):=by
 obtain⟨i,z,hi,o,Z,_,R⟩:=z8v;refine run_buildSlice w 225 231 1 _ _ i z underlying225 hi o f0R f0R ?_;rw[Z];have:=Great.fill_whole (s:=2) e8M [Value.agg #[x,y]] ((Array.range (1*2)).map (z.cells[·%z.cells.size]!)) (fun v N=>by simp at N;subst N;simp[Value.cells]) M7L;simpa[Value.cells]using this
theorem y7m(k:Int->Int) ms m{c:Nat}(T:k m=c)(H:c<255):(cnts k ms).set c ((cnts k ms).getD c 0+1)=cnts k (ms++[m]):=by
 refine x4n (n:=255) (by rw[List.length_set,x1s]) (x1s _ _) (fun j K=>?_);rw[x7c _ c j _ (by rw[x1s];exact H),x8J _ _ K,x8J _ _ K,x8J _ _ H,Od.x6y,List.length_append];by_cases h:j=c
 ·rw[if_pos h,h];simp[Od.ft,T]
 ·rw[if_neg h]
  have:Od.ft k j [m]=[]:=by
   unfold Od.ft;rw[List.filter_cons_of_neg P8P];rfl
  rw[this];simp
theorem z6d k ms m:mc k (ms++[m])=mc k ms++[.int .i32 m,.int .i64 (k m)]:=by simp[mc,List.flatMap_append]
theorem y3W{w:World}{b e A n g o:Nat}{v xs}(h:w.ownsRow b e A v n xs)(F:v.ownBlock≠some g) u:(w.setCell ⟨g,o,none⟩ u).ownsRow b e A v n xs:=by
 refine⟨h.1,?_⟩;rcases h.2 with D | ⟨j,M,t,P,f,J,B⟩
 ·exact Or.inl D
 ·refine Or.inr ⟨j,M,t,P,f,?_,B⟩;rw[heap_setCell_other w ⟨g,o,none⟩ j u (fun e=>F (by rw[P];exact congrArg some e))];exact J
theorem x6K W g u(h:W.cell? ⟨g,0,none⟩=some u):(Instr.loadAt 225 (.pointer (some ⟨g,0,none⟩))).run prog W=.ok u W:=by
 simp[Instr.loadAt,go_sem,Tryz.isAgg225,Tryz.sizeOf225,h,Addr.add]
theorem y0r k g ms m(A:Nat) w(h:x1F w k g ms)(hc:k m=(A:Int))(h1:1<=A)(h2:A<=254)(hn:ms.length<=3000000):Calls prog 149 #[.pointer (some ⟨g,0,none⟩),.agg #[.int .i32 m,.int .i64 (A:Int)]] w fun e w'=>e=.returned (.tuple #[])/\x1F w' k g (ms++[m])/\Below g w w':=by
 obtain⟨i0,z0,aK,aS,aT,aU,aV⟩:=z8v;obtain⟨ao,X,hb,L,aZ,ba⟩:=h.shape;have B:A<255:=f6J;obtain⟨l,az⟩:∃l,w.heap.size=l:=⟨_,rfl⟩;obtain⟨W1,J⟩:∃W1,w.alloc (.cells #[.int .i32 m,.int .i64 (A:Int)] 231)=W1:=⟨_,rfl⟩;have aY:=hb.lt;have G:W1.drew.cell? ⟨l,0,none⟩=some (.int .i32 m):=v5C;have H:W1.drew.cell? ⟨l,1,none⟩=some (.int .i64 (A:Int)):=v5C;have aw:Blk W1.drew g 228 (.slice ao ms.length X::ia (cnts k ms)):=(by rw[<- J];exact hb.alloc _);have D:W1.drew.ownsRow (g+1) 231 2 (.slice ao ms.length X) ms.length (mc k ms):=(by rw[<- J];exact(L.alloc _).drew);have ai:Below g w W1.drew:=(by rw[<- J];exact((b0r).alloc f6J _).drew);have aQ:W1.drew.heap.size=l+1:=v5C;obtain⟨x,R⟩:∃x,W1.drew.alloc (.cells #[.int .i32 m,.int .i64 (A:Int)] 231)=x:=⟨_,rfl⟩;obtain⟨Q,r⟩:∃Q,W1.drew.heap.size=Q:=⟨_,rfl⟩;have aR:x.heap.size=Q+1:=(by rw[<- R];simp[r]);have ay:(Instr.buildSlice 225 1 #[(0,.agg #[.int .i32 m,.int .i64 (A:Int)])]).run prog W1.drew=.ok (.slice (some ⟨Q,0,none⟩) 1 1) x:=(by rw[<- R,<- r];exact y6a _ _ _);have ag:x.cell? ⟨l,0,none⟩=some (.int .i32 m):=(by rw[<- R,World.cell?_alloc_lt _ _ _ (by show l<_;exact f6J)];exact G);have E:x.cell? ⟨l,1,none⟩=some (.int .i64 (A:Int)):=(by rw[<- R,World.cell?_alloc_lt _ _ _ (by show l<_;exact f6J)];exact H);have F:Blk x g 228 (.slice ao ms.length X::ia (cnts k ms)):=(by rw[<- R];exact aw.alloc _);have af:x.ownsRow (g+1) 231 2 (.slice ao ms.length X) ms.length (mc k ms):=(by rw[<- R];exact D.alloc _);have aj:Below g w x:=(by rw[<- R];exact ai.alloc f6J _);have C:g+1<=x.heap.size:=f6J;have aF:(Instr.loadAt 225 (.pointer (some ⟨g,0,none⟩))).run prog W1.drew=.ok (.slice ao ms.length X) W1.drew:=x6K _ _ _ (aw.cell rfl);have aG:(Instr.loadAt 225 (.pointer (some ⟨g,0,none⟩))).run prog x=.ok (.slice ao ms.length X) x:=x6K _ _ _ (F.cell rfl)
 have am:∀u∈[Value.int .i32 m,.int .i64 (A:Int)],u.oneCell'=true:=fun u hu=>by
  rcases List.mem_cons.1 hu with rfl | hu
  ·rfl
  ·obtain rfl:=List.mem_singleton.1 hu;rfl
 have I:=O af
 have c:Hid (∀(j:Nat) (u:Value),[Value.int .i32 m,.int .i64 (A:Int)][j]?=some u->x.cell? ((⟨Q,0,none⟩:Addr).add j)=some u):=fun j u hu=>by
  rw[Addr.add_mid,Nat.zero_add,<- R,<- r];exact(Blk.new W1.drew 231 [Value.int .i32 m,.int .i64 (A:Int)] _ rfl).cell hu
 have aq:Hid (∀(W:World) Y M,W.cell? ⟨l,0,none⟩=some (.int .i32 m)->W.cell? ⟨l,1,none⟩=some (.int .i64 (A:Int))->(W.setCell ⟨g,0,none⟩ (.slice (some ⟨Y,0,none⟩) (ms.length+1) M)).cell? ⟨l,0,none⟩=some (.int .i32 m)/\(W.setCell ⟨g,0,none⟩ (.slice (some ⟨Y,0,none⟩) (ms.length+1) M)).cell? ⟨l,1,none⟩=some (.int .i64 (A:Int))):=fun W Y M a b=>by
  have aD:∀i,(⟨g,0,none⟩:Addr)≠⟨l,i,none⟩:=fun i e=>E8Y;rw[World.cell?_setCell_other _ _ _ _ (aD 0),World.cell?_setCell_other _ _ _ _ (aD 1)];exact⟨a,b⟩
 obtain⟨q,hq⟩:∃q,(cnts k ms).getD A 0=q:=⟨_,rfl⟩
 have aA:Hid (∀(W:World) (v:Value),W.cell? ⟨l,1,none⟩=some (.int .i64 (A:Int))->(W.setCell ⟨g,1+A,none⟩ v).cell? ⟨l,1,none⟩=some (.int .i64 (A:Int))):=fun W v a=>by
  rw[World.cell?_setCell_other _ _ _ _ (fun e=>E8Y)];exact a
 have t:Hid (∀Y M (y:World),y.ownsRow (g+1) 231 2 (.slice (some ⟨Y,0,none⟩) (ms.length+1) M) (ms.length+1) (mc k ms++[.int .i32 m,.int .i64 (A:Int)])->x.grownBy y (Value.slice ao ms.length X).ownBlock->((Value.slice ao ms.length X).ownBlock=some Y\/Y=x.heap.size)->y.cell? ⟨l,0,none⟩=some (.int .i32 m)/\y.cell? ⟨l,1,none⟩=some (.int .i64 (A:Int))/\y.cell? ⟨g,0,none⟩=some (.slice ao ms.length X)/\y.frozen? ⟨g,0,none⟩=false/\∃W9,(y.setCell ⟨g,0,none⟩ (.slice (some ⟨Y,0,none⟩) (ms.length+1) M)).drew=W9/\W9.cell? ⟨l,1,none⟩=some (.int .i64 (A:Int))/\W9.cell? ⟨g,1+A,none⟩=some (.int .i64 q)/\W9.frozen? ⟨g,1+A,none⟩=false/\x1F (W9.setCell ⟨g,1+A,none⟩ (.int .i64 (q+1))) k g (ms++[m])/\Below g w (W9.setCell ⟨g,1+A,none⟩ (.int .i64 (q+1)))):=fun Y M y aO hg N=>by
  have P:∀j,(Value.slice ao ms.length X).ownBlock=some j->g+1<=j/\j<l:=fun j hj=>by
   have:=L.lt j hj;omega
  have aL:some g≠(Value.slice ao ms.length X).ownBlock:=fun e=>(by have:=P g e.symm;exact f6J);have n:some l≠(Value.slice ao ms.length X).ownBlock:=fun e=>(by have:=P l e.symm;exact f6J);have Z:=F.kept hg aL;have u0:=hg.cell ag n;have u1:=hg.cell E n
  have aX:g+1<=Y:=by
   rcases N with e | e
   ·exact(P Y e).1
   ·omega
  have d:=Z.set 0 (.slice (some ⟨Y,0,none⟩) (ms.length+1) M);have ab:Blk (y.setCell ⟨g,0,none⟩ (.slice (some ⟨Y,0,none⟩) (ms.length+1) M)).drew g 228 (.slice (some ⟨Y,0,none⟩) (ms.length+1) M::ia (cnts k ms)):=d;have aB:Below g w y:=aj.grown hg f6J (fun j hj=>by have:=P j hj;exact f6J);have aC:Below g w (y.setCell ⟨g,0,none⟩ (.slice (some ⟨Y,0,none⟩) (ms.length+1) M)).drew:=(aB.setCell (p:=⟨g,0,none⟩) (l0r _) _).drew;have aP:(y.setCell ⟨g,0,none⟩ (.slice (some ⟨Y,0,none⟩) (ms.length+1) M)).drew.ownsRow (g+1) 231 2 (.slice (some ⟨Y,0,none⟩) (ms.length+1) M) (ms.length+1) (mc k ms++[.int .i32 m,.int .i64 (A:Int)]):=y3W aO (fun e=>absurd (G5Z:Y=g) f6J) _
  have aN:(Value.slice (some ⟨Y,0,none⟩) (ms.length+1) M::ia (cnts k ms))[1+A]?=some (.int .i64 q):=by
   rw[Nat.add_comm 1 A,List.getElem?_cons_succ,y8y (by rw[x1s];exact B),hq]
  refine⟨u0,u1,Z.cell rfl,Z.frozen 0,_,rfl,?_,ab.cell aN,ab.frozen _,⟨.slice (some ⟨Y,0,none⟩) (ms.length+1) M,?_,?_⟩,aC.setCell (p:=⟨g,1+A,none⟩) (l0r _) _⟩
  ·exact(V aq y Y M u0 u1).2
  ·have:=ab.set (1+A) (.int .i64 (q+1));rw[Nat.add_comm 1 A,List.set_cons_succ,y8z,<- hq,y7m k ms m hc B,hq]at this;rw[Nat.add_comm 1 A];exact this
  ·rw[List.length_append,z6d,hc];exact y3W aP (fun e=>absurd (G5Z:Y=g) f6J) _
 have aW:(A:Int)<255:=f6J;have aM:0<=q/\q<=3000000:=(by rw[<- hq];exact y3n k ms hn _ (by have:=x1s k ms;simp[List.getD,(f6J:A<(cnts k ms).length)]));obtain⟨be,bh⟩:=aM;have bj:IntKind.i64.wrap (q+1)=q+1:=s7D;clear h hb L aw D ai aQ R aR F af aj r hc hq B;go_enter func149,ntmps149;go_upto_region 1 with fail;refine wp_region_held_drew (S:=fun w'=>w'.cell? ⟨l,0,none⟩=some (.int .i32 m)/\w'.cell? ⟨l,1,none⟩=some (.int .i64 (A:Int))) f4y (⟨G,H⟩) (fun hHeld=>?_);generalize W1.drew=Wd at *;refine tk9 0 (.pointer (some ⟨g,0,none⟩)) ?_;refine tk9 1 (.pointer (some ⟨g,0,none⟩)) ?_;refine tk9 2 (.pointer (some ⟨g,0,none⟩)) ?_;refine tk9 3 (.pointer (some ⟨g,0,none⟩)) ?_;refine tk9 5 (.agg #[.int .i32 m,.int .i64 (A:Int)]) ?_ (hy:=by(intro w hSw;obtain⟨s0,s1⟩:=hSw;go_simp));refine wpAnyH_ready (rs:=[4,6]) f4y M7N ?_;refine AllReadyH.cons (o:=⟨some 8,_,_,_,_,_⟩) rfl (fun K hK=>?pa) (AllReadyH.cons (o:=⟨some 10,_,_,_,_,_⟩) rfl (fun K hK=>?pb) AllReadyH.nil)
 case' pa =>
  refine x1Y (by rfl) 225 (.tmp 7) (by rfl) _ _ (by rfl) aF ?_;refine hK.out _ _ (⟨G,H⟩) (fun hHeld=>?_);clear hK K
  try simp only[Act.put,sa9,sb9,sc9]
  refine rd9 6 fun K hK=>?_;refine x2r (by rfl) 225 (.tmp 9) (by rfl) _ _ (by rfl) ay ?_;refine hK.out _ _ (⟨ag,E⟩) (fun hHeld=>?_);clear hK K
  try simp only[Act.put,sa9,sb9,sc9]
 case' pb =>
  refine x2r (by rfl) 225 (.tmp 9) (by rfl) _ _ (by rfl) ay ?_;refine hK.out _ _ (⟨ag,E⟩) (fun hHeld=>?_);clear hK K
  try simp only[Act.put,sa9,sb9,sc9]
  refine rd9 4 fun K hK=>?_;refine x1Y (by rfl) 225 (.tmp 7) (by rfl) _ _ (by rfl) aG ?_;refine hK.out _ _ (⟨ag,E⟩) (fun hHeld=>?_);clear hK K
  try simp only[Act.put,sa9,sb9,sc9]
 all_goals
  refine rd9 7 fun K hK=>?_;refine step_append_lies _ (by rfl) (.tmp 8) (.tmp 10) 225 (by rfl) (g+1) 231 i0 z0 2 16 underlying225 aK aS aT aU aV f6J (.slice ao ms.length X) ms.length (mc k ms) (by rfl) (V I) ⟨Q,0,none⟩ 1 1 [.int .i32 m,.int .i64 (A:Int)] (by rfl) (by rfl) (V c) am f6J T7X f6J C x.heap.size rfl ?_;intro Y M y U ae N z;obtain⟨s0,s1,aI,aJ,W9,ar,y1,y2,fy,f,s⟩:=V t Y M y U ae N;refine hK.out _ _ ?_ (fun hHeld=>?_)
  ·exact⟨s0,s1⟩
  clear hK K
  try simp only[Act.put,sa9,sb9,sc9]
  refine tk9 8 (.pointer (some ⟨g,0,none⟩)) ?_;refine tk9 9 (.pointer (some ⟨g,0,none⟩)) ?_;refine rd9 10 fun K hK=>?_;go_simp;refine hK.out _ _ ?_ (fun hHeld=>?_)
  ·exact V aq _ _ _ s0 s1
  clear hK K;refine wpAnyH_done f4y ?_ _;have T:=O f;have aH:=O s;clear hHeld U ae N z s0 s1 aI aJ t I c ay aF aG am C f s aq G H;go_upto_region 2 with fail;refine wp_region_held_drew (S:=fun w'=>w'.cell? ⟨l,1,none⟩=some (.int .i64 (A:Int))) f4y (by rw[ar];exact y1) (fun hHeld=>?_);rw[ar]at hHeld ⊢;clear ar;refine tk9 0 (.pointer (some ⟨g,0,none⟩)) ?_;refine tk9 1 (.pointer (some ⟨l,1,none⟩)) ?_;refine tk9 2 (.int .i64 (A:Int)) ?_;refine tk9 3 (.pointer (some ⟨g,0,none⟩)) ?_;refine tk9 4 (.pointer (some ⟨g,1,none⟩)) ?_;refine tk9 5 (.pointer (some ⟨g,1+A,none⟩)) ?_;refine tk9 8 (.pointer (some ⟨g,0,none⟩)) ?_;refine tk9 9 (.pointer (some ⟨g,1,none⟩)) ?_;refine rd9 6 fun K hK=>?_;go_simp;refine hK.out _ _ ?_ (fun hHeld=>?_)
  ·exact y1
  clear hK K
  try simp only[Act.put,sa9,sb9,sc9]
  refine tk9 7 (.int .i64 (q+1)) ?_;refine tk9 10 (.pointer (some ⟨g,1+A,none⟩)) ?_;refine rd9 11 fun K hK=>?_;go_simp;refine hK.out _ _ ?_ (fun hHeld=>?_)
  ·exact V aA _ _ y1
  clear hK K;refine wpAnyH_done f4y ?_ _;clear hHeld;go_wp2;go_end0;exact⟨rfl,V T,V aH⟩
end Od
