/- Lemmas. -/
import Derived.Test.YtkfcabdmkmljjaaGreatDoorG18
import Derived.Test.YtkfcabdmkmljjaaGreatDoorG3
set_option maxHeartbeats 4000000
set_option maxRecDepth 8000
namespace Go.Proofs.YtkfcabdmkmljjaaGreatDoor
open Go.Proofs.Tryz
open Go.RowKit
open Ti
section
variable{p:Prop}
theorem f3f(h:p:=by rw[List.getElem?_map,List.getElem?_eq_getElem hi];exact n7A):p:=h
theorem M1q(h:p:=by intro e;have:yb=t:=congrArg Addr.block e;exact f6J):p:=h
theorem g7s(h:p:=by rw[<- T,<- ay];simp):p:=h
theorem M1b(h:p:=by simp[x3o,z255,n]):p:=h
theorem E7z(h:p:=by have:g=U:=congrArg Addr.block e;exact f6J):p:=h
end
namespace Od
def Blk(w:World)(g:Nat)(t:TypeId)(vs:List Value):Prop:=w.heap[g]?=some (.cells vs.toArray t (0,0))
theorem Blk.lt{w}{g t:Nat}{vs}(h:Blk w g t vs):g<w.heap.size:=(Array.getElem?_eq_some_iff.1 h).1
theorem Blk.cell{w}{g t:Nat}{vs}(h:Blk w g t vs){i v}(N:vs[i]?=some v):w.cell? ⟨g,i,none⟩=some v:=by
 rw[cell_of_row _ _ _ _ _ _ h];simpa using N
theorem Blk.frozen{w}{g t:Nat}{vs}(h:Blk w g t vs) i:w.frozen? ⟨g,i,none⟩=false:=frozen_of_row _ _ _ _ _ h
theorem Blk.set{w}{g t:Nat}{vs}(h:Blk w g t vs) i v:Blk (w.setCell ⟨g,i,none⟩ v) g t (vs.set i v):=by
 unfold Blk at h ⊢;rw[heap_setCell_same w g i _ _ _ h];simp
theorem Blk.other{w}{g t:Nat}{vs}(h:Blk w g t vs){a}(y:g≠a.block) v:Blk (w.setCell a v) g t vs:=by
 unfold Blk at h ⊢;exact i7e
theorem Blk.new(w:World)(t:Nat) vs C(H:C=vs.toArray):Blk (w.alloc (.cells C t)) w.heap.size t vs:=I1X
theorem Blk.alloc{w}{g t:Nat}{vs}(h:Blk w g t vs) o:Blk (w.alloc o) g t vs:=P1G
theorem Blk.below{w w'}{g t n:Nat}{vs}(h:Blk w g t vs)(Y:Below n w w')(F:g<n):Blk w' g t vs:=by
 unfold Blk at h ⊢;rw[Y.block g F];exact h
theorem Blk.range{w}{g t:Nat}{vs}(h:Blk w g t vs) o:w.rangeAt g o (vs.drop o):=fun j v N=>h.cell (by rw[List.getElem?_drop]at N;exact N)
theorem Blk.there{w}{g t:Nat}{vs}(h:Blk w g t vs){o n}(F:o+n<=vs.length):w.there g o n:=fun j X=>by
 refine⟨?_,h.frozen _⟩;rw[h.cell (List.getElem?_eq_getElem (f6J:o+j<vs.length))];rfl
theorem Blk.setCells{w}{g t:Nat}:∀(us:List Value) {T:List Value} (o:Nat),Blk w g t T->o+us.length<=T.length->Blk (w.setCells g o us) g t (T.take o++us++T.drop (o+us.length)):=by
 intro us
 induction us generalizing w with
 | nil=>intro T o h _;simpa[World.setCells]using h
 | cons u us ih =>
  intro T o h S;rw[World.setCells];have:=ih (o+1) (h.set o u) (by rw[List.length_set];simp at S;exact f6J)
  have e:(T.set o u).take (o+1)++us++(T.set o u).drop (o+1+us.length)=T.take o++(u::us)++T.drop (o+(u::us).length):=by
   simp only[List.length_cons]at S
   have Z:(T.set o u).take (o+1)=T.take o++[u]:=by
    rw[List.take_add_one,List.take_set_of_le (l0r _),List.getElem?_set_self f6J];rfl
   rw[Z,List.drop_set_of_lt f6J,List.length_cons,(f6J:o+1+us.length=o+(us.length+1))];simp
  rw[e]at this;exact this
def ia(zs:List Int):List Value:=zs.map (Value.int .i64)
def z255:List Int:=List.replicate 255 0
theorem y9t{zs i}(hi:i<zs.length):(ia zs)[i]?=some (.int .i64 (zs.getD i 0)):=by
 unfold ia;exact f3f
theorem y9u zs i v:(ia zs).set i (.int .i64 v)=ia (zs.set i v):=by unfold ia;rw[List.map_set]
theorem x3o zs:(ia zs).length=zs.length:=List.length_map _
theorem z5q zs:(ia zs).toArray.all (·.oneCell')=true:=all_oneCell_toArray (fun v N=>by obtain⟨z,_,rfl⟩:=List.mem_map.1 N;rfl)
theorem x2Z:(prog.info? 290).map (·.size)=some 255:=f4x
end Od
open Ti
namespace Od
def beg(cs:List Int):List Int:=(List.range 255).map fun i=>(cs.take i).sum
theorem x4E cs:(beg cs).length=255:=by simp[beg]
theorem z5f cs{i}(hi:i<255):(beg cs).getD i 0=(cs.take i).sum:=by simp[beg,List.getD,hi]
theorem z5I(cs:List Int)(h:∀c∈cs,0<=c/\c<=3000000):∀k:Nat,0<=(cs.take k).sum/\(cs.take k).sum<=3000000*(k:Int)
 | 0=>M7K
 | k+1=>by
  have B:=z5I cs h k;rw[List.take_add_one,List.sum_append]
  cases hk:cs[k]? with
  | none=>exact f4R
  | some c =>
   have:=h c (List.mem_of_getElem? hk);simp;omega
theorem y5d{cs:List Int}{k}(G:k<cs.length):(cs.take (k+1)).sum=(cs.take k).sum+cs.getD k 0:=by
 rw[List.take_add_one,List.sum_append,List.getElem?_eq_getElem G];exact w7Y
theorem z8R:Tryz.zeroCells290=(ia z255).toArray:=f4x
theorem x4j{a b:List Int}{n}(d:a.length=n)(Y:b.length=n)(h:∀j,j<n->a.getD j 0=b.getD j 0):a=b:=by
 apply List.ext_getElem f6J;intro i Z D;have:=h i f6J;simpa[List.getD,Z,D]using this
theorem y1E g mv cs w(hr:Blk w g 292 (mv::ia cs))(hl:cs.length=255)(I:∀c∈cs,0<=c/\c<=3000000):Calls prog 289 #[.pointer (some ⟨g,0,none⟩)] w fun e w'=>e=.returned (.agg (ia (beg cs)).toArray)/\Bw w w':=by
 obtain⟨N,T⟩:∃N,w.alloc (.cells Tryz.zeroCells290 290)=N:=⟨_,rfl⟩;obtain⟨x,l⟩:∃x,N.alloc (.cells Tryz.zeroCells290 290)=x:=⟨_,rfl⟩;have F:Bw w N:=(by rw[<- T];exact t9C);have aj:N.heap.size=w.heap.size+1:=(by rw[<- T];simp);have H:Bw w x:=by rw[<- l];exact F.alloc f6J _
 have k1:Blk x w.heap.size 290 (ia z255):=by
  rw[<- l];refine Blk.alloc ?_ _;rw[<- T];exact Blk.new w _ _ _ z8R
 have k2:Blk x (w.heap.size+1) 290 (ia z255):=(by rw[<- l,<- aj];exact Blk.new N _ _ _ z8R);have n:=hr.lt;have HR:=O hr;have HC:=O I;have M:Hid (∀k,0<=(cs.take k).sum/\(cs.take k).sum<=3000000*(k:Int)):=z5I cs I;have aw:Hid (∀k,k<255->(cs.take (k+1)).sum=(cs.take k).sum+cs.getD k 0):=fun k hk=>y5d f6J;have t:Hid ((cs.take 0).sum=0):=(by grind);have ar:Hid (∀zs:List Int,zs.length=255->(∀j,j<255->zs.getD j 0=(cs.take j).sum)->zs=beg cs):=fun zs Z h2=>x4j Z (x4E cs) (fun j X=>by rw[h2 j X,z5f cs X])
 have B:Hid (∀(W:World),Bw w W->∀k:Nat,k<255->W.cell? ⟨g,1+k,none⟩=some (.int .i64 (cs.getD k 0))):=fun W hW k hk=>by
  rw[hW.cell n];refine hr.cell ?_;rw[Nat.add_comm,List.getElem?_cons_succ];exact y9t f6J
 have aq:Hid (∀k:Nat,k<255->0<=cs.getD k 0/\cs.getD k 0<=3000000):=fun k hk=>I _ (by simp[List.getD,(f6J:k<cs.length)]);obtain⟨Q,d⟩:∃Q,Q=w.heap.size+1:=⟨_,rfl⟩;obtain⟨A,b⟩:∃A,A=w.heap.size:=⟨_,rfl⟩;have aA:A≠Q:=f6J;have af:w.heap.size<=A:=f6J;have ag:w.heap.size<=Q:=f6J;rw[<- b]at k1;rw[<- d]at k2 aj;have K1:=O k1;have K2:=O k2;have am:=O H;have aD:=b.symm;have Z0:Hid (z255.length=255):=(by show _=_;simp[z255]);clear hr I F H k1 k2 b d hl;go_enter func289,ntmps289;go_wp2;go_loopw[4,5,6] (fun nn _ D wr=>∃(k:Nat) (zs:List Int),D=.int .i64 k/\nn=.int .i64 (cs.take k).sum/\k<=255/\zs.length=255/\Blk wr Q 290 (ia zs)/\Blk wr A 290 (ia z255)/\Bw w wr/\∀j,j<k->zs.getD j 0=(cs.take j).sum) (fun _ _ D _=>255-(intOf D).toNat)
 case atStart=>exact⟨0,z255,rfl,by rw[V t],f6J,V Z0,V K2,V K1,V am,fun j X=>f6J⟩
 case round =>
  obtain⟨k,zs,rfl,rfl,hk,R,K,m,Y,z⟩:=hrel;have aI:=V M k;by_cases E:k<255
  ·have aC:=V aw k E;have aG:=V B wr Y k E;obtain⟨q0,q1⟩:=V aq k E;have aF:=K.cell (y9t (zs:=zs) (i:=k) f6J);have aH:=K.frozen k;have ab:Blk (wr.setCell ⟨Q,k,none⟩ (.int .i64 (cs.take k).sum)) Q 290 (ia (zs.set k (cs.take k).sum)):=(by rw[<- y9u];exact K.set k _);have y:=m.other (a:=⟨Q,k,none⟩) aA (.int .i64 (cs.take k).sum);have H:=Y.setCell (p:=⟨Q,k,none⟩) ag (.int .i64 (cs.take k).sum);have ae:(wr.setCell ⟨Q,k,none⟩ (.int .i64 (cs.take k).sum)).cell? ⟨g,1+k,none⟩=some (.int .i64 (cs.getD k 0)):=V B _ H k E
   have C:Hid (∀j,j<k+1->(zs.set k (cs.take k).sum).getD j 0=(cs.take j).sum):=by
    intro j X;rw[x8V zs k j _ f6J];split
    ·rename_i e;rw[e]
    ·exact z j f6J
   obtain⟨U,aB⟩:∃U,wr.setCell ⟨Q,k,none⟩ (.int .i64 (cs.take k).sum)=U:=⟨_,rfl⟩;rw[aB]at ab y H ae;have az:=O ab;have ay:=O y;have HB:=O H;have L:=O aC;generalize hq:cs.getD k 0=q,hs:(cs.take k).sum=s at *;have f:(0:Int)<=(k:Int):=f6J;have u:(k:Int)<255:=f6J;go_wp2
   go_roundw
   case rel=>exact⟨k+1,zs.set k s,g2B,by rw[V L],f6J,W9W,V az,V ay,V HB,V C⟩
   case measure=>exact g7T
  ·obtain rfl:k=255:=f6J;have S:=V ar zs R z;subst S;go_upto_region 9 with fail;refine wp_region_list ?_;have ai:=K.range 0;rw[List.drop_zero]at ai;refine wpList_load_mid (by rfl) 290 (.tmp 3) (by rfl) Q 0 (by rfl) (ia (beg cs)) _ ai underlying290 (by rfl) (by rw[x3o,x4E];exact x2Z) ?_;have J:wr.there A 0 (ia (beg cs)).toArray.size:=m.there (by simp[x3o,x4E,z255]);refine wpList_store_mid (by rfl) 290 (.tmp 2) (.tmp 21) (by rfl) A 0 (ia (beg cs)).toArray (by rfl) (by rfl) J (by rw[show(ia (beg cs)).toArray.size=255 by simp[x3o,x4E]];exact x2Z) (z5q _) ?_;have G:=World.rangeAt_setCells_same wr A 0 (ia (beg cs)) I8T;have r:Bw w (wr.setCells A 0 (ia (beg cs))):=x0E af _ _ _ Y;have o:=run_loadVar_mid (P:=prog) _ A 0 290 (ia (beg cs)) _ G underlying290 (by rfl) (by rw[x3o,x4E];exact x2Z);go_wp2;exact bodyPost_ret (v:=.agg (ia (beg cs)).toArray) (x2u rfl _ _ _ A _ (by rfl) o) rfl ⟨rfl,r⟩
end Od
namespace Od
def fl(k:Int->Int)(j:Int)(l:List Int):List Int:=l.filter fun m=>decide (k m=0\/k m=j)
def bkN(k:Int->Int)(ms:List Int)(n:Nat):List Int:=(List.range n).flatMap fun(c:Nat)=>ms.filter fun m=>decide (k m=(c:Int))
def bkt(k:Int->Int)(ms:List Int):List Int:=bkN k ms 255
def ordA(k:Int->Int):List Int->List Int->List Int
 | ms,[]=>bkt k ms
 | ms,c::l=>if k c=0 then bkt k ms++c::ordA k [] l else ordA k (ms++[c]) l
def ord(k:Int->Int)(xs:List Int):List Int:=ordA k [] xs
def Mk(k:Int->Int)(ms:List Int):Prop:=∀m∈ms,1<=k m/\k m<=254
theorem x6z k:bkt k []=[]:=by
 unfold bkt bkN;simp
theorem x9j k ms n:bkN k ms (n+1)=bkN k ms n++ms.filter fun m=>decide (k m=(n:Int)):=by
 simp[bkN,List.range_succ,List.flatMap_append]
theorem z3g(p q r:Int->Bool)(h:∀m,r m=(p m||q m))(hd:∀m,¬(p m=true/\q m=true))(ms:List Int):(ms.filter r).length=(ms.filter p).length+(ms.filter q).length:=by
 induction ms with
 | nil=>rfl
 | cons m ms ih=>grind
theorem z6i k ms(h:∀m∈ms,0<=k m) n:(bkN k ms n).length=(ms.filter fun m=>decide (k m<(n:Int))).length:=by
 induction n with
 | zero =>
  have:(ms.filter fun m=>decide (k m<((0:Nat):Int)))=[]:=f0h;rw[this];rfl
 | succ n ih =>
  rw[x9j,List.length_append,ih];refine(z3g _ _ _ (fun m=>?_) (fun m=>?_) ms).symm
  ·grind
  ·exact f4R
theorem x9k{k ms}(h:Mk k ms):(bkt k ms).length=ms.length:=by
 unfold bkt;rw[z6i k ms (fun m z=>by have:=h m z;exact f6J),List.filter_eq_self.2];intro m z;have:=h m z;exact f4R
theorem z6j{k ms n x}(h:x∈bkN k ms n):x∈ms/\0<=k x/\k x<n:=by
 unfold bkN at h;rw[List.mem_flatMap]at h;obtain⟨c,I,A⟩:=h;rw[List.mem_range]at I;rw[List.mem_filter]at A;have:=o0d A.2;exact⟨A.1,f6J,f6J⟩
theorem z2w k ms j n:((bkN k ms n).filter fun m=>decide (k m=j))=if 0<=j/\j<n then ms.filter fun m=>decide (k m=j)else[]:=by
 induction n with
 | zero=>rw[if_neg f6J];rfl
 | succ n ih =>
  rw[x9j,List.filter_append,ih,List.filter_filter];by_cases h:j=(n:Int)
  ·grind
  ·have:(ms.filter fun a=>decide (k a=j)&&decide (k a=(n:Int)))=[]:=by
    rw[List.filter_eq_nil_iff];intro m _;exact f4R
   rw[this,List.append_nil];by_cases Z:0<=j/\j<(n:Int)
   ·rw[if_pos Z,if_pos f6J]
   ·rw[if_neg Z,if_neg f6J]
theorem y4q{k ms}(h:Mk k ms) j:fl k j ms=if 1<=j/\j<=254 then ms.filter (fun m=>decide (k m=j))else[]:=by
 unfold fl;by_cases X:1<=j/\j<=254
 ·rw[if_pos X];refine List.filter_congr (fun m z=>?_);have:=h m z;exact f4R
 ·rw[if_neg X,List.filter_eq_nil_iff];intro m z;have:=h m z;exact f4R
theorem z9o{k ms}(h:Mk k ms):Mk k (bkt k ms):=fun m z=>h m (z6j z).1
theorem z5m{k ms}(h:Mk k ms) j:fl k j (bkt k ms)=fl k j ms:=by
 rw[y4q (z9o h),y4q h];by_cases X:1<=j/\j<=254
 ·rw[if_pos X,if_pos X];unfold bkt;rw[z2w,if_pos f6J]
 ·rw[if_neg X,if_neg X]
theorem y0Z k j a b:fl k j (a++b)=fl k j a++fl k j b:=by unfold fl;exact List.filter_append ..
theorem y9b k j c l:fl k j (c::l)=if k c=0\/k c=j then c::fl k j l else fl k j l:=by
 unfold fl;rw[List.filter_cons];by_cases h:k c=0\/k c=j
 ·grind
 ·grind
theorem y3d{k ms c}(h:Mk k ms)(Z:1<=k c)(D:k c<=254):Mk k (ms++[c]):=by
 intro m hm;rcases List.mem_append.1 hm with hm | hm
 ·exact h m hm
 ·grind
theorem y2N{k:Int->Int}(G:∀c,0<=k c/\k c<=254)(j:Int):∀(l ms:List Int),Mk k ms->fl k j (ordA k ms l)=fl k j (ms++l)
 | [],ms,h=>by rw[ordA,z5m h,List.append_nil]
 | c::l,ms,h=>by
  rw[ordA];by_cases I:k c=0
  ·rw[if_pos I,y0Z,y0Z,z5m h,y9b,y9b,y2N G j l [] (fun _ h=>m5j)];rfl
  ·rw[if_neg I,y2N G j l _ (y3d h (by have:=G c;exact f6J) (G c).2)];simp
theorem q0b{k}(G:∀c,0<=k c/\k c<=254) j xs:fl k j (ord k xs)=fl k j xs:=y2N G j xs [] (fun _ h=>m5j)
theorem y0a{k:Int->Int}(G:∀c,0<=k c/\k c<=254):∀(l ms:List Int),Mk k ms->(ordA k ms l).length=ms.length+l.length
 | [],ms,h=>by rw[ordA,x9k h];rfl
 | c::l,ms,h=>by
  rw[ordA];by_cases I:k c=0
  ·rw[if_pos I,List.length_append,x9k h,List.length_cons,y0a G l [] (fun _ h=>m5j)];simp
  ·rw[if_neg I,y0a G l _ (y3d h (by have:=G c;exact f6J) (G c).2)];simp;omega
theorem z0z{k}(G:∀c,0<=k c/\k c<=254) xs:(ord k xs).length=xs.length:=by
 unfold ord;rw[y0a G xs [] (fun _ h=>m5j)];simp
theorem z0A{k}(G:∀c,0<=k c/\k c<=254){xs x}(h:x∈ord k xs):x∈xs:=by
 have Z:x∈fl k (k x) (ord k xs):=List.mem_filter.2 ⟨h,M7K⟩;rw[q0b G]at Z;exact(List.mem_filter.1 Z).1
end Od
namespace Od
theorem x4M(f:Nat->List Int) n:(List.range (n+1)).flatMap f=(List.range n).flatMap f++f n:=by
 simp[List.range_succ,List.flatMap_append]
theorem q0c(f:Nat->List Int){c n}(h:c<n):((List.range c).flatMap f).length+(f c).length<=((List.range n).flatMap f).length:=by
 induction n with
 | zero=>omega
 | succ n ih =>
  rw[x4M,List.length_append];rcases Nat.lt_succ_iff_lt_or_eq.1 h with h | rfl
  ·have:=ih h;omega
  ·exact l0r _
theorem x6e{f g:Nat->List Int}{n}(h:∀i,i<n->f i=g i):(List.range n).flatMap f=(List.range n).flatMap g:=by
 induction n with
 | zero=>rfl
 | succ n ih=>rw[x4M,x4M,ih (fun i hi=>h i f6J),h n f6J]
theorem q0d(f g:Nat->List Int){c r n} v(I:c<n)(hr:r<(f c).length)(C:g c=(f c).set r v)(hd:∀i,i≠c->g i=f i):((List.range n).flatMap f).set (((List.range c).flatMap f).length+r) v=(List.range n).flatMap g:=by
 induction n with
 | zero=>omega
 | succ n ih =>
  rw[x4M,x4M];rcases Nat.lt_succ_iff_lt_or_eq.1 I with h | rfl
  ·have:=q0c f h;rw[List.set_append_left _ _ f6J,ih h,hd n f6J]
  ·rw[List.set_append_right _ _ f6J,(f6J:((List.range c).flatMap f).length+r-((List.range c).flatMap f).length=r),<- C,x6e (fun i hi=>(hd i f6J).symm)]
def ft(k:Int->Int)(c:Nat)(l:List Int):List Int:=l.filter fun m=>decide (k m=(c:Int))
theorem z6k k ms n:bkN k ms n=(List.range n).flatMap fun c=>ft k c ms:=rfl
theorem x6M k c a b:ft k c (a++b)=ft k c a++ft k c b:=by unfold ft;exact List.filter_append ..
def y5i(k:Int->Int)(ms:List Int)(j:Nat)(y:List Int):Prop:=∃J:Nat->List Int,y=(List.range 255).flatMap (fun c=>ft k c (ms.take j)++J c)/\∀c,c<255->(J c).length=(ft k c (ms.drop j)).length
theorem split(g:Nat->Nat):∀(n:Nat) (y:List Int) (_:y.length=((List.range n).map g).sum),∃J:Nat->List Int,y=(List.range n).flatMap J/\∀c,c<n->(J c).length=g c
 | 0,y,h=>⟨fun _=>[],S4r,fun c I=>f6J⟩
 | n+1,y,h=>by
  rw[List.range_succ,List.map_append,List.sum_append]at h;simp only[List.map_cons,List.map_nil,List.sum_cons,List.sum_nil,Nat.add_zero]at h;obtain⟨J,Z,D⟩:=split g n (y.take (y.length-g n)) U3s;refine⟨fun i=>if i=n then y.drop (y.length-g n)else J i,?_,fun c I=>?_⟩
  ·rw[x4M,if_pos rfl,x6e (g:=J) (fun i hi=>by rw[if_neg f6J]),<- Z,List.take_append_drop]
  ·by_cases p:c=n
   ·subst p;simp only[if_true,List.length_drop];omega
   ·simp only[if_neg p];exact D c f6J
theorem y9d(f:Nat->List Int) n:((List.range n).flatMap f).length=((List.range n).map fun c=>(f c).length).sum:=f0h
theorem y2D{k ms y}(h:Mk k ms)(hy:y.length=ms.length):y5i k ms 0 y:=by
 obtain⟨J,Z,D⟩:=split (fun c=>(ft k c ms).length) 255 y (by rw[hy,<- x9k h];unfold bkt;rw[z6k,y9d]);refine⟨J,?_,fun c I=>?_⟩
 ·rw[Z];exact x6e (fun i _=>by simp[ft])
 ·rw[List.drop_zero];exact D c I
theorem y8A{k ms y}(h:y5i k ms ms.length y):y=bkt k ms:=by
 obtain⟨J,Z,D⟩:=h;rw[Z];unfold bkt;rw[z6k];refine x6e (fun i hi=>?_);have:=D i hi;rw[List.drop_length]at this;rw[List.take_length,List.eq_nil_of_length_eq_zero (l:=J i) (by rw[this];rfl),List.append_nil]
def plc(k:Int->Int)(ms:List Int)(j c:Nat):Nat:=(bkN k ms c).length+(ft k c (ms.take j)).length
theorem z3l k c ms j:(ft k c (ms.take j)).length+(ft k c (ms.drop j)).length=(ft k c ms).length:=by
 rw[<- List.length_append,<- x6M,List.take_append_drop]
theorem y2R{k} c{ms:List Int}{j}(X:j<ms.length):ft k c (ms.take (j+1))=ft k c (ms.take j)++if k (ms.getD j 0)=c then[ms.getD j 0]else[]:=by
 rw[List.take_add_one,x6M,List.getElem?_eq_getElem X];have:ms.getD j 0=ms[j]:=S8d;rw[this];unfold ft;by_cases h:k ms[j]=(c:Int)<;>simp[h]
theorem y9e{k} c{ms:List Int}{j}(X:j<ms.length):ft k c (ms.drop j)=(if k (ms.getD j 0)=c then[ms.getD j 0]else[])++ft k c (ms.drop (j+1)):=by
 have:ms.getD j 0=ms[j]:=S8d;rw[List.drop_eq_getElem_cons X,this];unfold ft;rw[List.filter_cons];by_cases h:k ms[j]=(c:Int)
 ·grind
 ·grind
theorem y5N{k ms y}{j c:Nat}(h:y5i k ms j y)(X:j<ms.length)(I:k (ms.getD j 0)=c)(R:c<255):plc k ms j c<y.length/\y5i k ms (j+1) (y.set (plc k ms j c) (ms.getD j 0)):=by
 obtain⟨J,Z,D⟩:=h;have s:=D c R;rw[y9e c X,if_pos I,List.length_append,List.length_singleton]at s
 have Y:(bkN k ms c).length=((List.range c).flatMap fun c=>ft k c (ms.take j)++J c).length:=by
  rw[z6k,y9d,y9d];congr 1;refine List.map_congr_left (fun i hi=>?_);rw[List.mem_range]at hi;rw[List.length_append,D i f6J,z3l]
 have B:=q0c (fun c=>ft k c (ms.take j)++J c) R;simp only[List.length_append]at B;unfold plc;rw[Z,Y];refine⟨f6J,fun i=>if i=c then(J c).drop 1 else J i,?_,fun i hi=>?_⟩
 ·refine q0d _ _ _ R u7B ?_ (fun i hi=>?_)
  ·simp only[if_true];rw[y2R c X,if_pos I,List.set_append_right _ _ (l0r _),Nat.sub_self]
   cases hq:J c with
   | nil=>grind
   | cons x l=>simp
  ·simp only[if_neg hi];rw[y2R i X,if_neg (fun e=>hi f6J),List.append_nil]
 ·by_cases A:i=c
  ·grind
  ·simp only[if_neg A];rw[D i hi,y9e i X,if_neg (fun e=>A f6J),List.nil_append]
theorem z4j{k ms j} c(X:j<ms.length):plc k ms (j+1) c=if k (ms.getD j 0)=c then plc k ms j c+1 else plc k ms j c:=by
 unfold plc;rw[y2R c X];by_cases h:k (ms.getD j 0)=c
 ·grind
 ·grind
theorem z4k k ms c:plc k ms 0 c=(bkN k ms c).length:=by simp[plc,ft]
theorem z2x k ms c:(bkN k ms (c+1)).length=(bkN k ms c).length+(ft k c ms).length:=by rw[x9j,List.length_append];rfl
end Od
open Ti
namespace Od
def ir(zs:List Int):List Value:=zs.map (Value.int .i32)
theorem x3q zs:(ir zs).length=zs.length:=List.length_map _
theorem ir_at{zs i}(hi:i<zs.length):(ir zs)[i]?=some (.int .i32 (zs.getD i 0)):=by
 unfold ir;exact f3f
def mc(k:Int->Int)(ms:List Int):List Value:=ms.flatMap fun m=>[.int .i32 m,.int .i64 (k m)]
theorem q0y k ms:(mc k ms).length=ms.length*2:=by
 induction ms with
 | nil=>rfl
 | cons m ms ih=>simp only[mc,List.flatMap_cons,List.length_append,List.length_cons,List.length_nil]at ih ⊢;omega
theorem q0x{k:Int->Int}:∀{ms:List Int} {i:Nat},i<ms.length->(mc k ms)[i*2]?=some (.int .i32 (ms.getD i 0))/\(mc k ms)[i*2+1]?=some (.int .i64 (k (ms.getD i 0)))
 | [],i,h=>by simp at h
 | m::ms,0,_=>⟨rfl,rfl⟩
 | m::ms,i+1,h=>by
  have:=q0x (k:=k) (ms:=ms) (i:=i) S4r;simp only[mc,List.flatMap_cons,(f6J:(i+1)*2=i*2+1+1)]at this ⊢;exact W2K
theorem y4u{w wr:World}{row}(h:w.grownBy wr row) o:w.grownBy (wr.alloc o) row:=⟨h.os,h.tape,h.output,by have:=h.size;exact P8P,fun k G F=>by rw[Below.heap_alloc wr o k (by have:=h.size;exact f6J)];exact g5I⟩
theorem y9j{w wr:World}{row}(h:w.grownBy wr row) p v(s:some p.block=row\/w.heap.size<=p.block):w.grownBy (wr.setCell p v) row:=by
 have b:=(Below.refl 0 wr).setCell (p:=p) (Nat.zero_le _) v;refine⟨b.os.trans h.os,b.tape.trans h.tape,b.output.trans h.output,Nat.le_trans h.size b.size,fun k G F=>?_⟩;rw[heap_setCell_other wr p k v ?_]
 ·exact g5I
 ·grind
theorem z3q{w wr w':World}{row B}(h:w.grownBy wr row)(Y:Below B wr w')(l:w.heap.size<=B):w.grownBy w' row:=⟨Y.os.trans h.os,Y.tape.trans h.tape,Y.output.trans h.output,by have:=h.size;have:=Y.size;exact f6J,fun k G F=>by rw[Y.block k f6J];exact g5I⟩
theorem Blk.kept{w w'}{g t:Nat}{vs row}(h:Blk w g t vs)(C:w.grownBy w' row)(y:some g≠row):Blk w' g t vs:=(C.block g h.lt y).trans h
def cnts(k:Int->Int)(ms:List Int):List Int:=(List.range 255).map fun c=>((Od.ft k c ms).length:Int)
theorem x1p k ms:(cnts k ms).length=255:=by simp[cnts]
theorem x9n k ms{c}(I:c<255):(cnts k ms).getD c 0=((Od.ft k c ms).length:Int):=by simp[cnts,List.getD,I]
theorem y4f(k:Int->Int)(ms:List Int):∀c:Nat,c<=255->((cnts k ms).take c).sum=((Od.bkN k ms c).length:Int)
 | 0,_=>by simp[Od.bkN]
 | c+1,h=>by
  rw[y5d (by rw[x1p];exact f6J),y4f k ms c f6J,x9n k ms f6J,Od.z2x];simp
theorem z6h k ms{c}(I:c<255):(beg (cnts k ms)).getD c 0=(Od.plc k ms 0 c:Int):=by
 rw[z5f _ I,y4f k ms c f6J,Od.z4k]
theorem y4d k ms(h:ms.length<=3000000):∀c∈cnts k ms,0<=c/\c<=3000000:=fun c I=>by
 obtain⟨i,_,rfl⟩:=List.mem_map.1 I;have:(Od.ft k i ms).length<=ms.length:=List.length_filter_le _ _;omega
theorem q1h{A B C:List Value}{o i}(q:A.length=o)(hi:i<B.length):(A++B++C)[o+i]?=B[i]?:=by grind
theorem z8n{A B C:List Value}{o i} v(q:A.length=o)(hi:i<B.length):(A++B++C).set (o+i) v=A++B.set i v++C:=by grind
theorem x4G{g g2 t:Nat}{us:List Value}(h:g≠g2):∀(T:List Value) (o:Nat) (wr:World) (_:Blk wr g t us),Blk (wr.setCells g2 o T) g t us
 | [],_,_,b=>b
 | v::T,o,_,b=>x4G h T (o+1) _ (b.other (a:=⟨g2,o,none⟩) h v)
theorem x5n{P ops rest B}{a w w' Q}(J:B.guard=none) ty(x y:Operand)(j:B.op=.store ty x y) b o cells(A:a.eval x=.pointer (some ⟨b,o,none⟩))(hy:a.eval y=.agg cells)(U:w.there b o cells.size)(hi:(P.info? ty).map (·.size)=some cells.size)(Z:cells.all (·.oneCell')=true)(q:w.setCells b o cells.toList=w')(h:wpList P ops Q rest (a.put B.dst undef) w'):wpList P ops Q (B::rest) a w:=by
 subst q;exact wpList_store_mid J ty x y j b o cells A hy U hi Z h
theorem x6N{w:World}{row:Option Nat}(g:Nat)(s:some g=row\/w.heap.size<=g):∀(T:List Value) (o:Nat) (wr:World) (_:w.grownBy wr row),w.grownBy (wr.setCells g o T) row
 | [],_,_,h=>h
 | v::T,o,_,h=>x6N g s T (o+1) _ (y9j h ⟨g,o,none⟩ v s)
theorem y5M k g mb mcap yb yo ycap ms ys J A C w(hr:Blk w g 292 (.slice (some ⟨mb,0,none⟩) ms.length mcap::ia (cnts k ms)))(z:Blk w mb 295 (mc k ms++J))(aH:ms.length<=mcap/\mcap<=9223372036854775807)(hy:Blk w yb 21 (A++ir ys++C))(hA:A.length=yo)(U:ys.length=ms.length)(aN:ms.length<=ycap/\ycap<=9223372036854775807)(hk:Od.Mk k ms)(hn:ms.length<=3000000)(Z:g≠yb)(aI:mb≠yb):Calls prog 255 #[.pointer (some ⟨g,0,none⟩),.slice (some ⟨yb,yo,none⟩) ms.length ycap] w fun e w'=>e=.returned (.tuple #[])/\Blk w' yb 21 (A++ir (Od.bkt k ms)++C)/\w.grownBy w' (some yb):=by
 have K1:=O (y1E g _ (cnts k ms) w hr (x1p k ms) (y4d k ms hn));obtain⟨aZ,ba⟩:=aH;obtain⟨bh,bj⟩:=aN;have HY:=O hy
 have HM:Hid (∀(W:World),w.grownBy W (some yb)->∀i:Nat,i<ms.length->W.cell? ⟨mb,i*2,none⟩=some (.int .i32 (ms.getD i 0))/\W.cell? ⟨mb,i*2+1,none⟩=some (.int .i64 (k (ms.getD i 0)))):=fun W hW i hi=>by
  have h:=z.kept hW (fun e=>aI (by simpa using e));have D:=q0x (k:=k) hi;have hl:=q0y k ms;exact⟨h.cell (by rw[List.getElem?_append_left f6J];exact D.1),h.cell (by rw[List.getElem?_append_left f6J];exact D.2)⟩
 have aM:=hy.lt;have r:w.cell? ⟨g,0,none⟩=some (.slice (some ⟨mb,0,none⟩) ms.length mcap):=hr.cell rfl;have o:Hid (∀(W:World),w.grownBy W (some yb)->W.cell? ⟨g,0,none⟩=some (.slice (some ⟨mb,0,none⟩) ms.length mcap)):=fun W hW=>(hr.kept hW (fun e=>Z (by simpa using e))).cell rfl;have az:=O (Od.y2D hk U);have d:=O hk;have B:=O (x4E (cnts k ms));have ar:Hid (∀c,c<255->(beg (cnts k ms)).getD c 0=(Od.plc k ms 0 c:Int)):=fun c hc=>z6h k ms hc;generalize beg (cnts k ms)=H at *;go_enter func255,ntmps255;go_wp2_with fail;refine c0m K1 fun Q b1=>?_;have be:=b1.size;obtain⟨x,l⟩:∃x,Q.alloc (.cells Tryz.zeroCells290 290)=x:=⟨_,rfl⟩;have k2:Blk x Q.heap.size 290 (ia z255):=(by rw[<- l];exact Blk.new Q _ _ _ z8R);have g2:w.grownBy x (some yb):=(by rw[<- l];exact y4u (z3q (World.grownBy.refl w _) b1 (l0r _)) _);obtain⟨j,aG⟩:∃j,Q.heap.size=j:=⟨_,rfl⟩;rw[aG]at k2;have G:w.heap.size<=j:=f6J;have n:=V B;have aL:x.there j 0 (ia H).toArray.size:=k2.there M1b;have f:(ia H).toArray.size=255:=(by simp[x3o,n]);obtain⟨L,Y⟩:∃L,x.setCells j 0 (ia H).toArray.toList=L:=⟨_,rfl⟩
 have k3:Blk L j 290 (ia H):=by
  have:=k2.setCells (ia H) 0 M1b;rw[<- Y];rw[List.take_zero,List.nil_append,List.drop_of_length_le M1b,List.append_nil]at this;exact this
 have g3:w.grownBy L (some yb):=by rw[<- Y];exact x6N j (Or.inr G) _ _ _ g2
 have y3:Blk L yb 21 (A++ir ys++C):=by
  have h1:Q.heap[yb]?=w.heap[yb]?:=b1.block yb aM;have D:Blk Q yb 21 (A++ir ys++C):=h1.trans (V HY);have h3:Blk x yb 21 (A++ir ys++C):=(by rw[<- l];exact D.alloc _);rw[<- Y];exact x4G f6J _ _ _ h3
 have r:=V o L g3;have K3:=O k3;have G3:=O g3;have Y3:=O y3;go_wp2_with(refine x5n (by rfl) 290 (.tmp 4) (.tmp 8) (by rfl) j 0 (ia H).toArray (by rfl) (by rfl) aL (by rw[f];exact x2Z) (z5q _) Y ?_);go_loopw[6,14] (fun _ kk wr=>∃(i:Nat) (y u:List Int),kk=.int .i64 i/\i<=ms.length/\Od.y5i k ms i y/\y.length=ms.length/\Blk wr yb 21 (A++ir y++C)/\u.length=255/\(∀c,c<255->u.getD c 0=(Od.plc k ms i c:Int))/\Blk wr j 290 (ia u)/\w.grownBy wr (some yb)) (fun _ kk _=>ms.length-(intOf kk).toNat)
 case atStart=>exact⟨0,ys,H,rfl,f6J,V az,U,V Y3,V B,V ar,V K3,V G3⟩
 case round =>
  obtain⟨i,y,u,rfl,aY,K,F,v,aJ,ai,ag,s⟩:=hrel;by_cases E:i<ms.length
  ·obtain⟨c0,c1⟩:=V HM wr s i E;have aX:=V d (ms.getD i 0) N0c;obtain⟨c,hc⟩:∃c:Nat,k (ms.getD i 0)=(c:Int):=⟨(k (ms.getD i 0)).toNat,f6J⟩;have R:c<255:=f6J;obtain⟨p1,p2⟩:=Od.y5N K E hc R;have aK:=fun c'=>Od.z4j (k:=k) c' E;have ae:=ai c R;obtain⟨p,hp⟩:∃p,Od.plc k ms i c=p:=⟨_,rfl⟩;rw[hp]at ae p1 p2;rw[hc]at c1;obtain⟨m,z⟩:∃m,ms.getD i 0=m:=⟨_,rfl⟩;rw[z]at c0 p2 hc;obtain⟨t,M⟩:∃t,wr.heap.size=t:=⟨_,rfl⟩;have aT:=s.size;have aV:=ag.lt;obtain⟨N,T⟩:∃N,wr.alloc (.cells #[.int .i32 m,.int .i64 c] 295)=N:=⟨_,rfl⟩;have x0:N.cell? ⟨t,0,none⟩=some (.int .i32 m):=(by rw[<- T,<- M];exact M7O);have x1:N.cell? ⟨t,1,none⟩=some (.int .i64 c):=(by rw[<- T,<- M];exact M7O);have aj:Blk N j 290 (ia u):=(by rw[<- T];exact ag.alloc _);have af:Blk N yb 21 (A++ir y++C):=(by rw[<- T];exact v.alloc _);have aD:w.grownBy N (some yb):=(by rw[<- T];exact y4u s _);have x2:N.cell? ⟨j,c,none⟩=some (.int .i64 p):=(by rw[aj.cell (y9t f6J),ae]);have x3:N.cell? ⟨yb,yo+p,none⟩=some (.int .i32 (y.getD p 0)):=af.cell (by rw[q1h hA (by rw[x3q];exact f6J)];exact ir_at f6J);have f3:=af.frozen (yo+p);obtain⟨x,l⟩:∃x,N.setCell ⟨yb,yo+p,none⟩ (.int .i32 m)=x:=⟨_,rfl⟩
   have aP:Blk x yb 21 (A++ir (y.set p m)++C):=by
    have:=af.set (yo+p) (.int .i32 m);rw[z8n _ hA (by rw[x3q];exact f6J),l]at this;have e:(ir y).set p (.int .i32 m)=ir (y.set p m):=(by unfold ir;rw[List.map_set]);rw[e]at this;exact this
   have I:Blk x j 290 (ia u):=(by rw[<- l];exact aj.other (a:=⟨yb,yo+p,none⟩) (by show j≠yb;exact f6J) _);have aF:w.grownBy x (some yb):=(by rw[<- l];exact y9j aD ⟨yb,yo+p,none⟩ _ (Or.inl rfl));have z0:x.cell? ⟨t,0,none⟩=some (.int .i32 m):=(by rw[<- l,World.cell?_setCell_other _ _ _ _ M1q];exact x0);have z1:x.cell? ⟨t,1,none⟩=some (.int .i64 c):=(by rw[<- l,World.cell?_setCell_other _ _ _ _ M1q];exact x1);have z2:x.cell? ⟨j,c,none⟩=some (.int .i64 p):=(by rw[I.cell (y9t f6J),ae]);have f4:=I.frozen c;have hd:Hid (Od.y5i k ms (i+1) (y.set p m)):=p2;have aR:(p:Int)+1<=3000001:=f6J;have aU:(p:Int)<ms.length:=f6J;have aS:(c:Int)<255:=f6J;have aB:=O I;have aC:=O aP;have P:=O aF;have aw:=O ai;have ay:=O aK;have aW:=O ae;have S:=O hp;have X:=O hc;have aq:=O z;have b:(y.set p m).length=ms.length:=(by rw[List.length_set];exact F);go_upto_region 4 with fail;go_region_held3(fun w'=>w'.cell? ⟨t,0,none⟩=some (.int .i32 m)/\w'.cell? ⟨t,1,none⟩=some (.int .i64 c)/\w'.cell? ⟨j,c,none⟩=some (.int .i64 p)) (first| exact⟨x0,x1,x2⟩ | exact⟨z0,z1,z2⟩ | go_keep) (fail);go_wp2
   go_roundw
   case rel =>
    have aO:Blk (x.setCell ⟨j,c,none⟩ (.int .i64 ((p:Int)+1))) j 290 (ia (u.set c ((p:Int)+1))):=(by rw[<- y9u];exact(V aB).set c _);have aQ:Blk (x.setCell ⟨j,c,none⟩ (.int .i64 ((p:Int)+1))) yb 21 (A++ir (y.set p m)++C):=(V aC).other (a:=⟨j,c,none⟩) (by show yb≠j;exact f6J) _;have ab:w.grownBy (x.setCell ⟨j,c,none⟩ (.int .i64 ((p:Int)+1))) (some yb):=y9j (V P) ⟨j,c,none⟩ _ (Or.inr G);refine⟨i+1,y.set p m,u.set c ((p:Int)+1),g2B,f6J,V hd,b,aQ,by rw[List.length_set];exact aJ,fun c' q=>?_,aO,⟨ab.os,ab.tape,ab.output,ab.size,ab.block⟩⟩;rw[x8V u c c' _ f6J,V ay c',V aq,V X];by_cases h:c'=c
    ·rw[if_pos h,if_pos (by rw[h]),h,V S];rfl
    ·rw[if_neg h,if_neg (fun e=>h f6J)];exact V aw c' q
   case measure=>exact g7T
  ·obtain rfl:i=ms.length:=f6J;have he:=Od.y8A K;subst he;have aA:=O v;have am:=O s;go_wp2;go_end0;exact⟨rfl,V aA,V am⟩
end Od
open Ti
namespace Od
theorem x8S{P w} t e ty b o n cap z(d:P.underlying t=some (.slice e))(T:∀w,(zeroValue e).run P w=.ok z w)(F:0<n) us(q:(Builtin.zeroCells z.cells n).toList=us)(J:w.there b o us.length)(Z:∀v∈us,v.oneCell'=true):(Builtin.clear_ #[t] ty #[.slice (some ⟨b,o,none⟩) n cap]).run P w=.ok (.tuple #[]) (w.setCells b o us):=by
 have L:(storeCells ⟨b,o,none⟩ us 0).run P w=.ok () (w.setCells b o us):=by
  have:=run_storeCells_cells (P:=P) b o us 0 w (fun j X=>by simpa using(J j X).1) (fun j X=>by simpa using(J j X).2) Z;exact W2K
 obtain⟨m,rfl⟩:∃m,n=m+1:=⟨n-1,f6J⟩;unfold Builtin.clear_;simp[Sem.run_bind,run_underlying d,T,q,L]
def x1B(w:World)(k:Int->Int)(g:Nat)(ms:List Int):Prop:=∃mv,Blk w g 292 (mv::ia (cnts k ms))/\w.ownsRow (g+1) 295 2 mv ms.length (mc k ms)
theorem x1B.shape{w k g ms}(h:x1B w k g ms):∃ao cap,Blk w g 292 (.slice ao ms.length cap::ia (cnts k ms))/\w.ownsRow (g+1) 295 2 (.slice ao ms.length cap) ms.length (mc k ms)/\ms.length<=cap/\cap<=9223372036854775807:=by
 obtain⟨A,Z,D⟩:=h;rcases D.2 with⟨rfl,R⟩ | ⟨d,cap,P,rfl,_,_,I,z,_⟩
 ·grind
 ·exact⟨_,cap,Z,D,I,by unfold maxLen at z;exact f6J⟩
theorem x8C k g v w(h:x1B w k g []):Calls prog 211 #[.pointer (some ⟨g,0,none⟩),v] w fun e w'=>e=.returned (.tuple #[])/\w'=w:=by
 obtain⟨J,M,Z,_,_,I⟩:=h.shape;have r:w.cell? ⟨g,0,none⟩=some (.slice J 0 M):=Z.cell rfl;go_enter func211,ntmps211;go_wp2;exact bodyPost_ret (v:=.tuple #[]) (results_none rfl _ _ _) rfl ⟨rfl,rfl⟩
theorem z8T w:(zeroValue 3).run prog w=.ok (.int .i64 0) w:=(zero_of_info (n:=1) f4x).1 w
theorem z4Y w:(zeroValue 295).run prog w=.ok (.agg #[.int .i32 0,.int .i64 0]) w:=(zero_of_info (n:=2) f4x).1 w
theorem z8S:(Builtin.zeroCells (Value.int .i64 0).cells 255).toList=ia z255:=f4x
theorem y5h n:(Builtin.zeroCells (Value.agg #[.int .i32 0,.int .i64 0]).cells n).toList.length=n*2/\∀v∈(Builtin.zeroCells (Value.agg #[.int .i32 0,.int .i64 0]).cells n).toList,v.oneCell'=true:=by
 unfold Builtin.zeroCells;refine⟨by simp[Value.cells],fun v N=>?_⟩;simp only[Value.cells,Array.toList_map,List.mem_map]at N;obtain⟨i,_,rfl⟩:=N;have:i%#[Value.int .i32 0,.int .i64 0].size=0\/i%#[Value.int .i32 0,.int .i64 0].size=1:=(by grind);rcases this with h | h<;>rw[h]<;>rfl
theorem y4e k:cnts k []=z255:=by
 refine List.eq_replicate_iff.2 ⟨x1p k [],fun b Y=>?_⟩;obtain⟨i,_,rfl⟩:=List.mem_map.1 Y;rfl
theorem y6m k g yb o ycap ms ys A C w(h:x1B w k g ms)(hy:Blk w yb 21 (A++ir ys++C))(hA:A.length=o)(U:ys.length=ms.length)(am:o+ms.length<=ycap/\ycap<=9223372036854775807)(hk:Od.Mk k ms)(hn:ms.length<=3000000)(ho:o<=3000000)(y:0<ms.length)(ai:yb<g):Calls prog 211 #[.pointer (some ⟨g,0,none⟩),.slice (some ⟨yb,0,none⟩) (o+ms.length) ycap] w fun e w'=>e=.returned (.tuple #[])/\Blk w' yb 21 (A++ir (Od.bkt k ms)++C)/\x1B w' k g []/\Below yb w w':=by
 obtain⟨mv,Z,D⟩:=h;obtain⟨aw,D⟩:=D;rcases D with⟨_,h0⟩ | ⟨d,E,P,rfl,X,J,S,R,af,ag⟩
 ·omega
 have hm:Blk w d 295 (mc k ms++P.toList.drop (ms.length*2)):=by
  rw[<- ag,List.take_append_drop];unfold Blk;rw[J]
 have aj:E<=9223372036854775807:=(by unfold maxLen at R;exact f6J);obtain⟨ay,az⟩:=am;have q:=O (y5M k g d E yb o (ycap-o) ms ys _ A C w Z hm ⟨S,aj⟩ hy hA U ⟨f6J,f6J⟩ hk hn f6J f6J);have r:w.cell? ⟨g,0,none⟩=some (.slice (some ⟨d,0,none⟩) ms.length E):=Z.cell rfl
 have H:Hid (∀W:World,Blk W yb 21 (A++ir (Od.bkt k ms)++C)->w.grownBy W (some yb)->∃x L n,W.setCells g 1 (ia z255)=x/\x.setCells d 0 (Builtin.zeroCells (Value.agg #[.int .i32 0,.int .i64 0]).cells ms.length).toList=L/\L.setCell ⟨g,0,none⟩ (.slice (some ⟨d,0,none⟩) 0 E)=n/\W.there g 1 (ia z255).length/\x.there d 0 (Builtin.zeroCells (Value.agg #[.int .i32 0,.int .i64 0]).cells ms.length).toList.length/\W.cell? ⟨g,0,none⟩=some (.slice (some ⟨d,0,none⟩) ms.length E)/\x.cell? ⟨g,0,none⟩=some (.slice (some ⟨d,0,none⟩) ms.length E)/\L.cell? ⟨g,0,none⟩=some (.slice (some ⟨d,0,none⟩) ms.length E)/\L.frozen? ⟨g,0,none⟩=false/\Blk n yb 21 (A++ir (Od.bkt k ms)++C)/\x1B n k g []/\Below yb w n):=fun W hW hg=>by
  have M:=Z.kept hg (fun e=>Nat.ne_of_gt ai N5j);have m0:=hm.kept hg (fun e=>absurd (N5j:d=yb) f6J);have K:1+(ia z255).length<=(Value.slice (some ⟨d,0,none⟩) ms.length E::ia (cnts k ms)).length:=(by simp[x3o,z255,x1p]);have r1:=M.setCells (ia z255) 1 K
  have t:(Value.slice (some ⟨d,0,none⟩) ms.length E::ia (cnts k ms)).take 1++ia z255++(Value.slice (some ⟨d,0,none⟩) ms.length E::ia (cnts k ms)).drop (1+(ia z255).length)=.slice (some ⟨d,0,none⟩) ms.length E::ia z255:=by
   rw[List.drop_of_length_le (by simp[x3o,z255,x1p])];simp
  rw[t]at r1;have u:=x4G (g2:=g) f6J (ia z255) 1 W m0;obtain⟨zl,_⟩:=y5h ms.length;have F:P.toList.length=E*2:=(Array.length_toList (xs:=P)).trans af;have I:(mc k ms++P.toList.drop (ms.length*2)).length=E*2:=(by grind);have m2:=u.setCells (Builtin.zeroCells (Value.agg #[.int .i32 0,.int .i64 0]).cells ms.length).toList 0 (by rw[zl,I];exact f6J);have r2:=x4G (g2:=d) f6J (Builtin.zeroCells (Value.agg #[.int .i32 0,.int .i64 0]).cells ms.length).toList 0 _ r1;have r3:=r2.set 0 (.slice (some ⟨d,0,none⟩) 0 E);have m3:=m2.other (a:=⟨g,0,none⟩) (by show d≠g;exact f6J) (.slice (some ⟨d,0,none⟩) 0 E);have y1:=x4G (g2:=g) f6J (ia z255) 1 W hW;have y2:=x4G (g2:=d) f6J (Builtin.zeroCells (Value.agg #[.int .i32 0,.int .i64 0]).cells ms.length).toList 0 _ y1;have y3:=y2.other (a:=⟨g,0,none⟩) (by show yb≠g;exact f6J) (.slice (some ⟨d,0,none⟩) 0 E);have b1:Below yb w W:=(b0r).grown hg (by have:=hy.lt;exact f6J) (fun j hj=>by simp at hj;exact f6J);have m:=x0E (B:=yb) (g:=g) f6J (ia z255) 1 W b1;have G:=x0E (B:=yb) (g:=d) f6J (Builtin.zeroCells (Value.agg #[.int .i32 0,.int .i64 0]).cells ms.length).toList 0 _ m;refine⟨_,_,_,rfl,rfl,rfl,M.there K,u.there (by rw[zl,I];exact f6J),M.cell rfl,r1.cell rfl,r2.cell rfl,r2.frozen 0,y3,⟨.slice (some ⟨d,0,none⟩) 0 E,?_,⟨by simp[mc],Or.inr ⟨d,E,_,rfl,X,m3,Nat.zero_le _,R,?_,by simp[mc]⟩⟩⟩,G.setCell (p:=⟨g,0,none⟩) (by show yb<=g;exact f6J) _⟩
  ·rw[y4e];exact r3
  ·grind
 have c:=O (y5h ms.length);have ar:ms.length<=E:=S;generalize hgz:(Builtin.zeroCells (Value.agg #[.int .i32 0,.int .i64 0]).cells ms.length).toList=zz at *;have N:=O hgz;have aq:¬((ms.length:Int)=0):=f6J;go_enter func211,ntmps211;go_wp2_with fail;refine(V q).mono ?_;rintro e w1 ⟨rfl,y1,i⟩;obtain⟨x,L,n,l,Y,s,t2,t3,c1,c2,c3,f3,ab,ae,Q⟩:=V H w1 y1 i;have b:=O ab;have f:=O ae;have T:=O Q
 have q1:(Builtin.clear_ #[279] 0 #[.slice (some ⟨g,1,none⟩) 255 255]).run prog w1=.ok (.tuple #[]) x:=by
  rw[<- l];exact x8S 279 3 0 g 1 255 255 _ underlying279 z8T e8N (ia z255) z8S t2 (fun v hv=>by obtain⟨z,_,rfl⟩:=List.mem_map.1 hv;rfl)
 have q2:(Builtin.clear_ #[289] 0 #[.slice (some ⟨d,0,none⟩) ms.length E]).run prog x=.ok (.tuple #[]) L:=by
  rw[<- Y];exact x8S 289 295 0 d 0 ms.length E _ underlying289 z4Y y zz (V N) t3 (V c).2
 go_wp2;go_end0;exact⟨rfl,V b,V f,V T⟩
end Od
open Ti
namespace Od
theorem q0o:∃i z,prog.info? 295=some i/\i.zero=some z/\i.size=2/\i.bytes=16/\z.cells.size=2:=by
 have h:(prog.info? 295).map (fun i=>(i.size,i.bytes,i.zero.map (·.cells.size)))=some (2,16,some 2):=f4x;exact f7U
theorem y6W(w:World)(x y:Value):(Instr.buildSlice 289 1 #[(0,.agg #[x,y])]).run prog w=.ok (.slice (some ⟨w.heap.size,0,none⟩) 1 1) (w.alloc (.cells #[x,y] 295)):=by
 obtain⟨i,z,hi,T,Z,_,J⟩:=q0o;refine run_buildSlice w 289 295 1 _ _ i z underlying289 hi T f0R f0R ?_;rw[Z];have:=Great.fill_whole (s:=2) e8M [Value.agg #[x,y]] ((Array.range (1*2)).map (z.cells[·%z.cells.size]!)) (fun v N=>by simp at N;subst N;simp[Value.cells]) M7L;simpa[Value.cells]using this
theorem y8r(k:Int->Int)(ms:List Int)(m:Int){c:Nat}(I:k m=c)(K:c<255):(cnts k ms).set c ((cnts k ms).getD c 0+1)=cnts k (ms++[m]):=by
 refine x4j (n:=255) (by rw[List.length_set,x1p]) (x1p _ _) (fun j X=>?_);rw[x8V _ c j _ (by rw[x1p];exact K),x9n _ _ X,x9n _ _ X,x9n _ _ K,Od.x6M,List.length_append];by_cases h:j=c
 ·rw[if_pos h,h];simp[Od.ft,I]
 ·rw[if_neg h]
  have:Od.ft k j [m]=[]:=by
   unfold Od.ft;rw[List.filter_cons_of_neg P8P];rfl
  rw[this];simp
theorem z7J(k:Int->Int)(ms:List Int)(m:Int):mc k (ms++[m])=mc k ms++[.int .i32 m,.int .i64 (k m)]:=by simp[mc,List.flatMap_append]
theorem y4Q{w:World}{b e F n g o:Nat}{v:Value}{xs:List Value}(h:w.ownsRow b e F v n xs)(y:v.ownBlock≠some g)(u:Value):(w.setCell ⟨g,o,none⟩ u).ownsRow b e F v n xs:=by
 refine⟨h.1,?_⟩;rcases h.2 with D | ⟨j,M,P,t,E,N,R⟩
 ·exact Or.inl D
 ·refine Or.inr ⟨j,M,P,t,E,?_,R⟩;rw[heap_setCell_other w ⟨g,o,none⟩ j u (fun e=>y (by rw[t];exact congrArg some e))];exact N
theorem x7b(W:World)(g:Nat)(u:Value)(h:W.cell? ⟨g,0,none⟩=some u):(Instr.loadAt 289 (.pointer (some ⟨g,0,none⟩))).run prog W=.ok u W:=by
 simp[Instr.loadAt,go_sem,Tryz.isAgg289,Tryz.sizeOf289,h,Addr.add]
theorem y1e(k:Int->Int)(g:Nat)(ms:List Int)(m:Int)(L:Nat)(w:World)(h:x1B w k g ms)(hc:k m=(L:Int))(h1:1<=L)(h2:L<=254)(hn:ms.length<=3000000):Calls prog 210 #[.pointer (some ⟨g,0,none⟩),.agg #[.int .i32 m,.int .i64 (L:Int)]] w fun e w'=>e=.returned (.tuple #[])/\x1B w' k g (ms++[m])/\Below g w w':=by
 obtain⟨i0,z0,aM,aU,aV,aW,aX⟩:=q0o;obtain⟨J,E,hb,Q,be,bh⟩:=h.shape;have D:L<255:=f6J;obtain⟨U,ay⟩:∃U,w.heap.size=U:=⟨_,rfl⟩;obtain⟨N,T⟩:∃N,w.alloc (.cells #[.int .i32 m,.int .i64 (L:Int)] 295)=N:=⟨_,rfl⟩;have ba:=hb.lt;have af:N.drew.cell? ⟨U,0,none⟩=some (.int .i32 m):=g7s;have H:N.drew.cell? ⟨U,1,none⟩=some (.int .i64 (L:Int)):=g7s;have aq:Blk N.drew g 292 (.slice J ms.length E::ia (cnts k ms)):=(by rw[<- T];exact hb.alloc _);have B:N.drew.ownsRow (g+1) 295 2 (.slice J ms.length E) ms.length (mc k ms):=(by rw[<- T];exact(Q.alloc _).drew);have I:Below g w N.drew:=(by rw[<- T];exact((b0r).alloc f6J _).drew);have aS:N.drew.heap.size=U+1:=g7s;obtain⟨x,l⟩:∃x,N.drew.alloc (.cells #[.int .i32 m,.int .i64 (L:Int)] 295)=x:=⟨_,rfl⟩;obtain⟨gy,Z⟩:∃gy,N.drew.heap.size=gy:=⟨_,rfl⟩;have aT:x.heap.size=gy+1:=(by rw[<- l];simp[Z]);have n:(Instr.buildSlice 289 1 #[(0,.agg #[.int .i32 m,.int .i64 (L:Int)])]).run prog N.drew=.ok (.slice (some ⟨gy,0,none⟩) 1 1) x:=(by rw[<- l,<- Z];exact y6W _ _ _);have ae:x.cell? ⟨U,0,none⟩=some (.int .i32 m):=(by rw[<- l,World.cell?_alloc_lt _ _ _ (by show U<_;exact f6J)];exact af);have F:x.cell? ⟨U,1,none⟩=some (.int .i64 (L:Int)):=(by rw[<- l,World.cell?_alloc_lt _ _ _ (by show U<_;exact f6J)];exact H);have ar:Blk x g 292 (.slice J ms.length E::ia (cnts k ms)):=(by rw[<- l];exact aq.alloc _);have ab:x.ownsRow (g+1) 295 2 (.slice J ms.length E) ms.length (mc k ms):=(by rw[<- l];exact B.alloc _);have ai:Below g w x:=(by rw[<- l];exact I.alloc f6J _);have aF:g+1<=x.heap.size:=f6J;have aH:(Instr.loadAt 289 (.pointer (some ⟨g,0,none⟩))).run prog N.drew=.ok (.slice J ms.length E) N.drew:=x7b _ _ _ (aq.cell rfl);have Y:(Instr.loadAt 289 (.pointer (some ⟨g,0,none⟩))).run prog x=.ok (.slice J ms.length E) x:=x7b _ _ _ (ar.cell rfl)
 have A:∀u∈[Value.int .i32 m,.int .i64 (L:Int)],u.oneCell'=true:=fun u hu=>by
  rcases List.mem_cons.1 hu with rfl | hu
  ·rfl
  ·obtain rfl:=List.mem_singleton.1 hu;rfl
 have ag:=O ab
 have z:Hid (∀(j:Nat) (u:Value),[Value.int .i32 m,.int .i64 (L:Int)][j]?=some u->x.cell? ((⟨gy,0,none⟩:Addr).add j)=some u):=fun j u hu=>by
  rw[Addr.add_mid,Nat.zero_add,<- l,<- Z];exact(Blk.new N.drew 295 [Value.int .i32 m,.int .i64 (L:Int)] _ rfl).cell hu
 have aj:Hid (∀(W:World) s M,W.cell? ⟨U,0,none⟩=some (.int .i32 m)->W.cell? ⟨U,1,none⟩=some (.int .i64 (L:Int))->(W.setCell ⟨g,0,none⟩ (.slice (some ⟨s,0,none⟩) (ms.length+1) M)).cell? ⟨U,0,none⟩=some (.int .i32 m)/\(W.setCell ⟨g,0,none⟩ (.slice (some ⟨s,0,none⟩) (ms.length+1) M)).cell? ⟨U,1,none⟩=some (.int .i64 (L:Int))):=fun W s M a b=>by
  have y:∀i,(⟨g,0,none⟩:Addr)≠⟨U,i,none⟩:=fun i e=>E7z;rw[World.cell?_setCell_other _ _ _ _ (y 0),World.cell?_setCell_other _ _ _ _ (y 1)];exact⟨a,b⟩
 obtain⟨q,d⟩:∃q,(cnts k ms).getD L 0=q:=⟨_,rfl⟩
 have az:Hid (∀(W:World) (v:Value),W.cell? ⟨U,1,none⟩=some (.int .i64 (L:Int))->(W.setCell ⟨g,1+L,none⟩ v).cell? ⟨U,1,none⟩=some (.int .i64 (L:Int))):=fun W v a=>by
  rw[World.cell?_setCell_other _ _ _ _ (fun e=>E7z)];exact a
 have P:Hid (∀s M (R:World),R.ownsRow (g+1) 295 2 (.slice (some ⟨s,0,none⟩) (ms.length+1) M) (ms.length+1) (mc k ms++[.int .i32 m,.int .i64 (L:Int)])->x.grownBy R (Value.slice J ms.length E).ownBlock->((Value.slice J ms.length E).ownBlock=some s\/s=x.heap.size)->R.cell? ⟨U,0,none⟩=some (.int .i32 m)/\R.cell? ⟨U,1,none⟩=some (.int .i64 (L:Int))/\R.cell? ⟨g,0,none⟩=some (.slice J ms.length E)/\R.frozen? ⟨g,0,none⟩=false/\∃W9,(R.setCell ⟨g,0,none⟩ (.slice (some ⟨s,0,none⟩) (ms.length+1) M)).drew=W9/\W9.cell? ⟨U,1,none⟩=some (.int .i64 (L:Int))/\W9.cell? ⟨g,1+L,none⟩=some (.int .i64 q)/\W9.frozen? ⟨g,1+L,none⟩=false/\x1B (W9.setCell ⟨g,1+L,none⟩ (.int .i64 (q+1))) k g (ms++[m])/\Below g w (W9.setCell ⟨g,1+L,none⟩ (.int .i64 (q+1)))):=fun s M R aQ hg X=>by
  have r:∀j,(Value.slice J ms.length E).ownBlock=some j->g+1<=j/\j<U:=fun j hj=>by
   have:=Q.lt j hj;omega
  have aN:some g≠(Value.slice J ms.length E).ownBlock:=fun e=>(by have:=r g e.symm;exact f6J);have aG:some U≠(Value.slice J ms.length E).ownBlock:=fun e=>(by have:=r U e.symm;exact f6J);have aw:=ar.kept hg aN;have u0:=hg.cell ae aG;have u1:=hg.cell F aG
  have aZ:g+1<=s:=by
   rcases X with e | e
   ·exact(r s e).1
   ·omega
  have aJ:=aw.set 0 (.slice (some ⟨s,0,none⟩) (ms.length+1) M);have C:Blk (R.setCell ⟨g,0,none⟩ (.slice (some ⟨s,0,none⟩) (ms.length+1) M)).drew g 292 (.slice (some ⟨s,0,none⟩) (ms.length+1) M::ia (cnts k ms)):=aJ;have aC:Below g w R:=ai.grown hg f6J (fun j hj=>by have:=r j hj;exact f6J);have aD:Below g w (R.setCell ⟨g,0,none⟩ (.slice (some ⟨s,0,none⟩) (ms.length+1) M)).drew:=(aC.setCell (p:=⟨g,0,none⟩) (l0r _) _).drew;have aR:(R.setCell ⟨g,0,none⟩ (.slice (some ⟨s,0,none⟩) (ms.length+1) M)).drew.ownsRow (g+1) 295 2 (.slice (some ⟨s,0,none⟩) (ms.length+1) M) (ms.length+1) (mc k ms++[.int .i32 m,.int .i64 (L:Int)]):=y4Q aQ (fun e=>absurd (G5Y:s=g) f6J) _
  have aP:(Value.slice (some ⟨s,0,none⟩) (ms.length+1) M::ia (cnts k ms))[1+L]?=some (.int .i64 q):=by
   rw[Nat.add_comm 1 L,List.getElem?_cons_succ,y9t (by rw[x1p];exact D),d]
  refine⟨u0,u1,aw.cell rfl,aw.frozen 0,_,rfl,?_,C.cell aP,C.frozen _,⟨.slice (some ⟨s,0,none⟩) (ms.length+1) M,?_,?_⟩,aD.setCell (p:=⟨g,1+L,none⟩) (l0r _) _⟩
  ·exact(V aj R s M u0 u1).2
  ·have:=C.set (1+L) (.int .i64 (q+1));rw[Nat.add_comm 1 L,List.set_cons_succ,y9u,<- d,y8r k ms m hc D,d]at this;rw[Nat.add_comm 1 L];exact this
  ·rw[List.length_append,z7J,hc];exact y4Q aR (fun e=>absurd (G5Y:s=g) f6J) _
 have aY:(L:Int)<255:=f6J;have aO:0<=q/\q<=3000000:=(by rw[<- d];exact y4d k ms hn _ (by have:=x1p k ms;simp[List.getD,(f6J:L<(cnts k ms).length)]));obtain⟨bj,bm⟩:=aO;have bn:IntKind.i64.wrap (q+1)=q+1:=s7D;clear h hb Q aq B I aS l aT ar ab ai Z hc d D;go_enter func210,ntmps210;go_upto_region 1 with fail;refine wp_region_held_drew (S:=fun w'=>w'.cell? ⟨U,0,none⟩=some (.int .i32 m)/\w'.cell? ⟨U,1,none⟩=some (.int .i64 (L:Int))) f4y (⟨af,H⟩) (fun hHeld=>?_);generalize N.drew=Wd at *;refine tk9 0 (.pointer (some ⟨g,0,none⟩)) ?_;refine tk9 1 (.pointer (some ⟨g,0,none⟩)) ?_;refine tk9 2 (.pointer (some ⟨g,0,none⟩)) ?_;refine tk9 3 (.pointer (some ⟨g,0,none⟩)) ?_;refine tk9 5 (.agg #[.int .i32 m,.int .i64 (L:Int)]) ?_ (hy:=by(intro w hSw;obtain⟨s0,s1⟩:=hSw;go_simp));refine wpAnyH_ready (rs:=[4,6]) f4y M7O ?_;refine AllReadyH.cons (o:=⟨some 8,_,_,_,_,_⟩) rfl (fun K hK=>?pa) (AllReadyH.cons (o:=⟨some 10,_,_,_,_,_⟩) rfl (fun K hK=>?pb) AllReadyH.nil)
 case' pa =>
  refine x1P (by rfl) 289 (.tmp 7) (by rfl) _ _ (by rfl) aH ?_;refine hK.out _ _ (⟨af,H⟩) (fun hHeld=>?_);clear hK K
  try simp only[Act.put,sa9,sb9,sc9]
  refine rd9 6 fun K hK=>?_;refine x2k (by rfl) 289 (.tmp 9) (by rfl) _ _ (by rfl) n ?_;refine hK.out _ _ (⟨ae,F⟩) (fun hHeld=>?_);clear hK K
  try simp only[Act.put,sa9,sb9,sc9]
 case' pb =>
  refine x2k (by rfl) 289 (.tmp 9) (by rfl) _ _ (by rfl) n ?_;refine hK.out _ _ (⟨ae,F⟩) (fun hHeld=>?_);clear hK K
  try simp only[Act.put,sa9,sb9,sc9]
  refine rd9 4 fun K hK=>?_;refine x1P (by rfl) 289 (.tmp 7) (by rfl) _ _ (by rfl) Y ?_;refine hK.out _ _ (⟨ae,F⟩) (fun hHeld=>?_);clear hK K
  try simp only[Act.put,sa9,sb9,sc9]
 all_goals
  refine rd9 7 fun K hK=>?_;refine step_append_lies _ (by rfl) (.tmp 8) (.tmp 10) 289 (by rfl) (g+1) 295 i0 z0 2 16 underlying289 aM aU aV aW aX f6J (.slice J ms.length E) ms.length (mc k ms) (by rfl) (V ag) ⟨gy,0,none⟩ 1 1 [.int .i32 m,.int .i64 (L:Int)] (by rfl) (by rfl) (V z) A f6J T7X f6J aF x.heap.size rfl ?_;intro s M R c G X t;obtain⟨s0,s1,aK,aL,W9,am,y1,y2,fy,aA,aB⟩:=V P s M R c G X;refine hK.out _ _ ?_ (fun hHeld=>?_)
  ·exact⟨s0,s1⟩
  clear hK K
  try simp only[Act.put,sa9,sb9,sc9]
  refine tk9 8 (.pointer (some ⟨g,0,none⟩)) ?_;refine tk9 9 (.pointer (some ⟨g,0,none⟩)) ?_;refine rd9 10 fun K hK=>?_;go_simp;refine hK.out _ _ ?_ (fun hHeld=>?_)
  ·exact V aj _ _ _ s0 s1
  clear hK K;refine wpAnyH_done f4y ?_ _;have aI:=O aA;have f:=O aB;clear hHeld c G X t s0 s1 aK aL P ag z n aH Y A aF aA aB aj af H;go_upto_region 2 with fail;refine wp_region_held_drew (S:=fun w'=>w'.cell? ⟨U,1,none⟩=some (.int .i64 (L:Int))) f4y (by rw[am];exact y1) (fun hHeld=>?_);rw[am]at hHeld ⊢;clear am;refine tk9 0 (.pointer (some ⟨g,0,none⟩)) ?_;refine tk9 1 (.pointer (some ⟨U,1,none⟩)) ?_;refine tk9 2 (.int .i64 (L:Int)) ?_;refine tk9 3 (.pointer (some ⟨g,0,none⟩)) ?_;refine tk9 4 (.pointer (some ⟨g,1,none⟩)) ?_;refine tk9 5 (.pointer (some ⟨g,1+L,none⟩)) ?_;refine tk9 8 (.pointer (some ⟨g,0,none⟩)) ?_;refine tk9 9 (.pointer (some ⟨g,1,none⟩)) ?_;refine rd9 6 fun K hK=>?_;go_simp;refine hK.out _ _ ?_ (fun hHeld=>?_)
  ·exact y1
  clear hK K
  try simp only[Act.put,sa9,sb9,sc9]
  refine tk9 7 (.int .i64 (q+1)) ?_;refine tk9 10 (.pointer (some ⟨g,1+L,none⟩)) ?_;refine rd9 11 fun K hK=>?_;go_simp;refine hK.out _ _ ?_ (fun hHeld=>?_)
  ·exact V az _ _ y1
  clear hK K;refine wpAnyH_done f4y ?_ _;clear hHeld;go_wp2;go_end0;exact⟨rfl,V aI,V f⟩
end Od
