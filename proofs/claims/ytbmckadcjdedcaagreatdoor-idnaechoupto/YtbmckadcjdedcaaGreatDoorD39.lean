/- Oh12 Oi12 Op12 Oj12 Ok12 Ol12 -/
import Derived.Test.YtbmckadcjdedcaaGreatDoorD19
import Derived.Test.YtbmckadcjdedcaaGreatDoorD3
set_option maxHeartbeats 4000000
set_option maxRecDepth 8000
namespace Go.Proofs.YtbmckadcjdedcaaGreatDoor
open Go.Proofs.Tryz
open Go.RowKit
open Ti
section
variable{p:Prop}
theorem f3f(h:p:=by rw[List.getElem?_map,List.getElem?_eq_getElem hi];exact n7A):p:=h
theorem R4S(h:p:=by rw[<- z,<- az];exact M7O):p:=h
theorem n3i(h:p:=by intro e;have:l=s:=congrArg Addr.block e;exact f6J):p:=h
theorem t1V(h:p:=by simp[x3x,z255,D]):p:=h
theorem v1t(h:p:=by have:g=c:=congrArg Addr.block e;exact f6J):p:=h
theorem G5Z(h:p:=by simpa[Value.ownBlock]using e):p:=h
end
namespace Od
def Blk(w:World)(g:Nat)(t:TypeId)(vs:List Value):Prop:=w.heap[g]?=some (.cells vs.toArray t (0,0))
theorem Blk.lt{w:World}{g t:Nat}{l:List Value}(h:Blk w g t l):g<w.heap.size:=(Array.getElem?_eq_some_iff.1 h).1
theorem Blk.cell{w:World}{g t:Nat}{l:List Value}(h:Blk w g t l){i:Nat}{v:Value}(N:l[i]?=some v):w.cell? ⟨g,i,none⟩=some v:=by
 rw[cell_of_row _ _ _ _ _ _ h];simpa using N
theorem Blk.frozen{w:World}{g t:Nat}{l:List Value}(h:Blk w g t l)(i:Nat):w.frozen? ⟨g,i,none⟩=false:=frozen_of_row _ _ _ _ _ h
theorem Blk.set{w:World}{g t:Nat}{l:List Value}(h:Blk w g t l)(i:Nat)(v:Value):Blk (w.setCell ⟨g,i,none⟩ v) g t (l.set i v):=by
 unfold Blk at h ⊢;rw[heap_setCell_same w g i _ _ _ h];simp
theorem Blk.other{w:World}{g t:Nat}{l:List Value}(h:Blk w g t l){a:Addr}(F:g≠a.block)(v:Value):Blk (w.setCell a v) g t l:=by
 unfold Blk at h ⊢;exact r7O
theorem Blk.new(w:World)(t:Nat)(l:List Value)(C:Array Value)(N:C=l.toArray):Blk (w.alloc (.cells C t)) w.heap.size t l:=e4q
theorem Blk.alloc{w:World}{g t:Nat}{l:List Value}(h:Blk w g t l)(o:Obj):Blk (w.alloc o) g t l:=P1G
theorem Blk.below{w w':World}{g t n:Nat}{l:List Value}(h:Blk w g t l)(C:Below n w w')(E:g<n):Blk w' g t l:=by
 unfold Blk at h ⊢;rw[C.block g E];exact h
theorem Blk.range{w:World}{g t:Nat}{l:List Value}(h:Blk w g t l)(o:Nat):w.rangeAt g o (l.drop o):=fun j v N=>h.cell (by rw[List.getElem?_drop]at N;exact N)
theorem Blk.there{w:World}{g t:Nat}{l:List Value}(h:Blk w g t l){o n:Nat}(E:o+n<=l.length):w.there g o n:=fun j K=>by
 refine⟨?_,h.frozen _⟩;rw[h.cell (List.getElem?_eq_getElem (f6J:o+j<l.length))];rfl
theorem Blk.setCells{w:World}{g t:Nat}:∀(us:List Value) {l:List Value} (o:Nat),Blk w g t l->o+us.length<=l.length->Blk (w.setCells g o us) g t (l.take o++us++l.drop (o+us.length)):=by
 intro us
 induction us generalizing w with
 | nil=>intro l o h _;simpa[World.setCells]using h
 | cons u us ih =>
  intro l o h S;rw[World.setCells];have:=ih (o+1) (h.set o u) (by rw[List.length_set];simp at S;exact f6J)
  have e:(l.set o u).take (o+1)++us++(l.set o u).drop (o+1+us.length)=l.take o++(u::us)++l.drop (o+(u::us).length):=by
   simp only[List.length_cons]at S
   have D:(l.set o u).take (o+1)=l.take o++[u]:=by
    rw[List.take_add_one,List.take_set_of_le (l0r _),List.getElem?_set_self f6J];rfl
   rw[D,List.drop_set_of_lt f6J,List.length_cons,(f6J:o+1+us.length=o+(us.length+1))];simp
  rw[e]at this;exact this
def ia(zs:List Int):List Value:=zs.map (Value.int .i64)
def z255:List Int:=List.replicate 255 0
theorem y8b{zs:List Int}{i:Nat}(hi:i<zs.length):(ia zs)[i]?=some (.int .i64 (zs.getD i 0)):=by
 unfold ia;exact f3f
theorem y8c(zs:List Int)(i:Nat)(v:Int):(ia zs).set i (.int .i64 v)=ia (zs.set i v):=by unfold ia;rw[List.map_set]
theorem x3x(zs:List Int):(ia zs).length=zs.length:=List.length_map _
theorem z3j(zs:List Int):(ia zs).toArray.all (·.oneCell')=true:=all_oneCell_toArray (fun v N=>by obtain⟨z,_,rfl⟩:=List.mem_map.1 N;rfl)
theorem x3m:(prog.info? 226).map (·.size)=some 255:=f4x
end Od
open Ti
namespace Od
def beg(cs:List Int):List Int:=(List.range 255).map fun i=>(cs.take i).sum
theorem x4B(cs:List Int):(beg cs).length=255:=by simp[beg]
theorem z2Z(cs:List Int){i:Nat}(hi:i<255):(beg cs).getD i 0=(cs.take i).sum:=by simp[beg,List.getD,hi]
theorem z3A(cs:List Int)(h:∀c∈cs,0<=c/\c<=3000000):∀k:Nat,0<=(cs.take k).sum/\(cs.take k).sum<=3000000*(k:Int)
 | 0=>M7K
 | k+1=>by
  have B:=z3A cs h k;rw[List.take_add_one,List.sum_append]
  cases hk:cs[k]? with
  | none=>exact f4S
  | some c =>
   have:=h c (List.mem_of_getElem? hk);simp;omega
theorem y3Q{cs:List Int}{k:Nat}(G:k<cs.length):(cs.take (k+1)).sum=(cs.take k).sum+cs.getD k 0:=by
 rw[List.take_add_one,List.sum_append,List.getElem?_eq_getElem G];exact w7Y
theorem z6t:Tryz.zeroCells226=(ia z255).toArray:=f4x
theorem x4i{a b:List Int}{n:Nat}(L:a.length=n)(C:b.length=n)(h:∀j,j<n->a.getD j 0=b.getD j 0):a=b:=by
 apply List.ext_getElem f6J;intro i D Z;have:=h i f6J;simpa[List.getD,D,Z]using this
theorem y0K(g:Nat)(mv:Value)(cs:List Int)(w:World)(hr:Blk w g 228 (mv::ia cs))(hl:cs.length=255)(I:∀c∈cs,0<=c/\c<=3000000):Calls prog 249 #[.pointer (some ⟨g,0,none⟩)] w fun e w'=>e=.returned (.agg (ia (beg cs)).toArray)/\Bw w w':=by
 obtain⟨f,z⟩:∃f,w.alloc (.cells Tryz.zeroCells226 226)=f:=⟨_,rfl⟩;obtain⟨b,X⟩:∃b,f.alloc (.cells Tryz.zeroCells226 226)=b:=⟨_,rfl⟩;have E:Bw w f:=(by rw[<- z];exact(b0r).alloc (l0r _) _);have N:f.heap.size=w.heap.size+1:=(by rw[<- z];exact M7L);have F:Bw w b:=by rw[<- X];exact E.alloc f6J _
 have k1:Blk b w.heap.size 226 (ia z255):=by
  rw[<- X];refine Blk.alloc ?_ _;rw[<- z];exact Blk.new w _ _ _ z6t
 have r:Blk b (w.heap.size+1) 226 (ia z255):=(by rw[<- X,<- N];exact Blk.new f _ _ _ z6t);have o:=hr.lt;have HR:=O hr;have HC:=O I;have ar:Hid (∀k,0<=(cs.take k).sum/\(cs.take k).sum<=3000000*(k:Int)):=z3A cs I;have aw:Hid (∀k,k<255->(cs.take (k+1)).sum=(cs.take k).sum+cs.getD k 0):=fun k hk=>y3Q f6J;have am:Hid ((cs.take 0).sum=0):=(by grind);have L:Hid (∀zs:List Int,zs.length=255->(∀j,j<255->zs.getD j 0=(cs.take j).sum)->zs=beg cs):=fun zs h1 Z=>x4i h1 (x4B cs) (fun j K=>by rw[Z j K,z2Z cs K])
 have D:Hid (∀(W:World),Bw w W->∀k:Nat,k<255->W.cell? ⟨g,1+k,none⟩=some (.int .i64 (cs.getD k 0))):=fun W t k hk=>by
  rw[t.cell o];refine hr.cell ?_;rw[Nat.add_comm,List.getElem?_cons_succ];exact y8b f6J
 have aj:Hid (∀k:Nat,k<255->0<=cs.getD k 0/\cs.getD k 0<=3000000):=fun k hk=>I _ (by simp[List.getD,(f6J:k<cs.length)]);obtain⟨M,l⟩:∃M,M=w.heap.size+1:=⟨_,rfl⟩;obtain⟨U,m⟩:∃U,U=w.heap.size:=⟨_,rfl⟩;have az:U≠M:=f6J;have ae:w.heap.size<=U:=f6J;have G:w.heap.size<=M:=f6J;rw[<- m]at k1;rw[<- l]at r N;have K1:=O k1;have K2:=O r;have d:=O F;have aD:=m.symm;have Z0:Hid (z255.length=255):=(by show _=_;simp[z255]);clear hr I E F k1 r m l hl;go_enter func249,ntmps249;go_wp2;go_loopw[4,5,6] (fun nn _ Y wr=>∃(k:Nat) (zs:List Int),Y=.int .i64 k/\nn=.int .i64 (cs.take k).sum/\k<=255/\zs.length=255/\Blk wr M 226 (ia zs)/\Blk wr U 226 (ia z255)/\Bw w wr/\∀j,j<k->zs.getD j 0=(cs.take j).sum) (fun _ _ Y _=>255-(intOf Y).toNat)
 case atStart=>exact⟨0,z255,rfl,by rw[V am],f6J,V Z0,V K2,V K1,V d,fun j K=>f6J⟩
 case round =>
  obtain⟨k,zs,rfl,rfl,hk,ai,A,ag,C,S⟩:=hrel;have aJ:=V ar k;by_cases H:k<255
  ·have aC:=V aw k H;have aH:=V D wr C k H;obtain⟨q0,q1⟩:=V aj k H;have aG:=A.cell (y8b (zs:=zs) (i:=k) f6J);have aI:=A.frozen k;have B:Blk (wr.setCell ⟨M,k,none⟩ (.int .i64 (cs.take k).sum)) M 226 (ia (zs.set k (cs.take k).sum)):=(by rw[<- y8c];exact A.set k _);have y:=ag.other (a:=⟨M,k,none⟩) az (.int .i64 (cs.take k).sum);have F:=C.setCell (p:=⟨M,k,none⟩) G (.int .i64 (cs.take k).sum);have ab:(wr.setCell ⟨M,k,none⟩ (.int .i64 (cs.take k).sum)).cell? ⟨g,1+k,none⟩=some (.int .i64 (cs.getD k 0)):=V D _ F k H
   have Q:Hid (∀j,j<k+1->(zs.set k (cs.take k).sum).getD j 0=(cs.take j).sum):=by
    intro j K;rw[x6W zs k j _ f6J];split
    ·rename_i e;rw[e]
    ·exact S j f6J
   obtain⟨W5,aA⟩:∃W5,wr.setCell ⟨M,k,none⟩ (.int .i64 (cs.take k).sum)=W5:=⟨_,rfl⟩;rw[aA]at B y F ab;have ay:=O B;have J:=O y;have HB:=O F;have aq:=O aC;generalize hq:cs.getD k 0=q,hs:(cs.take k).sum=s at *;have n:(0:Int)<=(k:Int):=f6J;have aF:(k:Int)<255:=f6J;go_wp2
   go_roundw
   case rel=>exact⟨k+1,zs.set k s,g2A,by rw[V aq],f6J,by simp[ai],V ay,V J,V HB,V Q⟩
   case measure=>exact g7V
  ·obtain rfl:k=255:=f6J;have R:=V L zs ai S;subst R;go_upto_region 9 with fail;refine wp_region_list ?_;have T:=A.range 0;rw[List.drop_zero]at T;refine wpList_load_mid (by rfl) 226 (.tmp 3) (by rfl) M 0 (by rfl) (ia (beg cs)) _ T underlying226 (by rfl) (by rw[x3x,x4B];exact x3m) ?_;have u:wr.there U 0 (ia (beg cs)).toArray.size:=ag.there (by simp[x3x,x4B,z255]);refine wpList_store_mid (by rfl) 226 (.tmp 2) (.tmp 21) (by rfl) U 0 (ia (beg cs)).toArray (by rfl) (by rfl) u (by rw[show(ia (beg cs)).toArray.size=255 by simp[x3x,x4B]];exact x3m) (z3j _) ?_;have af:=World.rangeAt_setCells_same wr U 0 (ia (beg cs)) U3B;have x:Bw w (wr.setCells U 0 (ia (beg cs))):=x0E ae _ _ _ C;have aB:=run_loadVar_mid (P:=prog) _ U 0 226 (ia (beg cs)) _ af underlying226 (by rfl) (by rw[x3x,x4B];exact x3m);go_wp2;exact bodyPost_ret (v:=.agg (ia (beg cs)).toArray) (x2C rfl _ _ _ U _ (by rfl) aB) rfl ⟨rfl,x⟩
end Od
namespace Od
def fl(k:Int->Int)(j:Int)(l:List Int):List Int:=l.filter fun m=>decide (k m=0\/k m=j)
def bkN(k:Int->Int)(ms:List Int)(n:Nat):List Int:=(List.range n).flatMap fun(c:Nat)=>ms.filter fun m=>decide (k m=(c:Int))
def bkt(k:Int->Int)(ms:List Int):List Int:=bkN k ms 255
def ordA(k:Int->Int):List Int->List Int->List Int
 | ms,[]=>bkt k ms
 | ms,c::l=>if k c=0 then bkt k ms++c::ordA k [] l else ordA k (ms++[c]) l
def ord(k:Int->Int)(xs:List Int):List Int:=ordA k [] xs
def Mk(k:Int->Int)(ms:List Int):Prop:=∀m∈ms,1<=k m/\k m<=254
theorem y6B(k:Int->Int):bkt k []=[]:=by
 unfold bkt bkN;simp
theorem x8C(k:Int->Int)(ms:List Int)(n:Nat):bkN k ms (n+1)=bkN k ms n++ms.filter fun m=>decide (k m=(n:Int)):=by
 simp[bkN,List.range_succ,List.flatMap_append]
theorem z1p(p q r:Int->Bool)(h:∀m,r m=(p m||q m))(hd:∀m,¬(p m=true/\q m=true))(ms:List Int):(ms.filter r).length=(ms.filter p).length+(ms.filter q).length:=by
 induction ms with
 | nil=>rfl
 | cons m ms ih=>grind
theorem z4b(k:Int->Int)(ms:List Int)(h:∀m∈ms,0<=k m)(n:Nat):(bkN k ms n).length=(ms.filter fun m=>decide (k m<(n:Int))).length:=by
 induction n with
 | zero =>
  have:(ms.filter fun m=>decide (k m<((0:Nat):Int)))=[]:=f0h;rw[this];rfl
 | succ n ih =>
  rw[x8C,List.length_append,ih];refine(z1p _ _ _ (fun m=>?_) (fun m=>?_) ms).symm
  ·grind
  ·exact f4S
theorem x8D{k:Int->Int}{ms:List Int}(h:Mk k ms):(bkt k ms).length=ms.length:=by
 unfold bkt;rw[z4b k ms (fun m U=>by have:=h m U;exact f6J),List.filter_eq_self.2];intro m U;have:=h m U;exact f4S
theorem z4c{k:Int->Int}{ms:List Int}{n:Nat}{x:Int}(h:x∈bkN k ms n):x∈ms/\0<=k x/\k x<n:=by
 unfold bkN at h;rw[List.mem_flatMap]at h;obtain⟨c,I,J⟩:=h;rw[List.mem_range]at I;rw[List.mem_filter]at J;have:=o0d J.2;exact⟨J.1,f6J,f6J⟩
theorem z0N(k:Int->Int)(ms:List Int)(j:Int)(n:Nat):((bkN k ms n).filter fun m=>decide (k m=j))=if 0<=j/\j<n then ms.filter fun m=>decide (k m=j)else[]:=by
 induction n with
 | zero=>rw[if_neg f6J];rfl
 | succ n ih =>
  rw[x8C,List.filter_append,ih,List.filter_filter];by_cases h:j=(n:Int)
  ·grind
  ·have:(ms.filter fun a=>decide (k a=j)&&decide (k a=(n:Int)))=[]:=by
    rw[List.filter_eq_nil_iff];intro m _;exact f4S
   rw[this,List.append_nil];by_cases D:0<=j/\j<(n:Int)
   ·rw[if_pos D,if_pos f6J]
   ·rw[if_neg D,if_neg f6J]
theorem y3h{k:Int->Int}{ms:List Int}(h:Mk k ms)(j:Int):fl k j ms=if 1<=j/\j<=254 then ms.filter (fun m=>decide (k m=j))else[]:=by
 unfold fl;by_cases K:1<=j/\j<=254
 ·rw[if_pos K];refine List.filter_congr (fun m U=>?_);have:=h m U;exact f4S
 ·rw[if_neg K,List.filter_eq_nil_iff];intro m U;have:=h m U;exact f4S
theorem z6P{k:Int->Int}{ms:List Int}(h:Mk k ms):Mk k (bkt k ms):=fun m U=>h m (z4c U).1
theorem z3f{k:Int->Int}{ms:List Int}(h:Mk k ms)(j:Int):fl k j (bkt k ms)=fl k j ms:=by
 rw[y3h (z6P h),y3h h];by_cases K:1<=j/\j<=254
 ·rw[if_pos K,if_pos K];unfold bkt;rw[z0N,if_pos f6J]
 ·rw[if_neg K,if_neg K]
theorem y0k(k:Int->Int)(j:Int)(a b:List Int):fl k j (a++b)=fl k j a++fl k j b:=by unfold fl;exact List.filter_append ..
theorem y7J(k:Int->Int)(j c:Int)(l:List Int):fl k j (c::l)=if k c=0\/k c=j then c::fl k j l else fl k j l:=by
 unfold fl;rw[List.filter_cons];by_cases h:k c=0\/k c=j
 ·grind
 ·grind
theorem y2h{k:Int->Int}{ms:List Int}{c:Int}(h:Mk k ms)(D:1<=k c)(Z:k c<=254):Mk k (ms++[c]):=by
 intro m hm;rcases List.mem_append.1 hm with hm | hm
 ·exact h m hm
 ·grind
theorem y1T{k:Int->Int}(G:∀c,0<=k c/\k c<=254)(j:Int):∀(l ms:List Int),Mk k ms->fl k j (ordA k ms l)=fl k j (ms++l)
 | [],ms,h=>by rw[ordA,z3f h,List.append_nil]
 | c::l,ms,h=>by
  rw[ordA];by_cases I:k c=0
  ·rw[if_pos I,y0k,y0k,z3f h,y7J,y7J,y1T G j l [] (fun _ h=>m5j)];rfl
  ·rw[if_neg I,y1T G j l _ (y2h h (by have:=G c;exact f6J) (G c).2)];simp
theorem z7A{k:Int->Int}(G:∀c,0<=k c/\k c<=254)(j:Int)(xs:List Int):fl k j (ord k xs)=fl k j xs:=y1T G j xs [] (fun _ h=>m5j)
theorem x9q{k:Int->Int}(G:∀c,0<=k c/\k c<=254):∀(l ms:List Int),Mk k ms->(ordA k ms l).length=ms.length+l.length
 | [],ms,h=>by rw[ordA,x8D h];rfl
 | c::l,ms,h=>by
  rw[ordA];by_cases I:k c=0
  ·rw[if_pos I,List.length_append,x8D h,List.length_cons,x9q G l [] (fun _ h=>m5j)];simp
  ·rw[if_neg I,x9q G l _ (y2h h (by have:=G c;exact f6J) (G c).2)];exact f4S
theorem y9b{k:Int->Int}(G:∀c,0<=k c/\k c<=254)(xs:List Int):(ord k xs).length=xs.length:=by
 unfold ord;rw[x9q G xs [] (fun _ h=>m5j)];simp
theorem y9c{k:Int->Int}(G:∀c,0<=k c/\k c<=254){xs:List Int}{x:Int}(h:x∈ord k xs):x∈xs:=by
 have D:x∈fl k (k x) (ord k xs):=List.mem_filter.2 ⟨h,M7K⟩;rw[z7A G]at D;exact(List.mem_filter.1 D).1
end Od
namespace Od
theorem x4J(f:Nat->List Int)(n:Nat):(List.range (n+1)).flatMap f=(List.range n).flatMap f++f n:=by
 simp[List.range_succ,List.flatMap_append]
theorem z7B(f:Nat->List Int){c n:Nat}(h:c<n):((List.range c).flatMap f).length+(f c).length<=((List.range n).flatMap f).length:=by
 induction n with
 | zero=>omega
 | succ n ih =>
  rw[x4J,List.length_append];rcases Nat.lt_succ_iff_lt_or_eq.1 h with h | rfl
  ·have:=ih h;omega
  ·exact l0r _
theorem x5O{f g:Nat->List Int}{n:Nat}(h:∀i,i<n->f i=g i):(List.range n).flatMap f=(List.range n).flatMap g:=by
 induction n with
 | zero=>rfl
 | succ n ih=>rw[x4J,x4J,ih (fun i hi=>h i f6J),h n f6J]
theorem z7C(f g:Nat->List Int){c r n:Nat}(v:Int)(I:c<n)(hr:r<(f c).length)(Y:g c=(f c).set r v)(hd:∀i,i≠c->g i=f i):((List.range n).flatMap f).set (((List.range c).flatMap f).length+r) v=(List.range n).flatMap g:=by
 induction n with
 | zero=>omega
 | succ n ih =>
  rw[x4J,x4J];rcases Nat.lt_succ_iff_lt_or_eq.1 I with h | rfl
  ·have:=z7B f h;rw[List.set_append_left _ _ f6J,ih h,hd n f6J]
  ·rw[List.set_append_right _ _ f6J,(f6J:((List.range c).flatMap f).length+r-((List.range c).flatMap f).length=r),<- Y,x5O (fun i hi=>(hd i f6J).symm)]
def ft(k:Int->Int)(c:Nat)(l:List Int):List Int:=l.filter fun m=>decide (k m=(c:Int))
theorem z4d(k:Int->Int)(ms:List Int)(n:Nat):bkN k ms n=(List.range n).flatMap fun c=>ft k c ms:=rfl
theorem x6s(k:Int->Int)(c:Nat)(a b:List Int):ft k c (a++b)=ft k c a++ft k c b:=by unfold ft;exact List.filter_append ..
def y3Z(k:Int->Int)(ms:List Int)(j:Nat)(y:List Int):Prop:=∃J:Nat->List Int,y=(List.range 255).flatMap (fun c=>ft k c (ms.take j)++J c)/\∀c,c<255->(J c).length=(ft k c (ms.drop j)).length
theorem split(g:Nat->Nat):∀(n:Nat) (y:List Int) (_:y.length=((List.range n).map g).sum),∃J:Nat->List Int,y=(List.range n).flatMap J/\∀c,c<n->(J c).length=g c
 | 0,y,h=>⟨fun _=>[],S4r,fun c I=>f6J⟩
 | n+1,y,h=>by
  rw[List.range_succ,List.map_append,List.sum_append]at h;simp only[List.map_cons,List.map_nil,List.sum_cons,List.sum_nil,Nat.add_zero]at h;obtain⟨J,D,Z⟩:=split g n (y.take (y.length-g n)) U3s;refine⟨fun i=>if i=n then y.drop (y.length-g n)else J i,?_,fun c I=>?_⟩
  ·rw[x4J,if_pos rfl,x5O (g:=J) (fun i hi=>by rw[if_neg f6J]),<- D,List.take_append_drop]
  ·by_cases E:c=n
   ·subst E;simp only[if_true,List.length_drop];omega
   ·simp only[if_neg E];exact Z c f6J
theorem y7L(f:Nat->List Int)(n:Nat):((List.range n).flatMap f).length=((List.range n).map fun c=>(f c).length).sum:=f0h
theorem y1K{k:Int->Int}{ms y:List Int}(h:Mk k ms)(hy:y.length=ms.length):y3Z k ms 0 y:=by
 obtain⟨J,D,Z⟩:=split (fun c=>(ft k c ms).length) 255 y (by rw[hy,<- x8D h];unfold bkt;rw[z4d,y7L]);refine⟨J,?_,fun c I=>?_⟩
 ·rw[D];exact x5O (fun i _=>by simp[ft])
 ·rw[List.drop_zero];exact Z c I
theorem y7d{k:Int->Int}{ms y:List Int}(h:y3Z k ms ms.length y):y=bkt k ms:=by
 obtain⟨J,D,Z⟩:=h;rw[D];unfold bkt;rw[z4d];refine x5O (fun i hi=>?_);have:=Z i hi;rw[List.drop_length]at this;rw[List.take_length,List.eq_nil_of_length_eq_zero (l:=J i) (by rw[this];rfl),List.append_nil]
def plc(k:Int->Int)(ms:List Int)(j c:Nat):Nat:=(bkN k ms c).length+(ft k c (ms.take j)).length
theorem z1t(k:Int->Int)(c:Nat)(ms:List Int)(j:Nat):(ft k c (ms.take j)).length+(ft k c (ms.drop j)).length=(ft k c ms).length:=by
 rw[<- List.length_append,<- x6s,List.take_append_drop]
theorem y1W{k:Int->Int}(c:Nat){ms:List Int}{j:Nat}(K:j<ms.length):ft k c (ms.take (j+1))=ft k c (ms.take j)++if k (ms.getD j 0)=c then[ms.getD j 0]else[]:=by
 rw[List.take_add_one,x6s,List.getElem?_eq_getElem K];have:ms.getD j 0=ms[j]:=E3h;rw[this];unfold ft;by_cases h:k ms[j]=(c:Int)<;>simp[h]
theorem y7M{k:Int->Int}(c:Nat){ms:List Int}{j:Nat}(K:j<ms.length):ft k c (ms.drop j)=(if k (ms.getD j 0)=c then[ms.getD j 0]else[])++ft k c (ms.drop (j+1)):=by
 have:ms.getD j 0=ms[j]:=E3h;rw[List.drop_eq_getElem_cons K,this];unfold ft;rw[List.filter_cons];by_cases h:k ms[j]=(c:Int)
 ·grind
 ·grind
theorem y4D{k:Int->Int}{ms y:List Int}{j c:Nat}(h:y3Z k ms j y)(K:j<ms.length)(I:k (ms.getD j 0)=c)(B:c<255):plc k ms j c<y.length/\y3Z k ms (j+1) (y.set (plc k ms j c) (ms.getD j 0)):=by
 obtain⟨J,D,Z⟩:=h;have o:=Z c B;rw[y7M c K,if_pos I,List.length_append,List.length_singleton]at o
 have C:(bkN k ms c).length=((List.range c).flatMap fun c=>ft k c (ms.take j)++J c).length:=by
  rw[z4d,y7L,y7L];congr 1;refine List.map_congr_left (fun i hi=>?_);rw[List.mem_range]at hi;rw[List.length_append,Z i f6J,z1t]
 have A:=z7B (fun c=>ft k c (ms.take j)++J c) B;simp only[List.length_append]at A;unfold plc;rw[D,C];refine⟨f6J,fun i=>if i=c then(J c).drop 1 else J i,?_,fun i hi=>?_⟩
 ·refine z7C _ _ _ B u7B ?_ (fun i hi=>?_)
  ·simp only[if_true];rw[y1W c K,if_pos I,List.set_append_right _ _ (l0r _),Nat.sub_self]
   cases hq:J c with
   | nil=>grind
   | cons x l=>simp
  ·simp only[if_neg hi];rw[y1W i K,if_neg (fun e=>hi f6J),List.append_nil]
 ·by_cases E:i=c
  ·grind
  ·simp only[if_neg E];rw[Z i hi,y7M i K,if_neg (fun e=>E f6J),List.nil_append]
theorem z2m{k:Int->Int}{ms:List Int}{j:Nat}(c:Nat)(K:j<ms.length):plc k ms (j+1) c=if k (ms.getD j 0)=c then plc k ms j c+1 else plc k ms j c:=by
 unfold plc;rw[y1W c K];by_cases h:k (ms.getD j 0)=c
 ·grind
 ·grind
theorem z2n(k:Int->Int)(ms:List Int)(c:Nat):plc k ms 0 c=(bkN k ms c).length:=by simp[plc,ft]
theorem z0O(k:Int->Int)(ms:List Int)(c:Nat):(bkN k ms (c+1)).length=(bkN k ms c).length+(ft k c ms).length:=by rw[x8C,List.length_append];rfl
end Od
open Ti
namespace Od
def ir(zs:List Int):List Value:=zs.map (Value.int .i32)
theorem x3z(zs:List Int):(ir zs).length=zs.length:=List.length_map _
theorem ir_at{zs:List Int}{i:Nat}(hi:i<zs.length):(ir zs)[i]?=some (.int .i32 (zs.getD i 0)):=by
 unfold ir;exact f3f
def mc(k:Int->Int)(ms:List Int):List Value:=ms.flatMap fun m=>[.int .i32 m,.int .i64 (k m)]
theorem z7W(k:Int->Int)(ms:List Int):(mc k ms).length=ms.length*2:=by
 induction ms with
 | nil=>rfl
 | cons m ms ih=>simp only[mc,List.flatMap_cons,List.length_append,List.length_cons,List.length_nil]at ih ⊢;omega
theorem z7V{k:Int->Int}:∀{ms:List Int} {i:Nat},i<ms.length->(mc k ms)[i*2]?=some (.int .i32 (ms.getD i 0))/\(mc k ms)[i*2+1]?=some (.int .i64 (k (ms.getD i 0)))
 | [],i,h=>by simp at h
 | m::ms,0,_=>⟨rfl,rfl⟩
 | m::ms,i+1,h=>by
  have:=z7V (k:=k) (ms:=ms) (i:=i) S4r;simp only[mc,List.flatMap_cons,(f6J:(i+1)*2=i*2+1+1)]at this ⊢;exact W2K
theorem y3m{w wr:World}{row:Option Nat}(h:w.grownBy wr row)(o:Obj):w.grownBy (wr.alloc o) row:=⟨h.os,h.tape,h.output,by have:=h.size;exact P8P,fun k G E=>by rw[Below.heap_alloc wr o k (by have:=h.size;exact f6J)];exact g5F⟩
theorem y7S{w wr:World}{row:Option Nat}(h:w.grownBy wr row)(p:Addr)(v:Value)(A:some p.block=row\/w.heap.size<=p.block):w.grownBy (wr.setCell p v) row:=by
 have b:=(Below.refl 0 wr).setCell (p:=p) (Nat.zero_le _) v;refine⟨b.os.trans h.os,b.tape.trans h.tape,b.output.trans h.output,Nat.le_trans h.size b.size,fun k G E=>?_⟩;rw[heap_setCell_other wr p k v ?_]
 ·exact g5F
 ·grind
theorem z1v{w wr w':World}{row:Option Nat}{B:Nat}(h:w.grownBy wr row)(C:Below B wr w')(l:w.heap.size<=B):w.grownBy w' row:=⟨C.os.trans h.os,C.tape.trans h.tape,C.output.trans h.output,by have:=h.size;have:=C.size;exact f6J,fun k G E=>by rw[C.block k f6J];exact g5F⟩
theorem Blk.kept{w w':World}{g t:Nat}{l:List Value}{row:Option Nat}(h:Blk w g t l)(Y:w.grownBy w' row)(F:some g≠row):Blk w' g t l:=(Y.block g h.lt F).trans h
def cnts(k:Int->Int)(ms:List Int):List Int:=(List.range 255).map fun c=>((Od.ft k c ms).length:Int)
theorem x1s(k:Int->Int)(ms:List Int):(cnts k ms).length=255:=by simp[cnts]
theorem x8F(k:Int->Int)(ms:List Int){c:Nat}(I:c<255):(cnts k ms).getD c 0=((Od.ft k c ms).length:Int):=by simp[cnts,List.getD,I]
theorem y3b(k:Int->Int)(ms:List Int):∀c:Nat,c<=255->((cnts k ms).take c).sum=((Od.bkN k ms c).length:Int)
 | 0,_=>by simp[Od.bkN]
 | c+1,h=>by
  rw[y3Q (by rw[x1s];exact f6J),y3b k ms c f6J,x8F k ms f6J,Od.z0O];simp
theorem z4a(k:Int->Int)(ms:List Int){c:Nat}(I:c<255):(beg (cnts k ms)).getD c 0=(Od.plc k ms 0 c:Int):=by
 rw[z2Z _ I,y3b k ms c f6J,Od.z2n]
theorem y2Z(k:Int->Int)(ms:List Int)(h:ms.length<=3000000):∀c∈cnts k ms,0<=c/\c<=3000000:=fun c I=>by
 obtain⟨i,_,rfl⟩:=List.mem_map.1 I;have:(Od.ft k i ms).length<=ms.length:=List.length_filter_le _ _;omega
theorem z8R{A B C:List Value}{o i:Nat}(X:A.length=o)(hi:i<B.length):(A++B++C)[o+i]?=B[i]?:=by grind
theorem z6d{A B C:List Value}{o i:Nat}(v:Value)(X:A.length=o)(hi:i<B.length):(A++B++C).set (o+i) v=A++B.set i v++C:=by grind
theorem x4D{g g2 t:Nat}{us:List Value}(h:g≠g2):∀(l:List Value) (o:Nat) (wr:World) (_:Blk wr g t us),Blk (wr.setCells g2 o l) g t us
 | [],_,_,b=>b
 | v::l,o,_,b=>x4D h l (o+1) _ (b.other (a:=⟨g2,o,none⟩) h v)
theorem x5e{P:Program}{A:Array Oper}{rest:List Oper}{B:Oper}{a:Act}{w w':World}{Q:Exit->Act->World->Prop}(C:B.guard=none)(N:TypeId)(x y:Operand)(E:B.op=.store N x y)(b o:Nat)(cells:Array Value)(J:a.eval x=.pointer (some ⟨b,o,none⟩))(hy:a.eval y=.agg cells)(K:w.there b o cells.size)(hi:(P.info? N).map (·.size)=some cells.size)(D:cells.all (·.oneCell')=true)(t:w.setCells b o cells.toList=w')(h:wpList P A Q rest (a.put B.dst undef) w'):wpList P A Q (B::rest) a w:=by
 subst t;exact wpList_store_mid C N x y E b o cells J hy K hi D h
theorem x6t{w:World}{row:Option Nat}(g:Nat)(A:some g=row\/w.heap.size<=g):∀(l:List Value) (o:Nat) (wr:World) (_:w.grownBy wr row),w.grownBy (wr.setCells g o l) row
 | [],_,_,h=>h
 | v::l,o,_,h=>x6t g A l (o+1) _ (y7S h ⟨g,o,none⟩ v A)
theorem y4C(k:Int->Int)(g d R l P u:Nat)(ms ys:List Int)(J A C:List Value)(w:World)(hr:Blk w g 228 (.slice (some ⟨d,0,none⟩) ms.length R::ia (cnts k ms)))(U:Blk w d 231 (mc k ms++J))(aN:ms.length<=R/\R<=9223372036854775807)(hy:Blk w l 21 (A++ir ys++C))(hA:A.length=P)(n:ys.length=ms.length)(aU:ms.length<=u/\u<=9223372036854775807)(hk:Od.Mk k ms)(hn:ms.length<=3000000)(aL:g≠l)(aO:d≠l):Calls prog 195 #[.pointer (some ⟨g,0,none⟩),.slice (some ⟨l,P,none⟩) ms.length u] w fun e w'=>e=.returned (.tuple #[])/\Blk w' l 21 (A++ir (Od.bkt k ms)++C)/\w.grownBy w' (some l):=by
 have K1:=O (y0K g _ (cnts k ms) w hr (x1s k ms) (y2Z k ms hn));obtain⟨bp,bt⟩:=aN;obtain⟨bw,bA⟩:=aU;have HY:=O hy
 have HM:Hid (∀(W:World),w.grownBy W (some l)->∀i:Nat,i<ms.length->W.cell? ⟨d,i*2,none⟩=some (.int .i32 (ms.getD i 0))/\W.cell? ⟨d,i*2+1,none⟩=some (.int .i64 (k (ms.getD i 0)))):=fun W hW i hi=>by
  have h:=U.kept hW (fun e=>aO (by simpa using e));have Z:=z7V (k:=k) hi;have hl:=z7W k ms;exact⟨h.cell (by rw[List.getElem?_append_left f6J];exact Z.1),h.cell (by rw[List.getElem?_append_left f6J];exact Z.2)⟩
 have aT:=hy.lt;have r:w.cell? ⟨g,0,none⟩=some (.slice (some ⟨d,0,none⟩) ms.length R):=hr.cell rfl;have ar:Hid (∀(W:World),w.grownBy W (some l)->W.cell? ⟨g,0,none⟩=some (.slice (some ⟨d,0,none⟩) ms.length R)):=fun W hW=>(hr.kept hW (fun e=>aL (by simpa using e))).cell rfl;have aD:=O (Od.y1K hk n);have v:=O hk;have x:=O (x4B (cnts k ms));have o:Hid (∀c,c<255->(beg (cnts k ms)).getD c 0=(Od.plc k ms 0 c:Int)):=fun c I=>z4a k ms I;generalize beg (cnts k ms)=F at *;go_enter func195,ntmps195;go_wp2_with fail;refine c0m K1 fun Q b1=>?_;have bu:=b1.size;obtain⟨b,X⟩:∃b,Q.alloc (.cells Tryz.zeroCells226 226)=b:=⟨_,rfl⟩;have k2:Blk b Q.heap.size 226 (ia z255):=(by rw[<- X];exact Blk.new Q _ _ _ z6t);have g2:w.grownBy b (some l):=(by rw[<- X];exact y3m (z1v (World.grownBy.refl w _) b1 (l0r _)) _);obtain⟨Y,aK⟩:∃Y,Q.heap.size=Y:=⟨_,rfl⟩;rw[aK]at k2;have E:w.heap.size<=Y:=f6J;have D:=V x;have aS:b.there Y 0 (ia F).toArray.size:=k2.there t1V;have aR:(ia F).toArray.size=255:=(by simp[x3x,D]);obtain⟨q,T⟩:∃q,b.setCells Y 0 (ia F).toArray.toList=q:=⟨_,rfl⟩
 have k3:Blk q Y 226 (ia F):=by
  have:=k2.setCells (ia F) 0 t1V;rw[<- T];rw[List.take_zero,List.nil_append,List.drop_of_length_le t1V,List.append_nil]at this;exact this
 have g3:w.grownBy q (some l):=by rw[<- T];exact x6t Y (Or.inr E) _ _ _ g2
 have y3:Blk q l 21 (A++ir ys++C):=by
  have h1:Q.heap[l]?=w.heap[l]?:=b1.block l aT;have Z:Blk Q l 21 (A++ir ys++C):=h1.trans (V HY);have h3:Blk b l 21 (A++ir ys++C):=(by rw[<- X];exact Z.alloc _);rw[<- T];exact x4D f6J _ _ _ h3
 have r:=V ar q g3;have K3:=O k3;have G3:=O g3;have Y3:=O y3;go_wp2_with(refine x5e (by rfl) 226 (.tmp 4) (.tmp 8) (by rfl) Y 0 (ia F).toArray (by rfl) (by rfl) aS (by rw[aR];exact x3m) (z3j _) T ?_);go_loopw[6,14] (fun _ kk wr=>∃(i:Nat) (y L:List Int),kk=.int .i64 i/\i<=ms.length/\Od.y3Z k ms i y/\y.length=ms.length/\Blk wr l 21 (A++ir y++C)/\L.length=255/\(∀c,c<255->L.getD c 0=(Od.plc k ms i c:Int))/\Blk wr Y 226 (ia L)/\w.grownBy wr (some l)) (fun _ kk _=>ms.length-(intOf kk).toNat)
 case atStart=>exact⟨0,ys,F,rfl,f6J,V aD,n,V Y3,V x,V o,V K3,V G3⟩
 case round =>
  obtain⟨i,y,L,rfl,bn,ae,aj,S,aP,ai,ag,M⟩:=hrel;by_cases H:i<ms.length
  ·obtain⟨c0,c1⟩:=V HM wr M i H;have bm:=V v (ms.getD i 0) N3J;obtain⟨c,I⟩:∃c:Nat,k (ms.getD i 0)=(c:Int):=⟨(k (ms.getD i 0)).toNat,f6J⟩;have B:c<255:=f6J;obtain⟨p1,p2⟩:=Od.y4D ae H I B;have aQ:=fun t=>Od.z2m (k:=k) t H;have K:=ai c B;obtain⟨p,hp⟩:∃p,Od.plc k ms i c=p:=⟨_,rfl⟩;rw[hp]at K p1 p2;rw[I]at c1;obtain⟨m,U⟩:∃m,ms.getD i 0=m:=⟨_,rfl⟩;rw[U]at c0 p2 I;obtain⟨s,af⟩:∃s,wr.heap.size=s:=⟨_,rfl⟩;have ba:=M.size;have bh:=ag.lt;obtain⟨f,z⟩:∃f,wr.alloc (.cells #[.int .i32 m,.int .i64 c] 231)=f:=⟨_,rfl⟩;have x0:f.cell? ⟨s,0,none⟩=some (.int .i32 m):=(by rw[<- z,<- af];exact M7L);have x1:f.cell? ⟨s,1,none⟩=some (.int .i64 c):=(by rw[<- z,<- af];exact M7L);have am:Blk f Y 226 (ia L):=(by rw[<- z];exact ag.alloc _);have ab:Blk f l 21 (A++ir y++C):=(by rw[<- z];exact S.alloc _);have aI:w.grownBy f (some l):=(by rw[<- z];exact y3m M _);have x2:f.cell? ⟨Y,c,none⟩=some (.int .i64 p):=(by rw[am.cell (y8b f6J),K]);have x3:f.cell? ⟨l,P+p,none⟩=some (.int .i32 (y.getD p 0)):=ab.cell (by rw[z8R hA (by rw[x3z];exact f6J)];exact ir_at f6J);have f3:=ab.frozen (P+p);obtain⟨b,X⟩:∃b,f.setCell ⟨l,P+p,none⟩ (.int .i32 m)=b:=⟨_,rfl⟩
   have aW:Blk b l 21 (A++ir (y.set p m)++C):=by
    have:=ab.set (P+p) (.int .i32 m);rw[z6d _ hA (by rw[x3z];exact f6J),X]at this;have e:(ir y).set p (.int .i32 m)=ir (y.set p m):=(by unfold ir;rw[List.map_set]);rw[e]at this;exact this
   have G:Blk b Y 226 (ia L):=(by rw[<- X];exact am.other (a:=⟨l,P+p,none⟩) (by show Y≠l;exact f6J) _);have aJ:w.grownBy b (some l):=(by rw[<- X];exact y7S aI ⟨l,P+p,none⟩ _ (Or.inl rfl));have z0:b.cell? ⟨s,0,none⟩=some (.int .i32 m):=(by rw[<- X,World.cell?_setCell_other _ _ _ _ n3i];exact x0);have z1:b.cell? ⟨s,1,none⟩=some (.int .i64 c):=(by rw[<- X,World.cell?_setCell_other _ _ _ _ n3i];exact x1);have z2:b.cell? ⟨Y,c,none⟩=some (.int .i64 p):=(by rw[G.cell (y8b f6J),K]);have f4:=G.frozen c;have hd:Hid (Od.y3Z k ms (i+1) (y.set p m)):=p2;have aY:(p:Int)+1<=3000001:=f6J;have be:(p:Int)<ms.length:=f6J;have aZ:(c:Int)<255:=f6J;have aG:=O G;have aH:=O aW;have aq:=O aJ;have aB:=O ai;have aC:=O aQ;have bj:=O K;have aA:=O hp;have aw:=O I;have az:=O U;have aM:(y.set p m).length=ms.length:=(by rw[List.length_set];exact aj);go_upto_region 4 with fail;go_region_held3(fun w'=>w'.cell? ⟨s,0,none⟩=some (.int .i32 m)/\w'.cell? ⟨s,1,none⟩=some (.int .i64 c)/\w'.cell? ⟨Y,c,none⟩=some (.int .i64 p)) (first| exact⟨x0,x1,x2⟩ | exact⟨z0,z1,z2⟩ | go_keep) (fail);go_wp2
   go_roundw
   case rel =>
    have aV:Blk (b.setCell ⟨Y,c,none⟩ (.int .i64 ((p:Int)+1))) Y 226 (ia (L.set c ((p:Int)+1))):=(by rw[<- y8c];exact(V aG).set c _);have aX:Blk (b.setCell ⟨Y,c,none⟩ (.int .i64 ((p:Int)+1))) l 21 (A++ir (y.set p m)++C):=(V aH).other (a:=⟨Y,c,none⟩) (by show l≠Y;exact f6J) _;have N:w.grownBy (b.setCell ⟨Y,c,none⟩ (.int .i64 ((p:Int)+1))) (some l):=y7S (V aq) ⟨Y,c,none⟩ _ (Or.inr E);refine⟨i+1,y.set p m,L.set c ((p:Int)+1),g2A,f6J,V hd,aM,aX,by rw[List.length_set];exact aP,fun t j=>?_,aV,⟨N.os,N.tape,N.output,N.size,N.block⟩⟩;rw[x6W L c t _ f6J,V aC t,V az,V aw];by_cases h:t=c
    ·rw[if_pos h,if_pos (by rw[h]),h,V aA];rfl
    ·rw[if_neg h,if_neg (fun e=>h f6J)];exact V aB t j
   case measure=>exact g7V
  ·obtain rfl:i=ms.length:=f6J;have he:=Od.y7d ae;subst he;have aF:=O S;have ay:=O M;go_wp2;go_end0;exact⟨rfl,V aF,V ay⟩
end Od
open Ti
namespace Od
theorem x8l{P:Program}{w:World}(t e:TypeId)(N:TypeId)(b o n cap:Nat)(z:Value)(W:P.underlying t=some (.slice e))(A:∀w,(zeroValue e).run P w=.ok z w)(E:0<n)(us:List Value)(d:(Builtin.zeroCells z.cells n).toList=us)(u:w.there b o us.length)(D:∀v∈us,v.oneCell'=true):(Builtin.clear_ #[t] N #[.slice (some ⟨b,o,none⟩) n cap]).run P w=.ok (.tuple #[]) (w.setCells b o us):=by
 have X:(storeCells ⟨b,o,none⟩ us 0).run P w=.ok () (w.setCells b o us):=by
  have:=run_storeCells_cells (P:=P) b o us 0 w (fun j K=>by simpa using(u j K).1) (fun j K=>by simpa using(u j K).2) D;exact W2K
 obtain⟨m,rfl⟩:∃m,n=m+1:=⟨n-1,f6J⟩;unfold Builtin.clear_;simp[Sem.run_bind,run_underlying W,A,d,X]
def x1E(w:World)(k:Int->Int)(g:Nat)(ms:List Int):Prop:=∃mv,Blk w g 228 (mv::ia (cnts k ms))/\w.ownsRow (g+1) 231 2 mv ms.length (mc k ms)
theorem x1E.shape{w:World}{k:Int->Int}{g:Nat}{ms:List Int}(h:x1E w k g ms):∃ao cap,Blk w g 228 (.slice ao ms.length cap::ia (cnts k ms))/\w.ownsRow (g+1) 231 2 (.slice ao ms.length cap) ms.length (mc k ms)/\ms.length<=cap/\cap<=9223372036854775807:=by
 obtain⟨K,D,Z⟩:=h;rcases Z.2 with⟨rfl,T⟩ | ⟨d,cap,P,rfl,_,_,I,U,_⟩
 ·grind
 ·exact⟨_,cap,D,Z,I,by unfold maxLen at U;exact f6J⟩
theorem x7W(k:Int->Int)(g:Nat)(v:Value)(w:World)(h:x1E w k g []):Calls prog 150 #[.pointer (some ⟨g,0,none⟩),v] w fun e w'=>e=.returned (.tuple #[])/\w'=w:=by
 obtain⟨s,M,D,_,_,I⟩:=h.shape;have r:w.cell? ⟨g,0,none⟩=some (.slice s 0 M):=D.cell rfl;go_enter func150,ntmps150;go_wp2;exact bodyPost_ret (v:=.tuple #[]) (results_none rfl _ _ _) rfl ⟨rfl,rfl⟩
theorem z6v(w:World):(zeroValue 3).run prog w=.ok (.int .i64 0) w:=(zero_of_info (n:=1) f4x).1 w
theorem z2S(w:World):(zeroValue 231).run prog w=.ok (.agg #[.int .i32 0,.int .i64 0]) w:=(zero_of_info (n:=2) f4x).1 w
theorem z6u:(Builtin.zeroCells (Value.int .i64 0).cells 255).toList=ia z255:=f4x
theorem y3Y(n:Nat):(Builtin.zeroCells (Value.agg #[.int .i32 0,.int .i64 0]).cells n).toList.length=n*2/\∀v∈(Builtin.zeroCells (Value.agg #[.int .i32 0,.int .i64 0]).cells n).toList,v.oneCell'=true:=by
 unfold Builtin.zeroCells;refine⟨by simp[Value.cells],fun v N=>?_⟩;simp only[Value.cells,Array.toList_map,List.mem_map]at N;obtain⟨i,_,rfl⟩:=N;have:i%#[Value.int .i32 0,.int .i64 0].size=0\/i%#[Value.int .i32 0,.int .i64 0].size=1:=(by grind);rcases this with h | h<;>rw[h]<;>rfl
theorem y3a(k:Int->Int):cnts k []=z255:=by
 refine List.eq_replicate_iff.2 ⟨x1s k [],fun b C=>?_⟩;obtain⟨i,_,rfl⟩:=List.mem_map.1 C;rfl
theorem y5c(k:Int->Int)(g l o u:Nat)(ms ys:List Int)(A C:List Value)(w:World)(h:x1E w k g ms)(hy:Blk w l 21 (A++ir ys++C))(hA:A.length=o)(n:ys.length=ms.length)(K:o+ms.length<=u/\u<=9223372036854775807)(hk:Od.Mk k ms)(hn:ms.length<=3000000)(ho:o<=3000000)(aw:0<ms.length)(J:l<g):Calls prog 150 #[.pointer (some ⟨g,0,none⟩),.slice (some ⟨l,0,none⟩) (o+ms.length) u] w fun e w'=>e=.returned (.tuple #[])/\Blk w' l 21 (A++ir (Od.bkt k ms)++C)/\x1E w' k g []/\Below l w w':=by
 obtain⟨mv,D,Z⟩:=h;obtain⟨az,Z⟩:=Z;rcases Z with⟨_,h0⟩ | ⟨d,R,P,rfl,S,I,F,M,s,aq⟩
 ·omega
 have U:Blk w d 231 (mc k ms++P.toList.drop (ms.length*2)):=by
  rw[<- aq,List.take_append_drop];unfold Blk;rw[I]
 have ar:R<=9223372036854775807:=(by unfold maxLen at M;exact f6J);obtain⟨aA,aB⟩:=K;have i:=O (y4C k g d R l o (u-o) ms ys _ A C w D U ⟨F,ar⟩ hy hA n ⟨f6J,f6J⟩ hk hn f6J f6J);have r:w.cell? ⟨g,0,none⟩=some (.slice (some ⟨d,0,none⟩) ms.length R):=D.cell rfl
 have c:Hid (∀W:World,Blk W l 21 (A++ir (Od.bkt k ms)++C)->w.grownBy W (some l)->∃b q x,W.setCells g 1 (ia z255)=b/\b.setCells d 0 (Builtin.zeroCells (Value.agg #[.int .i32 0,.int .i64 0]).cells ms.length).toList=q/\q.setCell ⟨g,0,none⟩ (.slice (some ⟨d,0,none⟩) 0 R)=x/\W.there g 1 (ia z255).length/\b.there d 0 (Builtin.zeroCells (Value.agg #[.int .i32 0,.int .i64 0]).cells ms.length).toList.length/\W.cell? ⟨g,0,none⟩=some (.slice (some ⟨d,0,none⟩) ms.length R)/\b.cell? ⟨g,0,none⟩=some (.slice (some ⟨d,0,none⟩) ms.length R)/\q.cell? ⟨g,0,none⟩=some (.slice (some ⟨d,0,none⟩) ms.length R)/\q.frozen? ⟨g,0,none⟩=false/\Blk x l 21 (A++ir (Od.bkt k ms)++C)/\x1E x k g []/\Below l w x):=fun W hW Y=>by
  have r0:=D.kept Y (fun e=>Nat.ne_of_gt J N5i);have m0:=U.kept Y (fun e=>absurd (N5i:d=l) f6J);have ab:1+(ia z255).length<=(Value.slice (some ⟨d,0,none⟩) ms.length R::ia (cnts k ms)).length:=(by simp[x3x,z255,x1s]);have E:=r0.setCells (ia z255) 1 ab
  have N:(Value.slice (some ⟨d,0,none⟩) ms.length R::ia (cnts k ms)).take 1++ia z255++(Value.slice (some ⟨d,0,none⟩) ms.length R::ia (cnts k ms)).drop (1+(ia z255).length)=.slice (some ⟨d,0,none⟩) ms.length R::ia z255:=by
   rw[List.drop_of_length_le (by simp[x3x,z255,x1s])];simp
  rw[N]at E;have m1:=x4D (g2:=g) f6J (ia z255) 1 W m0;obtain⟨zl,_⟩:=y3Y ms.length;have y:P.toList.length=R*2:=(Array.length_toList (xs:=P)).trans s;have L:(mc k ms++P.toList.drop (ms.length*2)).length=R*2:=(by grind);have m2:=m1.setCells (Builtin.zeroCells (Value.agg #[.int .i32 0,.int .i64 0]).cells ms.length).toList 0 (by rw[zl,L];exact f6J);have r2:=x4D (g2:=d) f6J (Builtin.zeroCells (Value.agg #[.int .i32 0,.int .i64 0]).cells ms.length).toList 0 _ E;have r3:=r2.set 0 (.slice (some ⟨d,0,none⟩) 0 R);have m3:=m2.other (a:=⟨g,0,none⟩) (by show d≠g;exact f6J) (.slice (some ⟨d,0,none⟩) 0 R);have t:=x4D (g2:=g) f6J (ia z255) 1 W hW;have y2:=x4D (g2:=d) f6J (Builtin.zeroCells (Value.agg #[.int .i32 0,.int .i64 0]).cells ms.length).toList 0 _ t;have y3:=y2.other (a:=⟨g,0,none⟩) (by show l≠g;exact f6J) (.slice (some ⟨d,0,none⟩) 0 R);have b1:Below l w W:=(b0r).grown Y (by have:=hy.lt;exact f6J) (fun j hj=>by simp at hj;exact f6J);have m:=x0E (B:=l) (g:=g) f6J (ia z255) 1 W b1;have G:=x0E (B:=l) (g:=d) f6J (Builtin.zeroCells (Value.agg #[.int .i32 0,.int .i64 0]).cells ms.length).toList 0 _ m;refine⟨_,_,_,rfl,rfl,rfl,r0.there ab,m1.there (by rw[zl,L];exact f6J),r0.cell rfl,E.cell rfl,r2.cell rfl,r2.frozen 0,y3,⟨.slice (some ⟨d,0,none⟩) 0 R,?_,⟨by simp[mc],Or.inr ⟨d,R,_,rfl,S,m3,Nat.zero_le _,M,?_,by simp[mc]⟩⟩⟩,G.setCell (p:=⟨g,0,none⟩) (by show l<=g;exact f6J) _⟩
  ·rw[y3a];exact r3
  ·grind
 have HZ:=O (y3Y ms.length);have f:ms.length<=R:=F;generalize hgz:(Builtin.zeroCells (Value.agg #[.int .i32 0,.int .i64 0]).cells ms.length).toList=zz at *;have ai:=O hgz;have H:¬((ms.length:Int)=0):=f6J;go_enter func150,ntmps150;go_wp2_with fail;refine(V i).mono ?_;rintro e w1 ⟨rfl,t,g1⟩;obtain⟨b,q,x,X,T,ay,t2,t3,c1,c2,c3,f3,aj,am,Q⟩:=V c w1 t g1;have ae:=O aj;have af:=O am;have ag:=O Q
 have q1:(Builtin.clear_ #[275] 0 #[.slice (some ⟨g,1,none⟩) 255 255]).run prog w1=.ok (.tuple #[]) b:=by
  rw[<- X];exact x8l 275 3 0 g 1 255 255 _ underlying275 z6v e8N (ia z255) z6u t2 (fun v hv=>by obtain⟨z,_,rfl⟩:=List.mem_map.1 hv;rfl)
 have q2:(Builtin.clear_ #[225] 0 #[.slice (some ⟨d,0,none⟩) ms.length R]).run prog b=.ok (.tuple #[]) q:=by
  rw[<- T];exact x8l 225 231 0 d 0 ms.length R _ underlying225 z2S aw zz (V ai) t3 (V HZ).2
 go_wp2;go_end0;exact⟨rfl,V ae,V af,V ag⟩
end Od
open Ti
namespace Od
theorem z7M:∃i z,prog.info? 231=some i/\i.zero=some z/\i.size=2/\i.bytes=16/\z.cells.size=2:=by
 have h:(prog.info? 231).map (fun i=>(i.size,i.bytes,i.zero.map (·.cells.size)))=some (2,16,some 2):=f4x;exact I3E
theorem y5J(w:World)(x y:Value):(Instr.buildSlice 225 1 #[(0,.agg #[x,y])]).run prog w=.ok (.slice (some ⟨w.heap.size,0,none⟩) 1 1) (w.alloc (.cells #[x,y] 231)):=by
 obtain⟨i,z,hi,o,D,_,R⟩:=z7M;refine run_buildSlice w 225 231 1 _ _ i z underlying225 hi o n2M n2M ?_;rw[D];have:=Great.fill_whole (s:=2) e8M [Value.agg #[x,y]] ((Array.range (1*2)).map (z.cells[·%z.cells.size]!)) (fun v N=>by simp at N;subst N;simp[Value.cells]) M7L;simpa[Value.cells]using this
theorem y6U(k:Int->Int)(ms:List Int)(m:Int){c:Nat}(I:k m=c)(p:c<255):(cnts k ms).set c ((cnts k ms).getD c 0+1)=cnts k (ms++[m]):=by
 refine x4i (n:=255) (by rw[List.length_set,x1s]) (x1s _ _) (fun j K=>?_);rw[x6W _ c j _ (by rw[x1s];exact p),x8F _ _ K,x8F _ _ K,x8F _ _ p,Od.x6s,List.length_append];by_cases h:j=c
 ·rw[if_pos h,h];simp[Od.ft,I]
 ·rw[if_neg h]
  have:Od.ft k j [m]=[]:=by
   unfold Od.ft;rw[List.filter_cons_of_neg P8P];rfl
  rw[this];simp
theorem z5x(k:Int->Int)(ms:List Int)(m:Int):mc k (ms++[m])=mc k ms++[.int .i32 m,.int .i64 (k m)]:=by simp[mc,List.flatMap_append]
theorem y3F{w:World}{b e K n g o:Nat}{v:Value}{xs:List Value}(h:w.ownsRow b e K v n xs)(F:v.ownBlock≠some g)(u:Value):(w.setCell ⟨g,o,none⟩ u).ownsRow b e K v n xs:=by
 refine⟨h.1,?_⟩;rcases h.2 with Z | ⟨j,M,P,N,f,E,I⟩
 ·exact Or.inl Z
 ·refine Or.inr ⟨j,M,P,N,f,?_,I⟩;rw[heap_setCell_other w ⟨g,o,none⟩ j u (fun e=>F (by rw[N];exact congrArg some e))];exact E
theorem x6E(W:World)(g:Nat)(u:Value)(h:W.cell? ⟨g,0,none⟩=some u):(Instr.loadAt 225 (.pointer (some ⟨g,0,none⟩))).run prog W=.ok u W:=by
 simp[Instr.loadAt,go_sem,Tryz.isAgg225,Tryz.sizeOf225,h,Addr.add]
theorem y0n(k:Int->Int)(g:Nat)(ms:List Int)(m:Int)(H:Nat)(w:World)(h:x1E w k g ms)(hc:k m=(H:Int))(h1:1<=H)(h2:H<=254)(hn:ms.length<=3000000):Calls prog 149 #[.pointer (some ⟨g,0,none⟩),.agg #[.int .i32 m,.int .i64 (H:Int)]] w fun e w'=>e=.returned (.tuple #[])/\x1E w' k g (ms++[m])/\Below g w w':=by
 obtain⟨i0,z0,aK,aS,aT,aU,aV⟩:=z7M;obtain⟨s,R,hb,ab,aZ,ba⟩:=h.shape;have B:H<255:=f6J;obtain⟨c,az⟩:∃c,w.heap.size=c:=⟨_,rfl⟩;obtain⟨f,z⟩:∃f,w.alloc (.cells #[.int .i32 m,.int .i64 (H:Int)] 231)=f:=⟨_,rfl⟩;have aY:=hb.lt;have af:f.drew.cell? ⟨c,0,none⟩=some (.int .i32 m):=R4S;have ag:f.drew.cell? ⟨c,1,none⟩=some (.int .i64 (H:Int)):=R4S;have ar:Blk f.drew g 228 (.slice s ms.length R::ia (cnts k ms)):=(by rw[<- z];exact hb.alloc _);have N:f.drew.ownsRow (g+1) 231 2 (.slice s ms.length R) ms.length (mc k ms):=(by rw[<- z];exact(ab.alloc _).drew);have L:Below g w f.drew:=(by rw[<- z];exact((b0r).alloc f6J _).drew);have aQ:f.drew.heap.size=c+1:=R4S;obtain⟨W2,X⟩:∃W2,f.drew.alloc (.cells #[.int .i32 m,.int .i64 (H:Int)] 231)=W2:=⟨_,rfl⟩;obtain⟨gy,J⟩:∃gy,f.drew.heap.size=gy:=⟨_,rfl⟩;have aR:W2.heap.size=gy+1:=(by rw[<- X];simp[J]);have ay:(Instr.buildSlice 225 1 #[(0,.agg #[.int .i32 m,.int .i64 (H:Int)])]).run prog f.drew=.ok (.slice (some ⟨gy,0,none⟩) 1 1) W2:=(by rw[<- X,<- J];exact y5J _ _ _);have E:W2.cell? ⟨c,0,none⟩=some (.int .i32 m):=(by rw[<- X,World.cell?_alloc_lt _ _ _ (by show c<_;exact f6J)];exact af);have G:W2.cell? ⟨c,1,none⟩=some (.int .i64 (H:Int)):=(by rw[<- X,World.cell?_alloc_lt _ _ _ (by show c<_;exact f6J)];exact ag);have F:Blk W2 g 228 (.slice s ms.length R::ia (cnts k ms)):=(by rw[<- X];exact ar.alloc _);have P:W2.ownsRow (g+1) 231 2 (.slice s ms.length R) ms.length (mc k ms):=(by rw[<- X];exact N.alloc _);have ai:Below g w W2:=(by rw[<- X];exact L.alloc f6J _);have C:g+1<=W2.heap.size:=f6J;have Y:(Instr.loadAt 225 (.pointer (some ⟨g,0,none⟩))).run prog f.drew=.ok (.slice s ms.length R) f.drew:=x6E _ _ _ (ar.cell rfl);have aF:(Instr.loadAt 225 (.pointer (some ⟨g,0,none⟩))).run prog W2=.ok (.slice s ms.length R) W2:=x6E _ _ _ (F.cell rfl)
 have aj:∀u∈[Value.int .i32 m,.int .i64 (H:Int)],u.oneCell'=true:=fun u hu=>by
  rcases List.mem_cons.1 hu with rfl | hu
  ·rfl
  ·obtain rfl:=List.mem_singleton.1 hu;rfl
 have Z:=O P
 have t:Hid (∀(j:Nat) (u:Value),[Value.int .i32 m,.int .i64 (H:Int)][j]?=some u->W2.cell? ((⟨gy,0,none⟩:Addr).add j)=some u):=fun j u hu=>by
  rw[Addr.add_mid,Nat.zero_add,<- X,<- J];exact(Blk.new f.drew 231 [Value.int .i32 m,.int .i64 (H:Int)] _ rfl).cell hu
 have am:Hid (∀(W:World) U M,W.cell? ⟨c,0,none⟩=some (.int .i32 m)->W.cell? ⟨c,1,none⟩=some (.int .i64 (H:Int))->(W.setCell ⟨g,0,none⟩ (.slice (some ⟨U,0,none⟩) (ms.length+1) M)).cell? ⟨c,0,none⟩=some (.int .i32 m)/\(W.setCell ⟨g,0,none⟩ (.slice (some ⟨U,0,none⟩) (ms.length+1) M)).cell? ⟨c,1,none⟩=some (.int .i64 (H:Int))):=fun W U M a b=>by
  have aD:∀i,(⟨g,0,none⟩:Addr)≠⟨c,i,none⟩:=fun i e=>v1t;rw[World.cell?_setCell_other _ _ _ _ (aD 0),World.cell?_setCell_other _ _ _ _ (aD 1)];exact⟨a,b⟩
 obtain⟨q,hq⟩:∃q,(cnts k ms).getD H 0=q:=⟨_,rfl⟩
 have aA:Hid (∀(W:World) (v:Value),W.cell? ⟨c,1,none⟩=some (.int .i64 (H:Int))->(W.setCell ⟨g,1+H,none⟩ v).cell? ⟨c,1,none⟩=some (.int .i64 (H:Int))):=fun W v a=>by
  rw[World.cell?_setCell_other _ _ _ _ (fun e=>v1t)];exact a
 have d:Hid (∀U M (y:World),y.ownsRow (g+1) 231 2 (.slice (some ⟨U,0,none⟩) (ms.length+1) M) (ms.length+1) (mc k ms++[.int .i32 m,.int .i64 (H:Int)])->W2.grownBy y (Value.slice s ms.length R).ownBlock->((Value.slice s ms.length R).ownBlock=some U\/U=W2.heap.size)->y.cell? ⟨c,0,none⟩=some (.int .i32 m)/\y.cell? ⟨c,1,none⟩=some (.int .i64 (H:Int))/\y.cell? ⟨g,0,none⟩=some (.slice s ms.length R)/\y.frozen? ⟨g,0,none⟩=false/\∃W9,(y.setCell ⟨g,0,none⟩ (.slice (some ⟨U,0,none⟩) (ms.length+1) M)).drew=W9/\W9.cell? ⟨c,1,none⟩=some (.int .i64 (H:Int))/\W9.cell? ⟨g,1+H,none⟩=some (.int .i64 q)/\W9.frozen? ⟨g,1+H,none⟩=false/\x1E (W9.setCell ⟨g,1+H,none⟩ (.int .i64 (q+1))) k g (ms++[m])/\Below g w (W9.setCell ⟨g,1+H,none⟩ (.int .i64 (q+1)))):=fun U M y aO hg ae=>by
  have r:∀j,(Value.slice s ms.length R).ownBlock=some j->g+1<=j/\j<c:=fun j hj=>by
   have:=ab.lt j hj;omega
  have aL:some g≠(Value.slice s ms.length R).ownBlock:=fun e=>(by have:=r g e.symm;exact f6J);have n:some c≠(Value.slice s ms.length R).ownBlock:=fun e=>(by have:=r c e.symm;exact f6J);have aw:=F.kept hg aL;have u0:=hg.cell E n;have u1:=hg.cell G n
  have aX:g+1<=U:=by
   rcases ae with e | e
   ·exact(r U e).1
   ·omega
  have x:=aw.set 0 (.slice (some ⟨U,0,none⟩) (ms.length+1) M);have A:Blk (y.setCell ⟨g,0,none⟩ (.slice (some ⟨U,0,none⟩) (ms.length+1) M)).drew g 228 (.slice (some ⟨U,0,none⟩) (ms.length+1) M::ia (cnts k ms)):=x;have aB:Below g w y:=ai.grown hg f6J (fun j hj=>by have:=r j hj;exact f6J);have aC:Below g w (y.setCell ⟨g,0,none⟩ (.slice (some ⟨U,0,none⟩) (ms.length+1) M)).drew:=(aB.setCell (p:=⟨g,0,none⟩) (l0r _) _).drew;have aP:(y.setCell ⟨g,0,none⟩ (.slice (some ⟨U,0,none⟩) (ms.length+1) M)).drew.ownsRow (g+1) 231 2 (.slice (some ⟨U,0,none⟩) (ms.length+1) M) (ms.length+1) (mc k ms++[.int .i32 m,.int .i64 (H:Int)]):=y3F aO (fun e=>absurd (G5Z:U=g) f6J) _
  have aN:(Value.slice (some ⟨U,0,none⟩) (ms.length+1) M::ia (cnts k ms))[1+H]?=some (.int .i64 q):=by
   rw[Nat.add_comm 1 H,List.getElem?_cons_succ,y8b (by rw[x1s];exact B),hq]
  refine⟨u0,u1,aw.cell rfl,aw.frozen 0,_,rfl,?_,A.cell aN,A.frozen _,⟨.slice (some ⟨U,0,none⟩) (ms.length+1) M,?_,?_⟩,aC.setCell (p:=⟨g,1+H,none⟩) (l0r _) _⟩
  ·exact(V am y U M u0 u1).2
  ·have:=A.set (1+H) (.int .i64 (q+1));rw[Nat.add_comm 1 H,List.set_cons_succ,y8c,<- hq,y6U k ms m hc B,hq]at this;rw[Nat.add_comm 1 H];exact this
  ·rw[List.length_append,z5x,hc];exact y3F aP (fun e=>absurd (G5Z:U=g) f6J) _
 have aW:(H:Int)<255:=f6J;have aM:0<=q/\q<=3000000:=(by rw[<- hq];exact y2Z k ms hn _ (by have:=x1s k ms;simp[List.getD,(f6J:H<(cnts k ms).length)]));obtain⟨be,bh⟩:=aM;have bj:IntKind.i64.wrap (q+1)=q+1:=s7D;clear h hb ab ar N L aQ X aR F P ai J hc hq B;go_enter func149,ntmps149;go_upto_region 1 with fail;refine wp_region_held_drew (S:=fun w'=>w'.cell? ⟨c,0,none⟩=some (.int .i32 m)/\w'.cell? ⟨c,1,none⟩=some (.int .i64 (H:Int))) f4y (⟨af,ag⟩) (fun hHeld=>?_);generalize f.drew=Wd at *;refine tk9 0 (.pointer (some ⟨g,0,none⟩)) ?_;refine tk9 1 (.pointer (some ⟨g,0,none⟩)) ?_;refine tk9 2 (.pointer (some ⟨g,0,none⟩)) ?_;refine tk9 3 (.pointer (some ⟨g,0,none⟩)) ?_;refine tk9 5 (.agg #[.int .i32 m,.int .i64 (H:Int)]) ?_ (hy:=by(intro w hSw;obtain⟨s0,s1⟩:=hSw;go_simp));refine wpAnyH_ready (rs:=[4,6]) f4y M7O ?_;refine AllReadyH.cons (o:=⟨some 8,_,_,_,_,_⟩) rfl (fun K hK=>?pa) (AllReadyH.cons (o:=⟨some 10,_,_,_,_,_⟩) rfl (fun K hK=>?pb) AllReadyH.nil)
 case' pa =>
  refine x1W (by rfl) 225 (.tmp 7) (by rfl) _ _ (by rfl) Y ?_;refine hK.out _ _ (⟨af,ag⟩) (fun hHeld=>?_);clear hK K
  try simp only[Act.put,sa9,sb9,sc9]
  refine rd9 6 fun K hK=>?_;refine x2n (by rfl) 225 (.tmp 9) (by rfl) _ _ (by rfl) ay ?_;refine hK.out _ _ (⟨E,G⟩) (fun hHeld=>?_);clear hK K
  try simp only[Act.put,sa9,sb9,sc9]
 case' pb =>
  refine x2n (by rfl) 225 (.tmp 9) (by rfl) _ _ (by rfl) ay ?_;refine hK.out _ _ (⟨E,G⟩) (fun hHeld=>?_);clear hK K
  try simp only[Act.put,sa9,sb9,sc9]
  refine rd9 4 fun K hK=>?_;refine x1W (by rfl) 225 (.tmp 7) (by rfl) _ _ (by rfl) aF ?_;refine hK.out _ _ (⟨E,G⟩) (fun hHeld=>?_);clear hK K
  try simp only[Act.put,sa9,sb9,sc9]
 all_goals
  refine rd9 7 fun K hK=>?_;refine step_append_lies _ (by rfl) (.tmp 8) (.tmp 10) 225 (by rfl) (g+1) 231 i0 z0 2 16 underlying225 aK aS aT aU aV f6J (.slice s ms.length R) ms.length (mc k ms) (by rfl) (V Z) ⟨gy,0,none⟩ 1 1 [.int .i32 m,.int .i64 (H:Int)] (by rfl) (by rfl) (V t) aj f6J T7X f6J C W2.heap.size rfl ?_;intro U M y Q D ae T;obtain⟨s0,s1,aI,aJ,W9,aq,y1,y2,fy,I,l⟩:=V d U M y Q D ae;refine hK.out _ _ ?_ (fun hHeld=>?_)
  ·exact⟨s0,s1⟩
  clear hK K
  try simp only[Act.put,sa9,sb9,sc9]
  refine tk9 8 (.pointer (some ⟨g,0,none⟩)) ?_;refine tk9 9 (.pointer (some ⟨g,0,none⟩)) ?_;refine rd9 10 fun K hK=>?_;go_simp;refine hK.out _ _ ?_ (fun hHeld=>?_)
  ·exact V am _ _ _ s0 s1
  clear hK K;refine wpAnyH_done f4y ?_ _;have aG:=O I;have aH:=O l;clear hHeld Q D ae T s0 s1 aI aJ d Z t ay Y aF aj C I l am af ag;go_upto_region 2 with fail;refine wp_region_held_drew (S:=fun w'=>w'.cell? ⟨c,1,none⟩=some (.int .i64 (H:Int))) f4y (by rw[aq];exact y1) (fun hHeld=>?_);rw[aq]at hHeld ⊢;clear aq;refine tk9 0 (.pointer (some ⟨g,0,none⟩)) ?_;refine tk9 1 (.pointer (some ⟨c,1,none⟩)) ?_;refine tk9 2 (.int .i64 (H:Int)) ?_;refine tk9 3 (.pointer (some ⟨g,0,none⟩)) ?_;refine tk9 4 (.pointer (some ⟨g,1,none⟩)) ?_;refine tk9 5 (.pointer (some ⟨g,1+H,none⟩)) ?_;refine tk9 8 (.pointer (some ⟨g,0,none⟩)) ?_;refine tk9 9 (.pointer (some ⟨g,1,none⟩)) ?_;refine rd9 6 fun K hK=>?_;go_simp;refine hK.out _ _ ?_ (fun hHeld=>?_)
  ·exact y1
  clear hK K
  try simp only[Act.put,sa9,sb9,sc9]
  refine tk9 7 (.int .i64 (q+1)) ?_;refine tk9 10 (.pointer (some ⟨g,1+H,none⟩)) ?_;refine rd9 11 fun K hK=>?_;go_simp;refine hK.out _ _ ?_ (fun hHeld=>?_)
  ·exact V aA _ _ y1
  clear hK K;refine wpAnyH_done f4y ?_ _;clear hHeld;go_wp2;go_end0;exact⟨rfl,V aG,V aH⟩
end Od
