import Derived.Test.YtbmckadcjdedcaaGreatDoorF19
import Derived.Test.YtbmckadcjdedcaaGreatDoorF3
set_option maxHeartbeats 4000000
set_option maxRecDepth 8000
namespace Go.Proofs.YtbmckadcjdedcaaGreatDoor
open Go.Proofs.Tryz
open Go.RowKit
open Ti
section
variable{p:Prop}
theorem f9w(h:p:=by have:=h (k c);rw[x2h (Or.inr rfl)]at this;cases this):p:=h
theorem f3f(h:p:=by rw[List.getElem?_map,List.getElem?_eq_getElem hi];exact n7A):p:=h
theorem T5Q(h:p:=by rcases e with e|e<;>omega):p:=h
theorem w9f(h:p:=by have:=G c;exact f6J):p:=h
theorem F4f(h:p:=by rw[<- J,<- ay];exact M7N):p:=h
theorem N4C(h:p:=by intro e;have:yb=N:=congrArg Addr.block e;exact f6J):p:=h
theorem E2Q(h:p:=by have:g=T:=congrArg Addr.block e;exact f6J):p:=h
theorem U8b(h:p:=by simp[x3E,z255,G]):p:=h
theorem G6a(h:p:=by simpa[Value.ownBlock]using e):p:=h
end
namespace Od
def Blk(w:World)(g:Nat)(t:TypeId)(vs:List Value):Prop:=w.heap[g]?=some (.cells vs.toArray t (0,0))
theorem Blk.lt{w}{g t:Nat}{vs}(h:Blk w g t vs):g<w.heap.size:=(Array.getElem?_eq_some_iff.1 h).1
theorem Blk.cell{w}{g t:Nat}{vs}(h:Blk w g t vs){i v}(N:vs[i]?=some v):w.cell? ⟨g,i,none⟩=some v:=by
 rw[cell_of_row _ _ _ _ _ _ h];simpa using N
theorem Blk.frozen{w}{g t:Nat}{vs}(h:Blk w g t vs) i:w.frozen? ⟨g,i,none⟩=false:=frozen_of_row _ _ _ _ _ h
theorem Blk.set{w}{g t:Nat}{vs}(h:Blk w g t vs) i v:Blk (w.setCell ⟨g,i,none⟩ v) g t (vs.set i v):=by
 unfold Blk at h ⊢;rw[heap_setCell_same w g i _ _ _ h];simp
theorem Blk.other{w}{g t:Nat}{vs}(h:Blk w g t vs){a}(F:g≠a.block) v:Blk (w.setCell a v) g t vs:=by
 unfold Blk at h ⊢;exact r7O
theorem Blk.new(w:World)(t:Nat) vs C(y:C=vs.toArray):Blk (w.alloc (.cells C t)) w.heap.size t vs:=n7C
theorem Blk.alloc{w}{g t:Nat}{vs}(h:Blk w g t vs) o:Blk (w.alloc o) g t vs:=P1G
theorem Blk.below{w w'}{g t n:Nat}{vs}(h:Blk w g t vs)(Y:Below n w w')(E:g<n):Blk w' g t vs:=by
 unfold Blk at h ⊢;rw[Y.block g E];exact h
theorem Blk.range{w}{g t:Nat}{vs}(h:Blk w g t vs) o:w.rangeAt g o (vs.drop o):=fun j v N=>h.cell (by rw[List.getElem?_drop]at N;exact N)
theorem Blk.there{w}{g t:Nat}{vs}(h:Blk w g t vs){o n}(E:o+n<=vs.length):w.there g o n:=fun j K=>by
 refine⟨?_,h.frozen _⟩;rw[h.cell (List.getElem?_eq_getElem (f6J:o+j<vs.length))];rfl
theorem Blk.setCells{w}{g t:Nat}:∀(us:List Value) {l:List Value} (o:Nat),Blk w g t l->o+us.length<=l.length->Blk (w.setCells g o us) g t (l.take o++us++l.drop (o+us.length)):=by
 intro us
 induction us generalizing w with
 | nil=>intro l o h _;simpa[World.setCells]using h
 | cons u us ih =>
  intro l o h S;rw[World.setCells];have:=ih (o+1) (h.set o u) (by rw[List.length_set];simp at S;exact f6J)
  have e:(l.set o u).take (o+1)++us++(l.set o u).drop (o+1+us.length)=l.take o++(u::us)++l.drop (o+(u::us).length):=by
   simp only[List.length_cons]at S
   have Z:(l.set o u).take (o+1)=l.take o++[u]:=by
    rw[List.take_add_one,List.take_set_of_le (l0r _),List.getElem?_set_self f6J];rfl
   rw[Z,List.drop_set_of_lt f6J,List.length_cons,(f6J:o+1+us.length=o+(us.length+1))];simp
  rw[e]at this;exact this
def ia(zs:List Int):List Value:=zs.map (Value.int .i64)
def z255:List Int:=List.replicate 255 0
theorem y8E{zs i}(hi:i<zs.length):(ia zs)[i]?=some (.int .i64 (zs.getD i 0)):=by
 unfold ia;exact f3f
theorem y8F zs i v:(ia zs).set i (.int .i64 v)=ia (zs.set i v):=by unfold ia;rw[List.map_set]
theorem x3E zs:(ia zs).length=zs.length:=List.length_map _
theorem z3O zs:(ia zs).toArray.all (·.oneCell')=true:=all_oneCell_toArray (fun v N=>by obtain⟨z,_,rfl⟩:=List.mem_map.1 N;rfl)
theorem x3t:(prog.info? 226).map (·.size)=some 255:=f4x
end Od
open Ti
namespace Od
def beg(cs:List Int):List Int:=(List.range 255).map fun i=>(cs.take i).sum
theorem x4G cs:(beg cs).length=255:=by simp[beg]
theorem z3F cs{i}(hi:i<255):(beg cs).getD i 0=(cs.take i).sum:=by simp[beg,List.getD,hi]
theorem z4j(cs:List Int)(h:∀c∈cs,0<=c/\c<=3000000):∀k:Nat,0<=(cs.take k).sum/\(cs.take k).sum<=3000000*(k:Int)
 | 0=>M7K
 | k+1=>by
  have B:=z4j cs h k;rw[List.take_add_one,List.sum_append]
  cases hk:cs[k]? with
  | none=>exact f4R
  | some c =>
   have:=h c (List.mem_of_getElem? hk);simp;omega
theorem y4q{cs:List Int}{k}(G:k<cs.length):(cs.take (k+1)).sum=(cs.take k).sum+cs.getD k 0:=by
 rw[List.take_add_one,List.sum_append,List.getElem?_eq_getElem G];exact w7Y
theorem z7c:Tryz.zeroCells226=(ia z255).toArray:=f4x
theorem x4n{a b:List Int}{n}(g:a.length=n)(Y:b.length=n)(h:∀j,j<n->a.getD j 0=b.getD j 0):a=b:=by
 apply List.ext_getElem f6J;intro i Z D;have:=h i f6J;simpa[List.getD,Z,D]using this
theorem y0Y g mv cs w(hr:Blk w g 228 (mv::ia cs))(hl:cs.length=255)(hc:∀c∈cs,0<=c/\c<=3000000):Calls prog 249 #[.pointer (some ⟨g,0,none⟩)] w fun e w'=>e=.returned (.agg (ia (beg cs)).toArray)/\Bw w w':=by
 obtain⟨f,J⟩:∃f,w.alloc (.cells Tryz.zeroCells226 226)=f:=⟨_,rfl⟩;obtain⟨X,Q⟩:∃X,f.alloc (.cells Tryz.zeroCells226 226)=X:=⟨_,rfl⟩;have E:Bw w f:=(by rw[<- J];exact(b0r).alloc (l0r _) _);have T:f.heap.size=w.heap.size+1:=(by rw[<- J];exact M7L);have F:Bw w X:=by rw[<- Q];exact E.alloc f6J _
 have B:Blk X w.heap.size 226 (ia z255):=by
  rw[<- Q];refine Blk.alloc ?_ _;rw[<- J];exact Blk.new w _ _ _ z7c
 have k2:Blk X (w.heap.size+1) 226 (ia z255):=(by rw[<- Q,<- T];exact Blk.new f _ _ _ z7c);have x:=hr.lt;have HR:=O hr;have HC:=O hc;have aq:Hid (∀k,0<=(cs.take k).sum/\(cs.take k).sum<=3000000*(k:Int)):=z4j cs hc;have u:Hid (∀k,k<255->(cs.take (k+1)).sum=(cs.take k).sum+cs.getD k 0):=fun k hk=>y4q f6J;have aj:Hid ((cs.take 0).sum=0):=(by grind);have ai:Hid (∀zs:List Int,zs.length=255->(∀j,j<255->zs.getD j 0=(cs.take j).sum)->zs=beg cs):=fun zs Z h2=>x4n Z (x4G cs) (fun j K=>by rw[h2 j K,z3F cs K])
 have D:Hid (∀(W:World),Bw w W->∀k:Nat,k<255->W.cell? ⟨g,1+k,none⟩=some (.int .i64 (cs.getD k 0))):=fun W hW k hk=>by
  rw[hW.cell x];refine hr.cell ?_;rw[Nat.add_comm,List.getElem?_cons_succ];exact y8E f6J
 have N:Hid (∀k:Nat,k<255->0<=cs.getD k 0/\cs.getD k 0<=3000000):=fun k hk=>hc _ (by simp[List.getD,(f6J:k<cs.length)]);obtain⟨M,l⟩:∃M,M=w.heap.size+1:=⟨_,rfl⟩;obtain⟨I,m⟩:∃I,I=w.heap.size:=⟨_,rfl⟩;have ay:I≠M:=f6J;have G:w.heap.size<=I:=f6J;have ae:w.heap.size<=M:=f6J;rw[<- m]at B;rw[<- l]at k2 T;have K1:=O B;have o:=O k2;have ag:=O F;have aC:=m.symm;have Z0:Hid (z255.length=255):=(by show _=_;simp[z255]);clear hr hc E F B k2 m l hl;go_enter func249,ntmps249;go_wp2;go_loopw[4,5,6] (fun nn _ kk wr=>∃(k:Nat) (zs:List Int),kk=.int .i64 k/\nn=.int .i64 (cs.take k).sum/\k<=255/\zs.length=255/\Blk wr M 226 (ia zs)/\Blk wr I 226 (ia z255)/\Bw w wr/\∀j,j<k->zs.getD j 0=(cs.take j).sum) (fun _ _ kk _=>255-(intOf kk).toNat)
 case atStart=>exact⟨0,z255,rfl,by rw[V aj],f6J,V Z0,V o,V K1,V ag,fun j K=>f6J⟩
 case round =>
  obtain⟨k,zs,rfl,rfl,hk,b,U,t,Y,z⟩:=hrel;have aI:=V aq k;by_cases H:k<255
  ·have aB:=V u k H;have aG:=V D wr Y k H;obtain⟨q0,q1⟩:=V N k H;have aF:=U.cell (y8E (zs:=zs) (i:=k) f6J);have aH:=U.frozen k;have A:Blk (wr.setCell ⟨M,k,none⟩ (.int .i64 (cs.take k).sum)) M 226 (ia (zs.set k (cs.take k).sum)):=(by rw[<- y8F];exact U.set k _);have y:=t.other (a:=⟨M,k,none⟩) ay (.int .i64 (cs.take k).sum);have F:=Y.setCell (p:=⟨M,k,none⟩) ae (.int .i64 (cs.take k).sum);have ab:(wr.setCell ⟨M,k,none⟩ (.int .i64 (cs.take k).sum)).cell? ⟨g,1+k,none⟩=some (.int .i64 (cs.getD k 0)):=V D _ F k H
   have C:Hid (∀j,j<k+1->(zs.set k (cs.take k).sum).getD j 0=(cs.take j).sum):=by
    intro j K;rw[x7d zs k j _ f6J];split
    ·rename_i e;rw[e]
    ·exact z j f6J
   obtain⟨d,az⟩:∃d,wr.setCell ⟨M,k,none⟩ (.int .i64 (cs.take k).sum)=d:=⟨_,rfl⟩;rw[az]at A y F ab;have aw:=O A;have ar:=O y;have HB:=O F;have am:=O aB;generalize hq:cs.getD k 0=q,hs:(cs.take k).sum=s at *;have n:(0:Int)<=(k:Int):=f6J;have aD:(k:Int)<255:=f6J;go_wp2
   go_roundw
   case rel=>exact⟨k+1,zs.set k s,g2A,by rw[V am],f6J,M5N,V aw,V ar,V HB,V C⟩
   case measure=>exact g7V
  ·obtain rfl:k=255:=f6J;have R:=V ai zs b z;subst R;go_upto_region 9 with fail;refine wp_region_list ?_;have S:=U.range 0;rw[List.drop_zero]at S;refine wpList_load_mid (by rfl) 226 (.tmp 3) (by rfl) M 0 (by rfl) (ia (beg cs)) _ S underlying226 (by rfl) (by rw[x3E,x4G];exact x3t) ?_;have af:wr.there I 0 (ia (beg cs)).toArray.size:=t.there (by simp[x3E,x4G,z255]);refine wpList_store_mid (by rfl) 226 (.tmp 2) (.tmp 21) (by rfl) I 0 (ia (beg cs)).toArray (by rfl) (by rfl) af (by rw[show(ia (beg cs)).toArray.size=255 by simp[x3E,x4G]];exact x3t) (z3O _) ?_;have L:=World.rangeAt_setCells_same wr I 0 (ia (beg cs)) E0X;have r:Bw w (wr.setCells I 0 (ia (beg cs))):=x0E G _ _ _ Y;have aA:=run_loadVar_mid (P:=prog) _ I 0 226 (ia (beg cs)) _ L underlying226 (by rfl) (by rw[x3E,x4G];exact x3t);go_wp2;exact bodyPost_ret (v:=.agg (ia (beg cs)).toArray) (x2J rfl _ _ _ I _ (by rfl) aA) rfl ⟨rfl,r⟩
end Od
namespace Od
def srt(k:Int->Int):Int->List Int->Bool
 | _,[]=>true
 | a,c::l=>if k c≠0/\k c<a then false else srt k (k c) l
def fl(k:Int->Int)(j:Int)(l:List Int):List Int:=l.filter fun m=>decide (k m=0\/k m=j)
def bkN(k:Int->Int)(ms:List Int)(n:Nat):List Int:=(List.range n).flatMap fun(c:Nat)=>ms.filter fun m=>decide (k m=(c:Int))
def bkt(k:Int->Int)(ms:List Int):List Int:=bkN k ms 255
def ordA(k:Int->Int):List Int->List Int->List Int
 | ms,[]=>bkt k ms
 | ms,c::l=>if k c=0 then bkt k ms++c::ordA k [] l else ordA k (ms++[c]) l
def ord(k:Int->Int)(xs:List Int):List Int:=ordA k [] xs
def Mk(k:Int->Int)(ms:List Int):Prop:=∀m∈ms,1<=k m/\k m<=254
theorem y7d k:bkt k []=[]:=by
 unfold bkt bkN;simp
theorem x5Q k ms n:bkN k ms (n+1)=bkN k ms n++ms.filter fun m=>decide (k m=(n:Int)):=by
 simp[bkN,List.range_succ,List.flatMap_append]
theorem z1S(p q r:Int->Bool)(h:∀m,r m=(p m||q m))(hd:∀m,¬(p m=true/\q m=true))(ms:List Int):(ms.filter r).length=(ms.filter p).length+(ms.filter q).length:=by
 induction ms with
 | nil=>rfl
 | cons m ms ih=>grind
theorem z4K k ms(h:∀m∈ms,0<=k m) n:(bkN k ms n).length=(ms.filter fun m=>decide (k m<(n:Int))).length:=by
 induction n with
 | zero =>
  have:(ms.filter fun m=>decide (k m<((0:Nat):Int)))=[]:=f0h;rw[this];rfl
 | succ n ih =>
  rw[x5Q,List.length_append,ih];refine(z1S _ _ _ (fun m=>?_) (fun m=>?_) ms).symm
  ·grind
  ·exact f4R
theorem x8K{k ms}(h:Mk k ms):(bkt k ms).length=ms.length:=by
 unfold bkt;rw[z4K k ms (fun m z=>by have:=h m z;exact f6J),List.filter_eq_self.2];intro m z;have:=h m z;exact f4R
theorem x8J{k ms n x}(h:x∈bkN k ms n):x∈ms/\0<=k x/\k x<n:=by
 unfold bkN at h;rw[List.mem_flatMap]at h;obtain⟨c,I,J⟩:=h;rw[List.mem_range]at I;rw[List.mem_filter]at J;have:=o0d J.2;exact⟨J.1,f6J,f6J⟩
theorem y3r k ms n:(bkN k ms n).Pairwise (fun a b=>k a<=k b):=by
 induction n with
 | zero=>exact List.Pairwise.nil
 | succ n ih =>
  rw[x5Q,List.pairwise_append];refine⟨ih,?_,?_⟩
  ·refine List.pairwise_iff_forall_sublist.2 ?_;intro a b U;have g:a∈ms.filter fun m=>decide (k m=(n:Int)):=U.subset M7K;have Y:b∈ms.filter fun m=>decide (k m=(n:Int)):=U.subset M7K;have Z:=o0d (List.mem_filter.1 g).2;have D:=o0d (List.mem_filter.1 Y).2;omega
  ·intro a g b Y;have Z:=x8J g;have D:=o0d (List.mem_filter.1 Y).2;omega
theorem z1o k ms j n:((bkN k ms n).filter fun m=>decide (k m=j))=if 0<=j/\j<n then ms.filter fun m=>decide (k m=j)else[]:=by
 induction n with
 | zero=>rw[if_neg f6J];rfl
 | succ n ih =>
  rw[x5Q,List.filter_append,ih,List.filter_filter];by_cases h:j=(n:Int)
  ·grind
  ·have:(ms.filter fun a=>decide (k a=j)&&decide (k a=(n:Int)))=[]:=by
    rw[List.filter_eq_nil_iff];intro m _;exact f4R
   rw[this,List.append_nil];by_cases Z:0<=j/\j<(n:Int)
   ·rw[if_pos Z,if_pos f6J]
   ·rw[if_neg Z,if_neg f6J]
theorem y3G{k ms}(h:Mk k ms) j:fl k j ms=if 1<=j/\j<=254 then ms.filter (fun m=>decide (k m=j))else[]:=by
 unfold fl;by_cases K:1<=j/\j<=254
 ·rw[if_pos K];refine List.filter_congr (fun m z=>?_);have:=h m z;exact f4R
 ·rw[if_neg K,List.filter_eq_nil_iff];intro m z;have:=h m z;exact f4R
theorem z7z{k ms}(h:Mk k ms):Mk k (bkt k ms):=fun m z=>h m (x8J z).1
theorem z3K{k ms}(h:Mk k ms) j:fl k j (bkt k ms)=fl k j ms:=by
 rw[y3G (z7z h),y3G h];by_cases K:1<=j/\j<=254
 ·rw[if_pos K,if_pos K];unfold bkt;rw[z1o,if_pos f6J]
 ·rw[if_neg K,if_neg K]
theorem x3c k j a b:fl k j (a++b)=fl k j a++fl k j b:=by unfold fl;exact List.filter_append ..
theorem x3d k j c l:fl k j (c::l)=if k c=0\/k c=j then c::fl k j l else fl k j l:=by
 unfold fl;rw[List.filter_cons];by_cases h:k c=0\/k c=j
 ·grind
 ·grind
theorem x9o{k ms c}(h:Mk k ms)(Z:1<=k c)(D:k c<=254):Mk k (ms++[c]):=by
 intro m hm;rcases List.mem_append.1 hm with hm|hm
 ·exact h m hm
 ·grind
theorem y2k{k:Int->Int}(G:∀c,0<=k c/\k c<=254)(j:Int):∀(l ms:List Int),Mk k ms->fl k j (ordA k ms l)=fl k j (ms++l)
 | [],ms,h=>by rw[ordA,z3K h,List.append_nil]
 | c::l,ms,h=>by
  rw[ordA];by_cases I:k c=0
  ·rw[if_pos I,x3c,x3c,z3K h,x3d,x3d,y2k G j l [] (fun _ h=>m5j)];rfl
  ·rw[if_neg I,y2k G j l _ (x9o h w9f (G c).2)];simp
theorem x6u{k}(G:∀c,0<=k c/\k c<=254) j xs:fl k j (ord k xs)=fl k j xs:=y2k G j xs [] (fun _ h=>m5j)
theorem y2Z{k:Int->Int}{rest:List Int}(hr:∀a,srt k a rest=true):∀(b:List Int) (a:Int),b.Pairwise (fun x y=>k x<=k y)->(∀x∈b,a<=k x)->srt k a (b++rest)=true
 | [],a,_,_=>hr a
 | x::b,a,hp,hm=>by
  rw[List.cons_append,srt,if_neg (fun h=>by have:=hm x M7L;exact f6J)];rw[List.pairwise_cons]at hp;exact y2Z hr b (k x) hp.2 hp.1
theorem x9N{k:Int->Int}(G:∀c,0<=k c/\k c<=254):∀(l ms:List Int),Mk k ms->srt k 0 (ordA k ms l)=true
 | [],ms,h=>by
  rw[ordA,<- List.append_nil (bkt k ms)];exact y2Z (fun _=>rfl) _ _ (y3r k ms 255) (fun x J=>by have:=x8J J;exact f6J)
 | c::l,ms,h=>by
  rw[ordA];by_cases I:k c=0
  ·rw[if_pos I];refine y2Z (fun a=>?_) _ _ (y3r k ms 255) (fun x J=>by have:=x8J J;exact f6J);rw[srt,if_neg (fun h=>h.1 I),I];exact x9N G l [] (fun _ h=>m5j)
  ·rw[if_neg I];exact x9N G l _ (x9o h w9f (G c).2)
theorem x7g{k}(G:∀c,0<=k c/\k c<=254) xs:srt k 0 (ord k xs)=true:=x9N G xs [] (fun _ h=>m5j)
theorem y8l{k:Int->Int}{j:Int}(K:j≠0):∀(l:List Int) (p:Int),srt k p l=true->j<p->∀c r,fl k j l=c::r->k c=0
 | [],_,_,_,c,r,h=>m5j
 | x::l,p,hs,hp,c,r,h=>by
  rw[srt]at hs;split at hs
  ·cases hs
  ·rename_i hn
   rw[x3d]at h;by_cases J:k x=0
   ·rw[if_pos (Or.inl J)]at h;cases h;exact J
   ·have:p<=k x:=Int.not_lt.1 (fun e=>hn ⟨J,e⟩);rw[if_neg (fun e=>T5Q)]at h;exact y8l K l (k x) hs f6J c r h
theorem x2h{k j c}(h:k c=0\/k c=j) l:fl k j (c::l)=c::fl k j l:=by rw[x3d,if_pos h]
theorem uniq{k:Int->Int}:∀(a b:List Int) (p q:Int),srt k p a=true->srt k q b=true->(∀j,fl k j a=fl k j b)->a=b
 | [],[],_,_,_,_,_=>rfl
 | [],c::l,_,_,_,_,h=>f9w
 | c::l,[],_,_,_,_,h=>f9w
 | c::l,d::m,p,q,ha,hb,h=>by
  have I:c=d:=by
   by_cases A:k c=0
   ·have:=h (k d);rw[x2h (Or.inl A),x2h (Or.inr rfl)]at this;exact(List.cons.inj this).1
   ·by_cases Z:k d=0
    ·have:=h (k c);rw[x2h (Or.inr rfl),x2h (Or.inl Z)]at this;exact(List.cons.inj this).1
    ·rw[srt]at ha hb;split at ha
     ·cases ha
     ·split at hb
      ·cases hb
      ·rcases Int.lt_trichotomy (k c) (k d)with H|heq|hgt
       ·have:=h (k c);rw[x2h (Or.inr rfl),x3d k (k c) d,if_neg (fun e=>T5Q)]at this;exact absurd (y8l A m (k d) hb H c _ this.symm) A
       ·have:=h (k c);rw[x2h (Or.inr rfl),x2h (Or.inr heq.symm)]at this;exact(List.cons.inj this).1
       ·have:=h (k d);rw[x2h (Or.inr rfl) m,x3d k (k d) c,if_neg (fun e=>T5Q)]at this;exact absurd (y8l Z l (k c) ha hgt d _ this) Z
  subst I
  have Q:l=m:=by
   rw[srt]at ha hb;split at ha
   ·cases ha
   ·split at hb
    ·cases hb
    ·refine uniq l m (k c) (k c) ha hb (fun j=>?_);have:=h j;rw[x3d,x3d]at this;split at this
     ·exact(List.cons.inj this).2
     ·exact this
  rw[Q]
theorem y5Q{k}(G:∀c,0<=k c/\k c<=254){xs}(h:srt k 0 xs=true):ord k xs=xs:=uniq _ _ 0 0 (x7g G xs) h (fun j=>x6u G j xs)
theorem z6u{k}(G:∀c,0<=k c/\k c<=254) xs:ord k (ord k xs)=ord k xs:=y5Q G (x7g G xs)
theorem z4b{k}(G:∀c,0<=k c/\k c<=254){xs ys}(U:srt k 0 ys=true)(h:∀j,fl k j ys=fl k j xs):ys=ord k xs:=uniq _ _ 0 0 U (x7g G xs) (fun j=>by rw[h,x6u G])
theorem z2M{k}(G:∀c,0<=k c/\k c<=254) a b:ord k (ord k a++ord k b)=ord k (a++b):=z4b G (x7g G _) (fun j=>by rw[x6u G,x3c,x3c,x6u G,x6u G])
theorem x9y{k:Int->Int}(G:∀c,0<=k c/\k c<=254):∀(l ms:List Int),Mk k ms->(ordA k ms l).length=ms.length+l.length
 | [],ms,h=>by rw[ordA,x8K h];rfl
 | c::l,ms,h=>by
  rw[ordA];by_cases I:k c=0
  ·rw[if_pos I,List.length_append,x8K h,List.length_cons,x9y G l [] (fun _ h=>m5j)];simp
  ·rw[if_neg I,x9y G l _ (x9o h w9f (G c).2)];simp;omega
theorem y9D{k}(G:∀c,0<=k c/\k c<=254) xs:(ord k xs).length=xs.length:=by
 unfold ord;rw[x9y G xs [] (fun _ h=>m5j)];simp
theorem y2C{k}(G:∀c,0<=k c/\k c<=254){xs x}(h:x∈ord k xs):x∈xs:=by
 have Z:x∈fl k (k x) (ord k xs):=List.mem_filter.2 ⟨h,M7K⟩;rw[x6u G]at Z;exact(List.mem_filter.1 Z).1
end Od
namespace Od
theorem x4P(f:Nat->List Int) n:(List.range (n+1)).flatMap f=(List.range n).flatMap f++f n:=by
 simp[List.range_succ,List.flatMap_append]
theorem z8k(f:Nat->List Int){c n}(h:c<n):((List.range c).flatMap f).length+(f c).length<=((List.range n).flatMap f).length:=by
 induction n with
 | zero=>omega
 | succ n ih =>
  rw[x4P,List.length_append];rcases Nat.lt_succ_iff_lt_or_eq.1 h with h|rfl
  ·have:=ih h;omega
  ·exact l0r _
theorem x5U{f g:Nat->List Int}{n}(h:∀i,i<n->f i=g i):(List.range n).flatMap f=(List.range n).flatMap g:=by
 induction n with
 | zero=>rfl
 | succ n ih=>rw[x4P,x4P,ih (fun i hi=>h i f6J),h n f6J]
theorem z8l(f g:Nat->List Int){c r n} v(I:c<n)(hr:r<(f c).length)(C:g c=(f c).set r v)(hd:∀i,i≠c->g i=f i):((List.range n).flatMap f).set (((List.range c).flatMap f).length+r) v=(List.range n).flatMap g:=by
 induction n with
 | zero=>omega
 | succ n ih =>
  rw[x4P,x4P];rcases Nat.lt_succ_iff_lt_or_eq.1 I with h|rfl
  ·have:=z8k f h;rw[List.set_append_left _ _ f6J,ih h,hd n f6J]
  ·rw[List.set_append_right _ _ f6J,(f6J:((List.range c).flatMap f).length+r-((List.range c).flatMap f).length=r),<- C,x5U (fun i hi=>(hd i f6J).symm)]
def ft(k:Int->Int)(c:Nat)(l:List Int):List Int:=l.filter fun m=>decide (k m=(c:Int))
theorem z4L k ms n:bkN k ms n=(List.range n).flatMap fun c=>ft k c ms:=rfl
theorem x6w k c a b:ft k c (a++b)=ft k c a++ft k c b:=by unfold ft;exact List.filter_append ..
def y4A(k:Int->Int)(ms:List Int)(j:Nat)(y:List Int):Prop:=∃J:Nat->List Int,y=(List.range 255).flatMap (fun c=>ft k c (ms.take j)++J c)/\∀c,c<255->(J c).length=(ft k c (ms.drop j)).length
theorem split(g:Nat->Nat):∀(n:Nat) (y:List Int) (_:y.length=((List.range n).map g).sum),∃J:Nat->List Int,y=(List.range n).flatMap J/\∀c,c<n->(J c).length=g c
 | 0,y,h=>⟨fun _=>[],S4r,fun c I=>f6J⟩
 | n+1,y,h=>by
  rw[List.range_succ,List.map_append,List.sum_append]at h;simp only[List.map_cons,List.map_nil,List.sum_cons,List.sum_nil,Nat.add_zero]at h;obtain⟨J,Z,D⟩:=split g n (y.take (y.length-g n)) U3s;refine⟨fun i=>if i=n then y.drop (y.length-g n)else J i,?_,fun c I=>?_⟩
  ·rw[x4P,if_pos rfl,x5U (g:=J) (fun i hi=>by rw[if_neg f6J]),<- Z,List.take_append_drop]
  ·by_cases K:c=n
   ·subst K;simp only[if_true,List.length_drop];omega
   ·simp only[if_neg K];exact D c f6J
theorem y8n(f:Nat->List Int) n:((List.range n).flatMap f).length=((List.range n).map fun c=>(f c).length).sum:=f0h
theorem y2a{k ms y}(h:Mk k ms)(hy:y.length=ms.length):y4A k ms 0 y:=by
 obtain⟨J,Z,D⟩:=split (fun c=>(ft k c ms).length) 255 y (by rw[hy,<- x8K h];unfold bkt;rw[z4L,y8n]);refine⟨J,?_,fun c I=>?_⟩
 ·rw[Z];exact x5U (fun i _=>by simp[ft])
 ·rw[List.drop_zero];exact D c I
theorem y7G{k ms y}(h:y4A k ms ms.length y):y=bkt k ms:=by
 obtain⟨J,Z,D⟩:=h;rw[Z];unfold bkt;rw[z4L];refine x5U (fun i hi=>?_);have:=D i hi;rw[List.drop_length]at this;rw[List.take_length,List.eq_nil_of_length_eq_zero (l:=J i) (by rw[this];rfl),List.append_nil]
def plc(k:Int->Int)(ms:List Int)(j c:Nat):Nat:=(bkN k ms c).length+(ft k c (ms.take j)).length
theorem z1W k c ms j:(ft k c (ms.take j)).length+(ft k c (ms.drop j)).length=(ft k c ms).length:=by
 rw[<- List.length_append,<- x6w,List.take_append_drop]
theorem y2o{k} c{ms:List Int}{j}(K:j<ms.length):ft k c (ms.take (j+1))=ft k c (ms.take j)++if k (ms.getD j 0)=c then[ms.getD j 0]else[]:=by
 rw[List.take_add_one,x6w,List.getElem?_eq_getElem K];have:ms.getD j 0=ms[j]:=(by simp[List.getD,K]);rw[this];unfold ft;by_cases h:k ms[j]=(c:Int)<;>simp[h]
theorem y8o{k} c{ms:List Int}{j}(K:j<ms.length):ft k c (ms.drop j)=(if k (ms.getD j 0)=c then[ms.getD j 0]else[])++ft k c (ms.drop (j+1)):=by
 have:ms.getD j 0=ms[j]:=(by simp[List.getD,K]);rw[List.drop_eq_getElem_cons K,this];unfold ft;rw[List.filter_cons];by_cases h:k ms[j]=(c:Int)
 ·grind
 ·grind
theorem y5e{k ms y}{j c:Nat}(h:y4A k ms j y)(K:j<ms.length)(I:k (ms.getD j 0)=c)(F:c<255):plc k ms j c<y.length/\y4A k ms (j+1) (y.set (plc k ms j c) (ms.getD j 0)):=by
 obtain⟨J,Z,D⟩:=h;have L:=D c F;rw[y8o c K,if_pos I,List.length_append,List.length_singleton]at L
 have Y:(bkN k ms c).length=((List.range c).flatMap fun c=>ft k c (ms.take j)++J c).length:=by
  rw[z4L,y8n,y8n];congr 1;refine List.map_congr_left (fun i hi=>?_);rw[List.mem_range]at hi;rw[List.length_append,D i f6J,z1W]
 have E:=z8k (fun c=>ft k c (ms.take j)++J c) F;simp only[List.length_append]at E;unfold plc;rw[Z,Y];refine⟨f6J,fun i=>if i=c then(J c).drop 1 else J i,?_,fun i hi=>?_⟩
 ·refine z8l _ _ _ F u7B ?_ (fun i hi=>?_)
  ·simp only[if_true];rw[y2o c K,if_pos I,List.set_append_right _ _ (l0r _),Nat.sub_self]
   cases hq:J c with
   | nil=>grind
   | cons x l=>simp
  ·simp only[if_neg hi];rw[y2o i K,if_neg (fun e=>hi f6J),List.append_nil]
 ·by_cases A:i=c
  ·grind
  ·simp only[if_neg A];rw[D i hi,y8o i K,if_neg (fun e=>A f6J),List.nil_append]
theorem z2S{k ms j} c(K:j<ms.length):plc k ms (j+1) c=if k (ms.getD j 0)=c then plc k ms j c+1 else plc k ms j c:=by
 unfold plc;rw[y2o c K];by_cases h:k (ms.getD j 0)=c
 ·grind
 ·grind
theorem z2T k ms c:plc k ms 0 c=(bkN k ms c).length:=by simp[plc,ft]
theorem z1p k ms c:(bkN k ms (c+1)).length=(bkN k ms c).length+(ft k c ms).length:=by rw[x5Q,List.length_append];rfl
end Od
open Ti
namespace Od
def ir(zs:List Int):List Value:=zs.map (Value.int .i32)
theorem x3G zs:(ir zs).length=zs.length:=List.length_map _
theorem ir_at{zs i}(hi:i<zs.length):(ir zs)[i]?=some (.int .i32 (zs.getD i 0)):=by
 unfold ir;exact f3f
def mc(k:Int->Int)(ms:List Int):List Value:=ms.flatMap fun m=>[.int .i32 m,.int .i64 (k m)]
theorem z8D k ms:(mc k ms).length=ms.length*2:=by
 induction ms with
 | nil=>rfl
 | cons m ms ih=>simp only[mc,List.flatMap_cons,List.length_append,List.length_cons,List.length_nil]at ih ⊢;omega
theorem z8C{k:Int->Int}:∀{ms:List Int} {i:Nat},i<ms.length->(mc k ms)[i*2]?=some (.int .i32 (ms.getD i 0))/\(mc k ms)[i*2+1]?=some (.int .i64 (k (ms.getD i 0)))
 | [],i,h=>by simp at h
 | m::ms,0,_=>⟨rfl,rfl⟩
 | m::ms,i+1,h=>by
  have:=z8C (k:=k) (ms:=ms) (i:=i) S4r;simp only[mc,List.flatMap_cons,(f6J:(i+1)*2=i*2+1+1)]at this ⊢;exact W2K
theorem y3L{w wr:World}{row}(h:w.grownBy wr row) o:w.grownBy (wr.alloc o) row:=⟨h.os,h.tape,h.output,by have:=h.size;exact P8P,fun k G E=>by rw[Below.heap_alloc wr o k (by have:=h.size;exact f6J)];exact g5F⟩
theorem y8t{w wr:World}{row}(h:w.grownBy wr row) p v(L:some p.block=row\/w.heap.size<=p.block):w.grownBy (wr.setCell p v) row:=by
 have b:=(Below.refl 0 wr).setCell (p:=p) (Nat.zero_le _) v;refine⟨b.os.trans h.os,b.tape.trans h.tape,b.output.trans h.output,Nat.le_trans h.size b.size,fun k G E=>?_⟩;rw[heap_setCell_other wr p k v ?_]
 ·exact g5F
 ·grind
theorem z1Y{w wr w':World}{row B}(h:w.grownBy wr row)(Y:Below B wr w')(l:w.heap.size<=B):w.grownBy w' row:=⟨Y.os.trans h.os,Y.tape.trans h.tape,Y.output.trans h.output,by have:=h.size;have:=Y.size;exact f6J,fun k G E=>by rw[Y.block k f6J];exact g5F⟩
theorem Blk.kept{w w'}{g t:Nat}{vs row}(h:Blk w g t vs)(C:w.grownBy w' row)(F:some g≠row):Blk w' g t vs:=(C.block g h.lt F).trans h
def cnts(k:Int->Int)(ms:List Int):List Int:=(List.range 255).map fun c=>((Od.ft k c ms).length:Int)
theorem x1s k ms:(cnts k ms).length=255:=by simp[cnts]
theorem x8M k ms{c}(I:c<255):(cnts k ms).getD c 0=((Od.ft k c ms).length:Int):=by simp[cnts,List.getD,I]
theorem y3z(k:Int->Int)(ms:List Int):∀c:Nat,c<=255->((cnts k ms).take c).sum=((Od.bkN k ms c).length:Int)
 | 0,_=>by simp[Od.bkN]
 | c+1,h=>by
  rw[y4q (by rw[x1s];exact f6J),y3z k ms c f6J,x8M k ms f6J,Od.z1p];simp
theorem z4J k ms{c}(I:c<255):(beg (cnts k ms)).getD c 0=(Od.plc k ms 0 c:Int):=by
 rw[z3F _ I,y3z k ms c f6J,Od.z2T]
theorem y3x k ms(h:ms.length<=3000000):∀c∈cnts k ms,0<=c/\c<=3000000:=fun c I=>by
 obtain⟨i,_,rfl⟩:=List.mem_map.1 I;have:(Od.ft k i ms).length<=ms.length:=List.length_filter_le _ _;omega
theorem z9B{A B C:List Value}{o i}(c:A.length=o)(hi:i<B.length):(A++B++C)[o+i]?=B[i]?:=by grind
theorem z6M{A B C:List Value}{o i} v(c:A.length=o)(hi:i<B.length):(A++B++C).set (o+i) v=A++B.set i v++C:=by grind
theorem x4I{g g2 t:Nat}{us:List Value}(h:g≠g2):∀(l:List Value) (o:Nat) (wr:World) (_:Blk wr g t us),Blk (wr.setCells g2 o l) g t us
 | [],_,_,b=>b
 | v::l,o,_,b=>x4I h l (o+1) _ (b.other (a:=⟨g2,o,none⟩) h v)
theorem x5k{P ops rest A}{a w w' Q}(T:A.guard=none) ty(x y:Operand)(B:A.op=.store ty x y) b o cells(J:a.eval x=.pointer (some ⟨b,o,none⟩))(hy:a.eval y=.agg cells)(C:w.there b o cells.size)(hi:(P.info? ty).map (·.size)=some cells.size)(Z:cells.all (·.oneCell')=true)(t:w.setCells b o cells.toList=w')(h:wpList P ops Q rest (a.put A.dst undef) w'):wpList P ops Q (A::rest) a w:=by
 subst t;exact wpList_store_mid T ty x y B b o cells J hy C hi Z h
theorem x6y{w:World}{row:Option Nat}(g:Nat)(L:some g=row\/w.heap.size<=g):∀(l:List Value) (o:Nat) (wr:World) (_:w.grownBy wr row),w.grownBy (wr.setCells g o l) row
 | [],_,_,h=>h
 | v::l,o,_,h=>x6y g L l (o+1) _ (y8t h ⟨g,o,none⟩ v L)
theorem y5d k g mb mcap yb yo ycap ms ys J A C w(hr:Blk w g 228 (.slice (some ⟨mb,0,none⟩) ms.length mcap::ia (cnts k ms)))(z:Blk w mb 231 (mc k ms++J))(aK:ms.length<=mcap/\mcap<=9223372036854775807)(hy:Blk w yb 21 (A++ir ys++C))(hA:A.length=yo)(s:ys.length=ms.length)(aP:ms.length<=ycap/\ycap<=9223372036854775807)(hk:Od.Mk k ms)(hn:ms.length<=3000000)(aI:g≠yb)(aL:mb≠yb):Calls prog 195 #[.pointer (some ⟨g,0,none⟩),.slice (some ⟨yb,yo,none⟩) ms.length ycap] w fun e w'=>e=.returned (.tuple #[])/\Blk w' yb 21 (A++ir (Od.bkt k ms)++C)/\w.grownBy w' (some yb):=by
 have K1:=O (y0Y g _ (cnts k ms) w hr (x1s k ms) (y3x k ms hn));obtain⟨be,bh⟩:=aK;obtain⟨bm,bn⟩:=aP;have HY:=O hy
 have HM:Hid (∀(W:World),w.grownBy W (some yb)->∀i:Nat,i<ms.length->W.cell? ⟨mb,i*2,none⟩=some (.int .i32 (ms.getD i 0))/\W.cell? ⟨mb,i*2+1,none⟩=some (.int .i64 (k (ms.getD i 0)))):=fun W t i hi=>by
  have h:=z.kept t (fun e=>aL (by simpa using e));have D:=z8C (k:=k) hi;have hl:=z8D k ms;exact⟨h.cell (by rw[List.getElem?_append_left f6J];exact D.1),h.cell (by rw[List.getElem?_append_left f6J];exact D.2)⟩
 have aO:=hy.lt;have aG:w.cell? ⟨g,0,none⟩=some (.slice (some ⟨mb,0,none⟩) ms.length mcap):=hr.cell rfl;have S:Hid (∀(W:World),w.grownBy W (some yb)->W.cell? ⟨g,0,none⟩=some (.slice (some ⟨mb,0,none⟩) ms.length mcap)):=fun W t=>(hr.kept t (fun e=>aI (by simpa using e))).cell rfl;have aA:=O (Od.y2a hk s);have ay:=O hk;have u:=O (x4G (cnts k ms));have L:Hid (∀c,c<255->(beg (cnts k ms)).getD c 0=(Od.plc k ms 0 c:Int)):=fun c I=>z4J k ms I;generalize beg (cnts k ms)=B at *;go_enter func195,ntmps195;go_wp2_with fail;refine c0m K1 fun w1 b1=>?_;have bj:=b1.size;obtain⟨X,Q⟩:∃X,w1.alloc (.cells Tryz.zeroCells226 226)=X:=⟨_,rfl⟩;have k2:Blk X w1.heap.size 226 (ia z255):=(by rw[<- Q];exact Blk.new w1 _ _ _ z7c);have g2:w.grownBy X (some yb):=(by rw[<- Q];exact y3L (z1Y (World.grownBy.refl w _) b1 (l0r _)) _);obtain⟨U,aH⟩:∃U,w1.heap.size=U:=⟨_,rfl⟩;rw[aH]at k2;have ae:w.heap.size<=U:=f6J;have G:=V u;have aN:X.there U 0 (ia B).toArray.size:=k2.there U8b;have q:(ia B).toArray.size=255:=(by simp[x3E,G]);obtain⟨x,l⟩:∃x,X.setCells U 0 (ia B).toArray.toList=x:=⟨_,rfl⟩
 have k3:Blk x U 226 (ia B):=by
  have:=k2.setCells (ia B) 0 U8b;rw[<- l];rw[List.take_zero,List.nil_append,List.drop_of_length_le U8b,List.append_nil]at this;exact this
 have g3:w.grownBy x (some yb):=by rw[<- l];exact x6y U (Or.inr ae) _ _ _ g2
 have y3:Blk x yb 21 (A++ir ys++C):=by
  have h1:w1.heap[yb]?=w.heap[yb]?:=b1.block yb aO;have D:Blk w1 yb 21 (A++ir ys++C):=h1.trans (V HY);have h3:Blk X yb 21 (A++ir ys++C):=(by rw[<- Q];exact D.alloc _);rw[<- l];exact x4I f6J _ _ _ h3
 have aG:=V S x g3;have K3:=O k3;have G3:=O g3;have Y3:=O y3;go_wp2_with(refine x5k (by rfl) 226 (.tmp 4) (.tmp 8) (by rfl) U 0 (ia B).toArray (by rfl) (by rfl) aN (by rw[q];exact x3t) (z3O _) l ?_);go_loopw[6,14] (fun _ kk wr=>∃(i:Nat) (y n:List Int),kk=.int .i64 i/\i<=ms.length/\Od.y4A k ms i y/\y.length=ms.length/\Blk wr yb 21 (A++ir y++C)/\n.length=255/\(∀c,c<255->n.getD c 0=(Od.plc k ms i c:Int))/\Blk wr U 226 (ia n)/\w.grownBy wr (some yb)) (fun _ kk _=>ms.length-(intOf kk).toNat)
 case atStart=>exact⟨0,ys,B,rfl,f6J,V aA,s,V Y3,V u,V L,V K3,V G3⟩
 case round =>
  obtain⟨i,y,n,rfl,ba,ag,Z,P,d,am,aj,o⟩:=hrel;by_cases H:i<ms.length
  ·obtain⟨c0,c1⟩:=V HM wr o i H;have aZ:=V ay (ms.getD i 0) N3H;obtain⟨c,I⟩:∃c:Nat,k (ms.getD i 0)=(c:Int):=⟨(k (ms.getD i 0)).toNat,f6J⟩;have F:c<255:=f6J;obtain⟨p1,p2⟩:=Od.y5e ag H I F;have aM:=fun Y=>Od.z2S (k:=k) Y H;have M:=am c F;obtain⟨p,hp⟩:∃p,Od.plc k ms i c=p:=⟨_,rfl⟩;rw[hp]at M p1 p2;rw[I]at c1;obtain⟨m,z⟩:∃m,ms.getD i 0=m:=⟨_,rfl⟩;rw[z]at c0 p2 I;obtain⟨N,ai⟩:∃N,wr.heap.size=N:=⟨_,rfl⟩;have aV:=o.size;have aX:=aj.lt;obtain⟨f,ab⟩:∃f,wr.alloc (.cells #[.int .i32 m,.int .i64 c] 231)=f:=⟨_,rfl⟩;have x0:f.cell? ⟨N,0,none⟩=some (.int .i32 m):=(by rw[<- ab,<- ai];exact M7L);have x1:f.cell? ⟨N,1,none⟩=some (.int .i64 c):=(by rw[<- ab,<- ai];exact M7L);have K:Blk f U 226 (ia n):=(by rw[<- ab];exact aj.alloc _);have E:Blk f yb 21 (A++ir y++C):=(by rw[<- ab];exact P.alloc _);have aD:w.grownBy f (some yb):=(by rw[<- ab];exact y3L o _);have x2:f.cell? ⟨U,c,none⟩=some (.int .i64 p):=(by rw[K.cell (y8E f6J),M]);have x3:f.cell? ⟨yb,yo+p,none⟩=some (.int .i32 (y.getD p 0)):=E.cell (by rw[z9B hA (by rw[x3G];exact f6J)];exact ir_at f6J);have f3:=E.frozen (yo+p);obtain⟨X,Q⟩:∃X,f.setCell ⟨yb,yo+p,none⟩ (.int .i32 m)=X:=⟨_,rfl⟩
   have aR:Blk X yb 21 (A++ir (y.set p m)++C):=by
    have:=E.set (yo+p) (.int .i32 m);rw[z6M _ hA (by rw[x3G];exact f6J),Q]at this;have e:(ir y).set p (.int .i32 m)=ir (y.set p m):=(by unfold ir;rw[List.map_set]);rw[e]at this;exact this
   have af:Blk X U 226 (ia n):=(by rw[<- Q];exact K.other (a:=⟨yb,yo+p,none⟩) (by show U≠yb;exact f6J) _);have aF:w.grownBy X (some yb):=(by rw[<- Q];exact y8t aD ⟨yb,yo+p,none⟩ _ (Or.inl rfl));have z0:X.cell? ⟨N,0,none⟩=some (.int .i32 m):=(by rw[<- Q,World.cell?_setCell_other _ _ _ _ N4C];exact x0);have z1:X.cell? ⟨N,1,none⟩=some (.int .i64 c):=(by rw[<- Q,World.cell?_setCell_other _ _ _ _ N4C];exact x1);have z2:X.cell? ⟨U,c,none⟩=some (.int .i64 p):=(by rw[af.cell (y8E f6J),M]);have f4:=af.frozen c;have hd:Hid (Od.y4A k ms (i+1) (y.set p m)):=p2;have aT:(p:Int)+1<=3000001:=f6J;have aW:(p:Int)<ms.length:=f6J;have aU:(c:Int)<255:=f6J;have aB:=O af;have aC:=O aR;have aq:=O aF;have T:=O am;have v:=O aM;have aY:=O M;have az:=O hp;have ar:=O I;have R:=O z;have aJ:(y.set p m).length=ms.length:=(by rw[List.length_set];exact Z);go_upto_region 4 with fail;go_region_held3(fun w'=>w'.cell? ⟨N,0,none⟩=some (.int .i32 m)/\w'.cell? ⟨N,1,none⟩=some (.int .i64 c)/\w'.cell? ⟨U,c,none⟩=some (.int .i64 p)) (first| exact⟨x0,x1,x2⟩ | exact⟨z0,z1,z2⟩ | go_keep) (fail);go_wp2
   go_roundw
   case rel =>
    have aQ:Blk (X.setCell ⟨U,c,none⟩ (.int .i64 ((p:Int)+1))) U 226 (ia (n.set c ((p:Int)+1))):=(by rw[<- y8F];exact(V aB).set c _);have aS:Blk (X.setCell ⟨U,c,none⟩ (.int .i64 ((p:Int)+1))) yb 21 (A++ir (y.set p m)++C):=(V aC).other (a:=⟨U,c,none⟩) (by show yb≠U;exact f6J) _;have j:w.grownBy (X.setCell ⟨U,c,none⟩ (.int .i64 ((p:Int)+1))) (some yb):=y8t (V aq) ⟨U,c,none⟩ _ (Or.inr ae);refine⟨i+1,y.set p m,n.set c ((p:Int)+1),g2A,f6J,V hd,aJ,aS,by rw[List.length_set];exact d,fun Y r=>?_,aQ,⟨j.os,j.tape,j.output,j.size,j.block⟩⟩;rw[x7d n c Y _ f6J,V v Y,V R,V ar];by_cases h:Y=c
    ·rw[if_pos h,if_pos (by rw[h]),h,V az];rfl
    ·rw[if_neg h,if_neg (fun e=>h f6J)];exact V T Y r
   case measure=>exact g7V
  ·obtain rfl:i=ms.length:=f6J;have he:=Od.y7G ag;subst he;have b:=O P;have aw:=O o;go_wp2;go_end0;exact⟨rfl,V b,V aw⟩
end Od
open Ti
namespace Od
theorem x8u{P w} t e ty b o n cap z(W:P.underlying t=some (.slice e))(A:∀w,(zeroValue e).run P w=.ok z w)(E:0<n) us(a:(Builtin.zeroCells z.cells n).toList=us)(L:w.there b o us.length)(Z:∀v∈us,v.oneCell'=true):(Builtin.clear_ #[t] ty #[.slice (some ⟨b,o,none⟩) n cap]).run P w=.ok (.tuple #[]) (w.setCells b o us):=by
 have U:(storeCells ⟨b,o,none⟩ us 0).run P w=.ok () (w.setCells b o us):=by
  have:=run_storeCells_cells (P:=P) b o us 0 w (fun j K=>by simpa using(L j K).1) (fun j K=>by simpa using(L j K).2) Z;exact W2K
 obtain⟨m,rfl⟩:∃m,n=m+1:=⟨n-1,f6J⟩;unfold Builtin.clear_;simp[Sem.run_bind,run_underlying W,A,a,U]
def x1F(w:World)(k:Int->Int)(g:Nat)(ms:List Int):Prop:=∃mv,Blk w g 228 (mv::ia (cnts k ms))/\w.ownsRow (g+1) 231 2 mv ms.length (mc k ms)
theorem x1F.shape{w k g ms}(h:x1F w k g ms):∃ao cap,Blk w g 228 (.slice ao ms.length cap::ia (cnts k ms))/\w.ownsRow (g+1) 231 2 (.slice ao ms.length cap) ms.length (mc k ms)/\ms.length<=cap/\cap<=9223372036854775807:=by
 obtain⟨B,Z,D⟩:=h;rcases D.2 with⟨rfl,A⟩|⟨q,cap,T,rfl,_,_,I,z,_⟩
 ·grind
 ·exact⟨_,cap,Z,D,I,by unfold maxLen at z;exact f6J⟩
theorem x8g k g v w(h:x1F w k g []):Calls prog 150 #[.pointer (some ⟨g,0,none⟩),v] w fun e w'=>e=.returned (.tuple #[])/\w'=w:=by
 obtain⟨R,M,Z,_,_,I⟩:=h.shape;have L:w.cell? ⟨g,0,none⟩=some (.slice R 0 M):=Z.cell rfl;go_enter func150,ntmps150;go_wp2;exact bodyPost_ret (v:=.tuple #[]) (results_none rfl _ _ _) rfl ⟨rfl,rfl⟩
theorem z7e w:(zeroValue 3).run prog w=.ok (.int .i64 0) w:=(zero_of_info (n:=1) f4x).1 w
theorem z3y w:(zeroValue 231).run prog w=.ok (.agg #[.int .i32 0,.int .i64 0]) w:=(zero_of_info (n:=2) f4x).1 w
theorem z7d:(Builtin.zeroCells (Value.int .i64 0).cells 255).toList=ia z255:=f4x
theorem y4z n:(Builtin.zeroCells (Value.agg #[.int .i32 0,.int .i64 0]).cells n).toList.length=n*2/\∀v∈(Builtin.zeroCells (Value.agg #[.int .i32 0,.int .i64 0]).cells n).toList,v.oneCell'=true:=by
 unfold Builtin.zeroCells;refine⟨by simp[Value.cells],fun v N=>?_⟩;simp only[Value.cells,Array.toList_map,List.mem_map]at N;obtain⟨i,_,rfl⟩:=N;have:i%#[Value.int .i32 0,.int .i64 0].size=0\/i%#[Value.int .i32 0,.int .i64 0].size=1:=(by grind);rcases this with h|h<;>rw[h]<;>rfl
theorem y3y k:cnts k []=z255:=by
 refine List.eq_replicate_iff.2 ⟨x1s k [],fun b Y=>?_⟩;obtain⟨i,_,rfl⟩:=List.mem_map.1 Y;rfl
theorem y5C k g yb o ycap ms ys A C w(h:x1F w k g ms)(hy:Blk w yb 21 (A++ir ys++C))(hA:A.length=o)(s:ys.length=ms.length)(J:o+ms.length<=ycap/\ycap<=9223372036854775807)(hk:Od.Mk k ms)(hn:ms.length<=3000000)(ho:o<=3000000)(ag:0<ms.length)(af:yb<g):Calls prog 150 #[.pointer (some ⟨g,0,none⟩),.slice (some ⟨yb,0,none⟩) (o+ms.length) ycap] w fun e w'=>e=.returned (.tuple #[])/\Blk w' yb 21 (A++ir (Od.bkt k ms)++C)/\x1F w' k g []/\Below yb w w':=by
 obtain⟨mv,Z,h2⟩:=h;obtain⟨n,h2⟩:=h2;rcases h2 with⟨_,h0⟩|⟨q,U,T,rfl,P,d,D,ab,M,u⟩
 ·omega
 have hm:Blk w q 231 (mc k ms++T.toList.drop (ms.length*2)):=by
  rw[<- u,List.take_append_drop];unfold Blk;rw[d]
 have H:U<=9223372036854775807:=(by unfold maxLen at ab;exact f6J);obtain⟨aq,y⟩:=J;have K1:=O (y5d k g q U yb o (ycap-o) ms ys _ A C w Z hm ⟨D,H⟩ hy hA s ⟨f6J,f6J⟩ hk hn f6J f6J);have ai:w.cell? ⟨g,0,none⟩=some (.slice (some ⟨q,0,none⟩) ms.length U):=Z.cell rfl
 have HK:Hid (∀W:World,Blk W yb 21 (A++ir (Od.bkt k ms)++C)->w.grownBy W (some yb)->∃X x G,W.setCells g 1 (ia z255)=X/\X.setCells q 0 (Builtin.zeroCells (Value.agg #[.int .i32 0,.int .i64 0]).cells ms.length).toList=x/\x.setCell ⟨g,0,none⟩ (.slice (some ⟨q,0,none⟩) 0 U)=G/\W.there g 1 (ia z255).length/\X.there q 0 (Builtin.zeroCells (Value.agg #[.int .i32 0,.int .i64 0]).cells ms.length).toList.length/\W.cell? ⟨g,0,none⟩=some (.slice (some ⟨q,0,none⟩) ms.length U)/\X.cell? ⟨g,0,none⟩=some (.slice (some ⟨q,0,none⟩) ms.length U)/\x.cell? ⟨g,0,none⟩=some (.slice (some ⟨q,0,none⟩) ms.length U)/\x.frozen? ⟨g,0,none⟩=false/\Blk G yb 21 (A++ir (Od.bkt k ms)++C)/\x1F G k g []/\Below yb w G):=fun W t hg=>by
  have r0:=Z.kept hg (fun e=>Nat.ne_of_gt af N5i);have m0:=hm.kept hg (fun e=>absurd (N5i:q=yb) f6J);have F:1+(ia z255).length<=(Value.slice (some ⟨q,0,none⟩) ms.length U::ia (cnts k ms)).length:=(by simp[x3E,z255,x1s]);have S:=r0.setCells (ia z255) 1 F
  have e1:(Value.slice (some ⟨q,0,none⟩) ms.length U::ia (cnts k ms)).take 1++ia z255++(Value.slice (some ⟨q,0,none⟩) ms.length U::ia (cnts k ms)).drop (1+(ia z255).length)=.slice (some ⟨q,0,none⟩) ms.length U::ia z255:=by
   rw[List.drop_of_length_le (by simp[x3E,z255,x1s])];simp
  rw[e1]at S;have m1:=x4I (g2:=g) f6J (ia z255) 1 W m0;obtain⟨R,_⟩:=y4z ms.length;have am:T.toList.length=U*2:=(Array.length_toList (xs:=T)).trans M;have I:(mc k ms++T.toList.drop (ms.length*2)).length=U*2:=(by grind);have m2:=m1.setCells (Builtin.zeroCells (Value.agg #[.int .i32 0,.int .i64 0]).cells ms.length).toList 0 (by rw[R,I];exact f6J);have r2:=x4I (g2:=q) f6J (Builtin.zeroCells (Value.agg #[.int .i32 0,.int .i64 0]).cells ms.length).toList 0 _ S;have r3:=r2.set 0 (.slice (some ⟨q,0,none⟩) 0 U);have m3:=m2.other (a:=⟨g,0,none⟩) (by show q≠g;exact f6J) (.slice (some ⟨q,0,none⟩) 0 U);have m:=x4I (g2:=g) f6J (ia z255) 1 W t;have y2:=x4I (g2:=q) f6J (Builtin.zeroCells (Value.agg #[.int .i32 0,.int .i64 0]).cells ms.length).toList 0 _ m;have y3:=y2.other (a:=⟨g,0,none⟩) (by show yb≠g;exact f6J) (.slice (some ⟨q,0,none⟩) 0 U);have b1:Below yb w W:=(b0r).grown hg (by have:=hy.lt;exact f6J) (fun j hj=>by simp at hj;exact f6J);have b2:=x0E (B:=yb) (g:=g) f6J (ia z255) 1 W b1;have b:=x0E (B:=yb) (g:=q) f6J (Builtin.zeroCells (Value.agg #[.int .i32 0,.int .i64 0]).cells ms.length).toList 0 _ b2;refine⟨_,_,_,rfl,rfl,rfl,r0.there F,m1.there (by rw[R,I];exact f6J),r0.cell rfl,S.cell rfl,r2.cell rfl,r2.frozen 0,y3,⟨.slice (some ⟨q,0,none⟩) 0 U,?_,⟨by simp[mc],Or.inr ⟨q,U,_,rfl,P,m3,Nat.zero_le _,ab,?_,by simp[mc]⟩⟩⟩,b.setCell (p:=⟨g,0,none⟩) (by show yb<=g;exact f6J) _⟩
  ·rw[y3y];exact r3
  ·grind
 have Y:=O (y4z ms.length);have aj:ms.length<=U:=D;generalize hgz:(Builtin.zeroCells (Value.agg #[.int .i32 0,.int .i64 0]).cells ms.length).toList=zz at *;have K:=O hgz;have E:¬((ms.length:Int)=0):=f6J;go_enter func150,ntmps150;go_wp2_with fail;refine(V K1).mono ?_;rintro e w1 ⟨rfl,m,g1⟩;obtain⟨X,x,G,Q,l,r,t2,t3,c1,c2,c3,f3,L,c,N⟩:=V HK w1 m g1;have ae:=O L;have f:=O c;have i:=O N
 have q1:(Builtin.clear_ #[275] 0 #[.slice (some ⟨g,1,none⟩) 255 255]).run prog w1=.ok (.tuple #[]) X:=by
  rw[<- Q];exact x8u 275 3 0 g 1 255 255 _ underlying275 z7e e8N (ia z255) z7d t2 (fun v hv=>by obtain⟨z,_,rfl⟩:=List.mem_map.1 hv;rfl)
 have q2:(Builtin.clear_ #[225] 0 #[.slice (some ⟨q,0,none⟩) ms.length U]).run prog X=.ok (.tuple #[]) x:=by
  rw[<- l];exact x8u 225 231 0 q 0 ms.length U _ underlying225 z3y ag zz (V K) t3 (V Y).2
 go_wp2;go_end0;exact⟨rfl,V ae,V f,V i⟩
end Od
open Ti
namespace Od
theorem z8v:∃i z,prog.info? 231=some i/\i.zero=some z/\i.size=2/\i.bytes=16/\z.cells.size=2:=by
 have h:(prog.info? 231).map (fun i=>(i.size,i.bytes,i.zero.map (·.cells.size)))=some (2,16,some 2):=f4x;exact w4S
theorem y6l w x y:(Instr.buildSlice 225 1 #[(0,.agg #[x,y])]).run prog w=.ok (.slice (some ⟨w.heap.size,0,none⟩) 1 1) (w.alloc (.cells #[x,y] 231)):=by
 obtain⟨i,z,hi,o,Z,_,R⟩:=z8v;refine run_buildSlice w 225 231 1 _ _ i z underlying225 hi o f0R f0R ?_;rw[Z];have:=Great.fill_whole (s:=2) e8M [Value.agg #[x,y]] ((Array.range (1*2)).map (z.cells[·%z.cells.size]!)) (fun v N=>by simp at N;subst N;simp[Value.cells]) M7L;simpa[Value.cells]using this
theorem y7w(k:Int->Int) ms m{c:Nat}(I:k m=c)(p:c<255):(cnts k ms).set c ((cnts k ms).getD c 0+1)=cnts k (ms++[m]):=by
 refine x4n (n:=255) (by rw[List.length_set,x1s]) (x1s _ _) (fun j K=>?_);rw[x7d _ c j _ (by rw[x1s];exact p),x8M _ _ K,x8M _ _ K,x8M _ _ p,Od.x6w,List.length_append];by_cases h:j=c
 ·rw[if_pos h,h];simp[Od.ft,I]
 ·rw[if_neg h]
  have:Od.ft k j [m]=[]:=by
   unfold Od.ft;rw[List.filter_cons_of_neg P8P];rfl
  rw[this];simp
theorem z6e k ms m:mc k (ms++[m])=mc k ms++[.int .i32 m,.int .i64 (k m)]:=by simp[mc,List.flatMap_append]
theorem y4g{w:World}{b e W n g o:Nat}{v xs}(h:w.ownsRow b e W v n xs)(F:v.ownBlock≠some g) u:(w.setCell ⟨g,o,none⟩ u).ownsRow b e W v n xs:=by
 refine⟨h.1,?_⟩;rcases h.2 with D|⟨j,M,T,P,f,E,A⟩
 ·exact Or.inl D
 ·refine Or.inr ⟨j,M,T,P,f,?_,A⟩;rw[heap_setCell_other w ⟨g,o,none⟩ j u (fun e=>F (by rw[P];exact congrArg some e))];exact E
theorem x6J W g u(h:W.cell? ⟨g,0,none⟩=some u):(Instr.loadAt 225 (.pointer (some ⟨g,0,none⟩))).run prog W=.ok u W:=by
 simp[Instr.loadAt,go_sem,Tryz.isAgg225,Tryz.sizeOf225,h,Addr.add]
theorem y0z k g ms m(A:Nat) w(h:x1F w k g ms)(hc:k m=(A:Int))(h1:1<=A)(h2:A<=254)(hn:ms.length<=3000000):Calls prog 149 #[.pointer (some ⟨g,0,none⟩),.agg #[.int .i32 m,.int .i64 (A:Int)]] w fun e w'=>e=.returned (.tuple #[])/\x1F w' k g (ms++[m])/\Below g w w':=by
 obtain⟨i0,z0,aL,aT,aU,aV,aW⟩:=z8v;obtain⟨R,U,hb,L,ba,be⟩:=h.shape;have x:A<255:=f6J;obtain⟨T,ay⟩:∃T,w.heap.size=T:=⟨_,rfl⟩;obtain⟨f,J⟩:∃f,w.alloc (.cells #[.int .i32 m,.int .i64 (A:Int)] 231)=f:=⟨_,rfl⟩;have aZ:=hb.lt;have E:f.drew.cell? ⟨T,0,none⟩=some (.int .i32 m):=F4f;have G:f.drew.cell? ⟨T,1,none⟩=some (.int .i64 (A:Int)):=F4f;have ar:Blk f.drew g 228 (.slice R ms.length U::ia (cnts k ms)):=(by rw[<- J];exact hb.alloc _);have D:f.drew.ownsRow (g+1) 231 2 (.slice R ms.length U) ms.length (mc k ms):=(by rw[<- J];exact(L.alloc _).drew);have H:Below g w f.drew:=(by rw[<- J];exact((b0r).alloc f6J _).drew);have aR:f.drew.heap.size=T+1:=F4f;obtain⟨X,Q⟩:∃X,f.drew.alloc (.cells #[.int .i32 m,.int .i64 (A:Int)] 231)=X:=⟨_,rfl⟩;obtain⟨gy,ab⟩:∃gy,f.drew.heap.size=gy:=⟨_,rfl⟩;have aS:X.heap.size=gy+1:=(by rw[<- Q];simp[ab]);have aw:(Instr.buildSlice 225 1 #[(0,.agg #[.int .i32 m,.int .i64 (A:Int)])]).run prog f.drew=.ok (.slice (some ⟨gy,0,none⟩) 1 1) X:=(by rw[<- Q,<- ab];exact y6l _ _ _);have af:X.cell? ⟨T,0,none⟩=some (.int .i32 m):=(by rw[<- Q,World.cell?_alloc_lt _ _ _ (by show T<_;exact f6J)];exact E);have ag:X.cell? ⟨T,1,none⟩=some (.int .i64 (A:Int)):=(by rw[<- Q,World.cell?_alloc_lt _ _ _ (by show T<_;exact f6J)];exact G);have F:Blk X g 228 (.slice R ms.length U::ia (cnts k ms)):=(by rw[<- Q];exact ar.alloc _);have s:X.ownsRow (g+1) 231 2 (.slice R ms.length U) ms.length (mc k ms):=(by rw[<- Q];exact D.alloc _);have ai:Below g w X:=(by rw[<- Q];exact H.alloc f6J _);have n:g+1<=X.heap.size:=f6J;have Y:(Instr.loadAt 225 (.pointer (some ⟨g,0,none⟩))).run prog f.drew=.ok (.slice R ms.length U) f.drew:=x6J _ _ _ (ar.cell rfl);have aH:(Instr.loadAt 225 (.pointer (some ⟨g,0,none⟩))).run prog X=.ok (.slice R ms.length U) X:=x6J _ _ _ (F.cell rfl)
 have aj:∀u∈[Value.int .i32 m,.int .i64 (A:Int)],u.oneCell'=true:=fun u hu=>by
  rcases List.mem_cons.1 hu with rfl|hu
  ·rfl
  ·obtain rfl:=List.mem_singleton.1 hu;rfl
 have z:=O s
 have t:Hid (∀(j:Nat) (u:Value),[Value.int .i32 m,.int .i64 (A:Int)][j]?=some u->X.cell? ((⟨gy,0,none⟩:Addr).add j)=some u):=fun j u hu=>by
  rw[Addr.add_mid,Nat.zero_add,<- Q,<- ab];exact(Blk.new f.drew 231 [Value.int .i32 m,.int .i64 (A:Int)] _ rfl).cell hu
 have am:Hid (∀(W:World) r M,W.cell? ⟨T,0,none⟩=some (.int .i32 m)->W.cell? ⟨T,1,none⟩=some (.int .i64 (A:Int))->(W.setCell ⟨g,0,none⟩ (.slice (some ⟨r,0,none⟩) (ms.length+1) M)).cell? ⟨T,0,none⟩=some (.int .i32 m)/\(W.setCell ⟨g,0,none⟩ (.slice (some ⟨r,0,none⟩) (ms.length+1) M)).cell? ⟨T,1,none⟩=some (.int .i64 (A:Int))):=fun W r M a b=>by
  have aF:∀i,(⟨g,0,none⟩:Addr)≠⟨T,i,none⟩:=fun i e=>E2Q;rw[World.cell?_setCell_other _ _ _ _ (aF 0),World.cell?_setCell_other _ _ _ _ (aF 1)];exact⟨a,b⟩
 obtain⟨q,hq⟩:∃q,(cnts k ms).getD A 0=q:=⟨_,rfl⟩
 have az:Hid (∀(W:World) (v:Value),W.cell? ⟨T,1,none⟩=some (.int .i64 (A:Int))->(W.setCell ⟨g,1+A,none⟩ v).cell? ⟨T,1,none⟩=some (.int .i64 (A:Int))):=fun W v a=>by
  rw[World.cell?_setCell_other _ _ _ _ (fun e=>E2Q)];exact a
 have P:Hid (∀r M (y:World),y.ownsRow (g+1) 231 2 (.slice (some ⟨r,0,none⟩) (ms.length+1) M) (ms.length+1) (mc k ms++[.int .i32 m,.int .i64 (A:Int)])->X.grownBy y (Value.slice R ms.length U).ownBlock->((Value.slice R ms.length U).ownBlock=some r\/r=X.heap.size)->y.cell? ⟨T,0,none⟩=some (.int .i32 m)/\y.cell? ⟨T,1,none⟩=some (.int .i64 (A:Int))/\y.cell? ⟨g,0,none⟩=some (.slice R ms.length U)/\y.frozen? ⟨g,0,none⟩=false/\∃W9,(y.setCell ⟨g,0,none⟩ (.slice (some ⟨r,0,none⟩) (ms.length+1) M)).drew=W9/\W9.cell? ⟨T,1,none⟩=some (.int .i64 (A:Int))/\W9.cell? ⟨g,1+A,none⟩=some (.int .i64 q)/\W9.frozen? ⟨g,1+A,none⟩=false/\x1F (W9.setCell ⟨g,1+A,none⟩ (.int .i64 (q+1))) k g (ms++[m])/\Below g w (W9.setCell ⟨g,1+A,none⟩ (.int .i64 (q+1)))):=fun r M y aP hg N=>by
  have ae:∀j,(Value.slice R ms.length U).ownBlock=some j->g+1<=j/\j<T:=fun j hj=>by
   have:=L.lt j hj;omega
  have aM:some g≠(Value.slice R ms.length U).ownBlock:=fun e=>(by have:=ae g e.symm;exact f6J);have aG:some T≠(Value.slice R ms.length U).ownBlock:=fun e=>(by have:=ae T e.symm;exact f6J);have Z:=F.kept hg aM;have u0:=hg.cell af aG;have u1:=hg.cell ag aG
  have aY:g+1<=r:=by
   rcases N with e|e
   ·exact(ae r e).1
   ·omega
  have d:=Z.set 0 (.slice (some ⟨r,0,none⟩) (ms.length+1) M);have l:Blk (y.setCell ⟨g,0,none⟩ (.slice (some ⟨r,0,none⟩) (ms.length+1) M)).drew g 228 (.slice (some ⟨r,0,none⟩) (ms.length+1) M::ia (cnts k ms)):=d;have aB:Below g w y:=ai.grown hg f6J (fun j hj=>by have:=ae j hj;exact f6J);have aC:Below g w (y.setCell ⟨g,0,none⟩ (.slice (some ⟨r,0,none⟩) (ms.length+1) M)).drew:=(aB.setCell (p:=⟨g,0,none⟩) (l0r _) _).drew;have aQ:(y.setCell ⟨g,0,none⟩ (.slice (some ⟨r,0,none⟩) (ms.length+1) M)).drew.ownsRow (g+1) 231 2 (.slice (some ⟨r,0,none⟩) (ms.length+1) M) (ms.length+1) (mc k ms++[.int .i32 m,.int .i64 (A:Int)]):=y4g aP (fun e=>absurd (G6a:r=g) f6J) _
  have aO:(Value.slice (some ⟨r,0,none⟩) (ms.length+1) M::ia (cnts k ms))[1+A]?=some (.int .i64 q):=by
   rw[Nat.add_comm 1 A,List.getElem?_cons_succ,y8E (by rw[x1s];exact x),hq]
  refine⟨u0,u1,Z.cell rfl,Z.frozen 0,_,rfl,?_,l.cell aO,l.frozen _,⟨.slice (some ⟨r,0,none⟩) (ms.length+1) M,?_,?_⟩,aC.setCell (p:=⟨g,1+A,none⟩) (l0r _) _⟩
  ·exact(V am y r M u0 u1).2
  ·have:=l.set (1+A) (.int .i64 (q+1));rw[Nat.add_comm 1 A,List.set_cons_succ,y8F,<- hq,y7w k ms m hc x,hq]at this;rw[Nat.add_comm 1 A];exact this
  ·rw[List.length_append,z6e,hc];exact y4g aQ (fun e=>absurd (G6a:r=g) f6J) _
 have aX:(A:Int)<255:=f6J;have aN:0<=q/\q<=3000000:=(by rw[<- hq];exact y3x k ms hn _ (by have:=x1s k ms;simp[List.getD,(f6J:A<(cnts k ms).length)]));obtain⟨bh,bj⟩:=aN;have bm:IntKind.i64.wrap (q+1)=q+1:=s7D;clear h hb L ar D H aR Q aS F s ai ab hc hq x;go_enter func149,ntmps149;go_upto_region 1 with fail;refine wp_region_held_drew (S:=fun w'=>w'.cell? ⟨T,0,none⟩=some (.int .i32 m)/\w'.cell? ⟨T,1,none⟩=some (.int .i64 (A:Int))) f4y (⟨E,G⟩) (fun hHeld=>?_);generalize f.drew=Wd at *;refine tk9 0 (.pointer (some ⟨g,0,none⟩)) ?_;refine tk9 1 (.pointer (some ⟨g,0,none⟩)) ?_;refine tk9 2 (.pointer (some ⟨g,0,none⟩)) ?_;refine tk9 3 (.pointer (some ⟨g,0,none⟩)) ?_;refine tk9 5 (.agg #[.int .i32 m,.int .i64 (A:Int)]) ?_ (hy:=by(intro w hSw;obtain⟨s0,s1⟩:=hSw;go_simp));refine wpAnyH_ready (rs:=[4,6]) f4y M7N ?_;refine AllReadyH.cons (o:=⟨some 8,_,_,_,_,_⟩) rfl (fun K hK=>?pa) (AllReadyH.cons (o:=⟨some 10,_,_,_,_,_⟩) rfl (fun K hK=>?pb) AllReadyH.nil)
 case' pa =>
  refine x1Z (by rfl) 225 (.tmp 7) (by rfl) _ _ (by rfl) Y ?_;refine hK.out _ _ (⟨E,G⟩) (fun hHeld=>?_);clear hK K
  try simp only[Act.put,sa9,sb9,sc9]
  refine rd9 6 fun K hK=>?_;refine x2u (by rfl) 225 (.tmp 9) (by rfl) _ _ (by rfl) aw ?_;refine hK.out _ _ (⟨af,ag⟩) (fun hHeld=>?_);clear hK K
  try simp only[Act.put,sa9,sb9,sc9]
 case' pb =>
  refine x2u (by rfl) 225 (.tmp 9) (by rfl) _ _ (by rfl) aw ?_;refine hK.out _ _ (⟨af,ag⟩) (fun hHeld=>?_);clear hK K
  try simp only[Act.put,sa9,sb9,sc9]
  refine rd9 4 fun K hK=>?_;refine x1Z (by rfl) 225 (.tmp 7) (by rfl) _ _ (by rfl) aH ?_;refine hK.out _ _ (⟨af,ag⟩) (fun hHeld=>?_);clear hK K
  try simp only[Act.put,sa9,sb9,sc9]
 all_goals
  refine rd9 7 fun K hK=>?_;refine step_append_lies _ (by rfl) (.tmp 8) (.tmp 10) 225 (by rfl) (g+1) 231 i0 z0 2 16 underlying225 aL aT aU aV aW f6J (.slice R ms.length U) ms.length (mc k ms) (by rfl) (V z) ⟨gy,0,none⟩ 1 1 [.int .i32 m,.int .i64 (A:Int)] (by rfl) (by rfl) (V t) aj f6J T7X f6J n X.heap.size rfl ?_;intro r M y C B N aD;obtain⟨s0,s1,aJ,aK,W9,aq,y1,y2,fy,aA,c⟩:=V P r M y C B N;refine hK.out _ _ ?_ (fun hHeld=>?_)
  ·exact⟨s0,s1⟩
  clear hK K
  try simp only[Act.put,sa9,sb9,sc9]
  refine tk9 8 (.pointer (some ⟨g,0,none⟩)) ?_;refine tk9 9 (.pointer (some ⟨g,0,none⟩)) ?_;refine rd9 10 fun K hK=>?_;go_simp;refine hK.out _ _ ?_ (fun hHeld=>?_)
  ·exact V am _ _ _ s0 s1
  clear hK K;refine wpAnyH_done f4y ?_ _;have I:=O aA;have aI:=O c;clear hHeld C B N aD s0 s1 aJ aK P z t aw Y aH aj n aA c am E G;go_upto_region 2 with fail;refine wp_region_held_drew (S:=fun w'=>w'.cell? ⟨T,1,none⟩=some (.int .i64 (A:Int))) f4y (by rw[aq];exact y1) (fun hHeld=>?_);rw[aq]at hHeld ⊢;clear aq;refine tk9 0 (.pointer (some ⟨g,0,none⟩)) ?_;refine tk9 1 (.pointer (some ⟨T,1,none⟩)) ?_;refine tk9 2 (.int .i64 (A:Int)) ?_;refine tk9 3 (.pointer (some ⟨g,0,none⟩)) ?_;refine tk9 4 (.pointer (some ⟨g,1,none⟩)) ?_;refine tk9 5 (.pointer (some ⟨g,1+A,none⟩)) ?_;refine tk9 8 (.pointer (some ⟨g,0,none⟩)) ?_;refine tk9 9 (.pointer (some ⟨g,1,none⟩)) ?_;refine rd9 6 fun K hK=>?_;go_simp;refine hK.out _ _ ?_ (fun hHeld=>?_)
  ·exact y1
  clear hK K
  try simp only[Act.put,sa9,sb9,sc9]
  refine tk9 7 (.int .i64 (q+1)) ?_;refine tk9 10 (.pointer (some ⟨g,1+A,none⟩)) ?_;refine rd9 11 fun K hK=>?_;go_simp;refine hK.out _ _ ?_ (fun hHeld=>?_)
  ·exact V az _ _ y1
  clear hK K;refine wpAnyH_done f4y ?_ _;clear hHeld;go_wp2;go_end0;exact⟨rfl,V I,V aI⟩
end Od
