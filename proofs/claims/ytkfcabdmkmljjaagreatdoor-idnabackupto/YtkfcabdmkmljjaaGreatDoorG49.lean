/- Lemmas. -/
import Derived.Test.YtkfcabdmkmljjaaGreatDoorG45
import Derived.Deep.QuietTactic
set_option maxHeartbeats 8000000
set_option maxRecDepth 20000
namespace Go.Proofs.YtkfcabdmkmljjaaGreatDoor
open Go.Proofs.Tryz
open Go.RowKit
section
variable{p:Prop}
theorem N5i(h:p:=by rw[u];clear u;go_enter func252,ntmps252;go_wp2_with fail;refine(V (Q _)).mono ?_;rintro e w ⟨rfl,rfl⟩;go_wp2_with fail;refine(V (x _)).mono ?_;rintro e w ⟨rfl,rfl⟩;go_wp2;go_ret;exact x0r.mk rfl):p:=h
theorem e2k(h:p:=by rw[x0o];exact f6J):p:=h
theorem V3b(h:p:=by rw[y0o];exact f6J):p:=h
theorem u3O(h:p:=by
 go_roundw
 case rel=>exact⟨i+1,v,g2B,f6J,.inl f6J,V F,V P,V ab,V M,V C,fun h=>f6J⟩
 case measure=>exact g7T):p:=h
end
namespace Pu
def cmpI(a b:Int):Int:=if a<b then -1 else if b<a then 1 else 0
def swapL(l:List Nat)(i j:Nat):List Nat:=(l.set i (l.getD j 0)).set j (l.getD i 0)
theorem z1x(l:List Nat)(i j:Nat):(swapL l i j).length=l.length:=by simp[swapL]
theorem y1f(l:List Nat)(j m z:Nat)(X:j<l.length):(l.set j z).getD m 0=if m=j then z else l.getD m 0:=by
 by_cases h:m=j
 ·subst h;exact S8d
 ·rw[if_neg h];simp[List.getD,List.getElem?_set_ne (Ne.symm h)]
theorem x3i{l:List Nat}{i j:Nat}(hi:i<l.length)(X:j<l.length)(m:Nat):(swapL l i j).getD m 0=if m=j then l.getD i 0 else if m=i then l.getD j 0 else l.getD m 0:=by
 unfold swapL;rw[y1f _ _ _ _ R1Z,y1f _ _ _ _ hi]
theorem x3j{l:List Nat}{i j:Nat}(hi:i<l.length)(X:j<l.length):(swapL l i j).Perm l:=by
 have h:=Array.swap_perm (xs:=l.toArray) (i:=i) (j:=j) w3y R1Z;have D:=Array.perm_iff_toList_perm.1 h;unfold swapL;simpa[List.getD,hi,X,Array.swap]using D
end Pu
theorem x6V(c:Int)(w:World):Calls prog 287 #[.int .i32 c] w (x1A w false):=by
 go_enter func287,ntmps287;go_wp2;go_ret;exact x1A.mk M7K
theorem y0H(a b:Int)(w:World):Calls prog 252 #[.int .i32 a,.int .i32 b] w (x0r w (Pu.cmpI a b)):=by
 have Q:=fun W=>O (x6V a W);have x:=fun W=>O (x6V b W);by_cases Z:a<b
 ·have u:Pu.cmpI a b=-1:=(by unfold Pu.cmpI;rw[if_pos Z]);exact N5i
 ·by_cases D:b<a
  ·have u:Pu.cmpI a b=1:=(by unfold Pu.cmpI;rw[if_neg Z,if_pos D]);exact N5i
  ·have u:Pu.cmpI a b=0:=(by unfold Pu.cmpI;rw[if_neg Z,if_neg D]);exact N5i
structure SrY(b B g n cap:Nat)(xv:Value)(xs:List Int)(w0 w1:World)(l:List Nat)(wr:World):Prop where
 x:XAt wr b xv
 sx:Sk .i32 w0 xv xs
 bel:Below w0.heap.size w0 wr
 row:Ok .i64 3 wr B (.slice (some ⟨g,0,none⟩) n cap) (x1a l)
 hB:w0.heap.size<=B
 ne:b≠g
 gr:w1.grownBy wr (some g)
 len:l.length=n
 lt:∀a∈l,a<xs.length
 xl:xs.length<=100000
theorem z0n{l:List Nat}{k:Nat}(G:k<l.length):(x1a l).getD k 0=((l.getD k 0:Nat):Int):=by simp[x1a,List.getD,G]
theorem SrY.hg{b B g n cap:Nat}{u:Value}{xs:List Int}{f w1 wr:World}{l:List Nat}(h:SrY b B g n cap u xs f w1 l wr):f.heap.size<=g:=by
 have:=(h.row.row.lt g rfl).1;have:=h.hB;omega
theorem SrY.drewN{b B g n cap:Nat}{u:Value}{xs:List Int}{f w1 wr:World}{l:List Nat}(h:SrY b B g n cap u xs f w1 l wr)(m:Nat):SrY b B g n cap u xs f w1 l (wr.drewN m) :=
 ⟨h.x,h.sx,h.bel.trans ((x0i ⟨m,rfl⟩:Bw wr _).mono h.bel.size),h.row.below (x0i ⟨m,rfl⟩),h.hB,h.ne,⟨h.gr.os,h.gr.tape,h.gr.output,h.gr.size,h.gr.block⟩,h.len,h.lt,h.xl⟩
theorem SrY.cell{b B g n cap:Nat}{u:Value}{xs:List Int}{f w1 wr:World}{l:List Nat}(h:SrY b B g n cap u xs f w1 l wr){k:Nat}(G:k<n):wr.cell? ⟨g,k,none⟩=some (.int .i64 ((l.getD k 0:Nat):Int)):=by
 have S:=h.len;obtain⟨m,F,K,P,_,_,I⟩:=h.row.sk.place e2k;simp only[Value.slice.injEq,Option.some.injEq,Addr.mk.injEq]at P;obtain⟨⟨rfl,rfl,_⟩,_,_⟩:=P;have:=I k e2k;rw[Nat.zero_add,z0n f6J]at this;exact this
theorem SrY.memlt{b B g n cap:Nat}{u:Value}{xs:List Int}{f w1 wr:World}{l:List Nat}(h:SrY b B g n cap u xs f w1 l wr){k:Nat}(G:k<n):l.getD k 0<xs.length :=
 h.lt _ (by have:=h.len;rw[List.getD,List.getElem?_eq_getElem f6J];exact List.getElem_mem _)
theorem Ok.setAtI{K:IntKind}{e:TypeId}{w:World}{B g n cap:Nat}{zs:List Int}(h:Ok K e w B (.slice (some ⟨g,0,none⟩) n cap) zs)(k:Nat)(z:Int)(G:k<zs.length)(T:Fit K [z]) :
  Ok K e (w.setCell ⟨g,k,none⟩ (.int K z)) B (.slice (some ⟨g,0,none⟩) n cap) (zs.set k z)/\w.cell? ⟨g,k,none⟩≠none/\w.frozen? ⟨g,k,none⟩=false:=by
 have Q:=h.row;rcases Q.2 with⟨R,_⟩ | ⟨S,t,P,N,Y,H,F,W,f,U⟩
 ·cases R
 ·simp only[Value.slice.injEq,Option.some.injEq,Addr.mk.injEq]at N;obtain⟨⟨rfl,_⟩,A,rfl⟩:=N;refine⟨Ok.of (n:=zs.length) (us:=(zs.set k z).map (Value.int K)) ?_ (by simpa using h.sk.len) ⟨M7K,.inr ⟨g,cap,P.setIfInBounds k (.int K z),by rw[A],Y,x0Z H _,F,W,by simpa using f,?_⟩⟩ M7K rfl,?_,?_⟩
  ·exact r7w
  ·exact R0Z
  ·simp[World.cell?,H];omega
  ·simp[World.frozen?,H]
theorem cmp_q(b:Nat)(u:Value)(xs:List Int)(f w:World)(a c:Nat)(A:XAt w b u)(L:Sk .i32 f u xs)(T:Bw f w)(d:a<xs.length)(I:c<xs.length)(S:xs.length<=100000) :
  Calls prog 251 #[.int .i64 a,.int .i64 c,.pointer (some ⟨b,0,none⟩)] w fun e w'=>e=.returned (.int .i64 (Pu.cmpI (xs.getD a 0) (xs.getD c 0)))/\∃m,w'=w.drewN m:=by
 obtain⟨E,l,D,N,H,g,F⟩:=L.place f6J
 have j:w.cell? ⟨E,l+a,none⟩=some (.int .i32 (xs.getD a 0)):=by
  have J:=F a d;rw[T.cell (x0a J)];exact J
 have Z:w.cell? ⟨E,l+c,none⟩=some (.int .i32 (xs.getD c 0)):=by
  have J:=F c I;rw[T.cell (x0a J)];exact J
 have B:=A.cell;subst N;have C:=fun W=>O (y0H (xs.getD a 0) (xs.getD c 0) W);clear F L T A;generalize Pu.cmpI (xs.getD a 0) (xs.getD c 0)=r at *;generalize xs.getD a 0=G at *;generalize xs.getD c 0=zc,xs.length=n at *;go_enter func251,ntmps251;go_wp2;go_quiet(first| (go_at_call 252;exact Calls.quiet_of_same (V (C _))));go_wp2;go_ret;exact⟨rfl,nq,rfl⟩
theorem SrY.cmp{b B g n cap:Nat}{u:Value}{xs:List Int}{f w1 wr:World}{l:List Nat}(h:SrY b B g n cap u xs f w1 l wr){i j:Nat}(hi:i<n)(X:j<n)(m:Nat) :
  Calls prog 251 #[.int .i64 ((l.getD i 0:Nat):Int),.int .i64 ((l.getD j 0:Nat):Int),.pointer (some ⟨b,0,none⟩)] (wr.drewN m) fun e w'=>e=.returned (.int .i64 (Pu.cmpI (xs.getD (l.getD i 0) 0) (xs.getD (l.getD j 0) 0)))/\∃k,w'=(wr.drewN m).drewN k :=
 cmp_q b u xs f (wr.drewN m) _ _ (h.drewN m).x h.sx (h.drewN m).bel (h.memlt hi) (h.memlt X) h.xl
theorem z0o(l:List Nat)(i z:Nat):x1a (l.set i z)=(x1a l).set i (z:Int):=by simp[x1a,List.map_set]
theorem SrY.put{b B g n cap:Nat}{u:Value}{xs:List Int}{f w1 wr:World}{l:List Nat}(h:SrY b B g n cap u xs f w1 l wr){i z:Nat}(hi:i<n)(T:z<xs.length):SrY b B g n cap u xs f w1 (l.set i z) (wr.setCell ⟨g,i,none⟩ (.int .i64 (z:Int))):=by
 have S:=h.len;have D:=h.xl;obtain⟨A,_,_⟩:=h.row.setAtI i (z:Int) e2k (fun y hy=>by simp at hy;subst hy;exact p3E);have C:=h.hg;refine⟨?_,h.sx,h.bel.setCell C _,by rw[z0o];exact A,h.hB,h.ne,x1h h.gr _,t2Y,fun a ha=>?_,D⟩
 ·unfold XAt;rw[x5d h.ne];exact h.x
 ·rcases List.mem_or_eq_of_mem_set ha with ha | ha
  ·exact h.lt a ha
  ·subst ha;exact T
theorem SrY.swap{b B g n cap:Nat}{u:Value}{xs:List Int}{f w1 wr:World}{l:List Nat}(h:SrY b B g n cap u xs f w1 l wr){i j:Nat}(hi:i<n)(X:j<n) :
  SrY b B g n cap u xs f w1 (Pu.swapL l i j) (((wr.setCell ⟨g,i,none⟩ (.int .i64 ((l.getD j 0:Nat):Int))).setCell ⟨g,j,none⟩ (.int .i64 ((l.getD i 0:Nat):Int))).drew) :=
 ((h.put hi (h.memlt X)).put X (h.memlt hi)).drewN 1
theorem SrY.frozen{b B g n cap:Nat}{u:Value}{xs:List Int}{f w1 wr:World}{l:List Nat}(h:SrY b B g n cap u xs f w1 l wr)(k:Nat):wr.frozen? ⟨g,k,none⟩=false:=by
 rcases h.row.row.2 with⟨R,_⟩ | ⟨S,t,P,N,Y,H,_⟩
 ·cases R
 ·simp only[Value.slice.injEq,Option.some.injEq,Addr.mk.injEq]at N;obtain⟨⟨rfl,_⟩,_,_⟩:=N;simp[World.frozen?,H]
theorem SrY.caps{b B g n cap:Nat}{u:Value}{xs:List Int}{f w1 wr:World}{l:List Nat}(h:SrY b B g n cap u xs f w1 l wr):n<=cap/\cap<=9223372036854775807:=by
 obtain⟨J,c,P,Z,D⟩:=h.row.sk.shape;simp only[Value.slice.injEq]at P;obtain⟨_,F,rfl⟩:=P;rw[x0o]at F Z;omega
def swR(l:List Nat)(a c:Nat):Nat->List Nat
 | 0=>l
 | k+1=>Pu.swapL (swR l a c k) (a+k) (c+k)
theorem y0o(l:List Nat)(a c k:Nat):(swR l a c k).length=l.length:=by
 induction k with
 | zero=>rfl
 | succ k ih=>rw[swR,Pu.z1x,ih]
def SrP(b B g n cap:Nat)(xv:Value)(xs:List Int)(w0 w1:World)(l:List Nat)(e:Ending)(w':World):Prop:=e=.returned (.tuple #[])/\SrY b B g n cap xv xs w0 w1 l w'
theorem x2w{b B g n cap:Nat}{u:Value}{xs:List Int}{f w1 w:World}{l:List Nat}(h:SrY b B g n cap u xs f w1 l w)(a c k:Nat)(L:Value)(Z:a+k<=c)(D:c+k<=n) :
  Calls prog 312 #[.slice (some ⟨g,0,none⟩) n cap,.int .i64 a,.int .i64 c,.int .i64 k,L] w (SrP b B g n cap u xs f w1 (swR l a c k)):=by
 have W:=h.caps;have H:=O h;clear h;go_enter func312,ntmps312;go_wp2;go_loopw[10] (fun N wr=>∃j:Nat,N=.int .i64 j/\j<=k/\SrY b B g n cap u xs f w1 (swR l a c j) wr) (fun N _=>k-(intOf N).toNat)
 case atStart=>exact⟨0,rfl,f6J,V H⟩
 case round =>
  clear H;obtain⟨j,rfl,X,K⟩:=hrel;by_cases E:j<k
  ·have t:=K.cell (k:=a+j) f6J;have F:=K.cell (k:=c+j) f6J;have G:=K.frozen (a+j);have R:=K.frozen (c+j);have C:=O (K.swap (i:=a+j) (j:=c+j) f6J f6J);have y:¬(a+j=c+j):=f6J;have Y:((a:Int)+(j:Int)).toNat=a+j:=f6J;have m:((c:Int)+(j:Int)).toNat=c+j:=f6J;clear K;generalize(swR l a c j).getD (a+j) 0=p,(swR l a c j).getD (c+j) 0=q at *;go_wp2;go_region;go_wp2
   go_roundw
   case rel=>exact⟨j+1,g2B,f6J,V C⟩
   case measure=>exact g7T
  ·have M:j=k:=f6J;subst M;have U:=O K;clear K;go_wp2;go_end0;exact t8u
theorem x7D{l:List Nat}{a c k:Nat}(Z:a+k<=c)(D:c+k<=l.length)(m:Nat):(swR l a c k).getD m 0=if a<=m/\m<a+k then l.getD (m-a+c) 0 else if c<=m/\m<c+k then l.getD (m-c+a) 0 else l.getD m 0:=by
 induction k generalizing m with
 | zero=>rw[swR,if_neg f6J,if_neg f6J]
 | succ k ih =>
  rw[swR,Pu.x3i V3b V3b];rw[ih f6J f6J,ih f6J f6J,ih f6J f6J];by_cases t:m=c+k
  ·subst t;rw[if_pos rfl,if_neg f6J,if_neg f6J,if_neg f6J,if_pos f6J];congr 1;omega
  ·rw[if_neg t];by_cases E:m=a+k
   ·subst E;rw[if_pos rfl,if_neg f6J,if_neg f6J,if_pos f6J];congr 1;omega
   ·rw[if_neg E];by_cases N:a<=m/\m<a+k
    ·rw[if_pos N,if_pos f6J]
    ·by_cases R:c<=m/\m<c+k
     ·rw[if_neg N,if_pos R,if_neg (f6J:¬(a<=m/\m<a+(k+1))),if_pos (f6J:c<=m/\m<c+(k+1))]
     ·rw[if_neg N,if_neg R,if_neg (f6J:¬(a<=m/\m<a+(k+1))),if_neg (f6J:¬(c<=m/\m<c+(k+1)))]
theorem y0p{l:List Nat}{a c k:Nat}(Z:a+k<=c)(D:c+k<=l.length):(swR l a c k).Perm l:=by
 induction k with
 | zero=>exact List.Perm.refl _
 | succ k ih =>
  rw[swR];exact(Pu.x3j V3b V3b).trans (ih f6J f6J)
def x0t(l:List Nat)(a m c k:Nat):Nat:=if a<=k/\k<c then(if k<a+(c-m)then l.getD (k+(m-a)) 0 else l.getD (k-(c-m)) 0)else l.getD k 0
theorem z4t{l:List Nat}{m i j:Nat}(hi:i<=m)(X:m+j<=l.length)(J:j<i)(k:Nat):x0t l (m-i) m (m+j) k=x0t (swR l (m-i) m j) (m-(i-j)) m (m+j) k:=by
 unfold x0t;rw[x7D f6J X,x7D f6J X,x7D f6J X];by_cases t:m-i<=k/\k<m+j
 ·rw[if_pos t];by_cases E:k<m-i+(m+j-m)
  ·rw[if_pos E,if_neg f6J,if_pos f6J];congr 1;omega
  ·rw[if_neg E,if_pos f6J];by_cases N:k<m-(i-j)+(m+j-m)
   ·rw[if_pos N];by_cases R:k+(m-(m-(i-j)))<m
    ·rw[if_neg f6J,if_neg f6J];congr 1;omega
    ·rw[if_neg f6J,if_pos f6J];congr 1;omega
   ·rw[if_neg N,if_neg f6J,if_neg f6J]
 ·rw[if_neg t,if_neg f6J,if_neg f6J,if_neg f6J]
theorem z4s{l:List Nat}{m i j:Nat}(hi:i<=m)(X:m+j<=l.length)(J:i<j)(k:Nat):x0t l (m-i) m (m+j) k=x0t (swR l (m-i) (m+j-i) i) (m-i) m (m+(j-i)) k:=by
 unfold x0t;rw[x7D f6J f6J,x7D f6J f6J,x7D f6J f6J];by_cases t:m-i<=k/\k<m+j
 ·rw[if_pos t];by_cases E:k<m-i+(m+j-m)
  ·rw[if_pos E,if_pos f6J];by_cases N:k<m-i+(m+(j-i)-m)
   ·rw[if_pos N,if_neg f6J,if_neg f6J]
   ·rw[if_neg N,if_pos f6J];congr 1;omega
  ·rw[if_neg E,if_neg f6J,if_neg f6J,if_pos f6J];congr 1;omega
 ·rw[if_neg t,if_neg f6J,if_neg f6J,if_neg f6J]
theorem z4u{l:List Nat}{m i:Nat}(hi:i<=m)(X:m+i<=l.length)(k:Nat):x0t l (m-i) m (m+i) k=(swR l (m-i) m i).getD k 0:=by
 unfold x0t;rw[x7D f6J X];by_cases t:m-i<=k/\k<m+i
 ·rw[if_pos t];by_cases E:k<m-i+(m+i-m)
  ·rw[if_pos E,if_pos f6J];congr 1;omega
  ·rw[if_neg E,if_neg f6J,if_pos f6J];congr 1;omega
 ·rw[if_neg t,if_neg f6J,if_neg f6J]
def RotP(b B g n cap:Nat)(xv:Value)(xs:List Int)(w0 w1:World)(l:List Nat)(a m c:Nat)(e:Ending)(w':World):Prop :=
 e=.returned (.tuple #[])/\∃l',SrY b B g n cap xv xs w0 w1 l' w'/\l'.Perm l/\∀k,l'.getD k 0=x0t l a m c k
theorem x8Q{b B g n cap:Nat}{u:Value}{xs:List Int}{X w1 w:World}{l:List Nat}(h:SrY b B g n cap u xs X w1 l w)(a m c:Nat)(L:Value)(Z:a<m)(p:m<c)(J:c<=n)(F:n<=100000) :
  Calls prog 310 #[.slice (some ⟨g,0,none⟩) n cap,.int .i64 a,.int .i64 m,.int .i64 c,L] w (RotP b B g n cap u xs X w1 l a m c):=by
 have W:=h.caps;have H:=O h;clear h;go_enter func310,ntmps310;go_wp2;go_loopw[10,11] (fun D N wr=>∃(i j:Nat) (A:List Nat),D=.int .i64 i/\N=.int .i64 j/\1<=i/\1<=j/\i<=m-a/\j<=c-m/\SrY b B g n cap u xs X w1 A wr/\A.Perm l/\∀k,x0t l a m c k=x0t A (m-i) m (m+j) k) (fun D N _=>(intOf D).toNat+(intOf N).toNat)
 case atStart=>exact⟨m-a,c-m,l,by rw[(f6J:((m-a:Nat):Int)=(m:Int)-a)],by rw[(f6J:((c-m:Nat):Int)=(c:Int)-m)],f6J,f6J,f6J,f6J,V H,List.Perm.refl _,fun k=>by rw[(f6J:m-(m-a)=a),(f6J:m+(c-m)=c)]⟩
 case round =>
  clear H;obtain⟨i,j,A,rfl,rfl,M,z,o,I,K,s,Q⟩:=hrel;have Y:=K.len;have T:(m:Int)-(i:Int)=((m-i:Nat):Int):=f6J;by_cases E:j<i
  ·have C:=O (x2w K (m-i) m j L f6J f6J);have f:Hid (∀k,x0t l a m c k=x0t (swR A (m-i) m j) (m-(i-j)) m (m+j) k):=fun k=>(Q k).trans (z4t f6J f6J E k);have S:Hid ((swR A (m-i) m j).Perm l):=(y0p f6J f6J).trans s;have y:((i:Int)==(j:Int))=false:=P8P;rw[<- T]at C;clear K s Q T;generalize swR A (m-i) m j=v at *;go_wp2_with(go_at_call 312;refine(V C).mono ?_;rintro e G ⟨rfl,d⟩);have r:=O d;clear d C
   go_roundw
   case rel=>exact⟨i-j,j,v,by rw[(f6J:((i-j:Nat):Int)=(i:Int)-j)],rfl,f6J,z,f6J,I,V r,V S,V f⟩
   case measure=>exact g7W
  ·by_cases x:i<j
   ·have C:=O (x2w K (m-i) (m+j-i) i L f6J f6J);have f:Hid (∀k,x0t l a m c k=x0t (swR A (m-i) (m+j-i) i) (m-i) m (m+(j-i)) k):=fun k=>(Q k).trans (z4s f6J f6J x k);have S:Hid ((swR A (m-i) (m+j-i) i).Perm l):=(y0p f6J f6J).trans s;have y:((i:Int)==(j:Int))=false:=P8P;have U:((m+j-i:Nat):Int)=(m:Int)+(j:Int)-(i:Int):=f6J;rw[<- T,U]at C;clear K s Q T U;generalize swR A (m-i) (m+j-i) i=v at *;go_wp2_with(go_at_call 312;refine(V C).mono ?_;rintro e G ⟨rfl,d⟩);have r:=O d;clear d C
    go_roundw
    case rel=>exact⟨i,j-i,v,rfl,by rw[(f6J:((j-i:Nat):Int)=(j:Int)-i)],M,f6J,o,f6J,V r,V S,V f⟩
    case measure=>exact g7W
   ·have P:i=j:=f6J;subst P;have C:=O (x2w K (m-i) m i L f6J f6J);have f:Hid (∀k,(swR A (m-i) m i).getD k 0=x0t l a m c k):=fun k=>((Q k).trans (z4u f6J f6J k)).symm;have S:Hid ((swR A (m-i) m i).Perm l):=(y0p f6J f6J).trans s;rw[<- T]at C;clear K s Q T;generalize swR A (m-i) m i=v at *;go_wp2_with(go_at_call 312;refine(V C).mono ?_;rintro e G ⟨rfl,d⟩);have r:=O d;clear d C;go_end0;exact⟨rfl,v,V r,V S,V f⟩
namespace Pu
def lx(xs:List Int)(x y:Nat):Prop:=xs.getD x 0<xs.getD y 0\/(xs.getD x 0=xs.getD y 0/\x<y)
theorem z3N{xs:List Int}{x y z:Nat}(Z:lx xs x y)(D:lx xs y z):lx xs x z:=by unfold lx at *;exact f6J
theorem q0t{xs:List Int}{x y:Nat}(Z:x<y)(D:¬xs.getD y 0<xs.getD x 0):lx xs x y:=by unfold lx;exact f6J
theorem x1X{a b:Int}:cmpI a b<0↔a<b:=by unfold cmpI;exact t3k
def SR(xs:List Int)(l:List Nat)(a c:Nat):Prop:=∀i j,a<=i->i<j->j<c->lx xs (l.getD i 0) (l.getD j 0)
def Org(l l':List Nat)(a c:Nat):Prop:=∀i,a<=i->i<c->∃i',a<=i'/\i'<c/\l'.getD i 0=l.getD i' 0
def Out(l l':List Nat)(a c:Nat):Prop:=∀k,k<a\/c<=k->l'.getD k 0=l.getD k 0
theorem Org.refl(l:List Nat)(a c:Nat):Org l l a c:=fun i Z D=>⟨i,Z,D,rfl⟩
theorem Out.refl(l:List Nat)(a c:Nat):Out l l a c:=fun _ _=>rfl
theorem Org.trans{P v y:List Nat}{a c:Nat}(h:Org P v a c)(k:Org v y a c):Org P y a c:=fun i Z D=>by
 obtain⟨j,J,H,K⟩:=k i Z D;obtain⟨m,q,A,W⟩:=h j J H;exact⟨m,q,A,K.trans W⟩
theorem Out.trans{P v y:List Nat}{a c:Nat}(h:Out P v a c)(k:Out v y a c):Out P y a c:=fun i Z=>(k i Z).trans (h i Z)
theorem Org.wide{l A:List Nat}{a c I c':Nat}(h:Org l A a c)(k:Out l A a c)(Z:I<=a)(D:c<=c'):Org l A I c':=fun i J H=>by
 by_cases hi:a<=i/\i<c
 ·obtain⟨j,K,q,y⟩:=h i hi.1 hi.2;exact⟨j,f6J,f6J,y⟩
 ·exact⟨i,J,H,k i f6J⟩
theorem Out.wide{l A:List Nat}{a c I c':Nat}(k:Out l A a c)(Z:I<=a)(D:c<=c'):Out l A I c':=fun i h=>k i f6J
theorem z4G{l:List Nat}{i j a c:Nat}(hi:i<l.length)(X:j<l.length)(Z:a<=i/\i<c)(D:a<=j/\j<c):Org l (swapL l i j) a c:=fun m J H=>by
 rw[x3i hi X];by_cases t:m=j
 ·rw[if_pos t];exact⟨i,Z.1,Z.2,rfl⟩
 ·rw[if_neg t];by_cases E:m=i
  ·rw[if_pos E];exact⟨j,D.1,D.2,rfl⟩
  ·rw[if_neg E];exact⟨m,J,H,rfl⟩
theorem z4H{l:List Nat}{i j a c:Nat}(hi:i<l.length)(X:j<l.length)(Z:a<=i/\i<c)(D:a<=j/\j<c):Out l (swapL l i j) a c:=fun m J=>by
 rw[x3i hi X,if_neg f6J,if_neg f6J]
structure Inv(xs:List Int)(l:List Nat)(a i j:Nat):Prop where
 A:∀p q,a<=p->p<q->q<=i->p≠j->q≠j->lx xs (l.getD p 0) (l.getD q 0)
 B:∀q,j<q->q<=i->lx xs (l.getD j 0) (l.getD q 0)
 C:∀p,a<=p->p<=i->p≠j->l.getD p 0<l.getD j 0
theorem Inv.step{xs:List Int}{l:List Nat}{a i j:Nat}(h:Inv xs l a i j)(Z:a<j)(D:j<=i)(S:i<l.length)(I:xs.getD (l.getD j 0) 0<xs.getD (l.getD (j-1) 0) 0):Inv xs (swapL l j (j-1)) a i (j-1):=by
 have F:=fun m=>x3i (l:=l) (i:=j) (j:=j-1) f6J f6J m;have M:(swapL l j (j-1)).getD (j-1) 0=l.getD j 0:=(by rw[F,if_pos rfl]);have L:(swapL l j (j-1)).getD j 0=l.getD (j-1) 0:=(by rw[F,if_neg f6J,if_pos rfl]);have G:∀m,m≠j->m≠j-1->(swapL l j (j-1)).getD m 0=l.getD m 0:=fun m J H=>(by rw[F,if_neg H,if_neg J]);refine⟨fun p q J H K N y=>?_,fun q J H=>?_,fun p J H K=>?_⟩
 ·by_cases t:p=j
  ·subst t;rw[L,G q f6J f6J];exact h.A _ _ f6J f6J K f6J f6J
  ·by_cases E:q=j
   ·subst E;rw[L,G p f6J f6J];exact h.A _ _ J f6J f6J f6J f6J
   ·rw[G p t N,G q E y];exact h.A _ _ J H K t E
 ·rw[M];by_cases t:q=j
  ·subst t;rw[L];exact .inl I
  ·rw[G q t f6J];exact h.B q f6J H
 ·rw[M];by_cases t:p=j
  ·subst t;rw[L];exact h.C _ f6J f6J f6J
  ·rw[G p t K];exact h.C p J H t
theorem Inv.done{xs:List Int}{l:List Nat}{a i j:Nat}(h:Inv xs l a i j)(Z:a<=j)(D:j<=i)(hc:j=a\/¬xs.getD (l.getD j 0) 0<xs.getD (l.getD (j-1) 0) 0):SR xs l a (i+1):=by
 intro p q J H K;by_cases t:p=j
 ·subst t;exact h.B q H f6J
 ·by_cases E:q=j
  ·subst E;rcases hc with hc | hc
   ·omega
   ·have S:=q0t (h.C (q-1) f6J f6J f6J) hc;by_cases N:p=q-1
    ·rw[N];exact S
    ·exact z3N (h.A p (q-1) J f6J f6J f6J f6J) S
  ·exact h.A p q J H f6J t E
theorem Inv.start{xs:List Int}{l P:List Nat}{a i c:Nat}(L:SR xs P a i)(j:Org l P a i)(d:Out l P a i)(A:i<c)(Q:∀p q,a<=p->p<q->q<c->l.getD p 0<l.getD q 0):Inv xs P a i i:=by
 refine⟨fun p q J H K C y=>L p q J H f6J,fun q J H=>f6J,fun p J H K=>?_⟩;obtain⟨B,C,y,W⟩:=j p J f6J;rw[W,d i f6J];exact Q B i C y A
end Pu
def SymP(b B g n cap:Nat)(xv:Value)(xs:List Int)(w0 w1:World)(l:List Nat)(a c:Nat)(e:Ending)(w':World):Prop :=
 e=.returned (.tuple #[])/\∃l',SrY b B g n cap xv xs w0 w1 l' w'/\l'.Perm l/\Pu.SR xs l' a c/\Pu.Org l l' a c/\Pu.Out l l' a c
theorem x4h{b B g n cap:Nat}{u:Value}{xs:List Int}{w0 w1 w:World}{l:List Nat}(h:SrY b B g n cap u xs w0 w1 l w)(a c:Nat)(h3:c<=n)(ha:a<=n)(hn:n<=100000)(Q:∀p q,a<=p->p<q->q<c->l.getD p 0<l.getD q 0) :
  Calls prog 297 #[.slice (some ⟨g,0,none⟩) n cap,.int .i64 a,.int .i64 c,.func (.func 251) #[] #[.pointer (some ⟨b,0,none⟩)]] w (SymP b B g n cap u xs w0 w1 l a c):=by
 have W:=h.caps;have H:=O h;have x:=O Q;clear h Q;go_enter func297,ntmps297;go_wp2;go_loopw[8,9] (fun D _ wr=>∃(i:Nat) (l1:List Nat),D=.int .i64 i/\a<i/\(i<=c\/i=a+1)/\SrY b B g n cap u xs w0 w1 l1 wr/\l1.Perm l/\Pu.SR xs l1 a i/\Pu.Org l l1 a i/\Pu.Out l l1 a i/\(i=a+1->l1=l)) (fun D _ _=>n+1-(intOf D).toNat)
 case atStart=>exact⟨a+1,l,g2B,f6J,.inr rfl,V H,List.Perm.refl _,fun i j h1 h2 h4=>f6J,Pu.Org.refl _ _ _,Pu.Out.refl _ _ _,fun _=>rfl⟩
 case round =>
  clear H;obtain⟨i,l1,rfl,X,A,K,s,Z,L,G,S⟩:=hrel;obtain⟨wo,aj⟩:∃wo,wo=wr:=⟨_,rfl⟩;subst aj;by_cases ai:i<c
  ·have o:=Pu.Inv.start Z L G ai (V x);have HI:=O o;have r:=O K;have HP:=O s;have d:=O (L.wide G (l0r a) (Nat.le_succ i));have z:=O (G.wide (l0r a) (Nat.le_succ i));clear o K s Z L G S;go_wp2;go_loopw[9] (fun jj wr=>∃(j:Nat) (v:List Nat),jj=.int .i64 j/\a<=j/\j<=i/\SrY b B g n cap u xs w0 w1 v wr/\v.Perm l/\Pu.Inv xs v a i j/\Pu.Org l v a (i+1)/\Pu.Out l v a (i+1)) (fun jj _=>(intOf jj).toNat)
   case atStart=>exact⟨i,l1,rfl,f6J,l0r _,V r,V HP,V HI,V d,V z⟩
   case round =>
    clear r HP HI d z;obtain⟨j,v,rfl,ae,Y,K,s,o,L,G⟩:=hrel;have aA:=K.len;by_cases hj:a<j
    ·have t:=K.cell (k:=j) f6J;have E:=K.cell (k:=j-1) f6J;have N:=K.frozen j;have R:=K.frozen (j-1);have HC:=fun m=>O (K.cmp (i:=j) (j:=j-1) f6J f6J m);have az:((j:Int)-1).toNat=j-1:=f6J;have af:(j:Int)-1=((j-1:Nat):Int):=f6J;by_cases I:xs.getD (v.getD j 0) 0<xs.getD (v.getD (j-1) 0) 0
     ·have U:Pu.cmpI (xs.getD (v.getD j 0) 0) (xs.getD (v.getD (j-1) 0) 0)<0:=Pu.x1X.2 I;have f:=O fun m=>(K.drewN m).swap (i:=j) (j:=j-1) f6J f6J;have ag:=O (o.step hj Y f6J I);have P:=O ((Pu.x3j (l:=v) (i:=j) (j:=j-1) f6J f6J).trans s);have M:=O (L.trans (Pu.z4G (l:=v) (i:=j) (j:=j-1) (a:=a) (c:=i+1) f6J f6J f6J f6J));have C:=O (G.trans (Pu.z4H (l:=v) (i:=j) (j:=j-1) (a:=a) (c:=i+1) f6J f6J f6J f6J));clear K s o L G I;generalize Pu.swapL v j (j-1)=l3,Pu.cmpI (xs.getD (v.getD j 0) 0) (xs.getD (v.getD (j-1) 0) 0)=J at *;generalize v.getD j 0=p,v.getD (j-1) 0=q at *;go_wp2;go_quiet(first| (go_at_call 251;exact Calls.quiet_of (V (HC _))));have aq:(wr.drewN nq).cell? ⟨g,j,none⟩=some (.int .i64 (p:Int)):=t;have ar:(wr.drewN nq).cell? ⟨g,j-1,none⟩=some (.int .i64 (q:Int)):=E;have aw:(wr.drewN nq).frozen? ⟨g,j,none⟩=false:=N;have ay:(wr.drewN nq).frozen? ⟨g,j-1,none⟩=false:=R;have F:=O (V f nq);clear t E N R f HC U;generalize wr.drewN nq=T at *;have y:¬(j=j-1):=f6J;go_wp2;go_region;go_wp2
      go_roundw
      case rel=>exact⟨j-1,l3,by first| rfl|(rw[af]) | go_num,f6J,f6J,V F,V P,V ag,V M,V C⟩
      case measure=>exact g7T
     ·have U:¬Pu.cmpI (xs.getD (v.getD j 0) 0) (xs.getD (v.getD (j-1) 0) 0)<0:=fun hh=>I (Pu.x1X.1 hh);have f:=O fun m=>K.drewN m;have ab:=O (o.done ae Y (.inr I));have P:=O s;have M:=O L;have C:=O G;clear K s o L G I;generalize Pu.cmpI (xs.getD (v.getD j 0) 0) (xs.getD (v.getD (j-1) 0) 0)=J at *;generalize v.getD j 0=p at *;generalize v.getD (j-1) 0=q at *;have am:(decide (J<0))=false:=d0f U;go_wp2;go_quiet(first| (go_at_call 251;exact Calls.quiet_of (V (HC _))));have F:=O (V f nq);clear t E N R f HC;generalize wr.drewN nq=T at *;go_wp2
      exact u3O
    ·have f:=O fun m=>K.drewN m;have ab:=O (o.done ae Y (.inl f6J));have P:=O s;have M:=O L;have C:=O G;clear K s o L G;go_wp2;go_quiet(fail);have F:=O (V f nq);clear f;generalize wr.drewN nq=T at *;go_wp2
     exact u3O
  ·have HF:Hid (SymP b B g n cap u xs w0 w1 l a c (.returned (.tuple #[])) wo):=by
    refine⟨rfl,l1,K,s,?_,?_,?_⟩
    ·intro p q h1 h2 h4;exact Z p q h1 h2 f6J
    ·rcases A with h1 | h1
     ·have:i=c:=f6J;subst this;exact L
     ·rw[S h1];exact Pu.Org.refl _ _ _
    ·rcases A with h1 | h1
     ·have:i=c:=f6J;subst this;exact G
     ·rw[S h1];exact Pu.Out.refl _ _ _
   clear K s Z L G S;go_wp2;go_end0;exact V HF
