/- Lemmas. -/
import Derived.Test.YtkfcabdmkmljjaaGreatDoorH45
import Derived.Deep.QuietTactic
set_option maxHeartbeats 8000000
set_option maxRecDepth 20000
namespace Go.Proofs.YtkfcabdmkmljjaaGreatDoor
open Go.Proofs.Tryz
open Go.RowKit
section
variable{p:Prop}
theorem p9k(h:p:=by rw[u];clear u;go_enter func252,ntmps252;go_wp2_with fail;refine(V (E _)).mono ?_;rintro e w ⟨rfl,rfl⟩;go_wp2_with fail;refine(V (x _)).mono ?_;rintro e w ⟨rfl,rfl⟩;go_wp2;go_ret;exact x0r.mk rfl):p:=h
theorem e2k(h:p:=by rw[x0o];exact f6J):p:=h
theorem M1P(h:p:=by rw[y0e];exact f6J):p:=h
theorem R8X(h:p:=by
 go_roundw
 case rel=>exact⟨i+1,T,g2A,f6J,.inl f6J,V d,V W,V ae,V M,V A,fun h=>f6J⟩
 case measure=>exact g7T):p:=h
theorem N7S(h:p:=by go_wp2;go_end0;exact V HF):p:=h
end
namespace Pu
def cmpI(a b:Int):Int:=if a<b then -1 else if b<a then 1 else 0
def swapL(l:List Nat)(i j:Nat):List Nat:=(l.set i (l.getD j 0)).set j (l.getD i 0)
theorem z1k(l:List Nat)(i j:Nat):(swapL l i j).length=l.length:=by simp[swapL]
theorem y0T(l:List Nat)(j m z:Nat)(X:j<l.length):(l.set j z).getD m 0=if m=j then z else l.getD m 0:=by
 by_cases h:m=j
 ·subst h;exact S8d
 ·rw[if_neg h];simp[List.getD,List.getElem?_set_ne (Ne.symm h)]
theorem x3j{l:List Nat}{i j:Nat}(hi:i<l.length)(X:j<l.length)(m:Nat):(swapL l i j).getD m 0=if m=j then l.getD i 0 else if m=i then l.getD j 0 else l.getD m 0:=by
 unfold swapL;rw[y0T _ _ _ _ R1Z,y0T _ _ _ _ hi]
theorem x3k{l:List Nat}{i j:Nat}(hi:i<l.length)(X:j<l.length):(swapL l i j).Perm l:=by
 have h:=Array.swap_perm (xs:=l.toArray) (i:=i) (j:=j) w3y R1Z;have D:=Array.perm_iff_toList_perm.1 h;unfold swapL;simpa[List.getD,hi,X,Array.swap]using D
end Pu
theorem x6Q(c:Int)(w:World):Calls prog 287 #[.int .i32 c] w (x1y w false):=by
 go_enter func287,ntmps287;go_wp2;go_ret;exact x1y.mk M7K
theorem y0x(a b:Int)(w:World):Calls prog 252 #[.int .i32 a,.int .i32 b] w (x0r w (Pu.cmpI a b)):=by
 have E:=fun W=>O (x6Q a W);have x:=fun W=>O (x6Q b W);by_cases Z:a<b
 ·have u:Pu.cmpI a b=-1:=(by unfold Pu.cmpI;rw[if_pos Z]);exact p9k
 ·by_cases D:b<a
  ·have u:Pu.cmpI a b=1:=(by unfold Pu.cmpI;rw[if_neg Z,if_pos D]);exact p9k
  ·have u:Pu.cmpI a b=0:=(by unfold Pu.cmpI;rw[if_neg Z,if_neg D]);exact p9k
structure SrY(b B g n cap:Nat)(xv:Value)(xs:List Int)(w0 w1:World)(l:List Nat)(wr:World):Prop where
 x:XAt wr b xv
 sx:Sk .i32 w0 xv xs
 bel:Below w0.heap.size w0 wr
 row:Ok .i64 3 wr B (.slice (some ⟨g,0,none⟩) n cap) (x0Z l)
 hB:w0.heap.size<=B
 ne:b≠g
 gr:w1.grownBy wr (some g)
 len:l.length=n
 lt:∀a∈l,a<xs.length
 xl:xs.length<=100000
theorem z0b{l:List Nat}{k:Nat}(G:k<l.length):(x0Z l).getD k 0=((l.getD k 0:Nat):Int):=by simp[x0Z,List.getD,G]
theorem SrY.hg{b B g n cap:Nat}{u:Value}{xs:List Int}{f w1 wr:World}{l:List Nat}(h:SrY b B g n cap u xs f w1 l wr):f.heap.size<=g:=by
 have:=(h.row.row.lt g rfl).1;have:=h.hB;omega
theorem SrY.drewN{b B g n cap:Nat}{u:Value}{xs:List Int}{f w1 wr:World}{l:List Nat}(h:SrY b B g n cap u xs f w1 l wr)(m:Nat):SrY b B g n cap u xs f w1 l (wr.drewN m) :=
 ⟨h.x,h.sx,h.bel.trans ((x0i ⟨m,rfl⟩:Bw wr _).mono h.bel.size),h.row.below (x0i ⟨m,rfl⟩),h.hB,h.ne,⟨h.gr.os,h.gr.tape,h.gr.output,h.gr.size,h.gr.block⟩,h.len,h.lt,h.xl⟩
theorem SrY.cell{b B g n cap:Nat}{u:Value}{xs:List Int}{f w1 wr:World}{l:List Nat}(h:SrY b B g n cap u xs f w1 l wr){k:Nat}(G:k<n):wr.cell? ⟨g,k,none⟩=some (.int .i64 ((l.getD k 0:Nat):Int)):=by
 have S:=h.len;obtain⟨A,F,C,q,_,_,I⟩:=h.row.sk.place e2k;simp only[Value.slice.injEq,Option.some.injEq,Addr.mk.injEq]at q;obtain⟨⟨rfl,rfl,_⟩,_,_⟩:=q;have:=I k e2k;rw[Nat.zero_add,z0b f6J]at this;exact this
theorem SrY.memlt{b B g n cap:Nat}{u:Value}{xs:List Int}{f w1 wr:World}{l:List Nat}(h:SrY b B g n cap u xs f w1 l wr){k:Nat}(G:k<n):l.getD k 0<xs.length :=
 h.lt _ (by have:=h.len;rw[List.getD,List.getElem?_eq_getElem f6J];exact List.getElem_mem _)
theorem Ok.setAtI{K:IntKind}{e:TypeId}{w:World}{B g n cap:Nat}{zs:List Int}(h:Ok K e w B (.slice (some ⟨g,0,none⟩) n cap) zs)(k:Nat)(z:Int)(D:k<zs.length)(T:Fit K [z]) :
  Ok K e (w.setCell ⟨g,k,none⟩ (.int K z)) B (.slice (some ⟨g,0,none⟩) n cap) (zs.set k z)/\w.cell? ⟨g,k,none⟩≠none/\w.frozen? ⟨g,k,none⟩=false:=by
 have J:=h.row;rcases J.2 with⟨R,_⟩ | ⟨S,A,Q,N,Y,H,F,G,f,U⟩
 ·cases R
 ·simp only[Value.slice.injEq,Option.some.injEq,Addr.mk.injEq]at N;obtain⟨⟨rfl,_⟩,C,rfl⟩:=N;refine⟨Ok.of (n:=zs.length) (us:=(zs.set k z).map (Value.int K)) ?_ (by simpa using h.sk.len) ⟨M7K,.inr ⟨g,cap,Q.setIfInBounds k (.int K z),by rw[C],Y,x0Y H _,F,G,by simpa using f,?_⟩⟩ M7K rfl,?_,?_⟩
  ·exact r7w
  ·exact R0Z
  ·simp[World.cell?,H];omega
  ·simp[World.frozen?,H]
theorem cmp_q(b:Nat)(u:Value)(xs:List Int)(f w:World)(a c:Nat)(A:XAt w b u)(L:Sk .i32 f u xs)(T:Bw f w)(g:a<xs.length)(I:c<xs.length)(S:xs.length<=100000) :
  Calls prog 251 #[.int .i64 a,.int .i64 c,.pointer (some ⟨b,0,none⟩)] w fun e w'=>e=.returned (.int .i64 (Pu.cmpI (xs.getD a 0) (xs.getD c 0)))/\∃m,w'=w.drewN m:=by
 obtain⟨p,Q,D,N,l,H,F⟩:=L.place f6J
 have B:w.cell? ⟨p,Q+a,none⟩=some (.int .i32 (xs.getD a 0)):=by
  have J:=F a g;rw[T.cell (x0a J)];exact J
 have Y:w.cell? ⟨p,Q+c,none⟩=some (.int .i32 (xs.getD c 0)):=by
  have J:=F c I;rw[T.cell (x0a J)];exact J
 have R:=A.cell;subst N;have C:=fun W=>O (y0x (xs.getD a 0) (xs.getD c 0) W);clear F L T A;generalize Pu.cmpI (xs.getD a 0) (xs.getD c 0)=r at *;generalize xs.getD a 0=E at *;generalize xs.getD c 0=zc,xs.length=n at *;go_enter func251,ntmps251;go_wp2;go_quiet(first| (go_at_call 252;exact Calls.quiet_of_same (V (C _))));go_wp2;go_ret;exact⟨rfl,nq,rfl⟩
theorem SrY.cmp{b B g n cap:Nat}{u:Value}{xs:List Int}{f w1 wr:World}{l:List Nat}(h:SrY b B g n cap u xs f w1 l wr){i j:Nat}(hi:i<n)(X:j<n)(m:Nat) :
  Calls prog 251 #[.int .i64 ((l.getD i 0:Nat):Int),.int .i64 ((l.getD j 0:Nat):Int),.pointer (some ⟨b,0,none⟩)] (wr.drewN m) fun e w'=>e=.returned (.int .i64 (Pu.cmpI (xs.getD (l.getD i 0) 0) (xs.getD (l.getD j 0) 0)))/\∃k,w'=(wr.drewN m).drewN k :=
 cmp_q b u xs f (wr.drewN m) _ _ (h.drewN m).x h.sx (h.drewN m).bel (h.memlt hi) (h.memlt X) h.xl
theorem z0c(l:List Nat)(i z:Nat):x0Z (l.set i z)=(x0Z l).set i (z:Int):=by simp[x0Z,List.map_set]
theorem SrY.put{b B g n cap:Nat}{u:Value}{xs:List Int}{f w1 wr:World}{l:List Nat}(h:SrY b B g n cap u xs f w1 l wr){i z:Nat}(hi:i<n)(T:z<xs.length):SrY b B g n cap u xs f w1 (l.set i z) (wr.setCell ⟨g,i,none⟩ (.int .i64 (z:Int))):=by
 have S:=h.len;have D:=h.xl;obtain⟨A,_,_⟩:=h.row.setAtI i (z:Int) e2k (fun y hy=>by simp at hy;subst hy;exact p3E);have C:=h.hg;refine⟨?_,h.sx,h.bel.setCell C _,by rw[z0c];exact A,h.hB,h.ne,x1i h.gr _,t2Y,fun a ha=>?_,D⟩
 ·unfold XAt;rw[x5b h.ne];exact h.x
 ·rcases List.mem_or_eq_of_mem_set ha with ha | ha
  ·exact h.lt a ha
  ·subst ha;exact T
theorem SrY.swap{b B g n cap:Nat}{u:Value}{xs:List Int}{f w1 wr:World}{l:List Nat}(h:SrY b B g n cap u xs f w1 l wr){i j:Nat}(hi:i<n)(X:j<n) :
  SrY b B g n cap u xs f w1 (Pu.swapL l i j) (((wr.setCell ⟨g,i,none⟩ (.int .i64 ((l.getD j 0:Nat):Int))).setCell ⟨g,j,none⟩ (.int .i64 ((l.getD i 0:Nat):Int))).drew) :=
 ((h.put hi (h.memlt X)).put X (h.memlt hi)).drewN 1
theorem SrY.frozen{b B g n cap:Nat}{u:Value}{xs:List Int}{f w1 wr:World}{l:List Nat}(h:SrY b B g n cap u xs f w1 l wr)(k:Nat):wr.frozen? ⟨g,k,none⟩=false:=by
 rcases h.row.row.2 with⟨R,_⟩ | ⟨S,A,Q,N,Y,H,_⟩
 ·cases R
 ·simp only[Value.slice.injEq,Option.some.injEq,Addr.mk.injEq]at N;obtain⟨⟨rfl,_⟩,_,_⟩:=N;simp[World.frozen?,H]
theorem SrY.caps{b B g n cap:Nat}{u:Value}{xs:List Int}{f w1 wr:World}{l:List Nat}(h:SrY b B g n cap u xs f w1 l wr):n<=cap/\cap<=9223372036854775807:=by
 obtain⟨A,c,q,Z,D⟩:=h.row.sk.shape;simp only[Value.slice.injEq]at q;obtain⟨_,F,rfl⟩:=q;rw[x0o]at F Z;omega
def swR(l:List Nat)(a c:Nat):Nat->List Nat
 | 0=>l
 | k+1=>Pu.swapL (swR l a c k) (a+k) (c+k)
theorem y0e(l:List Nat)(a c k:Nat):(swR l a c k).length=l.length:=by
 induction k with
 | zero=>rfl
 | succ k ih=>rw[swR,Pu.z1k,ih]
def SrP(b B g n cap:Nat)(xv:Value)(xs:List Int)(w0 w1:World)(l:List Nat)(e:Ending)(w':World):Prop:=e=.returned (.tuple #[])/\SrY b B g n cap xv xs w0 w1 l w'
theorem x2w{b B g n cap:Nat}{u:Value}{xs:List Int}{f w1 w:World}{l:List Nat}(h:SrY b B g n cap u xs f w1 l w)(a c k:Nat)(L:Value)(Z:a+k<=c)(D:c+k<=n) :
  Calls prog 312 #[.slice (some ⟨g,0,none⟩) n cap,.int .i64 a,.int .i64 c,.int .i64 k,L] w (SrP b B g n cap u xs f w1 (swR l a c k)):=by
 have G:=h.caps;have H:=O h;clear h;go_enter func312,ntmps312;go_wp2;go_loopw[10] (fun M wr=>∃j:Nat,M=.int .i64 j/\j<=k/\SrY b B g n cap u xs f w1 (swR l a c j) wr) (fun M _=>k-(intOf M).toNat)
 case atStart=>exact⟨0,rfl,f6J,V H⟩
 case round =>
  clear H;obtain⟨j,rfl,X,K⟩:=hrel;by_cases E:j<k
  ·have P:=K.cell (k:=a+j) f6J;have J:=K.cell (k:=c+j) f6J;have N:=K.frozen (a+j);have I:=K.frozen (c+j);have C:=O (K.swap (i:=a+j) (j:=c+j) f6J f6J);have t:¬(a+j=c+j):=f6J;have Y:((a:Int)+(j:Int)).toNat=a+j:=f6J;have R:((c:Int)+(j:Int)).toNat=c+j:=f6J;clear K;generalize(swR l a c j).getD (a+j) 0=p,(swR l a c j).getD (c+j) 0=q at *;go_wp2;go_region;go_wp2
   go_roundw
   case rel=>exact⟨j+1,g2A,f6J,V C⟩
   case measure=>exact g7T
  ·have F:j=k:=f6J;subst F;have U:=O K;clear K;go_wp2;go_end0;exact t8u
theorem x7w{l:List Nat}{a c k:Nat}(Z:a+k<=c)(D:c+k<=l.length)(m:Nat):(swR l a c k).getD m 0=if a<=m/\m<a+k then l.getD (m-a+c) 0 else if c<=m/\m<c+k then l.getD (m-c+a) 0 else l.getD m 0:=by
 induction k generalizing m with
 | zero=>rw[swR,if_neg f6J,if_neg f6J]
 | succ k ih =>
  rw[swR,Pu.x3j M1P M1P];rw[ih f6J f6J,ih f6J f6J,ih f6J f6J];by_cases P:m=c+k
  ·subst P;rw[if_pos rfl,if_neg f6J,if_neg f6J,if_neg f6J,if_pos f6J];congr 1;omega
  ·rw[if_neg P];by_cases E:m=a+k
   ·subst E;rw[if_pos rfl,if_neg f6J,if_neg f6J,if_pos f6J];congr 1;omega
   ·rw[if_neg E];by_cases N:a<=m/\m<a+k
    ·rw[if_pos N,if_pos f6J]
    ·by_cases I:c<=m/\m<c+k
     ·rw[if_neg N,if_pos I,if_neg (f6J:¬(a<=m/\m<a+(k+1))),if_pos (f6J:c<=m/\m<c+(k+1))]
     ·rw[if_neg N,if_neg I,if_neg (f6J:¬(a<=m/\m<a+(k+1))),if_neg (f6J:¬(c<=m/\m<c+(k+1)))]
theorem y0f{l:List Nat}{a c k:Nat}(Z:a+k<=c)(D:c+k<=l.length):(swR l a c k).Perm l:=by
 induction k with
 | zero=>exact List.Perm.refl _
 | succ k ih =>
  rw[swR];exact(Pu.x3k M1P M1P).trans (ih f6J f6J)
def x0t(l:List Nat)(a m c k:Nat):Nat:=if a<=k/\k<c then(if k<a+(c-m)then l.getD (k+(m-a)) 0 else l.getD (k-(c-m)) 0)else l.getD k 0
theorem z4e{l:List Nat}{m i j:Nat}(hi:i<=m)(X:m+j<=l.length)(p:j<i)(k:Nat):x0t l (m-i) m (m+j) k=x0t (swR l (m-i) m j) (m-(i-j)) m (m+j) k:=by
 unfold x0t;rw[x7w f6J X,x7w f6J X,x7w f6J X];by_cases P:m-i<=k/\k<m+j
 ·rw[if_pos P];by_cases E:k<m-i+(m+j-m)
  ·rw[if_pos E,if_neg f6J,if_pos f6J];congr 1;omega
  ·rw[if_neg E,if_pos f6J];by_cases N:k<m-(i-j)+(m+j-m)
   ·rw[if_pos N];by_cases I:k+(m-(m-(i-j)))<m
    ·rw[if_neg f6J,if_neg f6J];congr 1;omega
    ·rw[if_neg f6J,if_pos f6J];congr 1;omega
   ·rw[if_neg N,if_neg f6J,if_neg f6J]
 ·rw[if_neg P,if_neg f6J,if_neg f6J,if_neg f6J]
theorem z4d{l:List Nat}{m i j:Nat}(hi:i<=m)(X:m+j<=l.length)(p:i<j)(k:Nat):x0t l (m-i) m (m+j) k=x0t (swR l (m-i) (m+j-i) i) (m-i) m (m+(j-i)) k:=by
 unfold x0t;rw[x7w f6J f6J,x7w f6J f6J,x7w f6J f6J];by_cases P:m-i<=k/\k<m+j
 ·rw[if_pos P];by_cases E:k<m-i+(m+j-m)
  ·rw[if_pos E,if_pos f6J];by_cases N:k<m-i+(m+(j-i)-m)
   ·rw[if_pos N,if_neg f6J,if_neg f6J]
   ·rw[if_neg N,if_pos f6J];congr 1;omega
  ·rw[if_neg E,if_neg f6J,if_neg f6J,if_pos f6J];congr 1;omega
 ·rw[if_neg P,if_neg f6J,if_neg f6J,if_neg f6J]
theorem z4f{l:List Nat}{m i:Nat}(hi:i<=m)(X:m+i<=l.length)(k:Nat):x0t l (m-i) m (m+i) k=(swR l (m-i) m i).getD k 0:=by
 unfold x0t;rw[x7w f6J X];by_cases P:m-i<=k/\k<m+i
 ·rw[if_pos P];by_cases E:k<m-i+(m+i-m)
  ·rw[if_pos E,if_pos f6J];congr 1;omega
  ·rw[if_neg E,if_neg f6J,if_pos f6J];congr 1;omega
 ·rw[if_neg P,if_neg f6J,if_neg f6J]
def RotP(b B g n cap:Nat)(xv:Value)(xs:List Int)(w0 w1:World)(l:List Nat)(a m c:Nat)(e:Ending)(w':World):Prop :=
 e=.returned (.tuple #[])/\∃l',SrY b B g n cap xv xs w0 w1 l' w'/\l'.Perm l/\∀k,l'.getD k 0=x0t l a m c k
theorem x8K{b B g n cap:Nat}{u:Value}{xs:List Int}{d w1 w:World}{l:List Nat}(h:SrY b B g n cap u xs d w1 l w)(a m c:Nat)(L:Value)(Z:a<m)(D:m<c)(J:c<=n)(F:n<=100000) :
  Calls prog 310 #[.slice (some ⟨g,0,none⟩) n cap,.int .i64 a,.int .i64 m,.int .i64 c,L] w (RotP b B g n cap u xs d w1 l a m c):=by
 have G:=h.caps;have H:=O h;clear h;go_enter func310,ntmps310;go_wp2;go_loopw[10,11] (fun P Y wr=>∃(i j:Nat) (A:List Nat),P=.int .i64 i/\Y=.int .i64 j/\1<=i/\1<=j/\i<=m-a/\j<=c-m/\SrY b B g n cap u xs d w1 A wr/\A.Perm l/\∀k,x0t l a m c k=x0t A (m-i) m (m+j) k) (fun P Y _=>(intOf P).toNat+(intOf Y).toNat)
 case atStart=>exact⟨m-a,c-m,l,by rw[(f6J:((m-a:Nat):Int)=(m:Int)-a)],by rw[(f6J:((c-m:Nat):Int)=(c:Int)-m)],f6J,f6J,f6J,f6J,V H,List.Perm.refl _,fun k=>by rw[(f6J:m-(m-a)=a),(f6J:m+(c-m)=c)]⟩
 case round =>
  clear H;obtain⟨i,j,A,rfl,rfl,U,o,x,W,K,s,I⟩:=hrel;have N:=K.len;have T:(m:Int)-(i:Int)=((m-i:Nat):Int):=f6J;by_cases E:j<i
  ·have C:=O (x2w K (m-i) m j L f6J f6J);have f:Hid (∀k,x0t l a m c k=x0t (swR A (m-i) m j) (m-(i-j)) m (m+j) k):=fun k=>(I k).trans (z4e f6J f6J E k);have Q:Hid ((swR A (m-i) m j).Perm l):=(y0f f6J f6J).trans s;have t:((i:Int)==(j:Int))=false:=P8P;rw[<- T]at C;clear K s I T;generalize swR A (m-i) m j=X at *;go_wp2_with(go_at_call 312;refine(V C).mono ?_;rintro e p ⟨rfl,y⟩);have r:=O y;clear y C
   go_roundw
   case rel=>exact⟨i-j,j,X,by rw[(f6J:((i-j:Nat):Int)=(i:Int)-j)],rfl,f6J,o,f6J,W,V r,V Q,V f⟩
   case measure=>exact g7W
  ·by_cases M:i<j
   ·have C:=O (x2w K (m-i) (m+j-i) i L f6J f6J);have f:Hid (∀k,x0t l a m c k=x0t (swR A (m-i) (m+j-i) i) (m-i) m (m+(j-i)) k):=fun k=>(I k).trans (z4d f6J f6J M k);have Q:Hid ((swR A (m-i) (m+j-i) i).Perm l):=(y0f f6J f6J).trans s;have t:((i:Int)==(j:Int))=false:=P8P;have R:((m+j-i:Nat):Int)=(m:Int)+(j:Int)-(i:Int):=f6J;rw[<- T,R]at C;clear K s I T R;generalize swR A (m-i) (m+j-i) i=X at *;go_wp2_with(go_at_call 312;refine(V C).mono ?_;rintro e p ⟨rfl,y⟩);have r:=O y;clear y C
    go_roundw
    case rel=>exact⟨i,j-i,X,rfl,by rw[(f6J:((j-i:Nat):Int)=(j:Int)-i)],U,f6J,x,f6J,V r,V Q,V f⟩
    case measure=>exact g7W
   ·have q:i=j:=f6J;subst q;have C:=O (x2w K (m-i) m i L f6J f6J);have f:Hid (∀k,(swR A (m-i) m i).getD k 0=x0t l a m c k):=fun k=>((I k).trans (z4f f6J f6J k)).symm;have Q:Hid ((swR A (m-i) m i).Perm l):=(y0f f6J f6J).trans s;rw[<- T]at C;clear K s I T;generalize swR A (m-i) m i=X at *;go_wp2_with(go_at_call 312;refine(V C).mono ?_;rintro e p ⟨rfl,y⟩);have r:=O y;clear y C;go_end0;exact⟨rfl,X,V r,V Q,V f⟩
namespace Pu
def lx(xs:List Int)(x y:Nat):Prop:=xs.getD x 0<xs.getD y 0\/(xs.getD x 0=xs.getD y 0/\x<y)
theorem z3A{xs:List Int}{x y z:Nat}(Z:lx xs x y)(D:lx xs y z):lx xs x z:=by unfold lx at *;exact f6J
theorem q0a{xs:List Int}{x y:Nat}(Z:x<y)(D:¬xs.getD y 0<xs.getD x 0):lx xs x y:=by unfold lx;exact f6J
theorem x1V{a b:Int}:cmpI a b<0↔a<b:=by unfold cmpI;exact t3k
def SR(xs:List Int)(l:List Nat)(a c:Nat):Prop:=∀i j,a<=i->i<j->j<c->lx xs (l.getD i 0) (l.getD j 0)
def Org(l l':List Nat)(a c:Nat):Prop:=∀i,a<=i->i<c->∃i',a<=i'/\i'<c/\l'.getD i 0=l.getD i' 0
def Out(l l':List Nat)(a c:Nat):Prop:=∀k,k<a\/c<=k->l'.getD k 0=l.getD k 0
theorem Org.refl(l:List Nat)(a c:Nat):Org l l a c:=fun i Z D=>⟨i,Z,D,rfl⟩
theorem Out.refl(l:List Nat)(a c:Nat):Out l l a c:=fun _ _=>rfl
theorem Org.trans{v T U:List Nat}{a c:Nat}(h:Org v T a c)(k:Org T U a c):Org v U a c:=fun i Z D=>by
 obtain⟨j,J,H,K⟩:=k i Z D;obtain⟨m,y,x,n⟩:=h j J H;exact⟨m,y,x,K.trans n⟩
theorem Out.trans{v T U:List Nat}{a c:Nat}(h:Out v T a c)(k:Out T U a c):Out v U a c:=fun i Z=>(k i Z).trans (h i Z)
theorem Org.wide{l A:List Nat}{a c M c':Nat}(h:Org l A a c)(k:Out l A a c)(Z:M<=a)(D:c<=c'):Org l A M c':=fun i J H=>by
 by_cases hi:a<=i/\i<c
 ·obtain⟨j,K,y,x⟩:=h i hi.1 hi.2;exact⟨j,f6J,f6J,x⟩
 ·exact⟨i,J,H,k i f6J⟩
theorem Out.wide{l A:List Nat}{a c M c':Nat}(k:Out l A a c)(Z:M<=a)(D:c<=c'):Out l A M c':=fun i h=>k i f6J
theorem z4r{l:List Nat}{i j a c:Nat}(hi:i<l.length)(X:j<l.length)(Z:a<=i/\i<c)(D:a<=j/\j<c):Org l (swapL l i j) a c:=fun m J H=>by
 rw[x3j hi X];by_cases P:m=j
 ·rw[if_pos P];exact⟨i,Z.1,Z.2,rfl⟩
 ·rw[if_neg P];by_cases E:m=i
  ·rw[if_pos E];exact⟨j,D.1,D.2,rfl⟩
  ·rw[if_neg E];exact⟨m,J,H,rfl⟩
theorem z4s{l:List Nat}{i j a c:Nat}(hi:i<l.length)(X:j<l.length)(Z:a<=i/\i<c)(D:a<=j/\j<c):Out l (swapL l i j) a c:=fun m J=>by
 rw[x3j hi X,if_neg f6J,if_neg f6J]
structure Inv(xs:List Int)(l:List Nat)(a i j:Nat):Prop where
 A:∀p q,a<=p->p<q->q<=i->p≠j->q≠j->lx xs (l.getD p 0) (l.getD q 0)
 B:∀q,j<q->q<=i->lx xs (l.getD j 0) (l.getD q 0)
 C:∀p,a<=p->p<=i->p≠j->l.getD p 0<l.getD j 0
theorem Inv.step{xs:List Int}{l:List Nat}{a i j:Nat}(h:Inv xs l a i j)(Z:a<j)(D:j<=i)(S:i<l.length)(I:xs.getD (l.getD j 0) 0<xs.getD (l.getD (j-1) 0) 0):Inv xs (swapL l j (j-1)) a i (j-1):=by
 have F:=fun m=>x3j (l:=l) (i:=j) (j:=j-1) f6J f6J m;have M:(swapL l j (j-1)).getD (j-1) 0=l.getD j 0:=(by rw[F,if_pos rfl]);have L:(swapL l j (j-1)).getD j 0=l.getD (j-1) 0:=(by rw[F,if_neg f6J,if_pos rfl]);have G:∀m,m≠j->m≠j-1->(swapL l j (j-1)).getD m 0=l.getD m 0:=fun m J H=>(by rw[F,if_neg H,if_neg J]);refine⟨fun p q J H K y x=>?_,fun q J H=>?_,fun p J H K=>?_⟩
 ·by_cases P:p=j
  ·subst P;rw[L,G q f6J f6J];exact h.A _ _ f6J f6J K f6J f6J
  ·by_cases E:q=j
   ·subst E;rw[L,G p f6J f6J];exact h.A _ _ J f6J f6J f6J f6J
   ·rw[G p P y,G q E x];exact h.A _ _ J H K P E
 ·rw[M];by_cases P:q=j
  ·subst P;rw[L];exact .inl I
  ·rw[G q P f6J];exact h.B q f6J H
 ·rw[M];by_cases P:p=j
  ·subst P;rw[L];exact h.C _ f6J f6J f6J
  ·rw[G p P K];exact h.C p J H P
theorem Inv.done{xs:List Int}{l:List Nat}{a i j:Nat}(h:Inv xs l a i j)(Z:a<=j)(D:j<=i)(hc:j=a\/¬xs.getD (l.getD j 0) 0<xs.getD (l.getD (j-1) 0) 0):SR xs l a (i+1):=by
 intro p q J H K;by_cases P:p=j
 ·subst P;exact h.B q H f6J
 ·by_cases E:q=j
  ·subst E;rcases hc with hc | hc
   ·omega
   ·have S:=q0a (h.C (q-1) f6J f6J f6J) hc;by_cases N:p=q-1
    ·rw[N];exact S
    ·exact z3A (h.A p (q-1) J f6J f6J f6J f6J) S
  ·exact h.A p q J H f6J P E
theorem Inv.start{xs:List Int}{l v:List Nat}{a i c:Nat}(L:SR xs v a i)(X:Org l v a i)(W:Out l v a i)(o:i<c)(A:∀p q,a<=p->p<q->q<c->l.getD p 0<l.getD q 0):Inv xs v a i i:=by
 refine⟨fun p q J H K y x=>L p q J H f6J,fun q J H=>f6J,fun p J H K=>?_⟩;obtain⟨B,y,x,n⟩:=X p J f6J;rw[n,W i f6J];exact A B i y x o
end Pu
def SymP(b B g n cap:Nat)(xv:Value)(xs:List Int)(w0 w1:World)(l:List Nat)(a c:Nat)(e:Ending)(w':World):Prop :=
 e=.returned (.tuple #[])/\∃l',SrY b B g n cap xv xs w0 w1 l' w'/\l'.Perm l/\Pu.SR xs l' a c/\Pu.Org l l' a c/\Pu.Out l l' a c
theorem x4i{b B g n cap:Nat}{u:Value}{xs:List Int}{w0 w1 w:World}{l:List Nat}(h:SrY b B g n cap u xs w0 w1 l w)(a c:Nat)(h3:c<=n)(ha:a<=n)(hn:n<=100000)(ab:∀p q,a<=p->p<q->q<c->l.getD p 0<l.getD q 0) :
  Calls prog 297 #[.slice (some ⟨g,0,none⟩) n cap,.int .i64 a,.int .i64 c,.func (.func 251) #[] #[.pointer (some ⟨b,0,none⟩)]] w (SymP b B g n cap u xs w0 w1 l a c):=by
 have am:=h.caps;have H:=O h;have J:=O ab;clear h ab;go_enter func297,ntmps297;go_wp2;go_loopw[8,9] (fun ii _ wr=>∃(i:Nat) (v:List Nat),ii=.int .i64 i/\a<i/\(i<=c\/i=a+1)/\SrY b B g n cap u xs w0 w1 v wr/\v.Perm l/\Pu.SR xs v a i/\Pu.Org l v a i/\Pu.Out l v a i/\(i=a+1->v=l)) (fun ii _ _=>n+1-(intOf ii).toNat)
 case atStart=>exact⟨a+1,l,g2A,f6J,.inr rfl,V H,List.Perm.refl _,fun i j h1 h2 h4=>f6J,Pu.Org.refl _ _ _,Pu.Out.refl _ _ _,fun _=>rfl⟩
 case round =>
  clear H;obtain⟨i,v,rfl,aA,o,K,s,Z,F,L,S⟩:=hrel;obtain⟨wo,aj⟩:∃wo,wo=wr:=⟨_,rfl⟩;subst aj;by_cases ai:i<c
  ·have hI:=Pu.Inv.start Z F L ai (V J);have X:=O hI;have r:=O K;have Q:=O s;have x:=O (F.wide L (l0r a) (Nat.le_succ i));have R:=O (L.wide (l0r a) (Nat.le_succ i));clear hI K s Z F L S;go_wp2;go_loopw[9] (fun jj wr=>∃(j:Nat) (T:List Nat),jj=.int .i64 j/\a<=j/\j<=i/\SrY b B g n cap u xs w0 w1 T wr/\T.Perm l/\Pu.Inv xs T a i j/\Pu.Org l T a (i+1)/\Pu.Out l T a (i+1)) (fun jj _=>(intOf jj).toNat)
   case atStart=>exact⟨i,v,rfl,f6J,l0r _,V r,V Q,V X,V x,V R⟩
   case round =>
    clear r Q X x R;obtain⟨j,T,rfl,ag,af,K,s,hI,F,L⟩:=hrel;have aC:=K.len;by_cases hj:a<j
    ·have P:=K.cell (k:=j) f6J;have E:=K.cell (k:=j-1) f6J;have N:=K.frozen j;have e4:=K.frozen (j-1);have C:=fun m=>O (K.cmp (i:=j) (j:=j-1) f6J f6J m);have aB:((j:Int)-1).toNat=j-1:=f6J;have G:(j:Int)-1=((j-1:Nat):Int):=f6J;by_cases I:xs.getD (T.getD j 0) 0<xs.getD (T.getD (j-1) 0) 0
     ·have U:Pu.cmpI (xs.getD (T.getD j 0) 0) (xs.getD (T.getD (j-1) 0) 0)<0:=Pu.x1V.2 I;have f:=O fun m=>(K.drewN m).swap (i:=j) (j:=j-1) f6J f6J;have y:=O (hI.step hj af f6J I);have W:=O ((Pu.x3k (l:=T) (i:=j) (j:=j-1) f6J f6J).trans s);have M:=O (F.trans (Pu.z4r (l:=T) (i:=j) (j:=j-1) (a:=a) (c:=i+1) f6J f6J f6J f6J));have A:=O (L.trans (Pu.z4s (l:=T) (i:=j) (j:=j-1) (a:=a) (c:=i+1) f6J f6J f6J f6J));clear K s hI F L I;generalize Pu.swapL T j (j-1)=l3,Pu.cmpI (xs.getD (T.getD j 0) 0) (xs.getD (T.getD (j-1) 0) 0)=D at *;generalize T.getD j 0=p,T.getD (j-1) 0=q at *;go_wp2;go_quiet(first| (go_at_call 251;exact Calls.quiet_of (V (C _))));have aq:(wr.drewN nq).cell? ⟨g,j,none⟩=some (.int .i64 (p:Int)):=P;have ar:(wr.drewN nq).cell? ⟨g,j-1,none⟩=some (.int .i64 (q:Int)):=E;have aw:(wr.drewN nq).frozen? ⟨g,j,none⟩=false:=N;have az:(wr.drewN nq).frozen? ⟨g,j-1,none⟩=false:=e4;have d:=O (V f nq);clear P E N e4 f C U;generalize wr.drewN nq=Y at *;have t:¬(j=j-1):=f6J;go_wp2;go_region;go_wp2
      go_roundw
      case rel=>exact⟨j-1,l3,by first| rfl|(rw[G]) | go_num,f6J,f6J,V d,V W,V y,V M,V A⟩
      case measure=>exact g7T
     ·have U:¬Pu.cmpI (xs.getD (T.getD j 0) 0) (xs.getD (T.getD (j-1) 0) 0)<0:=fun hh=>I (Pu.x1V.1 hh);have f:=O fun m=>K.drewN m;have ae:=O (hI.done ag af (.inr I));have W:=O s;have M:=O F;have A:=O L;clear K s hI F L I;generalize Pu.cmpI (xs.getD (T.getD j 0) 0) (xs.getD (T.getD (j-1) 0) 0)=D at *;generalize T.getD j 0=p at *;generalize T.getD (j-1) 0=q at *;have z:(decide (D<0))=false:=d0f U;go_wp2;go_quiet(first| (go_at_call 251;exact Calls.quiet_of (V (C _))));have d:=O (V f nq);clear P E N e4 f C;generalize wr.drewN nq=Y at *;go_wp2
      exact R8X
    ·have f:=O fun m=>K.drewN m;have ae:=O (hI.done ag af (.inl f6J));have W:=O s;have M:=O F;have A:=O L;clear K s hI F L;go_wp2;go_quiet(fail);have d:=O (V f nq);clear f;generalize wr.drewN nq=Y at *;go_wp2
     exact R8X
  ·have HF:Hid (SymP b B g n cap u xs w0 w1 l a c (.returned (.tuple #[])) wo):=by
    refine⟨rfl,v,K,s,?_,?_,?_⟩
    ·intro p q h1 h2 h4;exact Z p q h1 h2 f6J
    ·rcases o with h1 | h1
     ·have:i=c:=f6J;subst this;exact F
     ·rw[S h1];exact Pu.Org.refl _ _ _
    ·rcases o with h1 | h1
     ·have:i=c:=f6J;subst this;exact L
     ·rw[S h1];exact Pu.Out.refl _ _ _
   clear K s Z F L S;exact N7S
