/- Lemmas. -/
import Derived.Test.YtkfcabdmkmljjaaGreatDoorF45
import Derived.Deep.QuietTactic
set_option maxHeartbeats 8000000
set_option maxRecDepth 20000
namespace Go.Proofs.YtkfcabdmkmljjaaGreatDoor
open Go.Proofs.Tryz
open Go.RowKit
section
variable{p:Prop}
theorem t5S(h:p:=by rw[X];clear X;go_enter func252,ntmps252;go_wp2_with fail;refine(V (E _)).mono ?_;rintro e w ⟨rfl,rfl⟩;go_wp2_with fail;refine(V (x _)).mono ?_;rintro e w ⟨rfl,rfl⟩;go_wp2;go_ret;exact x0s.mk rfl):p:=h
theorem F9G(h:p:=by rw[x0p];exact f6J):p:=h
theorem W5R(h:p:=by rw[y0b];exact f6J):p:=h
theorem n0i(h:p:=by
 go_roundw
 case rel=>exact⟨i+1,C,g2A,f6J,.inl f6J,V U,V W,V I,V Z,V G,fun h=>f6J⟩
 case measure=>exact g7T):p:=h
end
namespace Pu
def cmpI(a b:Int):Int:=if a<b then -1 else if b<a then 1 else 0
def swapL(l:List Nat)(i j:Nat):List Nat:=(l.set i (l.getD j 0)).set j (l.getD i 0)
theorem z1j(l:List Nat)(i j:Nat):(swapL l i j).length=l.length:=by simp[swapL]
theorem y0S(l:List Nat)(j m z:Nat)(R:j<l.length):(l.set j z).getD m 0=if m=j then z else l.getD m 0:=by
 by_cases h:m=j
 ·subst h;exact t7U
 ·rw[if_neg h];simp[List.getD,List.getElem?_set_ne (Ne.symm h)]
theorem x3l{l:List Nat}{i j:Nat}(hi:i<l.length)(R:j<l.length)(m:Nat):(swapL l i j).getD m 0=if m=j then l.getD i 0 else if m=i then l.getD j 0 else l.getD m 0:=by
 unfold swapL;rw[y0S _ _ _ _ s4P,y0S _ _ _ _ hi]
theorem x3m{l:List Nat}{i j:Nat}(hi:i<l.length)(R:j<l.length):(swapL l i j).Perm l:=by
 have h:=Array.swap_perm (xs:=l.toArray) (i:=i) (j:=j) w3y s4P;have D:=Array.perm_iff_toList_perm.1 h;unfold swapL;simpa[List.getD,hi,R,Array.swap]using D
end Pu
theorem x6R(c:Int)(w:World):Calls prog 287 #[.int .i32 c] w (x1A w false):=by
 go_enter func287,ntmps287;go_wp2;go_ret;exact x1A.mk M7K
theorem y0x(a b:Int)(w:World):Calls prog 252 #[.int .i32 a,.int .i32 b] w (x0s w (Pu.cmpI a b)):=by
 have E:=fun W=>O (x6R a W);have x:=fun W=>O (x6R b W);by_cases Z:a<b
 ·have X:Pu.cmpI a b=-1:=(by unfold Pu.cmpI;rw[if_pos Z]);exact t5S
 ·by_cases D:b<a
  ·have X:Pu.cmpI a b=1:=(by unfold Pu.cmpI;rw[if_neg Z,if_pos D]);exact t5S
  ·have X:Pu.cmpI a b=0:=(by unfold Pu.cmpI;rw[if_neg Z,if_neg D]);exact t5S
structure SrY(b B g n cap:Nat)(xv:Value)(xs:List Int)(w0 w1:World)(l:List Nat)(wr:World):Prop where
 x:XAt wr b xv
 sx:Sk .i32 w0 xv xs
 bel:Below w0.heap.size w0 wr
 row:Ok .i64 3 wr B (.slice (some ⟨g,0,none⟩) n cap) (x1d l)
 hB:w0.heap.size<=B
 ne:b≠g
 gr:w1.grownBy wr (some g)
 len:l.length=n
 lt:∀a∈l,a<xs.length
 xl:xs.length<=100000
theorem z0d{l:List Nat}{k:Nat}(G:k<l.length):(x1d l).getD k 0=((l.getD k 0:Nat):Int):=by simp[x1d,List.getD,G]
theorem SrY.hg{b B g n cap:Nat}{v:Value}{xs:List Int}{f w1 wr:World}{l:List Nat}(h:SrY b B g n cap v xs f w1 l wr):f.heap.size<=g:=by
 have:=(h.row.row.lt g rfl).1;have:=h.hB;omega
theorem SrY.drewN{b B g n cap:Nat}{v:Value}{xs:List Int}{f w1 wr:World}{l:List Nat}(h:SrY b B g n cap v xs f w1 l wr)(m:Nat):SrY b B g n cap v xs f w1 l (wr.drewN m) :=
 ⟨h.x,h.sx,h.bel.trans ((x0i ⟨m,rfl⟩:Bw wr _).mono h.bel.size),h.row.below (x0i ⟨m,rfl⟩),h.hB,h.ne,⟨h.gr.os,h.gr.tape,h.gr.output,h.gr.size,h.gr.block⟩,h.len,h.lt,h.xl⟩
theorem SrY.cell{b B g n cap:Nat}{v:Value}{xs:List Int}{f w1 wr:World}{l:List Nat}(h:SrY b B g n cap v xs f w1 l wr){k:Nat}(G:k<n):wr.cell? ⟨g,k,none⟩=some (.int .i64 ((l.getD k 0:Nat):Int)):=by
 have S:=h.len;obtain⟨i,N,Q,s,_,_,I⟩:=h.row.sk.place F9G;simp only[Value.slice.injEq,Option.some.injEq,Addr.mk.injEq]at s;obtain⟨⟨rfl,rfl,_⟩,_,_⟩:=s;have:=I k F9G;rw[Nat.zero_add,z0d f6J]at this;exact this
theorem SrY.memlt{b B g n cap:Nat}{v:Value}{xs:List Int}{f w1 wr:World}{l:List Nat}(h:SrY b B g n cap v xs f w1 l wr){k:Nat}(G:k<n):l.getD k 0<xs.length :=
 h.lt _ (by have:=h.len;rw[List.getD,List.getElem?_eq_getElem f6J];exact List.getElem_mem _)
theorem Ok.setAtI{K:IntKind}{e:TypeId}{w:World}{B g n cap:Nat}{zs:List Int}(h:Ok K e w B (.slice (some ⟨g,0,none⟩) n cap) zs)(k:Nat)(z:Int)(D:k<zs.length)(u:Fit K [z]) :
  Ok K e (w.setCell ⟨g,k,none⟩ (.int K z)) B (.slice (some ⟨g,0,none⟩) n cap) (zs.set k z)/\w.cell? ⟨g,k,none⟩≠none/\w.frozen? ⟨g,k,none⟩=false:=by
 have Q:=h.row;rcases Q.2 with⟨U,_⟩ | ⟨S,A,t,N,Y,X,F,G,f,T⟩
 ·cases U
 ·simp only[Value.slice.injEq,Option.some.injEq,Addr.mk.injEq]at N;obtain⟨⟨rfl,_⟩,C,rfl⟩:=N;refine⟨Ok.of (n:=zs.length) (us:=(zs.set k z).map (Value.int K)) ?_ (by simpa using h.sk.len) ⟨M7K,.inr ⟨g,cap,t.setIfInBounds k (.int K z),by rw[C],Y,x1c X _,F,G,by simpa using f,?_⟩⟩ M7K rfl,?_,?_⟩
  ·exact n7E
  ·exact P4U
  ·simp[World.cell?,X];omega
  ·simp[World.frozen?,X]
theorem cmp_q(b:Nat)(v:Value)(xs:List Int)(f w:World)(a c:Nat)(A:XAt w b v)(P:Sk .i32 f v xs)(C:Bw f w)(E:a<xs.length)(I:c<xs.length)(S:xs.length<=100000) :
  Calls prog 251 #[.int .i64 a,.int .i64 c,.pointer (some ⟨b,0,none⟩)] w fun e w'=>e=.returned (.int .i64 (Pu.cmpI (xs.getD a 0) (xs.getD c 0)))/\∃m,w'=w.drewN m:=by
 obtain⟨K,Z,D,N,z,t,L⟩:=P.place f6J
 have B:w.cell? ⟨K,Z+a,none⟩=some (.int .i32 (xs.getD a 0)):=by
  have J:=L a E;rw[C.cell (x0a J)];exact J
 have g:w.cell? ⟨K,Z+c,none⟩=some (.int .i32 (xs.getD c 0)):=by
  have J:=L c I;rw[C.cell (x0a J)];exact J
 have F:=A.cell;subst N;have H:=fun W=>O (y0x (xs.getD a 0) (xs.getD c 0) W);clear L P C A;generalize Pu.cmpI (xs.getD a 0) (xs.getD c 0)=r at *;generalize xs.getD a 0=G at *;generalize xs.getD c 0=zc,xs.length=n at *;go_enter func251,ntmps251;go_wp2;go_quiet(first| (go_at_call 252;exact Calls.quiet_of_same (V (H _))));go_wp2;go_ret;exact⟨rfl,nq,rfl⟩
theorem SrY.cmp{b B g n cap:Nat}{v:Value}{xs:List Int}{f w1 wr:World}{l:List Nat}(h:SrY b B g n cap v xs f w1 l wr){i j:Nat}(hi:i<n)(R:j<n)(m:Nat) :
  Calls prog 251 #[.int .i64 ((l.getD i 0:Nat):Int),.int .i64 ((l.getD j 0:Nat):Int),.pointer (some ⟨b,0,none⟩)] (wr.drewN m) fun e w'=>e=.returned (.int .i64 (Pu.cmpI (xs.getD (l.getD i 0) 0) (xs.getD (l.getD j 0) 0)))/\∃k,w'=(wr.drewN m).drewN k :=
 cmp_q b v xs f (wr.drewN m) _ _ (h.drewN m).x h.sx (h.drewN m).bel (h.memlt hi) (h.memlt R) h.xl
theorem z0e(l:List Nat)(i z:Nat):x1d (l.set i z)=(x1d l).set i (z:Int):=by simp[x1d,List.map_set]
theorem SrY.put{b B g n cap:Nat}{v:Value}{xs:List Int}{f w1 wr:World}{l:List Nat}(h:SrY b B g n cap v xs f w1 l wr){i z:Nat}(hi:i<n)(u:z<xs.length):SrY b B g n cap v xs f w1 (l.set i z) (wr.setCell ⟨g,i,none⟩ (.int .i64 (z:Int))):=by
 have S:=h.len;have t:=h.xl;obtain⟨A,_,_⟩:=h.row.setAtI i (z:Int) F9G (fun y C=>by simp at C;subst C;exact p3E);have H:=h.hg;refine⟨?_,h.sx,h.bel.setCell H _,by rw[z0e];exact A,h.hB,h.ne,x1o h.gr _,t2Y,fun a ha=>?_,t⟩
 ·unfold XAt;rw[x4Y h.ne];exact h.x
 ·rcases List.mem_or_eq_of_mem_set ha with ha | ha
  ·exact h.lt a ha
  ·subst ha;exact u
theorem SrY.swap{b B g n cap:Nat}{v:Value}{xs:List Int}{f w1 wr:World}{l:List Nat}(h:SrY b B g n cap v xs f w1 l wr){i j:Nat}(hi:i<n)(R:j<n) :
  SrY b B g n cap v xs f w1 (Pu.swapL l i j) (((wr.setCell ⟨g,i,none⟩ (.int .i64 ((l.getD j 0:Nat):Int))).setCell ⟨g,j,none⟩ (.int .i64 ((l.getD i 0:Nat):Int))).drew) :=
 ((h.put hi (h.memlt R)).put R (h.memlt hi)).drewN 1
theorem SrY.frozen{b B g n cap:Nat}{v:Value}{xs:List Int}{f w1 wr:World}{l:List Nat}(h:SrY b B g n cap v xs f w1 l wr)(k:Nat):wr.frozen? ⟨g,k,none⟩=false:=by
 rcases h.row.row.2 with⟨U,_⟩ | ⟨S,A,t,N,Y,X,_⟩
 ·cases U
 ·simp only[Value.slice.injEq,Option.some.injEq,Addr.mk.injEq]at N;obtain⟨⟨rfl,_⟩,_,_⟩:=N;simp[World.frozen?,X]
theorem SrY.caps{b B g n cap:Nat}{v:Value}{xs:List Int}{f w1 wr:World}{l:List Nat}(h:SrY b B g n cap v xs f w1 l wr):n<=cap/\cap<=9223372036854775807:=by
 obtain⟨J,c,s,Z,D⟩:=h.row.sk.shape;simp only[Value.slice.injEq]at s;obtain⟨_,F,rfl⟩:=s;rw[x0p]at F Z;omega
def swR(l:List Nat)(a c:Nat):Nat->List Nat
 | 0=>l
 | k+1=>Pu.swapL (swR l a c k) (a+k) (c+k)
theorem y0b(l:List Nat)(a c k:Nat):(swR l a c k).length=l.length:=by
 induction k with
 | zero=>rfl
 | succ k ih=>rw[swR,Pu.z1j,ih]
def SrP(b B g n cap:Nat)(xv:Value)(xs:List Int)(w0 w1:World)(l:List Nat)(e:Ending)(w':World):Prop:=e=.returned (.tuple #[])/\SrY b B g n cap xv xs w0 w1 l w'
theorem x2z{b B g n cap:Nat}{v:Value}{xs:List Int}{f w1 w:World}{l:List Nat}(h:SrY b B g n cap v xs f w1 l w)(a c k:Nat)(L:Value)(Z:a+k<=c)(D:c+k<=n) :
  Calls prog 312 #[.slice (some ⟨g,0,none⟩) n cap,.int .i64 a,.int .i64 c,.int .i64 k,L] w (SrP b B g n cap v xs f w1 (swR l a c k)):=by
 have G:=h.caps;have H:=O h;clear h;go_enter func312,ntmps312;go_wp2;go_loopw[10] (fun A wr=>∃j:Nat,A=.int .i64 j/\j<=k/\SrY b B g n cap v xs f w1 (swR l a c j) wr) (fun A _=>k-(intOf A).toNat)
 case atStart=>exact⟨0,rfl,f6J,V H⟩
 case round =>
  clear H;obtain⟨j,rfl,R,K⟩:=hrel;by_cases E:j<k
  ·have P:=K.cell (k:=a+j) f6J;have z:=K.cell (k:=c+j) f6J;have N:=K.frozen (a+j);have o:=K.frozen (c+j);have I:=O (K.swap (i:=a+j) (j:=c+j) f6J f6J);have y:¬(a+j=c+j):=f6J;have Y:((a:Int)+(j:Int)).toNat=a+j:=f6J;have U:((c:Int)+(j:Int)).toNat=c+j:=f6J;clear K;generalize(swR l a c j).getD (a+j) 0=p,(swR l a c j).getD (c+j) 0=q at *;go_wp2;go_region;go_wp2
   go_roundw
   case rel=>exact⟨j+1,g2A,f6J,V I⟩
   case measure=>exact g7T
  ·have C:j=k:=f6J;subst C;have T:=O K;clear K;go_wp2;go_end0;exact i5u
theorem x7v{l:List Nat}{a c k:Nat}(Z:a+k<=c)(D:c+k<=l.length)(m:Nat):(swR l a c k).getD m 0=if a<=m/\m<a+k then l.getD (m-a+c) 0 else if c<=m/\m<c+k then l.getD (m-c+a) 0 else l.getD m 0:=by
 induction k generalizing m with
 | zero=>rw[swR,if_neg f6J,if_neg f6J]
 | succ k ih =>
  rw[swR,Pu.x3l W5R W5R];rw[ih f6J f6J,ih f6J f6J,ih f6J f6J];by_cases P:m=c+k
  ·subst P;rw[if_pos rfl,if_neg f6J,if_neg f6J,if_neg f6J,if_pos f6J];congr 1;omega
  ·rw[if_neg P];by_cases z:m=a+k
   ·subst z;rw[if_pos rfl,if_neg f6J,if_neg f6J,if_pos f6J];congr 1;omega
   ·rw[if_neg z];by_cases N:a<=m/\m<a+k
    ·rw[if_pos N,if_pos f6J]
    ·by_cases o:c<=m/\m<c+k
     ·rw[if_neg N,if_pos o,if_neg (f6J:¬(a<=m/\m<a+(k+1))),if_pos (f6J:c<=m/\m<c+(k+1))]
     ·rw[if_neg N,if_neg o,if_neg (f6J:¬(a<=m/\m<a+(k+1))),if_neg (f6J:¬(c<=m/\m<c+(k+1)))]
theorem y0c{l:List Nat}{a c k:Nat}(Z:a+k<=c)(D:c+k<=l.length):(swR l a c k).Perm l:=by
 induction k with
 | zero=>exact List.Perm.refl _
 | succ k ih =>
  rw[swR];exact(Pu.x3m W5R W5R).trans (ih f6J f6J)
def x0v(l:List Nat)(a m c k:Nat):Nat:=if a<=k/\k<c then(if k<a+(c-m)then l.getD (k+(m-a)) 0 else l.getD (k-(c-m)) 0)else l.getD k 0
theorem z4g{l:List Nat}{m i j:Nat}(hi:i<=m)(R:m+j<=l.length)(I:j<i)(k:Nat):x0v l (m-i) m (m+j) k=x0v (swR l (m-i) m j) (m-(i-j)) m (m+j) k:=by
 unfold x0v;rw[x7v f6J R,x7v f6J R,x7v f6J R];by_cases P:m-i<=k/\k<m+j
 ·rw[if_pos P];by_cases z:k<m-i+(m+j-m)
  ·rw[if_pos z,if_neg f6J,if_pos f6J];congr 1;omega
  ·rw[if_neg z,if_pos f6J];by_cases N:k<m-(i-j)+(m+j-m)
   ·rw[if_pos N];by_cases o:k+(m-(m-(i-j)))<m
    ·rw[if_neg f6J,if_neg f6J];congr 1;omega
    ·rw[if_neg f6J,if_pos f6J];congr 1;omega
   ·rw[if_neg N,if_neg f6J,if_neg f6J]
 ·rw[if_neg P,if_neg f6J,if_neg f6J,if_neg f6J]
theorem z4f{l:List Nat}{m i j:Nat}(hi:i<=m)(R:m+j<=l.length)(I:i<j)(k:Nat):x0v l (m-i) m (m+j) k=x0v (swR l (m-i) (m+j-i) i) (m-i) m (m+(j-i)) k:=by
 unfold x0v;rw[x7v f6J f6J,x7v f6J f6J,x7v f6J f6J];by_cases P:m-i<=k/\k<m+j
 ·rw[if_pos P];by_cases z:k<m-i+(m+j-m)
  ·rw[if_pos z,if_pos f6J];by_cases N:k<m-i+(m+(j-i)-m)
   ·rw[if_pos N,if_neg f6J,if_neg f6J]
   ·rw[if_neg N,if_pos f6J];congr 1;omega
  ·rw[if_neg z,if_neg f6J,if_neg f6J,if_pos f6J];congr 1;omega
 ·rw[if_neg P,if_neg f6J,if_neg f6J,if_neg f6J]
theorem z4h{l:List Nat}{m i:Nat}(hi:i<=m)(R:m+i<=l.length)(k:Nat):x0v l (m-i) m (m+i) k=(swR l (m-i) m i).getD k 0:=by
 unfold x0v;rw[x7v f6J R];by_cases P:m-i<=k/\k<m+i
 ·rw[if_pos P];by_cases z:k<m-i+(m+i-m)
  ·rw[if_pos z,if_pos f6J];congr 1;omega
  ·rw[if_neg z,if_neg f6J,if_pos f6J];congr 1;omega
 ·rw[if_neg P,if_neg f6J,if_neg f6J]
def RotP(b B g n cap:Nat)(xv:Value)(xs:List Int)(w0 w1:World)(l:List Nat)(a m c:Nat)(e:Ending)(w':World):Prop :=
 e=.returned (.tuple #[])/\∃l',SrY b B g n cap xv xs w0 w1 l' w'/\l'.Perm l/\∀k,l'.getD k 0=x0v l a m c k
theorem x8G{b B g n cap:Nat}{v:Value}{xs:List Int}{Y w1 w:World}{l:List Nat}(h:SrY b B g n cap v xs Y w1 l w)(a m c:Nat)(L:Value)(p:a<m)(D:m<c)(q:c<=n)(F:n<=100000) :
  Calls prog 310 #[.slice (some ⟨g,0,none⟩) n cap,.int .i64 a,.int .i64 m,.int .i64 c,L] w (RotP b B g n cap v xs Y w1 l a m c):=by
 have G:=h.caps;have H:=O h;clear h;go_enter func310,ntmps310;go_wp2;go_loopw[10,11] (fun Q A wr=>∃(i j:Nat) (M:List Nat),Q=.int .i64 i/\A=.int .i64 j/\1<=i/\1<=j/\i<=m-a/\j<=c-m/\SrY b B g n cap v xs Y w1 M wr/\M.Perm l/\∀k,x0v l a m c k=x0v M (m-i) m (m+j) k) (fun Q A _=>(intOf Q).toNat+(intOf A).toNat)
 case atStart=>exact⟨m-a,c-m,l,by rw[(f6J:((m-a:Nat):Int)=(m:Int)-a)],by rw[(f6J:((c-m:Nat):Int)=(c:Int)-m)],f6J,f6J,f6J,f6J,V H,List.Perm.refl _,fun k=>by rw[(f6J:m-(m-a)=a),(f6J:m+(c-m)=c)]⟩
 case round =>
  clear H;obtain⟨i,j,M,rfl,rfl,S,I,X,W,K,s,x⟩:=hrel;have N:=K.len;have u:(m:Int)-(i:Int)=((m-i:Nat):Int):=f6J;by_cases E:j<i
  ·have T:=O (x2z K (m-i) m j L f6J f6J);have f:Hid (∀k,x0v l a m c k=x0v (swR M (m-i) m j) (m-(i-j)) m (m+j) k):=fun k=>(x k).trans (z4g f6J f6J E k);have Z:Hid ((swR M (m-i) m j).Perm l):=(y0c f6J f6J).trans s;have y:((i:Int)==(j:Int))=false:=P8P;rw[<- u]at T;clear K s x u;generalize swR M (m-i) m j=C at *;go_wp2_with(go_at_call 312;refine(V T).mono ?_;rintro e R ⟨rfl,d⟩);have r:=O d;clear d T
   go_roundw
   case rel=>exact⟨i-j,j,C,by rw[(f6J:((i-j:Nat):Int)=(i:Int)-j)],rfl,f6J,I,f6J,W,V r,V Z,V f⟩
   case measure=>exact g7W
  ·by_cases J:i<j
   ·have T:=O (x2z K (m-i) (m+j-i) i L f6J f6J);have f:Hid (∀k,x0v l a m c k=x0v (swR M (m-i) (m+j-i) i) (m-i) m (m+(j-i)) k):=fun k=>(x k).trans (z4f f6J f6J J k);have Z:Hid ((swR M (m-i) (m+j-i) i).Perm l):=(y0c f6J f6J).trans s;have y:((i:Int)==(j:Int))=false:=P8P;have U:((m+j-i:Nat):Int)=(m:Int)+(j:Int)-(i:Int):=f6J;rw[<- u,U]at T;clear K s x u U;generalize swR M (m-i) (m+j-i) i=C at *;go_wp2_with(go_at_call 312;refine(V T).mono ?_;rintro e R ⟨rfl,d⟩);have r:=O d;clear d T
    go_roundw
    case rel=>exact⟨i,j-i,C,rfl,by rw[(f6J:((j-i:Nat):Int)=(j:Int)-i)],S,f6J,X,f6J,V r,V Z,V f⟩
    case measure=>exact g7W
   ·have o:i=j:=f6J;subst o;have T:=O (x2z K (m-i) m i L f6J f6J);have f:Hid (∀k,(swR M (m-i) m i).getD k 0=x0v l a m c k):=fun k=>((x k).trans (z4h f6J f6J k)).symm;have Z:Hid ((swR M (m-i) m i).Perm l):=(y0c f6J f6J).trans s;rw[<- u]at T;clear K s x u;generalize swR M (m-i) m i=C at *;go_wp2_with(go_at_call 312;refine(V T).mono ?_;rintro e R ⟨rfl,d⟩);have r:=O d;clear d T;go_end0;exact⟨rfl,C,V r,V Z,V f⟩
namespace Pu
def lx(xs:List Int)(x y:Nat):Prop:=xs.getD x 0<xs.getD y 0\/(xs.getD x 0=xs.getD y 0/\x<y)
theorem z3x{xs:List Int}{x y z:Nat}(Z:lx xs x y)(D:lx xs y z):lx xs x z:=by unfold lx at *;exact f6J
theorem q0d{xs:List Int}{x y:Nat}(Z:x<y)(D:¬xs.getD y 0<xs.getD x 0):lx xs x y:=by unfold lx;exact f6J
theorem x1V{a b:Int}:cmpI a b<0↔a<b:=by unfold cmpI;exact t3k
def SR(xs:List Int)(l:List Nat)(a c:Nat):Prop:=∀i j,a<=i->i<j->j<c->lx xs (l.getD i 0) (l.getD j 0)
def Org(l l':List Nat)(a c:Nat):Prop:=∀i,a<=i->i<c->∃i',a<=i'/\i'<c/\l'.getD i 0=l.getD i' 0
def Out(l l':List Nat)(a c:Nat):Prop:=∀k,k<a\/c<=k->l'.getD k 0=l.getD k 0
theorem Org.refl(l:List Nat)(a c:Nat):Org l l a c:=fun i Z D=>⟨i,Z,D,rfl⟩
theorem Out.refl(l:List Nat)(a c:Nat):Out l l a c:=fun _ _=>rfl
theorem Org.trans{u C X:List Nat}{a c:Nat}(h:Org u C a c)(k:Org C X a c):Org u X a c:=fun i Z D=>by
 obtain⟨j,J,F,E⟩:=k i Z D;obtain⟨m,q,y,W⟩:=h j J F;exact⟨m,q,y,E.trans W⟩
theorem Out.trans{u C X:List Nat}{a c:Nat}(h:Out u C a c)(k:Out C X a c):Out u X a c:=fun i Z=>(k i Z).trans (h i Z)
theorem Org.wide{l M:List Nat}{a c X c':Nat}(h:Org l M a c)(k:Out l M a c)(Z:X<=a)(D:c<=c'):Org l M X c':=fun i J F=>by
 by_cases hi:a<=i/\i<c
 ·obtain⟨j,E,q,y⟩:=h i hi.1 hi.2;exact⟨j,f6J,f6J,y⟩
 ·exact⟨i,J,F,k i f6J⟩
theorem Out.wide{l M:List Nat}{a c X c':Nat}(k:Out l M a c)(Z:X<=a)(D:c<=c'):Out l M X c':=fun i h=>k i f6J
theorem z4t{l:List Nat}{i j a c:Nat}(hi:i<l.length)(R:j<l.length)(Z:a<=i/\i<c)(D:a<=j/\j<c):Org l (swapL l i j) a c:=fun m J F=>by
 rw[x3l hi R];by_cases P:m=j
 ·rw[if_pos P];exact⟨i,Z.1,Z.2,rfl⟩
 ·rw[if_neg P];by_cases z:m=i
  ·rw[if_pos z];exact⟨j,D.1,D.2,rfl⟩
  ·rw[if_neg z];exact⟨m,J,F,rfl⟩
theorem z4u{l:List Nat}{i j a c:Nat}(hi:i<l.length)(R:j<l.length)(Z:a<=i/\i<c)(D:a<=j/\j<c):Out l (swapL l i j) a c:=fun m J=>by
 rw[x3l hi R,if_neg f6J,if_neg f6J]
structure Inv(xs:List Int)(l:List Nat)(a i j:Nat):Prop where
 A:∀p q,a<=p->p<q->q<=i->p≠j->q≠j->lx xs (l.getD p 0) (l.getD q 0)
 B:∀q,j<q->q<=i->lx xs (l.getD j 0) (l.getD q 0)
 C:∀p,a<=p->p<=i->p≠j->l.getD p 0<l.getD j 0
theorem Inv.step{xs:List Int}{l:List Nat}{a i j:Nat}(h:Inv xs l a i j)(Z:a<j)(D:j<=i)(S:i<l.length)(I:xs.getD (l.getD j 0) 0<xs.getD (l.getD (j-1) 0) 0):Inv xs (swapL l j (j-1)) a i (j-1):=by
 have G:=fun m=>x3l (l:=l) (i:=j) (j:=j-1) f6J f6J m;have L:(swapL l j (j-1)).getD (j-1) 0=l.getD j 0:=(by rw[G,if_pos rfl]);have K:(swapL l j (j-1)).getD j 0=l.getD (j-1) 0:=(by rw[G,if_neg f6J,if_pos rfl]);have H:∀m,m≠j->m≠j-1->(swapL l j (j-1)).getD m 0=l.getD m 0:=fun m J F=>(by rw[G,if_neg F,if_neg J]);refine⟨fun p q J F E M y=>?_,fun q J F=>?_,fun p J F E=>?_⟩
 ·by_cases P:p=j
  ·subst P;rw[K,H q f6J f6J];exact h.A _ _ f6J f6J E f6J f6J
  ·by_cases z:q=j
   ·subst z;rw[K,H p f6J f6J];exact h.A _ _ J f6J f6J f6J f6J
   ·rw[H p P M,H q z y];exact h.A _ _ J F E P z
 ·rw[L];by_cases P:q=j
  ·subst P;rw[K];exact .inl I
  ·rw[H q P f6J];exact h.B q f6J F
 ·rw[L];by_cases P:p=j
  ·subst P;rw[K];exact h.C _ f6J f6J f6J
  ·rw[H p P E];exact h.C p J F P
theorem Inv.done{xs:List Int}{l:List Nat}{a i j:Nat}(h:Inv xs l a i j)(Z:a<=j)(D:j<=i)(hc:j=a\/¬xs.getD (l.getD j 0) 0<xs.getD (l.getD (j-1) 0) 0):SR xs l a (i+1):=by
 intro p q J F E;by_cases P:p=j
 ·subst P;exact h.B q F f6J
 ·by_cases z:q=j
  ·subst z;rcases hc with hc | hc
   ·omega
   ·have S:=q0d (h.C (q-1) f6J f6J f6J) hc;by_cases N:p=q-1
    ·rw[N];exact S
    ·exact z3x (h.A p (q-1) J f6J f6J f6J f6J) S
  ·exact h.A p q J F f6J P z
theorem Inv.start{xs:List Int}{l u:List Nat}{a i c:Nat}(L:SR xs u a i)(R:Org l u a i)(d:Out l u a i)(C:i<c)(t:∀p q,a<=p->p<q->q<c->l.getD p 0<l.getD q 0):Inv xs u a i i:=by
 refine⟨fun p q J F E B y=>L p q J F f6J,fun q J F=>f6J,fun p J F E=>?_⟩;obtain⟨A,B,y,W⟩:=R p J f6J;rw[W,d i f6J];exact t A i B y C
end Pu
def SymP(b B g n cap:Nat)(xv:Value)(xs:List Int)(w0 w1:World)(l:List Nat)(a c:Nat)(e:Ending)(w':World):Prop :=
 e=.returned (.tuple #[])/\∃l',SrY b B g n cap xv xs w0 w1 l' w'/\l'.Perm l/\Pu.SR xs l' a c/\Pu.Org l l' a c/\Pu.Out l l' a c
theorem x4i{b B g n cap:Nat}{v:Value}{xs:List Int}{w0 w1 w:World}{l:List Nat}(h:SrY b B g n cap v xs w0 w1 l w)(a c:Nat)(h3:c<=n)(ha:a<=n)(hn:n<=100000)(t:∀p q,a<=p->p<q->q<c->l.getD p 0<l.getD q 0) :
  Calls prog 297 #[.slice (some ⟨g,0,none⟩) n cap,.int .i64 a,.int .i64 c,.func (.func 251) #[] #[.pointer (some ⟨b,0,none⟩)]] w (SymP b B g n cap v xs w0 w1 l a c):=by
 have ay:=h.caps;have H:=O h;have aj:=O t;clear h t;go_enter func297,ntmps297;go_wp2;go_loopw[8,9] (fun ii _ wr=>∃(i:Nat) (u:List Nat),ii=.int .i64 i/\a<i/\(i<=c\/i=a+1)/\SrY b B g n cap v xs w0 w1 u wr/\u.Perm l/\Pu.SR xs u a i/\Pu.Org l u a i/\Pu.Out l u a i/\(i=a+1->u=l)) (fun ii _ _=>n+1-(intOf ii).toNat)
 case atStart=>exact⟨a+1,l,g2A,f6J,.inr rfl,V H,List.Perm.refl _,fun i j h1 h2 h4=>f6J,Pu.Org.refl _ _ _,Pu.Out.refl _ _ _,fun _=>rfl⟩
 case round =>
  clear H;obtain⟨i,u,rfl,X,aq,K,s,ab,M,L,x⟩:=hrel;obtain⟨wo,aw⟩:∃wo,wo=wr:=⟨_,rfl⟩;subst aw;by_cases E:i<c
  ·have S:=Pu.Inv.start ab M L E (V aj);have d:=O S;have r:=O K;have HP:=O s;have HO:=O (M.wide L (l0r a) (Nat.le_succ i));have Y:=O (L.wide (l0r a) (Nat.le_succ i));clear S K s ab M L x;go_wp2;go_loopw[9] (fun A wr=>∃(j:Nat) (C:List Nat),A=.int .i64 j/\a<=j/\j<=i/\SrY b B g n cap v xs w0 w1 C wr/\C.Perm l/\Pu.Inv xs C a i j/\Pu.Org l C a (i+1)/\Pu.Out l C a (i+1)) (fun A _=>(intOf A).toNat)
   case atStart=>exact⟨i,u,rfl,f6J,l0r _,V r,V HP,V d,V HO,V Y⟩
   case round =>
    clear r HP d HO Y;obtain⟨j,C,rfl,am,ae,K,s,S,M,L⟩:=hrel;have aF:=K.len;by_cases hj:a<j
    ·have P:=K.cell (k:=j) f6J;have z:=K.cell (k:=j-1) f6J;have N:=K.frozen j;have o:=K.frozen (j-1);have HC:=fun m=>O (K.cmp (i:=j) (j:=j-1) f6J f6J m);have J:((j:Int)-1).toNat=j-1:=f6J;have ar:(j:Int)-1=((j-1:Nat):Int):=f6J;by_cases hc:xs.getD (C.getD j 0) 0<xs.getD (C.getD (j-1) 0) 0
     ·have F:Pu.cmpI (xs.getD (C.getD j 0) 0) (xs.getD (C.getD (j-1) 0) 0)<0:=Pu.x1V.2 hc;have f:=O fun m=>(K.drewN m).swap (i:=j) (j:=j-1) f6J f6J;have Q:=O (S.step hj ae f6J hc);have W:=O ((Pu.x3m (l:=C) (i:=j) (j:=j-1) f6J f6J).trans s);have Z:=O (M.trans (Pu.z4t (l:=C) (i:=j) (j:=j-1) (a:=a) (c:=i+1) f6J f6J f6J f6J));have G:=O (L.trans (Pu.z4u (l:=C) (i:=j) (j:=j-1) (a:=a) (c:=i+1) f6J f6J f6J f6J));clear K s S M L hc;generalize Pu.swapL C j (j-1)=l3,Pu.cmpI (xs.getD (C.getD j 0) 0) (xs.getD (C.getD (j-1) 0) 0)=D at *;generalize C.getD j 0=p,C.getD (j-1) 0=q at *;go_wp2;go_quiet(first| (go_at_call 251;exact Calls.quiet_of (V (HC _))));have R:(wr.drewN nq).cell? ⟨g,j,none⟩=some (.int .i64 (p:Int)):=P;have aB:(wr.drewN nq).cell? ⟨g,j-1,none⟩=some (.int .i64 (q:Int)):=z;have aC:(wr.drewN nq).frozen? ⟨g,j,none⟩=false:=N;have aD:(wr.drewN nq).frozen? ⟨g,j-1,none⟩=false:=o;have U:=O (V f nq);clear P z N o f HC F;generalize wr.drewN nq=wd at *;have y:¬(j=j-1):=f6J;go_wp2;go_region;go_wp2
      go_roundw
      case rel=>exact⟨j-1,l3,by first| rfl|(rw[ar]) | go_num,f6J,f6J,V U,V W,V Q,V Z,V G⟩
      case measure=>exact g7T
     ·have F:¬Pu.cmpI (xs.getD (C.getD j 0) 0) (xs.getD (C.getD (j-1) 0) 0)<0:=fun hh=>hc (Pu.x1V.1 hh);have f:=O fun m=>K.drewN m;have I:=O (S.done am ae (.inr hc));have W:=O s;have Z:=O M;have G:=O L;clear K s S M L hc;generalize Pu.cmpI (xs.getD (C.getD j 0) 0) (xs.getD (C.getD (j-1) 0) 0)=D at *;generalize C.getD j 0=p at *;generalize C.getD (j-1) 0=q at *;have aA:(decide (D<0))=false:=d0f F;go_wp2;go_quiet(first| (go_at_call 251;exact Calls.quiet_of (V (HC _))));have U:=O (V f nq);clear P z N o f HC;generalize wr.drewN nq=wd at *;go_wp2
      exact n0i
    ·have f:=O fun m=>K.drewN m;have I:=O (S.done am ae (.inl f6J));have W:=O s;have Z:=O M;have G:=O L;clear K s S M L;go_wp2;go_quiet(fail);have U:=O (V f nq);clear f;generalize wr.drewN nq=wd at *;go_wp2
     exact n0i
  ·have T:Hid (SymP b B g n cap v xs w0 w1 l a c (.returned (.tuple #[])) wo):=by
    refine⟨rfl,u,K,s,?_,?_,?_⟩
    ·intro p q h1 h2 h4;exact ab p q h1 h2 f6J
    ·rcases aq with h1 | h1
     ·have:i=c:=f6J;subst this;exact M
     ·rw[x h1];exact Pu.Org.refl _ _ _
    ·rcases aq with h1 | h1
     ·have:i=c:=f6J;subst this;exact L
     ·rw[x h1];exact Pu.Out.refl _ _ _
   clear K s ab M L x;go_wp2;go_end0;exact V T
