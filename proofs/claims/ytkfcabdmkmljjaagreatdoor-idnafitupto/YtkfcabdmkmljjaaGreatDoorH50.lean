/- Lemmas. -/
import Derived.Test.YtkfcabdmkmljjaaGreatDoorH49
import Derived.Deep.DeepCutAuto
import Derived.Deep.CutBlock
set_option maxHeartbeats 20000000
set_option maxRecDepth 20000
namespace Go.Proofs.YtkfcabdmkmljjaaGreatDoor
open Go.Proofs.Tryz
open Go.RowKit
section
variable{p:Prop}
theorem R6s(h:p:=by
 clear H;obtain⟨s,r,rfl,rfl,aM,bn,aN,N,ae,K⟩:=hrel;by_cases bj:s<r
 ·have bh:(s+r) / 2<r:=f6J;have aK:s<=(s+r) / 2:=f6J;have be:((s:Int)+(r:Int)) / 2=(((s+r) / 2:Nat):Int):=f6J;generalize hqq:(s+r) / 2=y at *;clear hqq;have aC:mid+m-1-y<n:=f6J;have e1:=K.cell (k:=mid+m-1-y) aC;have e2:=K.cell (k:=y) f6J;have HC:=fun k=>O (K.cmp (i:=mid+m-1-y) (j:=y) aC f6J k);have HN:=O fun k=>K.drewN k;have bm:((mid:Int)+(m:Int)-1-(y:Int))=((mid+m-1-y:Nat):Int):=f6J;clear K;by_cases I:xs.getD (l.getD (mid+m-1-y) 0) 0<xs.getD (l.getD y 0) 0
  ·have aB:Pu.cmpI (xs.getD (l.getD (mid+m-1-y) 0) 0) (xs.getD (l.getD y 0) 0)<0:=Pu.x1V.2 I;have T:=O I;have aG:=O N;clear I N ae;generalize Pu.cmpI (xs.getD (l.getD (mid+m-1-y) 0) 0) (xs.getD (l.getD y 0) 0)=cr at *;generalize hp1:l.getD y 0=p at *;generalize R:l.getD (mid+m-1-y) 0=q at *;have G:=O hp1;have W:=O R;clear hp1 R;generalize hpx:mid+m-1-y=px at *;have aq:=O hpx;clear hpx;go_wp2;go_quiet(first| (go_at_call 251;exact Calls.quiet_of (V (HC _))));have am:=O (V HN nq);clear e1 e2 HN HC;generalize wr.drewN nq=wd at *;go_wp2
   go_roundw
   case rel=>exact⟨s,y,rfl,rfl,aM,aK,f6J,V aG,.inr (by rw[V aq,V G,V W];exact V T),V am⟩
   case measure=>exact g8b
  ·have aB:¬Pu.cmpI (xs.getD (l.getD (mid+m-1-y) 0) 0) (xs.getD (l.getD y 0) 0)<0:=fun hh=>I (Pu.x1V.1 hh);have Y:xs.getD (l.getD y 0) 0<=xs.getD (l.getD (mid+m-1-y) 0) 0:=f6J;have T:=O Y;have aF:=O ae;clear I Y N ae;generalize Pu.cmpI (xs.getD (l.getD (mid+m-1-y) 0) 0) (xs.getD (l.getD y 0) 0)=cr at *;generalize hp1:l.getD y 0=p at *;generalize R:l.getD (mid+m-1-y) 0=q at *;have G:=O hp1;have W:=O R;clear hp1 R;have aq:Hid (mid+m-(y+1)=mid+m-1-y):=(by show _=_;exact f6J);generalize mid+m-1-y=px at *;have aR:(decide (cr<0))=false:=d0f aB;go_wp2;go_quiet(first| (go_at_call 251;exact Calls.quiet_of (V (HC _))));have am:=O (V HN nq);clear e1 e2 HN HC;generalize wr.drewN nq=wd at *;go_wp2
   go_roundw
   case rel=>exact⟨y+1,r,by go_num,rfl,f6J,f6J,aN,.inr (by rw[(f6J:y+1-1=y),V G,V aq,V W];exact V T),V aF,V am⟩
   case measure=>exact g8b
 ·have aO:s=r:=f6J;subst aO;obtain⟨E,hE⟩:∃E,E=mid+m-s:=⟨_,rfl⟩;have aL:m<=E:=f6J;have aJ:E<=c:=f6J;have aH:s+(E-m)=mid:=f6J;have aI:mid+(m-s)=E:=f6J;have aX:(mid:Int)+(m:Int)-(s:Int)=(E:Int):=by omega
  have L:Hid (∀l1,(∀k,l1.getD k 0=x0t l s m E k)->Pu.Mid xs l l1 a m c mid s E):=fun l1 aD=>V az s E l1 f6J f6J aL aJ aH aI
   (fun k1 o=>N.elim (fun N=>f6J) fun N=>by rw[hE];exact N)
   (fun k1 o=>ae.elim (fun ae=>f6J) fun ae=>by rw[(f6J:E-1=mid+m-1-s)];exact ae) aD
  have Q:Hid (s<m->m<E->Calls prog 310 #[.slice (some ⟨g,0,none⟩) n cap,.int .i64 s,.int .i64 m,.int .i64 E,.func (.func 251) #[] #[.pointer (some ⟨b,0,none⟩)]] wr (RotP b B g n cap u xs f w1 l s m E)):=fun k1 o=>x8K K s m E _ k1 o f6J hn;have HS:=O K;have HU:Hid (a<=s/\s<=m):=⟨f6J,f6J⟩;clear N ae K az hE;by_cases hp:s<m
  ·have R:mid<E:=f6J;by_cases y:m<E
   ·have aj:s<mid:=f6J;by_cases hr:a<s
    ·by_cases ht:E<c
     ·have HC:=O (V Q hp y);go_wp2_with(go_at_call 310;refine(V HC).mono ?_;rintro e wq ⟨rfl,l1,d,X,D⟩;have M:=O d;have G:=O X;have S:=O D;clear d X D HC Q HS);have C:=O (V L l1 (V S));clear L S;have HC:=O (V ab a s mid l1 _ f6J (V M) hr aj f6J (V C).s1 (V C).s2 (V C).i1);go_wp2_with(go_at_call 298;refine(V HC).mono ?_;rintro e ar ⟨rfl,l2,d,X,D,v,Z⟩;have P:=O d;have W:=O (X.trans (V G));have A:=O (And.intro D (And.intro v Z));clear d X D v Z HC M G);have HC:=O (V ab mid E c l2 _ f6J (V P) R ht f6J (Pu.x0n (V A).2.2 (l0r _) (V C).s3) (Pu.x0n (V A).2.2 f6J (V C).s4) (Pu.x5z (V A).2.2 (V C).i2));go_wp2_with(go_at_call 298;refine(V HC).mono ?_;rintro e aw ⟨rfl,U,d,X,D,v,Z⟩;have ai:=O d;have ag:=O (X.trans (V W));have F:=O ((V C).done (V A).1 (V A).2.1 (V A).2.2 D v Z);clear d X D v Z HC P W A C);go_end0;exact⟨rfl,U,V ai,V ag,V F⟩
     ·have HC:=O (V Q hp y);go_wp2_with(go_at_call 310;refine(V HC).mono ?_;rintro e wq ⟨rfl,l1,d,X,D⟩;have M:=O d;have G:=O X;have S:=O D;clear d X D HC Q HS);exact N8g
    ·by_cases ht:E<c
     ·have HC:=O (V Q hp y);go_wp2_with(go_at_call 310;refine(V HC).mono ?_;rintro e wq ⟨rfl,l1,d,X,D⟩;have M:=O d;have G:=O X;have S:=O D;clear d X D HC Q HS);have C:=O (V L l1 (V S));clear L S;obtain⟨l2,x⟩:∃l2,l2=l1:=⟨l1,rfl⟩;have P:Hid (SrY b B g n cap u xs f w1 l2 wq):=u8x;exact u4T
     ·have HC:=O (V Q hp y);go_wp2_with(go_at_call 310;refine(V HC).mono ?_;rintro e wq ⟨rfl,l1,d,X,D⟩;have M:=O d;have G:=O X;have S:=O D;clear d X D HC Q HS);have C:=O (V L l1 (V S));clear L S;obtain⟨l2,x⟩:∃l2,l2=l1:=⟨l1,rfl⟩;have P:Hid (SrY b B g n cap u xs f w1 l2 wq):=u8x;have W:Hid (l2.Perm l):=W2A;have A:Hid (Pu.SR xs l2 a mid/\Pu.Org l1 l2 a mid/\Pu.Out l1 l2 a mid):=(by rw[x];exact⟨Pu.x0f (V C).s1 (V C).s2 f6J ⟨(V HU).1,f6J⟩,Pu.Org.refl _ _ _,Pu.Out.refl _ _ _⟩);clear x M G;have F:=O ((V C).done (V A).1 (V A).2.1 (V A).2.2 (Pu.x0n (V A).2.2 (l0r _) (Pu.x0f (V C).s3 (V C).s4 f6J f6J)) (Pu.Org.refl _ _ _) (Pu.Out.refl _ _ _));clear C A;go_wp2;go_end0;exact⟨rfl,l2,V P,V W,V F⟩
   ·have aj:¬s<mid:=f6J;by_cases hr:a<s
    ·exact v5B
    ·exact v5B
  ·have R:¬mid<E:=f6J;by_cases y:m<E
   ·have aj:s<mid:=f6J;by_cases hr:a<s
    ·by_cases ht:E<c
     ·exact G9g
     ·exact G9g
    ·exact p5D
   ·have aj:¬s<mid:=f6J;by_cases hr:a<s
    ·exact p5D
    ·exact p5D):p:=h
theorem g4h(h:p:=by rw[Nat.mul_left_comm,Nat.mul_assoc]):p:=h
theorem n7P(h:p:=by subst B;rw[if_pos rfl,if_neg f6J,if_neg f6J,if_pos f6J]):p:=h
theorem F0Y(h:p:=by obtain⟨l1,J⟩:∃l1,l1=l:=⟨l,rfl⟩;have M:Hid (SrY b B g n cap u xs f w1 l1 wr):=V9F;have G:Hid (l1.Perm l):=e0W;have S:Hid (∀k,l1.getD k 0=x0t l s m E k):=t4I;clear J HS Q;have C:=O (V L l1 (V S));clear L S;obtain⟨l2,x⟩:∃l2,l2=l1:=⟨l1,rfl⟩;have P:Hid (SrY b B g n cap u xs f w1 l2 wr):=u8x;have W:Hid (l2.Perm l):=W2A;have A:Hid (Pu.SR xs l2 a mid/\Pu.Org l1 l2 a mid/\Pu.Out l1 l2 a mid):=v2Y;clear x M G;have F:=O ((V C).done (V A).1 (V A).2.1 (V A).2.2 (Pu.x0n (V A).2.2 (l0r _) (Pu.x0f (V C).s3 (V C).s4 f6J f6J)) (Pu.Org.refl _ _ _) (Pu.Out.refl _ _ _));clear C A;go_wp2;go_end0;exact⟨rfl,l2,V P,V W,V F⟩):p:=h
theorem E9u(h:p:=by rw[(f6J:((2*z:Nat):Int)=(z:Int)*2)]):p:=h
theorem r4c(h:p:=by rw[if_pos P,if_neg f6J,if_pos rfl,if_neg f6J,if_pos P]):p:=h
theorem T9k(h:p:=by rw[Nat.add_mul,Nat.one_mul]):p:=h
theorem u4T(h:p:=by have W:Hid (l2.Perm l):=W2A;have A:Hid (Pu.SR xs l2 a mid/\Pu.Org l1 l2 a mid/\Pu.Out l1 l2 a mid):=v2Y;clear x M G;have HC:=O (V ab mid E c l2 _ f6J (V P) R ht f6J (Pu.x0n (V A).2.2 (l0r _) (V C).s3) (Pu.x0n (V A).2.2 f6J (V C).s4) (Pu.x5z (V A).2.2 (V C).i2));go_wp2_with(go_at_call 298;refine(V HC).mono ?_;rintro e aw ⟨rfl,U,d,X,D,v,Z⟩;have ai:=O d;have ag:=O (X.trans (V W));have F:=O ((V C).done (V A).1 (V A).2.1 (V A).2.2 D v Z);clear d X D v Z HC P W A C);go_end0;exact⟨rfl,U,V ai,V ag,V F⟩):p:=h
theorem N8g(h:p:=by have C:=O (V L l1 (V S));clear L S;have HC:=O (V ab a s mid l1 _ f6J (V M) hr aj f6J (V C).s1 (V C).s2 (V C).i1);go_wp2_with(go_at_call 298;refine(V HC).mono ?_;rintro e ar ⟨rfl,l2,d,X,D,v,Z⟩;have P:=O d;have W:=O (X.trans (V G));have A:=O (And.intro D (And.intro v Z));clear d X D v Z HC M G);have F:=O ((V C).done (V A).1 (V A).2.1 (V A).2.2 (Pu.x0n (V A).2.2 (l0r _) (Pu.x0f (V C).s3 (V C).s4 f6J f6J)) (Pu.Org.refl _ _ _) (Pu.Out.refl _ _ _));clear C A;go_wp2;go_end0;exact⟨rfl,l2,V P,V W,V F⟩):p:=h
theorem v2Y(h:p:=by rw[x];exact⟨Pu.x0f (V C).s1 (V C).s2 f6J ⟨(V HU).1,f6J⟩,Pu.Org.refl _ _ _,Pu.Out.refl _ _ _⟩):p:=h
theorem v5B(h:p:=by
 by_cases ht:E<c
 ·obtain⟨l1,J⟩:∃l1,l1=l:=⟨l,rfl⟩;have M:Hid (SrY b B g n cap u xs f w1 l1 wr):=V9F;have G:Hid (l1.Perm l):=e0W;have S:Hid (∀k,l1.getD k 0=x0t l s m E k):=t4I;clear J HS Q;have C:=O (V L l1 (V S));clear L S;obtain⟨l2,x⟩:∃l2,l2=l1:=⟨l1,rfl⟩;have P:Hid (SrY b B g n cap u xs f w1 l2 wr):=u8x;exact u4T
 ·exact F0Y):p:=h
theorem E9c(h:p:=by rw[(f6J:y+1-1=y),V G];exact V T):p:=h
theorem G9g(h:p:=by obtain⟨l1,J⟩:∃l1,l1=l:=⟨l,rfl⟩;have M:Hid (SrY b B g n cap u xs f w1 l1 wr):=V9F;have G:Hid (l1.Perm l):=(by rw[J];exact List.Perm.refl _);have S:Hid (∀k,l1.getD k 0=x0t l s m E k):=t4I;clear J HS Q;exact N8g):p:=h
theorem e0W(h:p:=by rw[J];exact List.Perm.refl _):p:=h
theorem u8x(h:p:=by rw[x];exact V M):p:=h
theorem t4I(h:p:=by rw[J];exact Pu.x0H f6J):p:=h
theorem p5D(h:p:=by
 by_cases ht:E<c
 ·exact F0Y
 ·exact F0Y):p:=h
theorem V9F(h:p:=by rw[J];exact V HS):p:=h
theorem W2A(h:p:=by rw[x];exact V G):p:=h
end
namespace Pu
def fwd(l l':List Nat)(a k:Nat):Prop:=∀p,l'.getD p 0=if a<=p/\p<k then l.getD (p+1) 0 else if p=k then l.getD a 0 else l.getD p 0
def bwd(l l':List Nat)(m k:Nat):Prop:=∀p,l'.getD p 0=if k<p/\p<=m then l.getD (p-1) 0 else if p=k then l.getD m 0 else l.getD p 0
theorem z3a(l:List Nat)(a:Nat):fwd l l a a:=fun p=>by
 rw[if_neg f6J];by_cases h:p=a
 ·rw[if_pos h,h]
 ·rw[if_neg h]
theorem z2u(l:List Nat)(m:Nat):bwd l l m m:=fun p=>by
 rw[if_neg f6J];by_cases h:p=m
 ·rw[if_pos h,h]
 ·rw[if_neg h]
theorem z3b{l A:List Nat}{a k:Nat}(h:fwd l A a k)(G:a<=k)(S:k+1<A.length):fwd l (swapL A k (k+1)) a (k+1):=fun p=>by
 rw[x3j f6J S,h k,h (k+1),h p];by_cases P:p=k+1
 ·exact r4c
 ·rw[if_neg P];by_cases B:p=k
  ·exact n7P
  ·rw[if_neg B];by_cases N:a<=p/\p<k
   ·rw[if_pos N,if_pos f6J]
   ·rw[if_neg N,if_neg B,if_neg (f6J:¬(a<=p/\p<k+1)),if_neg P]
theorem z2v{l A:List Nat}{m k:Nat}(h:bwd l A m k)(G:1<=k)(F:k<=m)(S:k<A.length):bwd l (swapL A k (k-1)) m (k-1):=fun p=>by
 rw[x3j S f6J,h k,h (k-1),h p];by_cases P:p=k-1
 ·exact r4c
 ·rw[if_neg P];by_cases B:p=k
  ·exact n7P
  ·rw[if_neg B];by_cases N:k<p/\p<=m
   ·rw[if_pos N,if_pos f6J]
   ·rw[if_neg N,if_neg B,if_neg (f6J:¬(k-1<p/\p<=m)),if_neg P]
theorem x5o{xs:List Int}{l:List Nat}{a c p q:Nat}(h:SR xs l a c)(Z:a<=p)(D:p<=q)(J:q<c):xs.getD (l.getD p 0) 0<=xs.getD (l.getD q 0) 0:=by
 rcases Nat.eq_or_lt_of_le D with h4 | h4
 ·rw[h4];exact Int.le_refl _
 ·have:=h p q Z h4 J;unfold lx at this;omega
theorem z2Z{xs:List Int}{l A:List Nat}{a m c t:Nat}(o:m=a+1)(D:m<=t)(g:t<=c)(L:SR xs l m c)(R:∀i j,a<=i->i<m->m<=j->j<c->l.getD i 0<l.getD j 0)
  (h1:t=m\/xs.getD (l.getD (t-1) 0) 0<xs.getD (l.getD a 0) 0) (h2:t=c\/xs.getD (l.getD a 0) 0<=xs.getD (l.getD t 0) 0) (F:fwd l A a (t-1)):SR xs A a c/\Org l A a c/\Out l A a c:=by
 have C:∀p,m<=p->p<t->lx xs (l.getD p 0) (l.getD a 0):=fun p J H=>by
  rcases h1 with h1 | h1
  ·omega
  ·have:=x5o L (p:=p) (q:=t-1) J f6J f6J;unfold lx;omega
 have B:∀p,t<=p->p<c->lx xs (l.getD a 0) (l.getD p 0):=fun p J H=>by
  rcases h2 with h2 | h2
  ·omega
  ·have:=x5o L (p:=t) (q:=p) f6J J H;have:=R a p (l0r _) f6J f6J H;unfold lx;omega
 refine⟨fun p q J H K=>?_,fun p J H=>?_,fun p J=>?_⟩
 ·rw[F p,F q];by_cases P:a<=p/\p<t-1
  ·rw[if_pos P];by_cases G:a<=q/\q<t-1
   ·rw[if_pos G];exact L _ _ f6J f6J f6J
   ·rw[if_neg G];by_cases N:q=t-1
    ·rw[if_pos N];exact C _ f6J f6J
    ·rw[if_neg N];exact L _ _ f6J f6J K
  ·rw[if_neg P,if_neg (f6J:¬(a<=q/\q<t-1))];by_cases N:p=t-1
   ·rw[if_pos N,if_neg f6J];exact B _ f6J K
   ·rw[if_neg N,if_neg f6J];exact L _ _ f6J H K
 ·rw[F p];by_cases P:a<=p/\p<t-1
  ·rw[if_pos P];exact⟨p+1,f6J,f6J,rfl⟩
  ·rw[if_neg P];by_cases N:p=t-1
   ·rw[if_pos N];exact⟨a,l0r _,f6J,rfl⟩
   ·rw[if_neg N];exact⟨p,J,H,rfl⟩
 ·rw[F p,if_neg f6J];by_cases N:p=t-1
  ·omega
  ·rw[if_neg N]
theorem z2t{xs:List Int}{l A:List Nat}{a m c t:Nat}(o:c=m+1)(Q:a<=t)(D:t<=m)(L:SR xs l a m)(R:∀i j,a<=i->i<m->m<=j->j<c->l.getD i 0<l.getD j 0)
  (h1:t=a\/xs.getD (l.getD (t-1) 0) 0<=xs.getD (l.getD m 0) 0) (h2:t=m\/xs.getD (l.getD m 0) 0<xs.getD (l.getD t 0) 0) (F:bwd l A m t):SR xs A a c/\Org l A a c/\Out l A a c:=by
 have C:∀p,a<=p->p<t->lx xs (l.getD p 0) (l.getD m 0):=fun p J H=>by
  rcases h1 with h1 | h1
  ·omega
  ·have:=x5o L (p:=p) (q:=t-1) J f6J f6J;have:=R p m J f6J (l0r _) f6J;unfold lx;omega
 have B:∀p,t<=p->p<m->lx xs (l.getD m 0) (l.getD p 0):=fun p J H=>by
  rcases h2 with h2 | h2
  ·omega
  ·have:=x5o L (p:=t) (q:=p) Q J H;unfold lx;omega
 refine⟨fun p q J H K=>?_,fun p J H=>?_,fun p J=>?_⟩
 ·rw[F p,F q];by_cases P:t<q/\q<=m
  ·rw[if_pos P];by_cases G:t<p/\p<=m
   ·rw[if_pos G];exact L _ _ f6J f6J f6J
   ·rw[if_neg G];by_cases N:p=t
    ·rw[if_pos N];exact B _ f6J f6J
    ·rw[if_neg N];exact L _ _ J f6J f6J
  ·rw[if_neg P,if_neg (f6J:¬(t<p/\p<=m)),if_neg f6J];by_cases N:q=t
   ·rw[if_pos N];exact C _ J f6J
   ·rw[if_neg N];exact L _ _ J H f6J
 ·rw[F p];by_cases P:t<p/\p<=m
  ·rw[if_pos P];exact⟨p-1,f6J,f6J,rfl⟩
  ·rw[if_neg P];by_cases N:p=t
   ·rw[if_pos N];exact⟨m,f6J,f6J,rfl⟩
   ·rw[if_neg N];exact⟨p,J,H,rfl⟩
 ·rw[F p,if_neg f6J];by_cases N:p=t
  ·omega
  ·rw[if_neg N]
end Pu
theorem z8e{b B g n cap:Nat}{u:Value}{xs:List Int}{w0 w1 w:World}{l:List Nat}(h:SrY b B g n cap u xs w0 w1 l w)(a m c:Nat)(o:m=a+1)(aG:m<c)(h3:c<=n)(hn:n<=100000)(hs:Pu.SR xs l m c)(ab:∀i j,a<=i->i<m->m<=j->j<c->l.getD i 0<l.getD j 0) :
  Calls prog 298 #[.slice (some ⟨g,0,none⟩) n cap,.int .i64 a,.int .i64 m,.int .i64 c,.func (.func 251) #[] #[.pointer (some ⟨b,0,none⟩)]] w (SymP b B g n cap u xs w0 w1 l a c):=by
 have am:=h.caps;have aD:=h.len;have H:=O h;have v:Hid (∀t A,m<=t->t<=c->(t=m\/xs.getD (l.getD (t-1) 0) 0<xs.getD (l.getD a 0) 0)->(t=c\/xs.getD (l.getD a 0) 0<=xs.getD (l.getD t 0) 0)->Pu.fwd l A a (t-1)->Pu.SR xs A a c/\Pu.Org l A a c/\Pu.Out l A a c):=fun t A k1 k2 k3 k4 k5=>Pu.z2Z o k1 k2 hs ab k3 k4 k5;have hd:((m:Int)-(a:Int))=1:=f6J;have aw:(((m:Int)-(a:Int))==1)=true:=(by rw[hd];rfl);have X:=O o;have ar:a<m:=f6J;clear h hs ab hd o;go_enter func298,ntmps298;go_wp2;go_loopw[10,11,12] (fun ii M _ wr=>∃i j:Nat,ii=.int .i64 i/\M=.int .i64 j/\m<=i/\i<=j/\j<=c/\(i=m\/xs.getD (l.getD (i-1) 0) 0<xs.getD (l.getD a 0) 0)/\(j=c\/xs.getD (l.getD a 0) 0<=xs.getD (l.getD j 0) 0)/\SrY b B g n cap u xs w0 w1 l wr) (fun ii M _ _=>(intOf M).toNat-(intOf ii).toNat)
 case atStart=>exact⟨m,c,rfl,rfl,l0r _,f6J,l0r _,.inl rfl,.inl rfl,V H⟩
 case round =>
  clear H;obtain⟨i,j,rfl,rfl,hi,aA,hj,N,J,K⟩:=hrel;by_cases aF:i<j
  ·have az:(i+j) / 2<j:=f6J;have ai:i<=(i+j) / 2:=f6J;have P:=K.cell (k:=(i+j) / 2) f6J;have e2:=K.cell (k:=a) f6J;have C:=fun k=>O (K.cmp (i:=(i+j) / 2) (j:=a) f6J f6J k);have f:=O fun k=>K.drewN k;have L:((i:Int)+(j:Int)) / 2=(((i+j) / 2:Nat):Int):=f6J;clear K;generalize hmid:(i+j) / 2=y at *;by_cases I:xs.getD (l.getD y 0) 0<xs.getD (l.getD a 0) 0
   ·have U:Pu.cmpI (xs.getD (l.getD y 0) 0) (xs.getD (l.getD a 0) 0)<0:=Pu.x1V.2 I;have T:=O I;have ae:=O J;clear I N J;generalize Pu.cmpI (xs.getD (l.getD y 0) 0) (xs.getD (l.getD a 0) 0)=cr at *;generalize hp1:l.getD y 0=p at *;generalize hp2:l.getD a 0=q at *;have G:=O hp1;have W:=O hp2;clear hp1 hp2;go_wp2;go_quiet(first| (go_at_call 251;exact Calls.quiet_of (V (C _))));have d:=O (V f nq);clear P e2 f C;generalize wr.drewN nq=wd at *;go_wp2
    go_roundw
    case rel=>exact⟨y+1,j,g2A,rfl,f6J,f6J,hj,.inr E9c,V ae,V d⟩
    case measure=>exact g7T
   ·have U:¬Pu.cmpI (xs.getD (l.getD y 0) 0) (xs.getD (l.getD a 0) 0)<0:=fun hh=>I (Pu.x1V.1 hh);have Y:xs.getD (l.getD a 0) 0<=xs.getD (l.getD y 0) 0:=f6J;have T:=O Y;clear Y;have af:=O N;clear I N J;generalize Pu.cmpI (xs.getD (l.getD y 0) 0) (xs.getD (l.getD a 0) 0)=cr at *;generalize hp1:l.getD y 0=p at *;generalize hp2:l.getD a 0=q at *;have G:=O hp1;have W:=O hp2;clear hp1 hp2;have aq:(decide (cr<0))=false:=d0f U;go_wp2;go_quiet(first| (go_at_call 251;exact Calls.quiet_of (V (C _))));have d:=O (V f nq);clear P e2 f C;generalize wr.drewN nq=wd at *;go_wp2
    go_roundw
    case rel=>exact⟨i,y,rfl,rfl,hi,ai,f6J,V af,.inr (by rw[V G];exact V T),V d⟩
    case measure=>exact g7T
  ·have Q:i=j:=f6J;subst Q;have D:=O (fun A hf=>V v i A hi hj N J hf);have r:=O K;have R:=V X;clear N J K v;have S:a<=i-1:=f6J;clear R;go_wp2;go_loopw[13] (fun Z wr=>∃(k:Nat) (A:List Nat),Z=.int .i64 k/\a<=k/\k<=i-1/\SrY b B g n cap u xs w0 w1 A wr/\A.Perm l/\Pu.fwd l A a k) (fun Z _=>c-(intOf Z).toNat)
   case atStart=>exact⟨a,l,rfl,l0r _,S,V r,List.Perm.refl _,Pu.z3a l a⟩
   case round =>
    clear r;obtain⟨k,A,rfl,ag,aB,K,s,hf⟩:=hrel;have aC:=K.len;by_cases x:k<i-1
    ·have P:=K.cell (k:=k) f6J;have e2:=K.cell (k:=k+1) f6J;have e3:=K.frozen k;have e4:=K.frozen (k+1);have f:=O (K.swap (i:=k) (j:=k+1) f6J f6J);have HP:=O ((Pu.x3k (l:=A) (i:=k) (j:=k+1) f6J f6J).trans s);have HF:=O (Pu.z3b hf ag f6J);have aH:¬(k=k+1):=f6J;have aI:((k:Int)+1).toNat=k+1:=f6J;have aj:(k:Int)<(i:Int)-1:=f6J;clear K s hf;generalize Pu.swapL A k (k+1)=l2,A.getD k 0=p,A.getD (k+1) 0=q at *;go_wp2;go_region;go_wp2
     go_roundw
     case rel=>exact⟨k+1,l2,g2A,f6J,f6J,V f,V HP,V HF⟩
     case measure=>exact g7T
    ·have F:k=i-1:=f6J;subst F
     have HF:Hid (SymP b B g n cap u xs w0 w1 l a c (.returned (.tuple #[])) wr):=by
      obtain⟨k1,k2,k3⟩:=V D A hf;exact⟨rfl,A,K,s,k1,k2,k3⟩
     have aj:¬(((i-1:Nat):Int)<(i:Int)-1):=f6J;clear K s hf D;generalize i-1=i2 at *;exact N7S
theorem z4u{b B g n cap:Nat}{u:Value}{xs:List Int}{w0 w1 w:World}{l:List Nat}(h:SrY b B g n cap u xs w0 w1 l w)(a m c:Nat)(hm:c=m+1)(aq:a+1<m)(h3:c<=n)(hn:n<=100000)(hs:Pu.SR xs l a m)(R:∀i j,a<=i->i<m->m<=j->j<c->l.getD i 0<l.getD j 0) :
  Calls prog 298 #[.slice (some ⟨g,0,none⟩) n cap,.int .i64 a,.int .i64 m,.int .i64 c,.func (.func 251) #[] #[.pointer (some ⟨b,0,none⟩)]] w (SymP b B g n cap u xs w0 w1 l a c):=by
 have aj:=h.caps;have aD:=h.len;have H:=O h;have v:Hid (∀t A,a<=t->t<=m->(t=a\/xs.getD (l.getD (t-1) 0) 0<=xs.getD (l.getD m 0) 0)->(t=m\/xs.getD (l.getD m 0) 0<xs.getD (l.getD t 0) 0)->Pu.bwd l A m t->Pu.SR xs A a c/\Pu.Org l A a c/\Pu.Out l A a c):=fun t A k1 o S k4 k5=>Pu.z2t hm k1 o hs R S k4 k5;have ar:(((m:Int)-(a:Int))==1)=false:=P8P;have hd:((c:Int)-(m:Int))=1:=f6J;have aw:(((c:Int)-(m:Int))==1)=true:=(by rw[hd];rfl);have aG:m<n:=f6J;clear h hs R hd hm;go_enter func298,ntmps298;go_wp2;go_loopw[14,15,16] (fun ii M _ wr=>∃i j:Nat,ii=.int .i64 i/\M=.int .i64 j/\a<=i/\i<=j/\j<=m/\(i=a\/xs.getD (l.getD (i-1) 0) 0<=xs.getD (l.getD m 0) 0)/\(j=m\/xs.getD (l.getD m 0) 0<xs.getD (l.getD j 0) 0)/\SrY b B g n cap u xs w0 w1 l wr) (fun ii M _ _=>(intOf M).toNat-(intOf ii).toNat)
 case atStart=>exact⟨a,m,rfl,rfl,l0r _,f6J,l0r _,.inl rfl,.inl rfl,V H⟩
 case round =>
  clear H;obtain⟨i,j,rfl,rfl,hi,aA,X,N,J,K⟩:=hrel;by_cases aF:i<j
  ·have az:(i+j) / 2<j:=f6J;have af:i<=(i+j) / 2:=f6J;have P:=K.cell (k:=(i+j) / 2) f6J;have e2:=K.cell (k:=m) f6J;have C:=fun k=>O (K.cmp (i:=m) (j:=(i+j) / 2) f6J f6J k);have f:=O fun k=>K.drewN k;have L:((i:Int)+(j:Int)) / 2=(((i+j) / 2:Nat):Int):=f6J;clear K;generalize hmid:(i+j) / 2=y at *;by_cases I:xs.getD (l.getD m 0) 0<xs.getD (l.getD y 0) 0
   ·have U:Pu.cmpI (xs.getD (l.getD m 0) 0) (xs.getD (l.getD y 0) 0)<0:=Pu.x1V.2 I;have T:=O I;have ae:=O N;clear I N J;generalize Pu.cmpI (xs.getD (l.getD m 0) 0) (xs.getD (l.getD y 0) 0)=cr at *;generalize hp1:l.getD y 0=p at *;generalize hp2:l.getD m 0=q at *;have G:=O hp1;have W:=O hp2;clear hp1 hp2;go_wp2;go_quiet(first| (go_at_call 251;exact Calls.quiet_of (V (C _))));have d:=O (V f nq);clear P e2 f C;generalize wr.drewN nq=wd at *;go_wp2
    go_roundw
    case rel=>exact⟨i,y,rfl,rfl,hi,af,f6J,V ae,.inr (by rw[V G];exact V T),V d⟩
    case measure=>exact g7W
   ·have U:¬Pu.cmpI (xs.getD (l.getD m 0) 0) (xs.getD (l.getD y 0) 0)<0:=fun hh=>I (Pu.x1V.1 hh);have Y:xs.getD (l.getD y 0) 0<=xs.getD (l.getD m 0) 0:=f6J;have T:=O Y;clear Y;have ab:=O J;clear I N J;generalize Pu.cmpI (xs.getD (l.getD m 0) 0) (xs.getD (l.getD y 0) 0)=cr at *;generalize hp1:l.getD y 0=p at *;generalize hp2:l.getD m 0=q at *;have G:=O hp1;have W:=O hp2;clear hp1 hp2;have am:(decide (cr<0))=false:=d0f U;go_wp2;go_quiet(first| (go_at_call 251;exact Calls.quiet_of (V (C _))));have d:=O (V f nq);clear P e2 f C;generalize wr.drewN nq=wd at *;go_wp2
    go_roundw
    case rel=>exact⟨y+1,j,g2A,rfl,f6J,f6J,X,.inr E9c,V ab,V d⟩
    case measure=>exact g7W
  ·have Q:i=j:=f6J;subst Q;have D:=O (fun A hf=>V v i A hi X N J hf);have r:=O K;clear N J K v;go_wp2;go_loopw[17] (fun Z wr=>∃(k:Nat) (A:List Nat),Z=.int .i64 k/\i<=k/\k<=m/\SrY b B g n cap u xs w0 w1 A wr/\A.Perm l/\Pu.bwd l A m k) (fun Z _=>(intOf Z).toNat)
   case atStart=>exact⟨m,l,rfl,X,l0r _,V r,List.Perm.refl _,Pu.z2u l m⟩
   case round =>
    clear r;obtain⟨k,A,rfl,aB,ag,K,s,hf⟩:=hrel;have aC:=K.len;by_cases x:i<k
    ·have P:=K.cell (k:=k) f6J;have e2:=K.cell (k:=k-1) f6J;have e3:=K.frozen k;have e4:=K.frozen (k-1);have f:=O (K.swap (i:=k) (j:=k-1) f6J f6J);have HP:=O ((Pu.x3k (l:=A) (i:=k) (j:=k-1) f6J f6J).trans s);have HF:=O (Pu.z2v hf f6J ag f6J);have aH:¬(k=k-1):=f6J;have aI:((k:Int)-1).toNat=k-1:=f6J;have ai:(k:Int)-1=((k-1:Nat):Int):=f6J;clear K s hf;generalize Pu.swapL A k (k-1)=l2,A.getD k 0=p,A.getD (k-1) 0=q at *;go_wp2;go_region;go_wp2
     go_roundw
     case rel=>exact⟨k-1,l2,by first| rfl|(rw[ai]) | go_num,f6J,f6J,V f,V HP,V HF⟩
     case measure=>exact g7W
    ·have F:k=i:=f6J;subst F
     have HF:Hid (SymP b B g n cap u xs w0 w1 l a c (.returned (.tuple #[])) wr):=by
      obtain⟨k1,o,S⟩:=V D A hf;exact⟨rfl,A,K,s,k1,o,S⟩
     clear K s hf D;exact N7S
namespace Pu
structure Mid(xs:List Int)(l l1:List Nat)(a m c mid t E:Nat):Prop where
 sA:SR xs l a m
 sB:SR xs l m c
 ix:∀i j,a<=i->i<m->m<=j->j<c->l.getD i 0<l.getD j 0
 at':a<=t
 tm:t<=m
 mE:m<=E
 Ec:E<=c
 hm:t+(E-m)=mid
 hE:mid+(m-t)=E
 x1:a<t->E<c->xs.getD (l.getD (t-1) 0) 0<=xs.getD (l.getD E 0) 0
 x2:t<m->m<E->xs.getD (l.getD (E-1) 0) 0<xs.getD (l.getD t 0) 0
 rot:∀k,l1.getD k 0=x0t l t m E k
section
variable {xs:List Int} {l l1:List Nat} {a m c mid t E:Nat}
theorem Mid.e1(h:Mid xs l l1 a m c mid t E){k:Nat}(G:k<t\/E<=k):l1.getD k 0=l.getD k 0:=by rw[h.rot k];unfold x0t;rw[if_neg f6J]
theorem Mid.e2(h:Mid xs l l1 a m c mid t E){k:Nat}(Z:t<=k)(D:k<mid):l1.getD k 0=l.getD (k+(m-t)) 0:=by
 have:=h.hm;have:=h.hE;have:=h.tm;have:=h.mE;rw[h.rot k];unfold x0t;rw[if_pos f6J,if_pos f6J]
theorem Mid.e3(h:Mid xs l l1 a m c mid t E){k:Nat}(Z:mid<=k)(D:k<E):l1.getD k 0=l.getD (k-(E-m)) 0:=by
 have:=h.hm;have:=h.hE;have:=h.tm;have:=h.mE;rw[h.rot k];unfold x0t;rw[if_pos f6J,if_neg f6J]
theorem Mid.cross(h:Mid xs l l1 a m c mid t E){i j:Nat}(Z:a<=i)(D:i<mid)(J:mid<=j)(H:j<c):lx xs (l1.getD i 0) (l1.getD j 0):=by
 have C:=h.hm;have s:=h.hE;have L:=h.tm;have f:=h.mE;have P:=h.at';have T:=h.Ec;by_cases hi:i<t
 ·rw[h.e1 (.inl hi)];by_cases X:j<E
  ·rw[h.e3 J X];exact h.sA _ _ Z f6J f6J
  ·rw[h.e1 (.inr f6J)];have B:=x5o h.sA (p:=i) (q:=t-1) Z f6J f6J;have A:=x5o h.sB (p:=E) (q:=j) f6J f6J H;have u:=h.x1 f6J f6J;have N:=h.ix i j Z f6J f6J H;unfold lx;omega
 ·rw[h.e2 f6J D];by_cases X:j<E
  ·rw[h.e3 J X];have B:=x5o h.sB (p:=i+(m-t)) (q:=E-1) f6J f6J f6J;have A:=x5o h.sA (p:=t) (q:=j-(E-m)) f6J f6J f6J;have u:=h.x2 f6J f6J;unfold lx;omega
  ·rw[h.e1 (.inr f6J)];exact h.sB _ _ f6J f6J H
theorem Mid.s1(h:Mid xs l l1 a m c mid t E):SR xs l1 a t:=fun i j Z D J=>by
 have L:=h.tm;rw[h.e1 (.inl f6J),h.e1 (.inl J)];exact h.sA _ _ Z D f6J
theorem Mid.s2(h:Mid xs l l1 a m c mid t E):SR xs l1 t mid:=fun i j Z D J=>by
 have C:=h.hm;have s:=h.hE;have L:=h.tm;have f:=h.mE;have T:=h.Ec;rw[h.e2 Z f6J,h.e2 f6J J];exact h.sB _ _ f6J f6J f6J
theorem Mid.i1(h:Mid xs l l1 a m c mid t E):∀i j,a<=i->i<t->t<=j->j<mid->l1.getD i 0<l1.getD j 0:=fun i j Z D J H=>by
 have C:=h.hm;have s:=h.hE;have L:=h.tm;have f:=h.mE;have T:=h.Ec;rw[h.e1 (.inl D),h.e2 J H];exact h.ix _ _ Z f6J f6J f6J
theorem Mid.s3(h:Mid xs l l1 a m c mid t E):SR xs l1 mid E:=fun i j Z D J=>by
 have C:=h.hm;have s:=h.hE;have L:=h.tm;have f:=h.mE;have P:=h.at';rw[h.e3 Z f6J,h.e3 f6J J];exact h.sA _ _ f6J f6J f6J
theorem Mid.s4(h:Mid xs l l1 a m c mid t E):SR xs l1 E c:=fun i j Z D J=>by
 have f:=h.mE;rw[h.e1 (.inr Z),h.e1 (.inr f6J)];exact h.sB _ _ f6J D J
theorem Mid.i2(h:Mid xs l l1 a m c mid t E):∀i j,mid<=i->i<E->E<=j->j<c->l1.getD i 0<l1.getD j 0:=fun i j Z D J H=>by
 have C:=h.hm;have s:=h.hE;have L:=h.tm;have f:=h.mE;have P:=h.at';rw[h.e3 Z D,h.e1 (.inr J)];exact h.ix _ _ f6J f6J f6J H
theorem Mid.org(h:Mid xs l l1 a m c mid t E):Org l l1 a c:=fun i Z D=>by
 have C:=h.hm;have s:=h.hE;have L:=h.tm;have f:=h.mE;have P:=h.at';have T:=h.Ec;by_cases hi:i<t\/E<=i
 ·exact⟨i,Z,D,h.e1 hi⟩
 ·by_cases X:i<mid
  ·exact⟨_,f6J,f6J,h.e2 f6J X⟩
  ·exact⟨_,f6J,f6J,h.e3 f6J f6J⟩
theorem Mid.out(h:Mid xs l l1 a m c mid t E):Out l l1 a c:=fun k G=>by
 have P:=h.at';have T:=h.Ec;exact h.e1 f6J
theorem Mid.done{l2 U:List Nat}(h:Mid xs l l1 a m c mid t E)(s2:SR xs l2 a mid)(F:Org l1 l2 a mid)(u2:Out l1 l2 a mid)(C:SR xs U mid c)(A:Org l2 U mid c)(u3:Out l2 U mid c):SR xs U a c/\Org l U a c/\Out l U a c:=by
 have G:=h.hm;have s:=h.hE;have L:=h.tm;have f:=h.mE;have P:=h.at';have T:=h.Ec;refine⟨fun i j Z D J=>?_,(h.org.trans (F.wide u2 (l0r _) f6J)).trans (A.wide u3 f6J (l0r _)),(h.out.trans (u2.wide (l0r _) f6J)).trans (u3.wide f6J (l0r _))⟩;by_cases X:j<mid
 ·rw[u3 i f6J,u3 j f6J];exact s2 _ _ Z D X
 ·by_cases hi:mid<=i
  ·exact C _ _ hi D J
  ·obtain⟨H,M,o,S⟩:=F i Z f6J;obtain⟨Q,I,B,R⟩:=A j f6J J;rw[u3 i f6J,S,R,u2 Q f6J];exact h.cross M o I B
theorem x0H{l:List Nat}{t m E:Nat}(h:t=m\/m=E)(k:Nat):l.getD k 0=x0t l t m E k:=by
 unfold x0t;by_cases Z:t<=k/\k<E
 ·rw[if_pos Z];rcases h with h | h
  ·subst h;rw[if_pos f6J,Nat.sub_self,Nat.add_zero]
  ·subst h;rw[if_neg f6J,Nat.sub_self,Nat.sub_zero]
 ·rw[if_neg Z]
theorem x0f{xs:List Int}{l:List Nat}{a t mid:Nat}(Z:SR xs l a t)(D:SR xs l t mid)(h:¬(a<t/\t<mid))(p:a<=t/\t<=mid):SR xs l a mid:=fun i j M k2 S=>by
 by_cases H:t=mid
 ·subst H;exact Z _ _ M k2 S
 ·have:a=t:=f6J;subst this;exact D _ _ M k2 S
end
end Pu
namespace Pu
theorem x0n{xs:List Int}{l1 l2:List Nat}{a mid p q:Nat}(u:Out l1 l2 a mid)(h:mid<=p)(k:SR xs l1 p q):SR xs l2 p q:=fun i j Z D J=>by
 rw[u i f6J,u j f6J];exact k _ _ Z D J
theorem x5z{l1 l2:List Nat}{a mid E c:Nat}(u:Out l1 l2 a mid)(k:∀i j,mid<=i->i<E->E<=j->j<c->l1.getD i 0<l1.getD j 0):∀i j,mid<=i->i<E->E<=j->j<c->l2.getD i 0<l2.getD j 0:=fun i j Z D J H=>by
 rw[u i f6J,u j f6J];exact k _ _ Z D J H
end Pu
def SymC(b B g n cap:Nat)(xv:Value)(xs:List Int)(w0 w1:World)(d:Nat):Prop:=∀(a m c:Nat) (l:List Nat) (w:World),c-a<d->SrY b B g n cap xv xs w0 w1 l w->a<m->m<c->c<=n->Pu.SR xs l a m->Pu.SR xs l m c->(∀i j,a<=i->i<m->m<=j->j<c->l.getD i 0<l.getD j 0) ->
 Calls prog 298 #[.slice (some ⟨g,0,none⟩) n cap,.int .i64 a,.int .i64 m,.int .i64 c,.func (.func 251) #[] #[.pointer (some ⟨b,0,none⟩)]] w (SymP b B g n cap xv xs w0 w1 l a c)
theorem z8d{b B g n cap:Nat}{u:Value}{xs:List Int}{f w1 w:World}{l:List Nat}(h:SrY b B g n cap u xs f w1 l w)(a m c:Nat)(bu:a+1<m)(bG:m+1<c)(h3:c<=n)(hn:n<=100000)(aU:Pu.SR xs l a m)(aV:Pu.SR xs l m c)(aS:∀i j,a<=i->i<m->m<=j->j<c->l.getD i 0<l.getD j 0)
  (aP:SymC b B g n cap u xs f w1 (c-a)) :
  Calls prog 298 #[.slice (some ⟨g,0,none⟩) n cap,.int .i64 a,.int .i64 m,.int .i64 c,.func (.func 251) #[] #[.pointer (some ⟨b,0,none⟩)]] w (SymP b B g n cap u xs f w1 l a c):=by
 have bt:=h.caps;have bB:=h.len;have H:=O h;obtain⟨mid,aT⟩:∃mid,mid=(a+c) / 2:=⟨_,rfl⟩;have bC:a<mid:=f6J;have bD:mid<c:=f6J;have bE:2*mid<=a+c:=f6J;have bF:a+c<=2*mid+1:=f6J;have aZ:((a:Int)+(c:Int)) / 2=(mid:Int):=f6J
 have az:Hid (∀t E l1,a<=t->t<=m->m<=E->E<=c->t+(E-m)=mid->mid+(m-t)=E->(a<t->E<c->xs.getD (l.getD (t-1) 0) 0<=xs.getD (l.getD E 0) 0)->(t<m->m<E->xs.getD (l.getD (E-1) 0) 0<xs.getD (l.getD t 0) 0)->(∀k,l1.getD k 0=x0t l t m E k)->Pu.Mid xs l l1 a m c mid t E) :=
  fun t E l1 k1 o k3 k4 k5 k6 k7 k8 k9=>⟨aU,aV,aS,k1,o,k3,k4,k5,k6,k7,k8,k9⟩
 have ab:=O aP;have bw:(((m:Int)-(a:Int))==1)=false:=P8U;have bA:(((c:Int)-(m:Int))==1)=false:=P8U;clear h aU aV aS aP aT;by_cases bp:mid<m
 ·have aQ:a<=(mid+m-c):=f6J;have aA:(mid+m-c)<=mid:=f6J;have aY:mid<=m:=f6J;have ba:(mid:Int)+(m:Int)-(c:Int)=((mid+m-c:Nat):Int):=f6J;go_enter func298,ntmps298;go_wp2;go_loopw[20,21,23] (fun ss rr _ wr=>∃s r:Nat,ss=.int .i64 s/\rr=.int .i64 r/\(mid+m-c)<=s/\s<=r/\r<=mid/\(s=(mid+m-c)\/xs.getD (l.getD (s-1) 0) 0<=xs.getD (l.getD (mid+m-s) 0) 0)/\(r=mid\/xs.getD (l.getD (mid+m-1-r) 0) 0<xs.getD (l.getD r 0) 0)/\SrY b B g n cap u xs f w1 l wr) (fun ss rr _ _=>(intOf rr).toNat-(intOf ss).toNat)
  case atStart=>exact⟨(mid+m-c),mid,by first| rfl | rw[ba],rfl,l0r _,aA,l0r _,.inl rfl,.inl rfl,V H⟩
  case round =>exact R6s
 ·have aQ:a<=a:=f6J;have aA:a<=m:=f6J;have aY:m<=m:=f6J;have aW:m<=mid:=f6J;go_enter func298,ntmps298;go_wp2;go_loopw[20,21,23] (fun ss rr _ wr=>∃s r:Nat,ss=.int .i64 s/\rr=.int .i64 r/\a<=s/\s<=r/\r<=m/\(s=a\/xs.getD (l.getD (s-1) 0) 0<=xs.getD (l.getD (mid+m-s) 0) 0)/\(r=m\/xs.getD (l.getD (mid+m-1-r) 0) 0<xs.getD (l.getD r 0) 0)/\SrY b B g n cap u xs f w1 l wr) (fun ss rr _ _=>(intOf rr).toNat-(intOf ss).toNat)
  case atStart=>exact⟨a,m,by rfl,rfl,l0r _,aA,l0r _,.inl rfl,.inl rfl,V H⟩
  case round =>exact R6s
theorem z1m{b B g n cap:Nat}{u:Value}{xs:List Int}{f w1:World}(F:n<=100000):∀d,SymC b B g n cap u xs f w1 d:=by
 intro d
 induction d with
 | zero=>intro a m c l w h;omega
 | succ d ih =>
  intro a m c l w hd K Z D J C G R;by_cases P:m=a+1
  ·exact z8e K a m c P D J F G R
  ·by_cases L:c=m+1
   ·exact z4u K a m c L f6J J F C R
   ·refine z8d K a m c f6J f6J J F C G R ?_;intro M W I A N H;exact ih M W I A N f6J
namespace Pu
def SRB(xs:List Int)(l:List Nat)(z u v:Nat):Prop:=∀k i j,u<=i->k*z<=i->i<j->j<k*z+z->j<v->lx xs (l.getD i 0) (l.getD j 0)
def OrgB(l0 l:List Nat)(z u n:Nat):Prop:=∀k i,u<=i->k*z<=i->i<k*z+z->i<n->∃i',k*z<=i'/\i'<k*z+z/\i'<n/\l.getD i 0=l0.getD i' 0
theorem y3N{K k z:Nat}(h:K<k):K*z+z<=k*z:=by
 have:=Nat.mul_le_mul_right z (show K+1<=k from h);rw[Nat.add_mul,Nat.one_mul]at this;exact this
theorem z8S{K k z i:Nat}(Z:K*z<=i)(D:i<K*z+z)(J:k*z<=i)(H:i<k*z+z):K=k:=by
 rcases Nat.lt_trichotomy K k with h | h | h
 ·have:=y3N (z:=z) h;omega
 ·exact h
 ·have:=y3N (z:=z) h;omega
section
variable {xs:List Int} {l0 l l2:List Nat} {k z a b n:Nat}
theorem x5X(h:SRB xs l z 0 a)(g:a=k*z)(Y:b<=a+z)(s:SR xs l2 a b)(u:Out l l2 a b):SRB xs l2 z 0 b:=by
 intro K i j _ Z D J H;rcases Nat.lt_trichotomy K k with hk | hk | hk
 ·have A:=y3N (z:=z) hk;rw[u i f6J,u j f6J];exact h K i j (Nat.zero_le _) Z D J f6J
 ·subst hk;exact s i j f6J D H
 ·have A:=y3N (z:=z) hk;omega
theorem x3T(h:OrgB l0 l z 0 n)(g:a=k*z)(Y:b<=a+z)(F:b<=n)(o:Org l l2 a b)(u:Out l l2 a b):OrgB l0 l2 z 0 n:=by
 intro K i _ Z D J;by_cases hi:a<=i/\i<b
 ·have G:K=k:=z8S Z D f6J f6J;subst G;obtain⟨H,C,s,L⟩:=o i hi.1 hi.2;obtain⟨j,I,r2,r3,r4⟩:=h K H (Nat.zero_le _) f6J f6J f6J;exact⟨j,I,r2,r3,L.trans r4⟩
 ·obtain⟨j,I,r2,r3,r4⟩:=h K i (Nat.zero_le _) Z D J;exact⟨j,I,r2,r3,(u i f6J).trans r4⟩
theorem y7l(l0:List Nat)(z u n:Nat):OrgB l0 l0 z u n:=fun _ i _ Z D J=>⟨i,Z,D,J,rfl⟩
theorem z5B{u v:Nat}(h:OrgB l0 l z u n)(A:u<=v):OrgB l0 l z v n:=fun K i R Z D J=>h K i f6J Z D J
theorem z8M{u v m:Nat}(h:SRB xs l z u m)(A:u<=v):SRB xs l z v m:=fun K i j R Z D J H=>h K i j f6J Z D J H
theorem z1U{u:Nat}(h:OrgB l0 l z u n)(o:Out l l2 a b)(Y:b<=u):OrgB l0 l2 z u n:=fun K i R Z D J=>by
 obtain⟨j,I,r2,r3,r4⟩:=h K i R Z D J;exact⟨j,I,r2,r3,(o i f6J).trans r4⟩
theorem z5D{u m:Nat}(h:SRB xs l z u m)(o:Out l l2 a b)(Y:b<=u):SRB xs l2 z u m:=fun K i j R Z D J H=>by
 rw[o i f6J,o j f6J];exact h K i j R Z D J H
theorem y7m(h:OrgB l0 l z 0 n):OrgB l0 l (2*z) 0 n:=fun K i _ Z D J=>by
 have P:K*(2*z)=2*K*z:=g4h;have A:(2*K+1)*z=2*K*z+z:=T9k;by_cases hi:i<2*K*z+z
 ·obtain⟨j,I,r2,r3,r4⟩:=h (2*K) i (Nat.zero_le _) f6J hi J;exact⟨j,f6J,f6J,r3,r4⟩
 ·obtain⟨j,I,r2,r3,r4⟩:=h (2*K+1) i (Nat.zero_le _) f6J f6J J;exact⟨j,f6J,f6J,r3,r4⟩
end
structure Sm(xs:List Int)(l0 l:List Nat)(z n a:Nat):Prop where
 s2:SRB xs l (2*z) 0 a
 s1:SRB xs l z a n
 o2:OrgB l0 l (2*z) 0 n
 o1:OrgB l0 l z a n
 k:∃k,a=k*(2*z)
structure Bs(xs:List Int)(l0 l:List Nat)(z n:Nat):Prop where
 s:SRB xs l z 0 n
 o:OrgB l0 l z 0 n
section
variable {xs:List Int} {l0 l l2:List Nat} {z a b n:Nat}
theorem Bs.st(h:Bs xs l0 l z n):Sm xs l0 l z n 0:=⟨fun _ _ _ _ _ _ _ h=>absurd h (Nat.not_lt_zero _),h.s,y7m h.o,h.o,⟨0,f6J⟩⟩
theorem Sm.pre(h:Sm xs l0 l z n a)(Z:a+z<=n)(D:b<=n)(J:b<=a+2*z)(A:∀p q,p<q->q<n->l0.getD p 0<l0.getD q 0) :
  SR xs l a (a+z)/\SR xs l (a+z) b/\∀i j,a<=i->i<a+z->a+z<=j->j<b->l.getD i 0<l.getD j 0:=by
 obtain⟨K,G⟩:=h.k;have P:K*(2*z)=2*K*z:=g4h;have B:(2*K+1)*z=2*K*z+z:=T9k;refine⟨fun i j M o S=>h.s1 (2*K) i j M f6J o f6J f6J,fun i j M o S=>h.s1 (2*K+1) i j f6J f6J o f6J f6J,fun i j M o S I=>?_⟩;obtain⟨H,C,r2,r3,r4⟩:=h.o1 (2*K) i M f6J f6J f6J;obtain⟨Q,F,u,N,R⟩:=h.o1 (2*K+1) j f6J f6J f6J f6J;rw[r4,R];exact A _ _ f6J N
theorem Sm.next(h:Sm xs l0 l z n a)(Z:a+2*z<=n)(s:SR xs l2 a (a+2*z))(o:Org l l2 a (a+2*z))(u:Out l l2 a (a+2*z)):Sm xs l0 l2 z n (a+2*z):=by
 obtain⟨K,G⟩:=h.k;exact⟨x5X h.s2 G (l0r _) s u,z5D (z8M h.s1 f6J) u (l0r _),x3T h.o2 G (l0r _) Z o u,z1U (z5B h.o1 f6J) u (l0r _),⟨K+1,by rw[Nat.add_mul,Nat.one_mul];exact f6J⟩⟩
theorem Sm.last(h:Sm xs l0 l z n a)(Z:n<=a+2*z)(s:SR xs l2 a n)(o:Org l l2 a n)(u:Out l l2 a n):Bs xs l0 l2 (2*z) n:=by
 obtain⟨K,G⟩:=h.k;exact⟨x5X h.s2 G Z s u,x3T h.o2 G Z (l0r _) o u⟩
theorem Sm.stop(h:Sm xs l0 l z n a)(Z:n<=a+z):Bs xs l0 l (2*z) n:=by
 obtain⟨K,G⟩:=h.k;have P:K*(2*z)=2*K*z:=g4h;exact h.last f6J (fun i j M o S=>h.s1 (2*K) i j M f6J o f6J S) (Org.refl _ _ _) (Out.refl _ _ _)
theorem Bs.whole(h:Bs xs l0 l z n)(T:n<=z):SR xs l 0 n:=fun i j _ D J=>h.s 0 i j (Nat.zero_le _) f6J D f6J J
structure Is(xs:List Int)(l0 l:List Nat)(n a:Nat):Prop where
 s:SRB xs l 20 0 a
 o:OrgB l0 l 20 0 n
 e:∀k,a<=k->l.getD k 0=l0.getD k 0
 k:∃k,a=k*20
theorem Is.start(xs:List Int)(l0:List Nat)(n:Nat):Is xs l0 l0 n 0:=⟨fun _ _ _ _ _ _ _ h=>absurd h (Nat.not_lt_zero _),y7l _ _ _ _,fun _ _=>rfl,⟨0,rfl⟩⟩
theorem Is.next(h:Is xs l0 l n a)(Z:a+20<=n)(s:SR xs l2 a (a+20))(o:Org l l2 a (a+20))(u:Out l l2 a (a+20)):Is xs l0 l2 n (a+20):=by
 obtain⟨K,G⟩:=h.k;exact⟨x5X h.s G (l0r _) s u,x3T h.o G (l0r _) Z o u,fun k G=>(u k (.inr G)).trans (h.e k f6J),⟨K+1,f6J⟩⟩
theorem Is.last(h:Is xs l0 l n a)(Z:n<=a+20)(s:SR xs l2 a n)(o:Org l l2 a n)(u:Out l l2 a n):Bs xs l0 l2 20 n:=by
 obtain⟨K,G⟩:=h.k;exact⟨x5X h.s G Z s u,x3T h.o G Z (l0r _) o u⟩
theorem Is.inc(h:Is xs l0 l n a)(A:∀p q,p<q->q<n->l0.getD p 0<l0.getD q 0){c:Nat}(I:c<=n):∀p q,a<=p->p<q->q<c->l.getD p 0<l.getD q 0:=fun p q Z D J=>by
 rw[h.e p Z,h.e q f6J];exact A p q D f6J
end
end Pu
def StP(b B g n cap:Nat)(xv:Value)(xs:List Int)(w0 w1:World)(l:List Nat)(e:Ending)(w':World):Prop :=
 e=.returned (.tuple #[])/\∃l',SrY b B g n cap xv xs w0 w1 l' w'/\l'.Perm l/\Pu.SR xs l' 0 n
theorem y6S{b B g n cap:Nat}{u:Value}{xs:List Int}{f w1 w:World}{l:List Nat}(h:SrY b B g n cap u xs f w1 l w)(F:n<=100000)(ab:∀p q,p<q->q<n->l.getD p 0<l.getD q 0) :
  Calls prog 286 #[.slice (some ⟨g,0,none⟩) n cap,.int .i64 n,.func (.func 251) #[] #[.pointer (some ⟨b,0,none⟩)]] w (StP b B g n cap u xs f w1 l):=by
 have G:=h.caps;have N:=h.len;have H:=O h;have J:=O ab;clear h ab;go_enter func286,ntmps286;go_wp2;go_loopw[7,8] (fun aa bb wr=>∃(a c:Nat) (A:List Nat),aa=.int .i64 a/\bb=.int .i64 c/\c=a+20/\a<=n/\SrY b B g n cap u xs f w1 A wr/\A.Perm l/\Pu.Is xs l A n a) (fun aa _ _=>n-(intOf aa).toNat)
 case atStart=>exact⟨0,20,l,rfl,rfl,rfl,f6J,V H,List.Perm.refl _,Pu.Is.start _ _ _⟩
 case round =>
  clear H;obtain⟨a,c,A,rfl,rfl,I,ha,K,s,L⟩:=hrel;by_cases Y:c<=n
  ·have C:=O (x4i K a c Y ha F (L.inc (V J) Y));have Q:=O s
   have S:Hid (∀l2,Pu.SR xs l2 a c->Pu.Org A l2 a c->Pu.Out A l2 a c->Pu.Is xs l l2 n c):=by
    subst I;exact fun l2 M o k3=>L.next Y M o k3
   have r:=O I;have ag:a<c:=f6J;clear K L s I;go_wp2_with(go_at_call 297;refine(V C).mono ?_;rintro e wq ⟨rfl,l2,d,X,D,v,Z⟩;have P:=O d;have W:=O (X.trans (V Q));have y:=O (V S l2 D v Z);clear d X D v Z C Q S)
   go_roundw
   case rel=>exact⟨c,c+20,l2,rfl,by rw[(f6J:((c+20:Nat):Int)=(c:Int)+20)],rfl,Y,V P,V W,V y⟩
   case measure=>exact g7T
  ·have C:=O (x4i K a n (l0r _) ha F (L.inc (V J) (l0r _)));have Q:=O s;have S:Hid (∀l2,Pu.SR xs l2 a n->Pu.Org A l2 a n->Pu.Out A l2 a n->Pu.Bs xs l l2 20 n):=fun l2 M o k3=>L.last f6J M o k3;have r:=O I;clear K L s I;go_wp2_with(go_at_call 297;refine(V C).mono ?_;rintro e wq ⟨rfl,l2,d,X,D,v,Z⟩;have P:=O d;have W:=O (X.trans (V Q));have y:=O (V S l2 D v Z);clear d X D v Z C Q S);clear Y ha r;go_loopw[6,7,8] (fun x _ _ wr=>∃(z:Nat) (A:List Nat),x=.int .i64 z/\20<=z/\z<=200000/\SrY b B g n cap u xs f w1 A wr/\A.Perm l/\Pu.Bs xs l A z n) (fun x _ _ _=>n-(intOf x).toNat)
   case atStart=>exact⟨20,l2,rfl,l0r _,f6J,V P,V W,V y⟩
   case round =>
    clear P W y;obtain⟨z,U,rfl,aj,R,K,s,L⟩:=hrel;by_cases T:z<n
    ·have j:=O K;have af:=O s;have ae:=O L.st;clear K s L;go_wp2;go_loopw[7,8] (fun aa bb wr=>∃(a c:Nat) (A:List Nat),aa=.int .i64 a/\bb=.int .i64 c/\c=a+2*z/\a<=n/\SrY b B g n cap u xs f w1 A wr/\A.Perm l/\Pu.Sm xs l A z n a) (fun aa _ _=>n-(intOf aa).toNat)
     case atStart=>exact⟨0,2*z,U,rfl,by rw[(f6J:((2*z:Nat):Int)=2*(z:Int))],f6J,f6J,V j,V af,V ae⟩
     case round =>
      clear j af ae;obtain⟨a,c,l4,rfl,rfl,I,ha,K,s,L⟩:=hrel;have i:(a:Int)+(z:Int)=((a+z:Nat):Int):=f6J;by_cases Y:c<=n
      ·obtain⟨q1,q2,q3⟩:=L.pre (b:=c) f6J Y f6J (V J);have C:=O (z1m F (c-a+1) a (a+z) c l4 _ f6J K f6J f6J Y q1 q2 q3);have Q:=O s
       have S:Hid (∀l2,Pu.SR xs l2 a c->Pu.Org l4 l2 a c->Pu.Out l4 l2 a c->Pu.Sm xs l l2 z n c):=by
        subst I;exact fun l2 M o k3=>L.next Y M o k3
       have r:=O I;have ag:a<c:=f6J;rw[<- i]at C;clear K L s I q1 q2 q3 i;go_wp2_with(go_at_call 298;refine(V C).mono ?_;rintro e ai ⟨rfl,l5,d,X,D,v,Z⟩;have P:=O d;have W:=O (X.trans (V Q));have y:=O (V S l5 D v Z);clear d X D v Z C Q S)
       go_roundw
       case rel=>exact⟨c,c+2*z,l5,rfl,by rw[(f6J:((c+2*z:Nat):Int)=(c:Int)+2*(z:Int))],rfl,Y,V P,V W,V y⟩
       case measure=>exact g7T
      ·by_cases hm:a+z<n
       ·obtain⟨q1,q2,q3⟩:=L.pre (b:=n) f6J (l0r _) f6J (V J);have C:=O (z1m F (n-a+1) a (a+z) n l4 _ f6J K f6J hm (l0r _) q1 q2 q3);have Q:=O s;have S:Hid (∀l2,Pu.SR xs l2 a n->Pu.Org l4 l2 a n->Pu.Out l4 l2 a n->Pu.Bs xs l l2 (2*z) n):=fun l2 M o k3=>L.last f6J M o k3;rw[<- i]at C;clear K L s I q1 q2 q3 i;go_wp2_with(go_at_call 298;refine(V C).mono ?_;rintro e ai ⟨rfl,l5,d,X,D,v,Z⟩;have P:=O d;have W:=O (X.trans (V Q));have y:=O (V S l5 D v Z);clear d X D v Z C Q S)
        go_roundw
        case rel=>exact⟨2*z,l5,E9u,f6J,f6J,V P,V W,V y⟩
        case measure=>exact g7T
       ·have P:=O K;have W:=O s;have y:=O (L.stop f6J);clear K L s I i;go_wp2
        go_roundw
        case rel=>exact⟨2*z,l4,E9u,f6J,f6J,V P,V W,V y⟩
        case measure=>exact g7T
    ·have HF:Hid (StP b B g n cap u xs f w1 l (.returned (.tuple #[])) wr):=⟨rfl,U,K,s,L.whole f6J⟩;clear K s L;exact N7S
namespace Pu
theorem y3u{α:Type}{a b:α}:∀{s:List α},s.Nodup->List.Sublist [a,b] s->List.Sublist [b,a] s->False
 | [],_,h,_=>m5j
 | x::t,hn,h1,h2=>by
  obtain⟨A,p⟩:=List.nodup_cons.1 hn
  cases h1 with
  | cons _ h1 =>
   cases h2 with
   | cons _ h2=>exact y3u p h1 h2
   | cons_cons _ h2=>exact A (h1.subset M7K)
  | cons_cons _ h1 =>
   cases h2 with
   | cons _ h2=>exact A (h2.subset M7K)
   | cons_cons _ h2=>exact A (h1.subset M7K)
theorem z1j{a b:Nat}(B:a<b):∀{l:List Nat},l.Pairwise (·<·)->a∈l->b∈l->List.Sublist [a,b] l
 | [],_,h,_=>m5j
 | x::t,hp,ha,hb=>by
  obtain⟨A,p⟩:=List.pairwise_cons.1 hp;rcases List.mem_cons.1 ha with ha | ha
  ·subst ha;rcases List.mem_cons.1 hb with hb | hb
   ·omega
   ·exact(List.singleton_sublist.2 hb).cons_cons _
  ·rcases List.mem_cons.1 hb with hb | hb
   ·have:=A a ha;omega
   ·exact(z1j B p ha hb).cons _
theorem y0W{l:List Nat}(h:l.Pairwise (·<·)):l.Nodup:=h.imp fun h=>Nat.ne_of_lt h
theorem x1n(xs:List Int)(l:List Nat):(x5f xs l).Perm l:=List.mergeSort_perm _ _
theorem y4N{xs:List Int}{l:List Nat}(h:l.Pairwise (·<·)):(x5f xs l).Pairwise (lx xs):=by
 have M:∀a b c:Nat,decide (xs.getD a 0<=xs.getD b 0)=true->decide (xs.getD b 0<=xs.getD c 0)=true->decide (xs.getD a 0<=xs.getD c 0)=true:=fun a b c Z D=>by
  rw[decide_eq_true_eq]at *;omega
 have C:∀a b:Nat,(decide (xs.getD a 0<=xs.getD b 0)||decide (xs.getD b 0<=xs.getD a 0))=true:=fun a b=>by
  rw[Bool.or_eq_true,decide_eq_true_eq,decide_eq_true_eq];omega
 have L:=List.pairwise_mergeSort M C l;have F:(x5f xs l).Nodup:=(x1n xs l).symm.nodup (y0W h);refine List.pairwise_iff_forall_sublist.2 fun{a b} hab=>?_;have Z:=List.pairwise_iff_forall_sublist.1 L hab;rw[decide_eq_true_eq]at Z;unfold lx;by_cases q:xs.getD a 0=xs.getD b 0
 ·refine .inr ⟨q,?_⟩;by_cases B:a<b
  ·exact B
  ·by_cases A:a=b
   ·subst A;exact(y3u F hab hab).elim
   ·have Y:b∈l:=(x1n xs l).subset (hab.subset M7L);have g:a∈l:=(x1n xs l).subset (hab.subset M7L);have:=List.pair_sublist_mergeSort M C (a:=b) (b:=a) (by rw[decide_eq_true_eq];exact f6J) (z1j f6J h Y g);exact(y3u F hab this).elim
 ·exact .inl f6J
theorem y6P{xs:List Int}{l A:List Nat}(h:l.Pairwise (·<·))(s:A.Perm l)(L:SR xs A 0 l.length):A=x5f xs l:=by
 refine List.Perm.eq_of_pairwise (le:=lx xs) (fun a b _ _ Z D=>by unfold lx at Z D;exact f6J) ?_ (y4N h) (s.trans (x1n xs l).symm);refine List.pairwise_iff_getElem.2 fun i j hi X p=>?_;have:=L i j (Nat.zero_le _) p (by rw[<- s.length_eq];exact X);simpa[List.getD,hi,X]using this
theorem z9O{l:List Nat}(h:l.Pairwise (·<·)){p q:Nat}(A:p<q)(y:q<l.length):l.getD p 0<l.getD q 0:=by
 have s:p<l.length:=f6J;have:=List.pairwise_iff_getElem.1 h p q s y A;simpa[List.getD,s,y]using this
end Pu
theorem sortC:y7r 100000:=by
 intro xs b B u v l f w y C T hB j S i J N W;by_cases Z:l.length<=1
 ·exact y4M xs b B u v l f w y C T hB j Z i J N W
 ·have P:=N;obtain⟨_,I⟩:=N.2.2;rcases I with⟨_,R⟩ | ⟨g,M,Q,he,_⟩
  ·rw[List.length_map,x0o]at R;omega
  ·subst he;have F:((x0Z l).map (Value.int .i64)).length=l.length:=(by rw[List.length_map,x0o]);rw[F]at P W ⊢;have K:SrY b B g l.length M u xs f w l w:=⟨y,C,T,P,hB,fun H=>W (by rw[H];rfl),x1h _ _,rfl,i,j⟩;have r:=O (y6S K S fun p q s o=>Pu.z9O J s o)
   have U:Hid (∀A x,SrY b B g l.length M u xs f w A x->A.Perm l->Pu.SR xs A 0 l.length->Ok .i64 3 x B (.slice (some ⟨g,0,none⟩) l.length M) (x0Z (Pu.x5f xs l))/\w.grownBy x (some g)):=fun A x s o k3=>by
    have:=Pu.y6P J o k3;subst this;exact⟨s.row,s.gr⟩
   have G:=K.caps;clear K N P F y C T W i J;generalize l.length=n at *;go_enter func250,ntmps250;go_wp2_with(go_at_call 286;refine(V r).mono ?_;rintro e wq ⟨rfl,A,d,X,D⟩;have L:=O (V U A _ d X D);clear d X D r U);go_end0;exact⟨rfl,V L⟩
