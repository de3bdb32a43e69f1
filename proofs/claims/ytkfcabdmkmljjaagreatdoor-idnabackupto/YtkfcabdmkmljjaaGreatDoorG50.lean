/- Lemmas. -/
import Derived.Test.YtkfcabdmkmljjaaGreatDoorG49
import Derived.Deep.DeepCutAuto
import Derived.Deep.CutBlock
set_option maxHeartbeats 20000000
set_option maxRecDepth 20000
namespace Go.Proofs.YtkfcabdmkmljjaaGreatDoor
open Go.Proofs.Tryz
open Go.RowKit
section
variable{p:Prop}
theorem v3E(h:p:=by
 clear H;obtain⟨s,r,rfl,rfl,aI,be,aJ,y,Q,hS⟩:=hrel;by_cases aZ:s<r
 ·have aY:(s+r) / 2<r:=f6J;have aG:s<=(s+r) / 2:=f6J;have aX:((s:Int)+(r:Int)) / 2=(((s+r) / 2:Nat):Int):=f6J;generalize hqq:(s+r) / 2=hq at *;clear hqq;have ay:mid+m-1-hq<n:=f6J;have e1:=hS.cell (k:=mid+m-1-hq) ay;have e2:=hS.cell (k:=hq) f6J;have HC:=fun k=>O (hS.cmp (i:=mid+m-1-hq) (j:=hq) ay f6J k);have HN:=O fun k=>hS.drewN k;have ba:((mid:Int)+(m:Int)-1-(hq:Int))=((mid+m-1-hq:Nat):Int):=f6J;clear hS;by_cases I:xs.getD (l.getD (mid+m-1-hq) 0) 0<xs.getD (l.getD hq 0) 0
  ·have ar:Pu.cmpI (xs.getD (l.getD (mid+m-1-hq) 0) 0) (xs.getD (l.getD hq 0) 0)<0:=Pu.x1X.2 I;have Y:=O I;have aB:=O y;clear I y Q;generalize Pu.cmpI (xs.getD (l.getD (mid+m-1-hq) 0) 0) (xs.getD (l.getD hq 0) 0)=cr at *;generalize hp1:l.getD hq 0=p at *;generalize T:l.getD (mid+m-1-hq) 0=q at *;have G:=O hp1;have P:=O T;clear hp1 T;generalize hpx:mid+m-1-hq=px at *;have aj:=O hpx;clear hpx;go_wp2;go_quiet(first| (go_at_call 251;exact Calls.quiet_of (V (HC _))));have ai:=O (V HN nq);clear e1 e2 HN HC;generalize wr.drewN nq=wd at *;go_wp2
   go_roundw
   case rel=>exact⟨s,hq,rfl,rfl,aI,aG,f6J,V aB,.inr (by rw[V aj,V G,V P];exact V Y),V ai⟩
   case measure=>exact g8b
  ·have ar:¬Pu.cmpI (xs.getD (l.getD (mid+m-1-hq) 0) 0) (xs.getD (l.getD hq 0) 0)<0:=fun hh=>I (Pu.x1X.1 hh);have aw:xs.getD (l.getD hq 0) 0<=xs.getD (l.getD (mid+m-1-hq) 0) 0:=f6J;have Y:=O aw;have aA:=O Q;clear I aw y Q;generalize Pu.cmpI (xs.getD (l.getD (mid+m-1-hq) 0) 0) (xs.getD (l.getD hq 0) 0)=cr at *;generalize hp1:l.getD hq 0=p at *;generalize T:l.getD (mid+m-1-hq) 0=q at *;have G:=O hp1;have P:=O T;clear hp1 T;have aj:Hid (mid+m-(hq+1)=mid+m-1-hq):=(by show _=_;exact f6J);generalize mid+m-1-hq=px at *;have aN:(decide (cr<0))=false:=d0f ar;go_wp2;go_quiet(first| (go_at_call 251;exact Calls.quiet_of (V (HC _))));have ai:=O (V HN nq);clear e1 e2 HN HC;generalize wr.drewN nq=wd at *;go_wp2
   go_roundw
   case rel=>exact⟨hq+1,r,by go_num,rfl,f6J,f6J,aJ,.inr (by rw[(f6J:hq+1-1=hq),V G,V aj,V P];exact V Y),V aA,V ai⟩
   case measure=>exact g8b
 ·have aK:s=r:=f6J;subst aK;obtain⟨E,hE⟩:∃E,E=mid+m-s:=⟨_,rfl⟩;have aH:m<=E:=f6J;have aF:E<=c:=f6J;have aC:s+(E-m)=mid:=f6J;have aD:mid+(m-s)=E:=f6J;have aT:(mid:Int)+(m:Int)-(s:Int)=(E:Int):=by omega
  have o:Hid (∀l1,(∀k,l1.getD k 0=x0t l s m E k)->Pu.Mid xs l l1 a m c mid s E):=fun l1 az=>V am s E l1 f6J f6J aH aF aC aD
   (fun k1 k2=>y.elim (fun y=>f6J) fun y=>by rw[hE];exact y)
   (fun k1 k2=>Q.elim (fun Q=>f6J) fun Q=>by rw[(f6J:E-1=mid+m-1-s)];exact Q) az
  have J:Hid (s<m->m<E->Calls prog 310 #[.slice (some ⟨g,0,none⟩) n cap,.int .i64 s,.int .i64 m,.int .i64 E,.func (.func 251) #[] #[.pointer (some ⟨b,0,none⟩)]] wr (RotP b B g n cap u xs f w1 l s m E)):=fun k1 k2=>x8Q hS s m E _ k1 k2 f6J hn;have HS:=O hS;have HU:Hid (a<=s/\s<=m):=⟨f6J,f6J⟩;clear y Q hS am hE;by_cases hp:s<m
  ·have T:mid<E:=f6J;by_cases hq:m<E
   ·have ag:s<mid:=f6J;by_cases hr:a<s
    ·by_cases U:E<c
     ·have HC:=O (V J hp hq);go_wp2_with(go_at_call 310;refine(V HC).mono ?_;rintro e wq ⟨rfl,l1,d,X,D⟩;have M:=O d;have G:=O X;have S:=O D;clear d X D HC J HS);have C:=O (V o l1 (V S));clear o S;have HC:=O (V ab a s mid l1 _ f6J (V M) hr ag f6J (V C).s1 (V C).s2 (V C).i1);go_wp2_with(go_at_call 298;refine(V HC).mono ?_;rintro e N ⟨rfl,l2,d,X,D,v,Z⟩;have R:=O d;have P:=O (X.trans (V G));have A:=O (And.intro D (And.intro v Z));clear d X D v Z HC M G);have HC:=O (V ab mid E c l2 _ f6J (V R) T U f6J (Pu.x0n (V A).2.2 (l0r _) (V C).s3) (Pu.x0n (V A).2.2 f6J (V C).s4) (Pu.x5z (V A).2.2 (V C).i2));go_wp2_with(go_at_call 298;refine(V HC).mono ?_;rintro e L ⟨rfl,l3,d,X,D,v,Z⟩;have af:=O d;have ae:=O (X.trans (V P));have F:=O ((V C).done (V A).1 (V A).2.1 (V A).2.2 D v Z);clear d X D v Z HC R P A C);go_end0;exact⟨rfl,l3,V af,V ae,V F⟩
     ·have HC:=O (V J hp hq);go_wp2_with(go_at_call 310;refine(V HC).mono ?_;rintro e wq ⟨rfl,l1,d,X,D⟩;have M:=O d;have G:=O X;have S:=O D;clear d X D HC J HS);exact t9G
    ·by_cases U:E<c
     ·have HC:=O (V J hp hq);go_wp2_with(go_at_call 310;refine(V HC).mono ?_;rintro e wq ⟨rfl,l1,d,X,D⟩;have M:=O d;have G:=O X;have S:=O D;clear d X D HC J HS);have C:=O (V o l1 (V S));clear o S;obtain⟨l2,x⟩:∃l2,l2=l1:=⟨l1,rfl⟩;have R:Hid (SrY b B g n cap u xs f w1 l2 wq):=u8x;exact w9h
     ·have HC:=O (V J hp hq);go_wp2_with(go_at_call 310;refine(V HC).mono ?_;rintro e wq ⟨rfl,l1,d,X,D⟩;have M:=O d;have G:=O X;have S:=O D;clear d X D HC J HS);have C:=O (V o l1 (V S));clear o S;obtain⟨l2,x⟩:∃l2,l2=l1:=⟨l1,rfl⟩;have R:Hid (SrY b B g n cap u xs f w1 l2 wq):=u8x;have P:Hid (l2.Perm l):=W2A;have A:Hid (Pu.SR xs l2 a mid/\Pu.Org l1 l2 a mid/\Pu.Out l1 l2 a mid):=(by rw[x];exact⟨Pu.x0f (V C).s1 (V C).s2 f6J ⟨(V HU).1,f6J⟩,Pu.Org.refl _ _ _,Pu.Out.refl _ _ _⟩);clear x M G;have F:=O ((V C).done (V A).1 (V A).2.1 (V A).2.2 (Pu.x0n (V A).2.2 (l0r _) (Pu.x0f (V C).s3 (V C).s4 f6J f6J)) (Pu.Org.refl _ _ _) (Pu.Out.refl _ _ _));clear C A;go_wp2;go_end0;exact⟨rfl,l2,V R,V P,V F⟩
   ·have ag:¬s<mid:=f6J;by_cases hr:a<s
    ·exact s6l
    ·exact s6l
  ·have T:¬mid<E:=f6J;by_cases hq:m<E
   ·have ag:s<mid:=f6J;by_cases hr:a<s
    ·by_cases U:E<c
     ·exact v9Y
     ·exact v9Y
    ·exact M1A
   ·have ag:¬s<mid:=f6J;by_cases hr:a<s
    ·exact M1A
    ·exact M1A):p:=h
theorem g4h(h:p:=by rw[Nat.mul_left_comm,Nat.mul_assoc]):p:=h
theorem u4P(h:p:=by subst C;rw[if_pos rfl,if_neg f6J,if_neg f6J,if_pos f6J]):p:=h
theorem f1e(h:p:=by obtain⟨l1,K⟩:∃l1,l1=l:=⟨l,rfl⟩;have M:Hid (SrY b B g n cap u xs f w1 l1 wr):=F0A;have G:Hid (l1.Perm l):=E9k;have S:Hid (∀k,l1.getD k 0=x0t l s m E k):=V0J;clear K HS J;have C:=O (V o l1 (V S));clear o S;obtain⟨l2,x⟩:∃l2,l2=l1:=⟨l1,rfl⟩;have R:Hid (SrY b B g n cap u xs f w1 l2 wr):=u8x;have P:Hid (l2.Perm l):=W2A;have A:Hid (Pu.SR xs l2 a mid/\Pu.Org l1 l2 a mid/\Pu.Out l1 l2 a mid):=v2Y;clear x M G;have F:=O ((V C).done (V A).1 (V A).2.1 (V A).2.2 (Pu.x0n (V A).2.2 (l0r _) (Pu.x0f (V C).s3 (V C).s4 f6J f6J)) (Pu.Org.refl _ _ _) (Pu.Out.refl _ _ _));clear C A;go_wp2;go_end0;exact⟨rfl,l2,V R,V P,V F⟩):p:=h
theorem E9u(h:p:=by rw[(f6J:((2*z:Nat):Int)=(z:Int)*2)]):p:=h
theorem T6B(h:p:=by rw[if_pos B,if_neg f6J,if_pos rfl,if_neg f6J,if_pos B]):p:=h
theorem T9k(h:p:=by rw[Nat.add_mul,Nat.one_mul]):p:=h
theorem w9h(h:p:=by have P:Hid (l2.Perm l):=W2A;have A:Hid (Pu.SR xs l2 a mid/\Pu.Org l1 l2 a mid/\Pu.Out l1 l2 a mid):=v2Y;clear x M G;have HC:=O (V ab mid E c l2 _ f6J (V R) T U f6J (Pu.x0n (V A).2.2 (l0r _) (V C).s3) (Pu.x0n (V A).2.2 f6J (V C).s4) (Pu.x5z (V A).2.2 (V C).i2));go_wp2_with(go_at_call 298;refine(V HC).mono ?_;rintro e L ⟨rfl,l3,d,X,D,v,Z⟩;have af:=O d;have ae:=O (X.trans (V P));have F:=O ((V C).done (V A).1 (V A).2.1 (V A).2.2 D v Z);clear d X D v Z HC R P A C);go_end0;exact⟨rfl,l3,V af,V ae,V F⟩):p:=h
theorem t9G(h:p:=by have C:=O (V o l1 (V S));clear o S;have HC:=O (V ab a s mid l1 _ f6J (V M) hr ag f6J (V C).s1 (V C).s2 (V C).i1);go_wp2_with(go_at_call 298;refine(V HC).mono ?_;rintro e N ⟨rfl,l2,d,X,D,v,Z⟩;have R:=O d;have P:=O (X.trans (V G));have A:=O (And.intro D (And.intro v Z));clear d X D v Z HC M G);have F:=O ((V C).done (V A).1 (V A).2.1 (V A).2.2 (Pu.x0n (V A).2.2 (l0r _) (Pu.x0f (V C).s3 (V C).s4 f6J f6J)) (Pu.Org.refl _ _ _) (Pu.Out.refl _ _ _));clear C A;go_wp2;go_end0;exact⟨rfl,l2,V R,V P,V F⟩):p:=h
theorem v2Y(h:p:=by rw[x];exact⟨Pu.x0f (V C).s1 (V C).s2 f6J ⟨(V HU).1,f6J⟩,Pu.Org.refl _ _ _,Pu.Out.refl _ _ _⟩):p:=h
theorem g6T(h:p:=by obtain⟨L,k2,S⟩:=V HE A o;exact⟨rfl,A,K,s,L,k2,S⟩):p:=h
theorem s6l(h:p:=by
 by_cases U:E<c
 ·obtain⟨l1,K⟩:∃l1,l1=l:=⟨l,rfl⟩;have M:Hid (SrY b B g n cap u xs f w1 l1 wr):=F0A;have G:Hid (l1.Perm l):=E9k;have S:Hid (∀k,l1.getD k 0=x0t l s m E k):=V0J;clear K HS J;have C:=O (V o l1 (V S));clear o S;obtain⟨l2,x⟩:∃l2,l2=l1:=⟨l1,rfl⟩;have R:Hid (SrY b B g n cap u xs f w1 l2 wr):=u8x;exact w9h
 ·exact f1e):p:=h
theorem N1N(h:p:=by rw[(f6J:d+1-1=d),V G];exact V Y):p:=h
theorem v9Y(h:p:=by obtain⟨l1,K⟩:∃l1,l1=l:=⟨l,rfl⟩;have M:Hid (SrY b B g n cap u xs f w1 l1 wr):=F0A;have G:Hid (l1.Perm l):=(by rw[K];exact List.Perm.refl _);have S:Hid (∀k,l1.getD k 0=x0t l s m E k):=V0J;clear K HS J;exact t9G):p:=h
theorem E9k(h:p:=by rw[K];exact List.Perm.refl _):p:=h
theorem u8x(h:p:=by rw[x];exact V M):p:=h
theorem V0J(h:p:=by rw[K];exact Pu.x0K f6J):p:=h
theorem M1A(h:p:=by
 by_cases U:E<c
 ·exact f1e
 ·exact f1e):p:=h
theorem F0A(h:p:=by rw[K];exact V HS):p:=h
theorem W2A(h:p:=by rw[x];exact V G):p:=h
end
namespace Pu
def fwd(l l':List Nat)(a k:Nat):Prop:=∀p,l'.getD p 0=if a<=p/\p<k then l.getD (p+1) 0 else if p=k then l.getD a 0 else l.getD p 0
def bwd(l l':List Nat)(m k:Nat):Prop:=∀p,l'.getD p 0=if k<p/\p<=m then l.getD (p-1) 0 else if p=k then l.getD m 0 else l.getD p 0
theorem z3n(l:List Nat)(a:Nat):fwd l l a a:=fun p=>by
 rw[if_neg f6J];by_cases h:p=a
 ·rw[if_pos h,h]
 ·rw[if_neg h]
theorem z2G(l:List Nat)(m:Nat):bwd l l m m:=fun p=>by
 rw[if_neg f6J];by_cases h:p=m
 ·rw[if_pos h,h]
 ·rw[if_neg h]
theorem z3o{l A:List Nat}{a k:Nat}(h:fwd l A a k)(G:a<=k)(S:k+1<A.length):fwd l (swapL A k (k+1)) a (k+1):=fun p=>by
 rw[x3i f6J S,h k,h (k+1),h p];by_cases B:p=k+1
 ·exact T6B
 ·rw[if_neg B];by_cases C:p=k
  ·exact u4P
  ·rw[if_neg C];by_cases N:a<=p/\p<k
   ·rw[if_pos N,if_pos f6J]
   ·rw[if_neg N,if_neg C,if_neg (f6J:¬(a<=p/\p<k+1)),if_neg B]
theorem z2H{l A:List Nat}{m k:Nat}(h:bwd l A m k)(G:1<=k)(F:k<=m)(S:k<A.length):bwd l (swapL A k (k-1)) m (k-1):=fun p=>by
 rw[x3i S f6J,h k,h (k-1),h p];by_cases B:p=k-1
 ·exact T6B
 ·rw[if_neg B];by_cases C:p=k
  ·exact u4P
  ·rw[if_neg C];by_cases N:k<p/\p<=m
   ·rw[if_pos N,if_pos f6J]
   ·rw[if_neg N,if_neg C,if_neg (f6J:¬(k-1<p/\p<=m)),if_neg B]
theorem x5p{xs:List Int}{l:List Nat}{a c p q:Nat}(h:SR xs l a c)(Z:a<=p)(D:p<=q)(J:q<c):xs.getD (l.getD p 0) 0<=xs.getD (l.getD q 0) 0:=by
 rcases Nat.eq_or_lt_of_le D with h4 | h4
 ·rw[h4];exact Int.le_refl _
 ·have:=h p q Z h4 J;unfold lx at this;omega
theorem z3m{xs:List Int}{l A:List Nat}{a m c t:Nat}(M:m=a+1)(F:m<=t)(D:t<=c)(L:SR xs l m c)(R:∀i j,a<=i->i<m->m<=j->j<c->l.getD i 0<l.getD j 0)
  (h1:t=m\/xs.getD (l.getD (t-1) 0) 0<xs.getD (l.getD a 0) 0) (h2:t=c\/xs.getD (l.getD a 0) 0<=xs.getD (l.getD t 0) 0) (o:fwd l A a (t-1)):SR xs A a c/\Org l A a c/\Out l A a c:=by
 have C:∀p,m<=p->p<t->lx xs (l.getD p 0) (l.getD a 0):=fun p J H=>by
  rcases h1 with h1 | h1
  ·omega
  ·have:=x5p L (p:=p) (q:=t-1) J f6J f6J;unfold lx;omega
 have B:∀p,t<=p->p<c->lx xs (l.getD a 0) (l.getD p 0):=fun p J H=>by
  rcases h2 with h2 | h2
  ·omega
  ·have:=x5p L (p:=t) (q:=p) f6J J H;have:=R a p (l0r _) f6J f6J H;unfold lx;omega
 refine⟨fun p q J H K=>?_,fun p J H=>?_,fun p J=>?_⟩
 ·rw[o p,o q];by_cases G:a<=p/\p<t-1
  ·rw[if_pos G];by_cases I:a<=q/\q<t-1
   ·rw[if_pos I];exact L _ _ f6J f6J f6J
   ·rw[if_neg I];by_cases N:q=t-1
    ·rw[if_pos N];exact C _ f6J f6J
    ·rw[if_neg N];exact L _ _ f6J f6J K
  ·rw[if_neg G,if_neg (f6J:¬(a<=q/\q<t-1))];by_cases N:p=t-1
   ·rw[if_pos N,if_neg f6J];exact B _ f6J K
   ·rw[if_neg N,if_neg f6J];exact L _ _ f6J H K
 ·rw[o p];by_cases G:a<=p/\p<t-1
  ·rw[if_pos G];exact⟨p+1,f6J,f6J,rfl⟩
  ·rw[if_neg G];by_cases N:p=t-1
   ·rw[if_pos N];exact⟨a,l0r _,f6J,rfl⟩
   ·rw[if_neg N];exact⟨p,J,H,rfl⟩
 ·rw[o p,if_neg f6J];by_cases N:p=t-1
  ·omega
  ·rw[if_neg N]
theorem z2F{xs:List Int}{l A:List Nat}{a m c t:Nat}(I:c=m+1)(X:a<=t)(D:t<=m)(L:SR xs l a m)(R:∀i j,a<=i->i<m->m<=j->j<c->l.getD i 0<l.getD j 0)
  (h1:t=a\/xs.getD (l.getD (t-1) 0) 0<=xs.getD (l.getD m 0) 0) (h2:t=m\/xs.getD (l.getD m 0) 0<xs.getD (l.getD t 0) 0) (o:bwd l A m t):SR xs A a c/\Org l A a c/\Out l A a c:=by
 have C:∀p,a<=p->p<t->lx xs (l.getD p 0) (l.getD m 0):=fun p J H=>by
  rcases h1 with h1 | h1
  ·omega
  ·have:=x5p L (p:=p) (q:=t-1) J f6J f6J;have:=R p m J f6J (l0r _) f6J;unfold lx;omega
 have B:∀p,t<=p->p<m->lx xs (l.getD m 0) (l.getD p 0):=fun p J H=>by
  rcases h2 with h2 | h2
  ·omega
  ·have:=x5p L (p:=t) (q:=p) X J H;unfold lx;omega
 refine⟨fun p q J H K=>?_,fun p J H=>?_,fun p J=>?_⟩
 ·rw[o p,o q];by_cases F:t<q/\q<=m
  ·rw[if_pos F];by_cases G:t<p/\p<=m
   ·rw[if_pos G];exact L _ _ f6J f6J f6J
   ·rw[if_neg G];by_cases N:p=t
    ·rw[if_pos N];exact B _ f6J f6J
    ·rw[if_neg N];exact L _ _ J f6J f6J
  ·rw[if_neg F,if_neg (f6J:¬(t<p/\p<=m)),if_neg f6J];by_cases N:q=t
   ·rw[if_pos N];exact C _ J f6J
   ·rw[if_neg N];exact L _ _ J H f6J
 ·rw[o p];by_cases F:t<p/\p<=m
  ·rw[if_pos F];exact⟨p-1,f6J,f6J,rfl⟩
  ·rw[if_neg F];by_cases N:p=t
   ·rw[if_pos N];exact⟨m,f6J,f6J,rfl⟩
   ·rw[if_neg N];exact⟨p,J,H,rfl⟩
 ·rw[o p,if_neg f6J];by_cases N:p=t
  ·omega
  ·rw[if_neg N]
end Pu
theorem z8z{b B g n cap:Nat}{u:Value}{xs:List Int}{w0 w1 w:World}{l:List Nat}(h:SrY b B g n cap u xs w0 w1 l w)(a m c:Nat)(hm:m=a+1)(aF:m<c)(h3:c<=n)(hn:n<=100000)(hs:Pu.SR xs l m c)(ab:∀i j,a<=i->i<m->m<=j->j<c->l.getD i 0<l.getD j 0) :
  Calls prog 298 #[.slice (some ⟨g,0,none⟩) n cap,.int .i64 a,.int .i64 m,.int .i64 c,.func (.func 251) #[] #[.pointer (some ⟨b,0,none⟩)]] w (SymP b B g n cap u xs w0 w1 l a c):=by
 have am:=h.caps;have aC:=h.len;have H:=O h;have v:Hid (∀t A,m<=t->t<=c->(t=m\/xs.getD (l.getD (t-1) 0) 0<xs.getD (l.getD a 0) 0)->(t=c\/xs.getD (l.getD a 0) 0<=xs.getD (l.getD t 0) 0)->Pu.fwd l A a (t-1)->Pu.SR xs A a c/\Pu.Org l A a c/\Pu.Out l A a c):=fun t A L k2 S k4 k5=>Pu.z3m hm L k2 hs ab S k4 k5;have hd:((m:Int)-(a:Int))=1:=f6J;have aw:(((m:Int)-(a:Int))==1)=true:=(by rw[hd];rfl);have ag:=O hm;have ar:a<m:=f6J;clear h hs ab hd hm;go_enter func298,ntmps298;go_wp2;go_loopw[10,11,12] (fun D jj _ wr=>∃i j:Nat,D=.int .i64 i/\jj=.int .i64 j/\m<=i/\i<=j/\j<=c/\(i=m\/xs.getD (l.getD (i-1) 0) 0<xs.getD (l.getD a 0) 0)/\(j=c\/xs.getD (l.getD a 0) 0<=xs.getD (l.getD j 0) 0)/\SrY b B g n cap u xs w0 w1 l wr) (fun D jj _ _=>(intOf jj).toNat-(intOf D).toNat)
 case atStart=>exact⟨m,c,rfl,rfl,l0r _,f6J,l0r _,.inl rfl,.inl rfl,V H⟩
 case round =>
  clear H;obtain⟨i,j,rfl,rfl,hi,az,hj,y,Q,K⟩:=hrel;by_cases aD:i<j
  ·have ay:(i+j) / 2<j:=f6J;have aj:i<=(i+j) / 2:=f6J;have e1:=K.cell (k:=(i+j) / 2) f6J;have e2:=K.cell (k:=a) f6J;have C:=fun k=>O (K.cmp (i:=(i+j) / 2) (j:=a) f6J f6J k);have f:=O fun k=>K.drewN k;have N:((i:Int)+(j:Int)) / 2=(((i+j) / 2:Nat):Int):=f6J;clear K;generalize hmid:(i+j) / 2=d at *;by_cases I:xs.getD (l.getD d 0) 0<xs.getD (l.getD a 0) 0
   ·have U:Pu.cmpI (xs.getD (l.getD d 0) 0) (xs.getD (l.getD a 0) 0)<0:=Pu.x1X.2 I;have Y:=O I;have ae:=O Q;clear I y Q;generalize Pu.cmpI (xs.getD (l.getD d 0) 0) (xs.getD (l.getD a 0) 0)=J at *;generalize hp1:l.getD d 0=p at *;generalize hp2:l.getD a 0=q at *;have G:=O hp1;have P:=O hp2;clear hp1 hp2;go_wp2;go_quiet(first| (go_at_call 251;exact Calls.quiet_of (V (C _))));have F:=O (V f nq);clear e1 e2 f C;generalize wr.drewN nq=wd at *;go_wp2
    go_roundw
    case rel=>exact⟨d+1,j,g2B,rfl,f6J,f6J,hj,.inr N1N,V ae,V F⟩
    case measure=>exact g7T
   ·have U:¬Pu.cmpI (xs.getD (l.getD d 0) 0) (xs.getD (l.getD a 0) 0)<0:=fun hh=>I (Pu.x1X.1 hh);have Z:xs.getD (l.getD a 0) 0<=xs.getD (l.getD d 0) 0:=f6J;have Y:=O Z;clear Z;have af:=O y;clear I y Q;generalize Pu.cmpI (xs.getD (l.getD d 0) 0) (xs.getD (l.getD a 0) 0)=J at *;generalize hp1:l.getD d 0=p at *;generalize hp2:l.getD a 0=q at *;have G:=O hp1;have P:=O hp2;clear hp1 hp2;have aq:(decide (J<0))=false:=d0f U;go_wp2;go_quiet(first| (go_at_call 251;exact Calls.quiet_of (V (C _))));have F:=O (V f nq);clear e1 e2 f C;generalize wr.drewN nq=wd at *;go_wp2
    go_roundw
    case rel=>exact⟨i,d,rfl,rfl,hi,aj,f6J,V af,.inr (by rw[V G];exact V Y),V F⟩
    case measure=>exact g7T
  ·have W:i=j:=f6J;subst W;have HE:=O (fun A o=>V v i A hi hj y Q o);have r:=O K;have R:=V ag;clear y Q K v;have T:a<=i-1:=f6J;clear R;go_wp2;go_loopw[13] (fun kk wr=>∃(k:Nat) (A:List Nat),kk=.int .i64 k/\a<=k/\k<=i-1/\SrY b B g n cap u xs w0 w1 A wr/\A.Perm l/\Pu.fwd l A a k) (fun kk _=>c-(intOf kk).toNat)
   case atStart=>exact⟨a,l,rfl,l0r _,T,V r,List.Perm.refl _,Pu.z3n l a⟩
   case round =>
    clear r;obtain⟨k,A,rfl,ai,aA,K,s,o⟩:=hrel;have x:=K.len;by_cases aB:k<i-1
    ·have e1:=K.cell (k:=k) f6J;have e2:=K.cell (k:=k+1) f6J;have e3:=K.frozen k;have e4:=K.frozen (k+1);have f:=O (K.swap (i:=k) (j:=k+1) f6J f6J);have HP:=O ((Pu.x3j (l:=A) (i:=k) (j:=k+1) f6J f6J).trans s);have HF:=O (Pu.z3o o ai f6J);have aG:¬(k=k+1):=f6J;have aH:((k:Int)+1).toNat=k+1:=f6J;have X:(k:Int)<(i:Int)-1:=f6J;clear K s o;generalize Pu.swapL A k (k+1)=l2,A.getD k 0=p,A.getD (k+1) 0=q at *;go_wp2;go_region;go_wp2
     go_roundw
     case rel=>exact⟨k+1,l2,g2B,f6J,f6J,V f,V HP,V HF⟩
     case measure=>exact g7T
    ·have M:k=i-1:=f6J;subst M
     have HF:Hid (SymP b B g n cap u xs w0 w1 l a c (.returned (.tuple #[])) wr):=g6T
     have X:¬(((i-1:Nat):Int)<(i:Int)-1):=f6J;clear K s o HE;generalize i-1=i2 at *;go_wp2;go_end0;exact V HF
theorem z4J{b B g n cap:Nat}{u:Value}{xs:List Int}{w0 w1 w:World}{l:List Nat}(h:SrY b B g n cap u xs w0 w1 l w)(a m c:Nat)(hm:c=m+1)(aq:a+1<m)(h3:c<=n)(hn:n<=100000)(hs:Pu.SR xs l a m)(R:∀i j,a<=i->i<m->m<=j->j<c->l.getD i 0<l.getD j 0) :
  Calls prog 298 #[.slice (some ⟨g,0,none⟩) n cap,.int .i64 a,.int .i64 m,.int .i64 c,.func (.func 251) #[] #[.pointer (some ⟨b,0,none⟩)]] w (SymP b B g n cap u xs w0 w1 l a c):=by
 have aj:=h.caps;have aB:=h.len;have H:=O h;have v:Hid (∀t A,a<=t->t<=m->(t=a\/xs.getD (l.getD (t-1) 0) 0<=xs.getD (l.getD m 0) 0)->(t=m\/xs.getD (l.getD m 0) 0<xs.getD (l.getD t 0) 0)->Pu.bwd l A m t->Pu.SR xs A a c/\Pu.Org l A a c/\Pu.Out l A a c):=fun t A L k2 S k4 k5=>Pu.z2F hm L k2 hs R S k4 k5;have ar:(((m:Int)-(a:Int))==1)=false:=P8P;have hd:((c:Int)-(m:Int))=1:=f6J;have aw:(((c:Int)-(m:Int))==1)=true:=(by rw[hd];rfl);have aD:m<n:=f6J;clear h hs R hd hm;go_enter func298,ntmps298;go_wp2;go_loopw[14,15,16] (fun D jj _ wr=>∃i j:Nat,D=.int .i64 i/\jj=.int .i64 j/\a<=i/\i<=j/\j<=m/\(i=a\/xs.getD (l.getD (i-1) 0) 0<=xs.getD (l.getD m 0) 0)/\(j=m\/xs.getD (l.getD m 0) 0<xs.getD (l.getD j 0) 0)/\SrY b B g n cap u xs w0 w1 l wr) (fun D jj _ _=>(intOf jj).toNat-(intOf D).toNat)
 case atStart=>exact⟨a,m,rfl,rfl,l0r _,f6J,l0r _,.inl rfl,.inl rfl,V H⟩
 case round =>
  clear H;obtain⟨i,j,rfl,rfl,hi,az,X,y,Q,K⟩:=hrel;by_cases aC:i<j
  ·have ay:(i+j) / 2<j:=f6J;have af:i<=(i+j) / 2:=f6J;have e1:=K.cell (k:=(i+j) / 2) f6J;have e2:=K.cell (k:=m) f6J;have C:=fun k=>O (K.cmp (i:=m) (j:=(i+j) / 2) f6J f6J k);have f:=O fun k=>K.drewN k;have N:((i:Int)+(j:Int)) / 2=(((i+j) / 2:Nat):Int):=f6J;clear K;generalize hmid:(i+j) / 2=d at *;by_cases I:xs.getD (l.getD m 0) 0<xs.getD (l.getD d 0) 0
   ·have U:Pu.cmpI (xs.getD (l.getD m 0) 0) (xs.getD (l.getD d 0) 0)<0:=Pu.x1X.2 I;have Y:=O I;have ae:=O y;clear I y Q;generalize Pu.cmpI (xs.getD (l.getD m 0) 0) (xs.getD (l.getD d 0) 0)=J at *;generalize hp1:l.getD d 0=p at *;generalize hp2:l.getD m 0=q at *;have G:=O hp1;have P:=O hp2;clear hp1 hp2;go_wp2;go_quiet(first| (go_at_call 251;exact Calls.quiet_of (V (C _))));have F:=O (V f nq);clear e1 e2 f C;generalize wr.drewN nq=wd at *;go_wp2
    go_roundw
    case rel=>exact⟨i,d,rfl,rfl,hi,af,f6J,V ae,.inr (by rw[V G];exact V Y),V F⟩
    case measure=>exact g7W
   ·have U:¬Pu.cmpI (xs.getD (l.getD m 0) 0) (xs.getD (l.getD d 0) 0)<0:=fun hh=>I (Pu.x1X.1 hh);have Z:xs.getD (l.getD d 0) 0<=xs.getD (l.getD m 0) 0:=f6J;have Y:=O Z;clear Z;have ab:=O Q;clear I y Q;generalize Pu.cmpI (xs.getD (l.getD m 0) 0) (xs.getD (l.getD d 0) 0)=J at *;generalize hp1:l.getD d 0=p at *;generalize hp2:l.getD m 0=q at *;have G:=O hp1;have P:=O hp2;clear hp1 hp2;have am:(decide (J<0))=false:=d0f U;go_wp2;go_quiet(first| (go_at_call 251;exact Calls.quiet_of (V (C _))));have F:=O (V f nq);clear e1 e2 f C;generalize wr.drewN nq=wd at *;go_wp2
    go_roundw
    case rel=>exact⟨d+1,j,g2B,rfl,f6J,f6J,X,.inr N1N,V ab,V F⟩
    case measure=>exact g7W
  ·have W:i=j:=f6J;subst W;have HE:=O (fun A o=>V v i A hi X y Q o);have r:=O K;clear y Q K v;go_wp2;go_loopw[17] (fun kk wr=>∃(k:Nat) (A:List Nat),kk=.int .i64 k/\i<=k/\k<=m/\SrY b B g n cap u xs w0 w1 A wr/\A.Perm l/\Pu.bwd l A m k) (fun kk _=>(intOf kk).toNat)
   case atStart=>exact⟨m,l,rfl,X,l0r _,V r,List.Perm.refl _,Pu.z2G l m⟩
   case round =>
    clear r;obtain⟨k,A,rfl,aA,ag,K,s,o⟩:=hrel;have x:=K.len;by_cases T:i<k
    ·have e1:=K.cell (k:=k) f6J;have e2:=K.cell (k:=k-1) f6J;have e3:=K.frozen k;have e4:=K.frozen (k-1);have f:=O (K.swap (i:=k) (j:=k-1) f6J f6J);have HP:=O ((Pu.x3j (l:=A) (i:=k) (j:=k-1) f6J f6J).trans s);have HF:=O (Pu.z2H o f6J ag f6J);have aF:¬(k=k-1):=f6J;have aG:((k:Int)-1).toNat=k-1:=f6J;have ai:(k:Int)-1=((k-1:Nat):Int):=f6J;clear K s o;generalize Pu.swapL A k (k-1)=l2,A.getD k 0=p,A.getD (k-1) 0=q at *;go_wp2;go_region;go_wp2
     go_roundw
     case rel=>exact⟨k-1,l2,by first| rfl|(rw[ai]) | go_num,f6J,f6J,V f,V HP,V HF⟩
     case measure=>exact g7W
    ·have M:k=i:=f6J;subst M
     have HF:Hid (SymP b B g n cap u xs w0 w1 l a c (.returned (.tuple #[])) wr):=g6T
     clear K s o HE;go_wp2;go_end0;exact V HF
namespace Pu
structure Mid(xs:List Int)(l l1:List Nat)(a m c mid t E:Nat):Prop where
 sA:SR xs l a m
 sB:SR xs l m c
 ix:∀i j,a<=i->i<m->m<=j->j<c->l.getD i 0<l.getD j 0
 at':a<=t
 tm:t<=m
 mE:m<=E
 Ec:E<=c
 hm:t+(E-m)=mid
 hE:mid+(m-t)=E
 x1:a<t->E<c->xs.getD (l.getD (t-1) 0) 0<=xs.getD (l.getD E 0) 0
 x2:t<m->m<E->xs.getD (l.getD (E-1) 0) 0<xs.getD (l.getD t 0) 0
 rot:∀k,l1.getD k 0=x0t l t m E k
section
variable {xs:List Int} {l l1:List Nat} {a m c mid t E:Nat}
theorem Mid.e1(h:Mid xs l l1 a m c mid t E){k:Nat}(G:k<t\/E<=k):l1.getD k 0=l.getD k 0:=by rw[h.rot k];unfold x0t;rw[if_neg f6J]
theorem Mid.e2(h:Mid xs l l1 a m c mid t E){k:Nat}(Z:t<=k)(D:k<mid):l1.getD k 0=l.getD (k+(m-t)) 0:=by
 have:=h.hm;have:=h.hE;have:=h.tm;have:=h.mE;rw[h.rot k];unfold x0t;rw[if_pos f6J,if_pos f6J]
theorem Mid.e3(h:Mid xs l l1 a m c mid t E){k:Nat}(Z:mid<=k)(D:k<E):l1.getD k 0=l.getD (k-(E-m)) 0:=by
 have:=h.hm;have:=h.hE;have:=h.tm;have:=h.mE;rw[h.rot k];unfold x0t;rw[if_pos f6J,if_neg f6J]
theorem Mid.cross(h:Mid xs l l1 a m c mid t E){i j:Nat}(Z:a<=i)(D:i<mid)(J:mid<=j)(H:j<c):lx xs (l1.getD i 0) (l1.getD j 0):=by
 have C:=h.hm;have s:=h.hE;have f:=h.tm;have T:=h.mE;have y:=h.at';have N:=h.Ec;by_cases hi:i<t
 ·rw[h.e1 (.inl hi)];by_cases X:j<E
  ·rw[h.e3 J X];exact h.sA _ _ Z f6J f6J
  ·rw[h.e1 (.inr f6J)];have u:=x5p h.sA (p:=i) (q:=t-1) Z f6J f6J;have o:=x5p h.sB (p:=E) (q:=j) f6J f6J H;have A:=h.x1 f6J f6J;have B:=h.ix i j Z f6J f6J H;unfold lx;omega
 ·rw[h.e2 f6J D];by_cases X:j<E
  ·rw[h.e3 J X];have u:=x5p h.sB (p:=i+(m-t)) (q:=E-1) f6J f6J f6J;have o:=x5p h.sA (p:=t) (q:=j-(E-m)) f6J f6J f6J;have A:=h.x2 f6J f6J;unfold lx;omega
  ·rw[h.e1 (.inr f6J)];exact h.sB _ _ f6J f6J H
theorem Mid.s1(h:Mid xs l l1 a m c mid t E):SR xs l1 a t:=fun i j Z D J=>by
 have f:=h.tm;rw[h.e1 (.inl f6J),h.e1 (.inl J)];exact h.sA _ _ Z D f6J
theorem Mid.s2(h:Mid xs l l1 a m c mid t E):SR xs l1 t mid:=fun i j Z D J=>by
 have C:=h.hm;have s:=h.hE;have f:=h.tm;have T:=h.mE;have N:=h.Ec;rw[h.e2 Z f6J,h.e2 f6J J];exact h.sB _ _ f6J f6J f6J
theorem Mid.i1(h:Mid xs l l1 a m c mid t E):∀i j,a<=i->i<t->t<=j->j<mid->l1.getD i 0<l1.getD j 0:=fun i j Z D J H=>by
 have C:=h.hm;have s:=h.hE;have f:=h.tm;have T:=h.mE;have N:=h.Ec;rw[h.e1 (.inl D),h.e2 J H];exact h.ix _ _ Z f6J f6J f6J
theorem Mid.s3(h:Mid xs l l1 a m c mid t E):SR xs l1 mid E:=fun i j Z D J=>by
 have C:=h.hm;have s:=h.hE;have f:=h.tm;have T:=h.mE;have y:=h.at';rw[h.e3 Z f6J,h.e3 f6J J];exact h.sA _ _ f6J f6J f6J
theorem Mid.s4(h:Mid xs l l1 a m c mid t E):SR xs l1 E c:=fun i j Z D J=>by
 have T:=h.mE;rw[h.e1 (.inr Z),h.e1 (.inr f6J)];exact h.sB _ _ f6J D J
theorem Mid.i2(h:Mid xs l l1 a m c mid t E):∀i j,mid<=i->i<E->E<=j->j<c->l1.getD i 0<l1.getD j 0:=fun i j Z D J H=>by
 have C:=h.hm;have s:=h.hE;have f:=h.tm;have T:=h.mE;have y:=h.at';rw[h.e3 Z D,h.e1 (.inr J)];exact h.ix _ _ f6J f6J f6J H
theorem Mid.org(h:Mid xs l l1 a m c mid t E):Org l l1 a c:=fun i Z D=>by
 have C:=h.hm;have s:=h.hE;have f:=h.tm;have T:=h.mE;have y:=h.at';have N:=h.Ec;by_cases hi:i<t\/E<=i
 ·exact⟨i,Z,D,h.e1 hi⟩
 ·by_cases X:i<mid
  ·exact⟨_,f6J,f6J,h.e2 f6J X⟩
  ·exact⟨_,f6J,f6J,h.e3 f6J f6J⟩
theorem Mid.out(h:Mid xs l l1 a m c mid t E):Out l l1 a c:=fun k G=>by
 have y:=h.at';have N:=h.Ec;exact h.e1 f6J
theorem Mid.done{l2 y:List Nat}(h:Mid xs l l1 a m c mid t E)(s2:SR xs l2 a mid)(F:Org l1 l2 a mid)(u2:Out l1 l2 a mid)(C:SR xs y mid c)(B:Org l2 y mid c)(u3:Out l2 y mid c):SR xs y a c/\Org l y a c/\Out l y a c:=by
 have G:=h.hm;have s:=h.hE;have f:=h.tm;have T:=h.mE;have I:=h.at';have N:=h.Ec;refine⟨fun i j Z D J=>?_,(h.org.trans (F.wide u2 (l0r _) f6J)).trans (B.wide u3 f6J (l0r _)),(h.out.trans (u2.wide (l0r _) f6J)).trans (u3.wide f6J (l0r _))⟩;by_cases X:j<mid
 ·rw[u3 i f6J,u3 j f6J];exact s2 _ _ Z D X
 ·by_cases hi:mid<=i
  ·exact C _ _ hi D J
  ·obtain⟨H,L,M,S⟩:=F i Z f6J;obtain⟨P,U,A,R⟩:=B j f6J J;rw[u3 i f6J,S,R,u2 P f6J];exact h.cross L M U A
theorem x0K{l:List Nat}{t m E:Nat}(h:t=m\/m=E)(k:Nat):l.getD k 0=x0t l t m E k:=by
 unfold x0t;by_cases Z:t<=k/\k<E
 ·rw[if_pos Z];rcases h with h | h
  ·subst h;rw[if_pos f6J,Nat.sub_self,Nat.add_zero]
  ·subst h;rw[if_neg f6J,Nat.sub_self,Nat.sub_zero]
 ·rw[if_neg Z]
theorem x0f{xs:List Int}{l:List Nat}{a t mid:Nat}(Z:SR xs l a t)(D:SR xs l t mid)(h:¬(a<t/\t<mid))(U:a<=t/\t<=mid):SR xs l a mid:=fun i j L k2 S=>by
 by_cases H:t=mid
 ·subst H;exact Z _ _ L k2 S
 ·have:a=t:=f6J;subst this;exact D _ _ L k2 S
end
end Pu
namespace Pu
theorem x0n{xs:List Int}{l1 l2:List Nat}{a mid p q:Nat}(u:Out l1 l2 a mid)(h:mid<=p)(k:SR xs l1 p q):SR xs l2 p q:=fun i j Z D J=>by
 rw[u i f6J,u j f6J];exact k _ _ Z D J
theorem x5z{l1 l2:List Nat}{a mid E c:Nat}(u:Out l1 l2 a mid)(k:∀i j,mid<=i->i<E->E<=j->j<c->l1.getD i 0<l1.getD j 0):∀i j,mid<=i->i<E->E<=j->j<c->l2.getD i 0<l2.getD j 0:=fun i j Z D J H=>by
 rw[u i f6J,u j f6J];exact k _ _ Z D J H
end Pu
def SymC(b B g n cap:Nat)(xv:Value)(xs:List Int)(w0 w1:World)(d:Nat):Prop:=∀(a m c:Nat) (l:List Nat) (w:World),c-a<d->SrY b B g n cap xv xs w0 w1 l w->a<m->m<c->c<=n->Pu.SR xs l a m->Pu.SR xs l m c->(∀i j,a<=i->i<m->m<=j->j<c->l.getD i 0<l.getD j 0) ->
 Calls prog 298 #[.slice (some ⟨g,0,none⟩) n cap,.int .i64 a,.int .i64 m,.int .i64 c,.func (.func 251) #[] #[.pointer (some ⟨b,0,none⟩)]] w (SymP b B g n cap xv xs w0 w1 l a c)
theorem z8y{b B g n cap:Nat}{u:Value}{xs:List Int}{f w1 w:World}{l:List Nat}(h:SrY b B g n cap u xs f w1 l w)(a m c:Nat)(bm:a+1<m)(bC:m+1<c)(h3:c<=n)(hn:n<=100000)(aQ:Pu.SR xs l a m)(aR:Pu.SR xs l m c)(aO:∀i j,a<=i->i<m->m<=j->j<c->l.getD i 0<l.getD j 0)
  (aL:SymC b B g n cap u xs f w1 (c-a)) :
  Calls prog 298 #[.slice (some ⟨g,0,none⟩) n cap,.int .i64 a,.int .i64 m,.int .i64 c,.func (.func 251) #[] #[.pointer (some ⟨b,0,none⟩)]] w (SymP b B g n cap u xs f w1 l a c):=by
 have bj:=h.caps;have bt:=h.len;have H:=O h;obtain⟨mid,aP⟩:∃mid,mid=(a+c) / 2:=⟨_,rfl⟩;have bu:a<mid:=f6J;have bw:mid<c:=f6J;have bA:2*mid<=a+c:=f6J;have bB:a+c<=2*mid+1:=f6J;have aV:((a:Int)+(c:Int)) / 2=(mid:Int):=f6J
 have am:Hid (∀t E l1,a<=t->t<=m->m<=E->E<=c->t+(E-m)=mid->mid+(m-t)=E->(a<t->E<c->xs.getD (l.getD (t-1) 0) 0<=xs.getD (l.getD E 0) 0)->(t<m->m<E->xs.getD (l.getD (E-1) 0) 0<xs.getD (l.getD t 0) 0)->(∀k,l1.getD k 0=x0t l t m E k)->Pu.Mid xs l l1 a m c mid t E) :=
  fun t E l1 k1 k2 k3 k4 k5 k6 k7 k8 k9=>⟨aQ,aR,aO,k1,k2,k3,k4,k5,k6,k7,k8,k9⟩
 have ab:=O aL;have bn:(((m:Int)-(a:Int))==1)=false:=P8U;have bp:(((c:Int)-(m:Int))==1)=false:=P8U;clear h aQ aR aO aL aP;by_cases bh:mid<m
 ·have aM:a<=(mid+m-c):=f6J;have aq:(mid+m-c)<=mid:=f6J;have aU:mid<=m:=f6J;have aW:(mid:Int)+(m:Int)-(c:Int)=((mid+m-c:Nat):Int):=f6J;go_enter func298,ntmps298;go_wp2;go_loopw[20,21,23] (fun ss rr _ wr=>∃s r:Nat,ss=.int .i64 s/\rr=.int .i64 r/\(mid+m-c)<=s/\s<=r/\r<=mid/\(s=(mid+m-c)\/xs.getD (l.getD (s-1) 0) 0<=xs.getD (l.getD (mid+m-s) 0) 0)/\(r=mid\/xs.getD (l.getD (mid+m-1-r) 0) 0<xs.getD (l.getD r 0) 0)/\SrY b B g n cap u xs f w1 l wr) (fun ss rr _ _=>(intOf rr).toNat-(intOf ss).toNat)
  case atStart=>exact⟨(mid+m-c),mid,by first| rfl | rw[aW],rfl,l0r _,aq,l0r _,.inl rfl,.inl rfl,V H⟩
  case round =>exact v3E
 ·have aM:a<=a:=f6J;have aq:a<=m:=f6J;have aU:m<=m:=f6J;have aS:m<=mid:=f6J;go_enter func298,ntmps298;go_wp2;go_loopw[20,21,23] (fun ss rr _ wr=>∃s r:Nat,ss=.int .i64 s/\rr=.int .i64 r/\a<=s/\s<=r/\r<=m/\(s=a\/xs.getD (l.getD (s-1) 0) 0<=xs.getD (l.getD (mid+m-s) 0) 0)/\(r=m\/xs.getD (l.getD (mid+m-1-r) 0) 0<xs.getD (l.getD r 0) 0)/\SrY b B g n cap u xs f w1 l wr) (fun ss rr _ _=>(intOf rr).toNat-(intOf ss).toNat)
  case atStart=>exact⟨a,m,by rfl,rfl,l0r _,aq,l0r _,.inl rfl,.inl rfl,V H⟩
  case round =>exact v3E
theorem z1z{b B g n cap:Nat}{u:Value}{xs:List Int}{f w1:World}(F:n<=100000):∀d,SymC b B g n cap u xs f w1 d:=by
 intro d
 induction d with
 | zero=>intro a m c l w h;omega
 | succ d ih =>
  intro a m c l w hd K Z D J G H R;by_cases M:m=a+1
  ·exact z8z K a m c M D J F H R
  ·by_cases N:c=m+1
   ·exact z4J K a m c N f6J J F G R
   ·refine z8y K a m c f6J f6J J F G H R ?_;intro I P C A o L;exact ih I P C A o f6J
namespace Pu
def SRB(xs:List Int)(l:List Nat)(z u v:Nat):Prop:=∀k i j,u<=i->k*z<=i->i<j->j<k*z+z->j<v->lx xs (l.getD i 0) (l.getD j 0)
def OrgB(l0 l:List Nat)(z u n:Nat):Prop:=∀k i,u<=i->k*z<=i->i<k*z+z->i<n->∃i',k*z<=i'/\i'<k*z+z/\i'<n/\l.getD i 0=l0.getD i' 0
theorem y4a{K k z:Nat}(h:K<k):K*z+z<=k*z:=by
 have:=Nat.mul_le_mul_right z (show K+1<=k from h);rw[Nat.add_mul,Nat.one_mul]at this;exact this
theorem z9p{K k z i:Nat}(Z:K*z<=i)(D:i<K*z+z)(J:k*z<=i)(H:i<k*z+z):K=k:=by
 rcases Nat.lt_trichotomy K k with h | h | h
 ·have:=y4a (z:=z) h;omega
 ·exact h
 ·have:=y4a (z:=z) h;omega
section
variable {xs:List Int} {l0 l l2:List Nat} {k z a b n:Nat}
theorem x5Y(h:SRB xs l z 0 a)(d:a=k*z)(Y:b<=a+z)(s:SR xs l2 a b)(u:Out l l2 a b):SRB xs l2 z 0 b:=by
 intro K i j _ Z D J H;rcases Nat.lt_trichotomy K k with hk | hk | hk
 ·have A:=y4a (z:=z) hk;rw[u i f6J,u j f6J];exact h K i j (Nat.zero_le _) Z D J f6J
 ·subst hk;exact s i j f6J D H
 ·have A:=y4a (z:=z) hk;omega
theorem x3Q(h:OrgB l0 l z 0 n)(d:a=k*z)(Y:b<=a+z)(F:b<=n)(o:Org l l2 a b)(u:Out l l2 a b):OrgB l0 l2 z 0 n:=by
 intro K i _ Z D J;by_cases hi:a<=i/\i<b
 ·have G:K=k:=z9p Z D f6J f6J;subst G;obtain⟨H,C,s,f⟩:=o i hi.1 hi.2;obtain⟨j,I,r2,r3,r4⟩:=h K H (Nat.zero_le _) f6J f6J f6J;exact⟨j,I,r2,r3,f.trans r4⟩
 ·obtain⟨j,I,r2,r3,r4⟩:=h K i (Nat.zero_le _) Z D J;exact⟨j,I,r2,r3,(u i f6J).trans r4⟩
theorem y7z(l0:List Nat)(z u n:Nat):OrgB l0 l0 z u n:=fun _ i _ Z D J=>⟨i,Z,D,J,rfl⟩
theorem z5Q{u v:Nat}(h:OrgB l0 l z u n)(A:u<=v):OrgB l0 l z v n:=fun K i R Z D J=>h K i f6J Z D J
theorem z9j{u v m:Nat}(h:SRB xs l z u m)(A:u<=v):SRB xs l z v m:=fun K i j R Z D J H=>h K i j f6J Z D J H
theorem z2f{u:Nat}(h:OrgB l0 l z u n)(o:Out l l2 a b)(Y:b<=u):OrgB l0 l2 z u n:=fun K i R Z D J=>by
 obtain⟨j,I,r2,r3,r4⟩:=h K i R Z D J;exact⟨j,I,r2,r3,(o i f6J).trans r4⟩
theorem z5S{u m:Nat}(h:SRB xs l z u m)(o:Out l l2 a b)(Y:b<=u):SRB xs l2 z u m:=fun K i j R Z D J H=>by
 rw[o i f6J,o j f6J];exact h K i j R Z D J H
theorem y7A(h:OrgB l0 l z 0 n):OrgB l0 l (2*z) 0 n:=fun K i _ Z D J=>by
 have A:K*(2*z)=2*K*z:=g4h;have B:(2*K+1)*z=2*K*z+z:=T9k;by_cases hi:i<2*K*z+z
 ·obtain⟨j,I,r2,r3,r4⟩:=h (2*K) i (Nat.zero_le _) f6J hi J;exact⟨j,f6J,f6J,r3,r4⟩
 ·obtain⟨j,I,r2,r3,r4⟩:=h (2*K+1) i (Nat.zero_le _) f6J f6J J;exact⟨j,f6J,f6J,r3,r4⟩
end
structure Sm(xs:List Int)(l0 l:List Nat)(z n a:Nat):Prop where
 s2:SRB xs l (2*z) 0 a
 s1:SRB xs l z a n
 o2:OrgB l0 l (2*z) 0 n
 o1:OrgB l0 l z a n
 k:∃k,a=k*(2*z)
structure Bs(xs:List Int)(l0 l:List Nat)(z n:Nat):Prop where
 s:SRB xs l z 0 n
 o:OrgB l0 l z 0 n
section
variable {xs:List Int} {l0 l l2:List Nat} {z a b n:Nat}
theorem Bs.st(h:Bs xs l0 l z n):Sm xs l0 l z n 0:=⟨fun _ _ _ _ _ _ _ h=>absurd h (Nat.not_lt_zero _),h.s,y7A h.o,h.o,⟨0,f6J⟩⟩
theorem Sm.pre(h:Sm xs l0 l z n a)(Z:a+z<=n)(D:b<=n)(J:b<=a+2*z)(Q:∀p q,p<q->q<n->l0.getD p 0<l0.getD q 0) :
  SR xs l a (a+z)/\SR xs l (a+z) b/\∀i j,a<=i->i<a+z->a+z<=j->j<b->l.getD i 0<l.getD j 0:=by
 obtain⟨K,G⟩:=h.k;have A:K*(2*z)=2*K*z:=g4h;have B:(2*K+1)*z=2*K*z+z:=T9k;refine⟨fun i j L M S=>h.s1 (2*K) i j L f6J M f6J f6J,fun i j L M S=>h.s1 (2*K+1) i j f6J f6J M f6J f6J,fun i j L M S C=>?_⟩;obtain⟨H,I,r2,r3,r4⟩:=h.o1 (2*K) i L f6J f6J f6J;obtain⟨P,F,R,U,X⟩:=h.o1 (2*K+1) j f6J f6J f6J f6J;rw[r4,X];exact Q _ _ f6J U
theorem Sm.next(h:Sm xs l0 l z n a)(Z:a+2*z<=n)(s:SR xs l2 a (a+2*z))(o:Org l l2 a (a+2*z))(u:Out l l2 a (a+2*z)):Sm xs l0 l2 z n (a+2*z):=by
 obtain⟨K,G⟩:=h.k;exact⟨x5Y h.s2 G (l0r _) s u,z5S (z9j h.s1 f6J) u (l0r _),x3Q h.o2 G (l0r _) Z o u,z2f (z5Q h.o1 f6J) u (l0r _),⟨K+1,by rw[Nat.add_mul,Nat.one_mul];exact f6J⟩⟩
theorem Sm.last(h:Sm xs l0 l z n a)(Z:n<=a+2*z)(s:SR xs l2 a n)(o:Org l l2 a n)(u:Out l l2 a n):Bs xs l0 l2 (2*z) n:=by
 obtain⟨K,G⟩:=h.k;exact⟨x5Y h.s2 G Z s u,x3Q h.o2 G Z (l0r _) o u⟩
theorem Sm.stop(h:Sm xs l0 l z n a)(Z:n<=a+z):Bs xs l0 l (2*z) n:=by
 obtain⟨K,G⟩:=h.k;have A:K*(2*z)=2*K*z:=g4h;exact h.last f6J (fun i j L M S=>h.s1 (2*K) i j L f6J M f6J S) (Org.refl _ _ _) (Out.refl _ _ _)
theorem Bs.whole(h:Bs xs l0 l z n)(T:n<=z):SR xs l 0 n:=fun i j _ D J=>h.s 0 i j (Nat.zero_le _) f6J D f6J J
structure Is(xs:List Int)(l0 l:List Nat)(n a:Nat):Prop where
 s:SRB xs l 20 0 a
 o:OrgB l0 l 20 0 n
 e:∀k,a<=k->l.getD k 0=l0.getD k 0
 k:∃k,a=k*20
theorem Is.start(xs:List Int)(l0:List Nat)(n:Nat):Is xs l0 l0 n 0:=⟨fun _ _ _ _ _ _ _ h=>absurd h (Nat.not_lt_zero _),y7z _ _ _ _,fun _ _=>rfl,⟨0,rfl⟩⟩
theorem Is.next(h:Is xs l0 l n a)(Z:a+20<=n)(s:SR xs l2 a (a+20))(o:Org l l2 a (a+20))(u:Out l l2 a (a+20)):Is xs l0 l2 n (a+20):=by
 obtain⟨K,G⟩:=h.k;exact⟨x5Y h.s G (l0r _) s u,x3Q h.o G (l0r _) Z o u,fun k G=>(u k (.inr G)).trans (h.e k f6J),⟨K+1,f6J⟩⟩
theorem Is.last(h:Is xs l0 l n a)(Z:n<=a+20)(s:SR xs l2 a n)(o:Org l l2 a n)(u:Out l l2 a n):Bs xs l0 l2 20 n:=by
 obtain⟨K,G⟩:=h.k;exact⟨x5Y h.s G Z s u,x3Q h.o G Z (l0r _) o u⟩
theorem Is.inc(h:Is xs l0 l n a)(Q:∀p q,p<q->q<n->l0.getD p 0<l0.getD q 0){c:Nat}(I:c<=n):∀p q,a<=p->p<q->q<c->l.getD p 0<l.getD q 0:=fun p q Z D J=>by
 rw[h.e p Z,h.e q f6J];exact Q p q D f6J
end
end Pu
def StP(b B g n cap:Nat)(xv:Value)(xs:List Int)(w0 w1:World)(l:List Nat)(e:Ending)(w':World):Prop :=
 e=.returned (.tuple #[])/\∃l',SrY b B g n cap xv xs w0 w1 l' w'/\l'.Perm l/\Pu.SR xs l' 0 n
theorem y7f{b B g n cap:Nat}{u:Value}{xs:List Int}{f w1 w:World}{l:List Nat}(h:SrY b B g n cap u xs f w1 l w)(F:n<=100000)(Q:∀p q,p<q->q<n->l.getD p 0<l.getD q 0) :
  Calls prog 286 #[.slice (some ⟨g,0,none⟩) n cap,.int .i64 n,.func (.func 251) #[] #[.pointer (some ⟨b,0,none⟩)]] w (StP b B g n cap u xs f w1 l):=by
 have W:=h.caps;have ai:=h.len;have H:=O h;have x:=O Q;clear h Q;go_enter func286,ntmps286;go_wp2;go_loopw[7,8] (fun aa r wr=>∃(a c:Nat) (A:List Nat),aa=.int .i64 a/\r=.int .i64 c/\c=a+20/\a<=n/\SrY b B g n cap u xs f w1 A wr/\A.Perm l/\Pu.Is xs l A n a) (fun aa _ _=>n-(intOf aa).toNat)
 case atStart=>exact⟨0,20,l,rfl,rfl,rfl,f6J,V H,List.Perm.refl _,Pu.Is.start _ _ _⟩
 case round =>
  clear H;obtain⟨a,c,A,rfl,rfl,hc,ha,K,s,o⟩:=hrel;by_cases Y:c<=n
  ·have C:=O (x4h K a c Y ha F (o.inc (V x) Y));have HP:=O s
   have ab:Hid (∀l2,Pu.SR xs l2 a c->Pu.Org A l2 a c->Pu.Out A l2 a c->Pu.Is xs l l2 n c):=by
    subst hc;exact fun l2 L M S=>o.next Y L M S
   have j:=O hc;have ag:a<c:=f6J;clear K o s hc;go_wp2_with(go_at_call 297;refine(V C).mono ?_;rintro e G ⟨rfl,l2,d,X,D,v,Z⟩;have R:=O d;have P:=O (X.trans (V HP));have I:=O (V ab l2 D v Z);clear d X D v Z C HP ab)
   go_roundw
   case rel=>exact⟨c,c+20,l2,rfl,by rw[(f6J:((c+20:Nat):Int)=(c:Int)+20)],rfl,Y,V R,V P,V I⟩
   case measure=>exact g7T
  ·have C:=O (x4h K a n (l0r _) ha F (o.inc (V x) (l0r _)));have HP:=O s;have ab:Hid (∀l2,Pu.SR xs l2 a n->Pu.Org A l2 a n->Pu.Out A l2 a n->Pu.Bs xs l l2 20 n):=fun l2 L M S=>o.last f6J L M S;have j:=O hc;clear K o s hc;go_wp2_with(go_at_call 297;refine(V C).mono ?_;rintro e G ⟨rfl,l2,d,X,D,v,Z⟩;have R:=O d;have P:=O (X.trans (V HP));have I:=O (V ab l2 D v Z);clear d X D v Z C HP ab);clear Y ha j;go_loopw[6,7,8] (fun zz _ _ wr=>∃(z:Nat) (A:List Nat),zz=.int .i64 z/\20<=z/\z<=200000/\SrY b B g n cap u xs f w1 A wr/\A.Perm l/\Pu.Bs xs l A z n) (fun zz _ _ _=>n-(intOf zz).toNat)
   case atStart=>exact⟨20,l2,rfl,l0r _,f6J,V R,V P,V I⟩
   case round =>
    clear R P I;obtain⟨z,y,rfl,aj,am,K,s,o⟩:=hrel;by_cases T:z<n
    ·have J:=O K;have af:=O s;have ae:=O o.st;clear K s o;go_wp2;go_loopw[7,8] (fun aa r wr=>∃(a c:Nat) (A:List Nat),aa=.int .i64 a/\r=.int .i64 c/\c=a+2*z/\a<=n/\SrY b B g n cap u xs f w1 A wr/\A.Perm l/\Pu.Sm xs l A z n a) (fun aa _ _=>n-(intOf aa).toNat)
     case atStart=>exact⟨0,2*z,y,rfl,by rw[(f6J:((2*z:Nat):Int)=2*(z:Int))],f6J,f6J,V J,V af,V ae⟩
     case round =>
      clear J af ae;obtain⟨a,c,l4,rfl,rfl,hc,ha,K,s,o⟩:=hrel;have i:(a:Int)+(z:Int)=((a+z:Nat):Int):=f6J;by_cases Y:c<=n
      ·obtain⟨q1,q2,q3⟩:=o.pre (b:=c) f6J Y f6J (V x);have C:=O (z1z F (c-a+1) a (a+z) c l4 _ f6J K f6J f6J Y q1 q2 q3);have HP:=O s
       have ab:Hid (∀l2,Pu.SR xs l2 a c->Pu.Org l4 l2 a c->Pu.Out l4 l2 a c->Pu.Sm xs l l2 z n c):=by
        subst hc;exact fun l2 L M S=>o.next Y L M S
       have j:=O hc;have ag:a<c:=f6J;rw[<- i]at C;clear K o s hc q1 q2 q3 i;go_wp2_with(go_at_call 298;refine(V C).mono ?_;rintro e N ⟨rfl,l5,d,X,D,v,Z⟩;have R:=O d;have P:=O (X.trans (V HP));have I:=O (V ab l5 D v Z);clear d X D v Z C HP ab)
       go_roundw
       case rel=>exact⟨c,c+2*z,l5,rfl,by rw[(f6J:((c+2*z:Nat):Int)=(c:Int)+2*(z:Int))],rfl,Y,V R,V P,V I⟩
       case measure=>exact g7T
      ·by_cases hm:a+z<n
       ·obtain⟨q1,q2,q3⟩:=o.pre (b:=n) f6J (l0r _) f6J (V x);have C:=O (z1z F (n-a+1) a (a+z) n l4 _ f6J K f6J hm (l0r _) q1 q2 q3);have HP:=O s;have ab:Hid (∀l2,Pu.SR xs l2 a n->Pu.Org l4 l2 a n->Pu.Out l4 l2 a n->Pu.Bs xs l l2 (2*z) n):=fun l2 L M S=>o.last f6J L M S;rw[<- i]at C;clear K o s hc q1 q2 q3 i;go_wp2_with(go_at_call 298;refine(V C).mono ?_;rintro e N ⟨rfl,l5,d,X,D,v,Z⟩;have R:=O d;have P:=O (X.trans (V HP));have I:=O (V ab l5 D v Z);clear d X D v Z C HP ab)
        go_roundw
        case rel=>exact⟨2*z,l5,E9u,f6J,f6J,V R,V P,V I⟩
        case measure=>exact g7T
       ·have R:=O K;have P:=O s;have I:=O (o.stop f6J);clear K o s hc i;go_wp2
        go_roundw
        case rel=>exact⟨2*z,l4,E9u,f6J,f6J,V R,V P,V I⟩
        case measure=>exact g7T
    ·have U:Hid (StP b B g n cap u xs f w1 l (.returned (.tuple #[])) wr):=⟨rfl,y,K,s,o.whole f6J⟩;clear K s o;go_wp2;go_end0;exact V U
namespace Pu
theorem y3G{α:Type}{a b:α}:∀{s:List α},s.Nodup->List.Sublist [a,b] s->List.Sublist [b,a] s->False
 | [],_,h,_=>m5j
 | x::t,hn,h1,h2=>by
  obtain⟨A,U⟩:=List.nodup_cons.1 hn
  cases h1 with
  | cons _ h1 =>
   cases h2 with
   | cons _ h2=>exact y3G U h1 h2
   | cons_cons _ h2=>exact A (h1.subset M7K)
  | cons_cons _ h1 =>
   cases h2 with
   | cons _ h2=>exact A (h2.subset M7K)
   | cons_cons _ h2=>exact A (h1.subset M7K)
theorem z1w{a b:Nat}(B:a<b):∀{l:List Nat},l.Pairwise (·<·)->a∈l->b∈l->List.Sublist [a,b] l
 | [],_,h,_=>m5j
 | x::t,hp,ha,hb=>by
  obtain⟨A,U⟩:=List.pairwise_cons.1 hp;rcases List.mem_cons.1 ha with ha | ha
  ·subst ha;rcases List.mem_cons.1 hb with hb | hb
   ·omega
   ·exact(List.singleton_sublist.2 hb).cons_cons _
  ·rcases List.mem_cons.1 hb with hb | hb
   ·have:=A a ha;omega
   ·exact(z1w B U ha hb).cons _
theorem y1i{l:List Nat}(h:l.Pairwise (·<·)):l.Nodup:=h.imp fun h=>Nat.ne_of_lt h
theorem x1m(xs:List Int)(l:List Nat):(x5h xs l).Perm l:=List.mergeSort_perm _ _
theorem y5b{xs:List Int}{l:List Nat}(h:l.Pairwise (·<·)):(x5h xs l).Pairwise (lx xs):=by
 have G:∀a b c:Nat,decide (xs.getD a 0<=xs.getD b 0)=true->decide (xs.getD b 0<=xs.getD c 0)=true->decide (xs.getD a 0<=xs.getD c 0)=true:=fun a b c Z D=>by
  rw[decide_eq_true_eq]at *;omega
 have C:∀a b:Nat,(decide (xs.getD a 0<=xs.getD b 0)||decide (xs.getD b 0<=xs.getD a 0))=true:=fun a b=>by
  rw[Bool.or_eq_true,decide_eq_true_eq,decide_eq_true_eq];omega
 have L:=List.pairwise_mergeSort G C l;have F:(x5h xs l).Nodup:=(x1m xs l).symm.nodup (y1i h);refine List.pairwise_iff_forall_sublist.2 fun{a b} hab=>?_;have Z:=List.pairwise_iff_forall_sublist.1 L hab;rw[decide_eq_true_eq]at Z;unfold lx;by_cases P:xs.getD a 0=xs.getD b 0
 ·refine .inr ⟨P,?_⟩;by_cases B:a<b
  ·exact B
  ·by_cases A:a=b
   ·subst A;exact(y3G F hab hab).elim
   ·have Y:b∈l:=(x1m xs l).subset (hab.subset M7L);have d:a∈l:=(x1m xs l).subset (hab.subset M7L);have:=List.pair_sublist_mergeSort G C (a:=b) (b:=a) (by rw[decide_eq_true_eq];exact f6J) (z1w f6J h Y d);exact(y3G F hab this).elim
 ·exact .inl f6J
theorem y7c{xs:List Int}{l A:List Nat}(h:l.Pairwise (·<·))(s:A.Perm l)(L:SR xs A 0 l.length):A=x5h xs l:=by
 refine List.Perm.eq_of_pairwise (le:=lx xs) (fun a b _ _ Z D=>by unfold lx at Z D;exact f6J) ?_ (y5b h) (s.trans (x1m xs l).symm);refine List.pairwise_iff_getElem.2 fun i j hi X J=>?_;have:=L i j (Nat.zero_le _) J (by rw[<- s.length_eq];exact X);simpa[List.getD,hi,X]using this
theorem q0l{l:List Nat}(h:l.Pairwise (·<·)){p q:Nat}(A:p<q)(d:q<l.length):l.getD p 0<l.getD q 0:=by
 have s:p<l.length:=f6J;have:=List.pairwise_iff_getElem.1 h p q s d A;simpa[List.getD,s,d]using this
end Pu
theorem sortC:y7F 100000:=by
 intro xs b B u v l f w s C T hB j S Y J N y;by_cases Z:l.length<=1
 ·exact y5a xs b B u v l f w s C T hB j Z Y J N y
 ·have i:=N;obtain⟨_,I⟩:=N.2.2;rcases I with⟨_,R⟩ | ⟨g,M,P,he,_⟩
  ·rw[List.length_map,x0o]at R;omega
  ·subst he;have F:((x1a l).map (Value.int .i64)).length=l.length:=(by rw[List.length_map,x0o]);rw[F]at i y ⊢;have K:SrY b B g l.length M u xs f w l w:=⟨s,C,T,i,hB,fun H=>y (by rw[H];rfl),x1g _ _,rfl,Y,j⟩;have r:=O (y7f K S fun p q L x=>Pu.q0l J L x)
   have U:Hid (∀A o,SrY b B g l.length M u xs f w A o->A.Perm l->Pu.SR xs A 0 l.length->Ok .i64 3 o B (.slice (some ⟨g,0,none⟩) l.length M) (x1a (Pu.x5h xs l))/\w.grownBy o (some g)):=fun A o L x k3=>by
    have:=Pu.y7c J x k3;subst this;exact⟨L.row,L.gr⟩
   have W:=K.caps;clear K N i F s C T y Y J;generalize l.length=n at *;go_enter func250,ntmps250;go_wp2_with(go_at_call 286;refine(V r).mono ?_;rintro e G ⟨rfl,A,d,X,D⟩;have HR:=O (V U A _ d X D);clear d X D r U);go_end0;exact⟨rfl,V HR⟩
