/- Lemmas. -/
import Derived.Test.YtkfcabdmkmljjaaGreatDoorF49
import Derived.Deep.DeepCutAuto
import Derived.Deep.CutBlock
set_option maxHeartbeats 20000000
set_option maxRecDepth 20000
namespace Go.Proofs.YtkfcabdmkmljjaaGreatDoor
open Go.Proofs.Tryz
open Go.RowKit
section
variable{p:Prop}
theorem I9m(h:p:=by
 clear H;obtain⟨s,r,rfl,rfl,aM,bn,aN,N,J,hS⟩:=hrel;by_cases bj:s<r
 ·have bh:(s+r) / 2<r:=f6J;have aK:s<=(s+r) / 2:=f6J;have be:((s:Int)+(r:Int)) / 2=(((s+r) / 2:Nat):Int):=f6J;generalize hqq:(s+r) / 2=hq at *;clear hqq;have aF:mid+m-1-hq<n:=f6J;have e1:=hS.cell (k:=mid+m-1-hq) aF;have e2:=hS.cell (k:=hq) f6J;have HC:=fun k=>O (hS.cmp (i:=mid+m-1-hq) (j:=hq) aF f6J k);have HN:=O fun k=>hS.drewN k;have bm:((mid:Int)+(m:Int)-1-(hq:Int))=((mid+m-1-hq:Nat):Int):=f6J;clear hS;by_cases I:xs.getD (l.getD (mid+m-1-hq) 0) 0<xs.getD (l.getD hq 0) 0
  ·have aC:Pu.cmpI (xs.getD (l.getD (mid+m-1-hq) 0) 0) (xs.getD (l.getD hq 0) 0)<0:=Pu.x1V.2 I;have am:=O I;have u:=O N;clear I N J;generalize Pu.cmpI (xs.getD (l.getD (mid+m-1-hq) 0) 0) (xs.getD (l.getD hq 0) 0)=cr at *;generalize hp1:l.getD hq 0=p at *;generalize T:l.getD (mid+m-1-hq) 0=q at *;have G:=O hp1;have W:=O T;clear hp1 T;generalize hpx:mid+m-1-hq=px at *;have ar:=O hpx;clear hpx;go_wp2;go_quiet(first| (go_at_call 251;exact Calls.quiet_of (V (HC _))));have aq:=O (V HN nq);clear e1 e2 HN HC;generalize wr.drewN nq=wd at *;go_wp2
   go_roundw
   case rel=>exact⟨s,hq,rfl,rfl,aM,aK,f6J,V u,.inr (by rw[V ar,V G,V W];exact V am),V aq⟩
   case measure=>exact g8e
  ·have aC:¬Pu.cmpI (xs.getD (l.getD (mid+m-1-hq) 0) 0) (xs.getD (l.getD hq 0) 0)<0:=fun hh=>I (Pu.x1V.1 hh);have aD:xs.getD (l.getD hq 0) 0<=xs.getD (l.getD (mid+m-1-hq) 0) 0:=f6J;have am:=O aD;have y:=O J;clear I aD N J;generalize Pu.cmpI (xs.getD (l.getD (mid+m-1-hq) 0) 0) (xs.getD (l.getD hq 0) 0)=cr at *;generalize hp1:l.getD hq 0=p at *;generalize T:l.getD (mid+m-1-hq) 0=q at *;have G:=O hp1;have W:=O T;clear hp1 T;have ar:Hid (mid+m-(hq+1)=mid+m-1-hq):=(by show _=_;exact f6J);generalize mid+m-1-hq=px at *;have aR:(decide (cr<0))=false:=d0f aC;go_wp2;go_quiet(first| (go_at_call 251;exact Calls.quiet_of (V (HC _))));have aq:=O (V HN nq);clear e1 e2 HN HC;generalize wr.drewN nq=wd at *;go_wp2
   go_roundw
   case rel=>exact⟨hq+1,r,g2E,rfl,f6J,f6J,aN,.inr (by rw[(f6J:hq+1-1=hq),V G,V ar,V W];exact V am),V y,V aq⟩
   case measure=>exact g8e
 ·have aO:s=r:=f6J;subst aO;obtain⟨E,hE⟩:∃E,E=mid+m-s:=⟨_,rfl⟩;have aL:m<=E:=f6J;have aJ:E<=c:=f6J;have aH:s+(E-m)=mid:=f6J;have aI:mid+(m-s)=E:=f6J;have aX:(mid:Int)+(m:Int)-(s:Int)=(E:Int):=by omega
  have HX:Hid (∀l1,(∀k,l1.getD k 0=x0v l s m E k)->Pu.Mid xs l l1 a m c mid s E):=fun l1 aG=>V aA s E l1 f6J f6J aL aJ aH aI
   (fun k1 k2=>N.elim (fun N=>f6J) fun N=>by rw[hE];exact N)
   (fun k1 k2=>J.elim (fun J=>f6J) fun J=>by rw[(f6J:E-1=mid+m-1-s)];exact J) aG
  have F:Hid (s<m->m<E->Calls prog 310 #[.slice (some ⟨g,0,none⟩) n cap,.int .i64 s,.int .i64 m,.int .i64 E,.func (.func 251) #[] #[.pointer (some ⟨b,0,none⟩)]] wr (RotP b B g n cap v xs f w1 l s m E)):=fun k1 k2=>x8G hS s m E _ k1 k2 f6J hn;have HS:=O hS;have Y:Hid (a<=s/\s<=m):=⟨f6J,f6J⟩;clear N J hS aA hE;by_cases hp:s<m
  ·have T:mid<E:=f6J;by_cases hq:m<E
   ·have aj:s<mid:=f6J;by_cases X:a<s
    ·by_cases K:E<c
     ·have HC:=O (V F hp hq);go_wp2_with(go_at_call 310;refine(V HC).mono ?_;rintro e wq ⟨rfl,l1,d,C,D⟩;have M:=O d;have G:=O C;have S:=O D;clear d C D HC F HS);have HM:=O (V HX l1 (V S));clear HX S;have HC:=O (V U a s mid l1 _ f6J (V M) X aj f6J (V HM).s1 (V HM).s2 (V HM).i1);go_wp2_with(go_at_call 298;refine(V HC).mono ?_;rintro e aw ⟨rfl,l2,d,C,D,Z,R⟩;have P:=O d;have W:=O (C.trans (V G));have A:=O (And.intro D (And.intro Z R));clear d C D Z R HC M G);have HC:=O (V U mid E c l2 _ f6J (V P) T K f6J (Pu.x0o (V A).2.2 (l0r _) (V HM).s3) (Pu.x0o (V A).2.2 f6J (V HM).s4) (Pu.x5u (V A).2.2 (V HM).i2));go_wp2_with(go_at_call 298;refine(V HC).mono ?_;rintro e ay ⟨rfl,l3,d,C,D,Z,R⟩;have ae:=O d;have ab:=O (C.trans (V W));have Q:=O ((V HM).done (V A).1 (V A).2.1 (V A).2.2 D Z R);clear d C D Z R HC P W A HM);go_end0;exact⟨rfl,l3,V ae,V ab,V Q⟩
     ·have HC:=O (V F hp hq);go_wp2_with(go_at_call 310;refine(V HC).mono ?_;rintro e wq ⟨rfl,l1,d,C,D⟩;have M:=O d;have G:=O C;have S:=O D;clear d C D HC F HS);exact N0t
    ·by_cases K:E<c
     ·have HC:=O (V F hp hq);go_wp2_with(go_at_call 310;refine(V HC).mono ?_;rintro e wq ⟨rfl,l1,d,C,D⟩;have M:=O d;have G:=O C;have S:=O D;clear d C D HC F HS);have HM:=O (V HX l1 (V S));clear HX S;obtain⟨l2,x⟩:∃l2,l2=l1:=⟨l1,rfl⟩;have P:Hid (SrY b B g n cap v xs f w1 l2 wq):=u8y;exact r4N
     ·have HC:=O (V F hp hq);go_wp2_with(go_at_call 310;refine(V HC).mono ?_;rintro e wq ⟨rfl,l1,d,C,D⟩;have M:=O d;have G:=O C;have S:=O D;clear d C D HC F HS);have HM:=O (V HX l1 (V S));clear HX S;obtain⟨l2,x⟩:∃l2,l2=l1:=⟨l1,rfl⟩;have P:Hid (SrY b B g n cap v xs f w1 l2 wq):=u8y;have W:Hid (l2.Perm l):=W2B;have A:Hid (Pu.SR xs l2 a mid/\Pu.Org l1 l2 a mid/\Pu.Out l1 l2 a mid):=(by rw[x];exact⟨Pu.x0f (V HM).s1 (V HM).s2 f6J ⟨(V Y).1,f6J⟩,Pu.Org.refl _ _ _,Pu.Out.refl _ _ _⟩);clear x M G;have Q:=O ((V HM).done (V A).1 (V A).2.1 (V A).2.2 (Pu.x0o (V A).2.2 (l0r _) (Pu.x0f (V HM).s3 (V HM).s4 f6J f6J)) (Pu.Org.refl _ _ _) (Pu.Out.refl _ _ _));clear HM A;go_wp2;go_end0;exact⟨rfl,l2,V P,V W,V Q⟩
   ·have aj:¬s<mid:=f6J;by_cases X:a<s
    ·exact s5p
    ·exact s5p
  ·have T:¬mid<E:=f6J;by_cases hq:m<E
   ·have aj:s<mid:=f6J;by_cases X:a<s
    ·by_cases K:E<c
     ·exact F7a
     ·exact F7a
    ·exact u3z
   ·have aj:¬s<mid:=f6J;by_cases X:a<s
    ·exact u3z
    ·exact u3z):p:=h
theorem g4h(h:p:=by rw[Nat.mul_left_comm,Nat.mul_assoc]):p:=h
theorem e3p(h:p:=by subst A;rw[if_pos rfl,if_neg f6J,if_neg f6J,if_pos f6J]):p:=h
theorem I1u(h:p:=by obtain⟨l1,L⟩:∃l1,l1=l:=⟨l,rfl⟩;have M:Hid (SrY b B g n cap v xs f w1 l1 wr):=F4I;have G:Hid (l1.Perm l):=e8t;have S:Hid (∀k,l1.getD k 0=x0v l s m E k):=p0w;clear L HS F;have HM:=O (V HX l1 (V S));clear HX S;obtain⟨l2,x⟩:∃l2,l2=l1:=⟨l1,rfl⟩;have P:Hid (SrY b B g n cap v xs f w1 l2 wr):=u8y;have W:Hid (l2.Perm l):=W2B;have A:Hid (Pu.SR xs l2 a mid/\Pu.Org l1 l2 a mid/\Pu.Out l1 l2 a mid):=R9w;clear x M G;have Q:=O ((V HM).done (V A).1 (V A).2.1 (V A).2.2 (Pu.x0o (V A).2.2 (l0r _) (Pu.x0f (V HM).s3 (V HM).s4 f6J f6J)) (Pu.Org.refl _ _ _) (Pu.Out.refl _ _ _));clear HM A;go_wp2;go_end0;exact⟨rfl,l2,V P,V W,V Q⟩):p:=h
theorem E9u(h:p:=by rw[(f6J:((2*z:Nat):Int)=(z:Int)*2)]):p:=h
theorem r4c(h:p:=by rw[if_pos P,if_neg f6J,if_pos rfl,if_neg f6J,if_pos P]):p:=h
theorem T9k(h:p:=by rw[Nat.add_mul,Nat.one_mul]):p:=h
theorem r4N(h:p:=by have W:Hid (l2.Perm l):=W2B;have A:Hid (Pu.SR xs l2 a mid/\Pu.Org l1 l2 a mid/\Pu.Out l1 l2 a mid):=R9w;clear x M G;have HC:=O (V U mid E c l2 _ f6J (V P) T K f6J (Pu.x0o (V A).2.2 (l0r _) (V HM).s3) (Pu.x0o (V A).2.2 f6J (V HM).s4) (Pu.x5u (V A).2.2 (V HM).i2));go_wp2_with(go_at_call 298;refine(V HC).mono ?_;rintro e ay ⟨rfl,l3,d,C,D,Z,R⟩;have ae:=O d;have ab:=O (C.trans (V W));have Q:=O ((V HM).done (V A).1 (V A).2.1 (V A).2.2 D Z R);clear d C D Z R HC P W A HM);go_end0;exact⟨rfl,l3,V ae,V ab,V Q⟩):p:=h
theorem N0t(h:p:=by have HM:=O (V HX l1 (V S));clear HX S;have HC:=O (V U a s mid l1 _ f6J (V M) X aj f6J (V HM).s1 (V HM).s2 (V HM).i1);go_wp2_with(go_at_call 298;refine(V HC).mono ?_;rintro e aw ⟨rfl,l2,d,C,D,Z,R⟩;have P:=O d;have W:=O (C.trans (V G));have A:=O (And.intro D (And.intro Z R));clear d C D Z R HC M G);have Q:=O ((V HM).done (V A).1 (V A).2.1 (V A).2.2 (Pu.x0o (V A).2.2 (l0r _) (Pu.x0f (V HM).s3 (V HM).s4 f6J f6J)) (Pu.Org.refl _ _ _) (Pu.Out.refl _ _ _));clear HM A;go_wp2;go_end0;exact⟨rfl,l2,V P,V W,V Q⟩):p:=h
theorem R9w(h:p:=by rw[x];exact⟨Pu.x0f (V HM).s1 (V HM).s2 f6J ⟨(V Y).1,f6J⟩,Pu.Org.refl _ _ _,Pu.Out.refl _ _ _⟩):p:=h
theorem f4G(h:p:=by exact⟨d+1,j,g2A,rfl,f6J,f6J,hj,.inr (by rw[(f6J:d+1-1=d),V G];exact V Y),V y,V U⟩):p:=h
theorem s5p(h:p:=by
 by_cases K:E<c
 ·obtain⟨l1,L⟩:∃l1,l1=l:=⟨l,rfl⟩;have M:Hid (SrY b B g n cap v xs f w1 l1 wr):=F4I;have G:Hid (l1.Perm l):=e8t;have S:Hid (∀k,l1.getD k 0=x0v l s m E k):=p0w;clear L HS F;have HM:=O (V HX l1 (V S));clear HX S;obtain⟨l2,x⟩:∃l2,l2=l1:=⟨l1,rfl⟩;have P:Hid (SrY b B g n cap v xs f w1 l2 wr):=u8y;exact r4N
 ·exact I1u):p:=h
theorem M4k(h:p:=by obtain⟨L,k2,k3⟩:=V D M C;exact⟨rfl,M,K,s,L,k2,k3⟩):p:=h
theorem F7a(h:p:=by obtain⟨l1,L⟩:∃l1,l1=l:=⟨l,rfl⟩;have M:Hid (SrY b B g n cap v xs f w1 l1 wr):=F4I;have G:Hid (l1.Perm l):=(by rw[L];exact List.Perm.refl _);have S:Hid (∀k,l1.getD k 0=x0v l s m E k):=p0w;clear L HS F;exact N0t):p:=h
theorem e8t(h:p:=by rw[L];exact List.Perm.refl _):p:=h
theorem p0w(h:p:=by rw[L];exact Pu.x0L f6J):p:=h
theorem u8y(h:p:=by rw[x];exact V M):p:=h
theorem F4I(h:p:=by rw[L];exact V HS):p:=h
theorem u3z(h:p:=by
 by_cases K:E<c
 ·exact I1u
 ·exact I1u):p:=h
theorem W2B(h:p:=by rw[x];exact V G):p:=h
end
namespace Pu
def fwd(l l':List Nat)(a k:Nat):Prop:=∀p,l'.getD p 0=if a<=p/\p<k then l.getD (p+1) 0 else if p=k then l.getD a 0 else l.getD p 0
def bwd(l l':List Nat)(m k:Nat):Prop:=∀p,l'.getD p 0=if k<p/\p<=m then l.getD (p-1) 0 else if p=k then l.getD m 0 else l.getD p 0
theorem z2X(l:List Nat)(a:Nat):fwd l l a a:=fun p=>by
 rw[if_neg f6J];by_cases h:p=a
 ·rw[if_pos h,h]
 ·rw[if_neg h]
theorem z2s(l:List Nat)(m:Nat):bwd l l m m:=fun p=>by
 rw[if_neg f6J];by_cases h:p=m
 ·rw[if_pos h,h]
 ·rw[if_neg h]
theorem z2Y{l M:List Nat}{a k:Nat}(h:fwd l M a k)(G:a<=k)(S:k+1<M.length):fwd l (swapL M k (k+1)) a (k+1):=fun p=>by
 rw[x3l f6J S,h k,h (k+1),h p];by_cases P:p=k+1
 ·exact r4c
 ·rw[if_neg P];by_cases A:p=k
  ·exact e3p
  ·rw[if_neg A];by_cases N:a<=p/\p<k
   ·rw[if_pos N,if_pos f6J]
   ·rw[if_neg N,if_neg A,if_neg (f6J:¬(a<=p/\p<k+1)),if_neg P]
theorem z2t{l M:List Nat}{m k:Nat}(h:bwd l M m k)(G:1<=k)(T:k<=m)(S:k<M.length):bwd l (swapL M k (k-1)) m (k-1):=fun p=>by
 rw[x3l S f6J,h k,h (k-1),h p];by_cases P:p=k-1
 ·exact r4c
 ·rw[if_neg P];by_cases A:p=k
  ·exact e3p
  ·rw[if_neg A];by_cases N:k<p/\p<=m
   ·rw[if_pos N,if_pos f6J]
   ·rw[if_neg N,if_neg A,if_neg (f6J:¬(k-1<p/\p<=m)),if_neg P]
theorem x5k{xs:List Int}{l:List Nat}{a c p q:Nat}(h:SR xs l a c)(Z:a<=p)(D:p<=q)(J:q<c):xs.getD (l.getD p 0) 0<=xs.getD (l.getD q 0) 0:=by
 rcases Nat.eq_or_lt_of_le D with h4 | h4
 ·rw[h4];exact Int.le_refl _
 ·have:=h p q Z h4 J;unfold lx at this;omega
theorem z2W{xs:List Int}{l M:List Nat}{a m c t:Nat}(o:m=a+1)(D:m<=t)(u:t<=c)(L:SR xs l m c)(R:∀i j,a<=i->i<m->m<=j->j<c->l.getD i 0<l.getD j 0)
  (h1:t=m\/xs.getD (l.getD (t-1) 0) 0<xs.getD (l.getD a 0) 0) (h2:t=c\/xs.getD (l.getD a 0) 0<=xs.getD (l.getD t 0) 0) (C:fwd l M a (t-1)):SR xs M a c/\Org l M a c/\Out l M a c:=by
 have B:∀p,m<=p->p<t->lx xs (l.getD p 0) (l.getD a 0):=fun p J F=>by
  rcases h1 with h1 | h1
  ·omega
  ·have:=x5k L (p:=p) (q:=t-1) J f6J f6J;unfold lx;omega
 have A:∀p,t<=p->p<c->lx xs (l.getD a 0) (l.getD p 0):=fun p J F=>by
  rcases h2 with h2 | h2
  ·omega
  ·have:=x5k L (p:=t) (q:=p) f6J J F;have:=R a p (l0r _) f6J f6J F;unfold lx;omega
 refine⟨fun p q J F G=>?_,fun p J F=>?_,fun p J=>?_⟩
 ·rw[C p,C q];by_cases P:a<=p/\p<t-1
  ·rw[if_pos P];by_cases H:a<=q/\q<t-1
   ·rw[if_pos H];exact L _ _ f6J f6J f6J
   ·rw[if_neg H];by_cases N:q=t-1
    ·rw[if_pos N];exact B _ f6J f6J
    ·rw[if_neg N];exact L _ _ f6J f6J G
  ·rw[if_neg P,if_neg (f6J:¬(a<=q/\q<t-1))];by_cases N:p=t-1
   ·rw[if_pos N,if_neg f6J];exact A _ f6J G
   ·rw[if_neg N,if_neg f6J];exact L _ _ f6J F G
 ·rw[C p];by_cases P:a<=p/\p<t-1
  ·rw[if_pos P];exact⟨p+1,f6J,f6J,rfl⟩
  ·rw[if_neg P];by_cases N:p=t-1
   ·rw[if_pos N];exact⟨a,l0r _,f6J,rfl⟩
   ·rw[if_neg N];exact⟨p,J,F,rfl⟩
 ·rw[C p,if_neg f6J];by_cases N:p=t-1
  ·omega
  ·rw[if_neg N]
theorem z2r{xs:List Int}{l M:List Nat}{a m c t:Nat}(o:c=m+1)(U:a<=t)(D:t<=m)(L:SR xs l a m)(R:∀i j,a<=i->i<m->m<=j->j<c->l.getD i 0<l.getD j 0)
  (h1:t=a\/xs.getD (l.getD (t-1) 0) 0<=xs.getD (l.getD m 0) 0) (h2:t=m\/xs.getD (l.getD m 0) 0<xs.getD (l.getD t 0) 0) (C:bwd l M m t):SR xs M a c/\Org l M a c/\Out l M a c:=by
 have B:∀p,a<=p->p<t->lx xs (l.getD p 0) (l.getD m 0):=fun p J F=>by
  rcases h1 with h1 | h1
  ·omega
  ·have:=x5k L (p:=p) (q:=t-1) J f6J f6J;have:=R p m J f6J (l0r _) f6J;unfold lx;omega
 have A:∀p,t<=p->p<m->lx xs (l.getD m 0) (l.getD p 0):=fun p J F=>by
  rcases h2 with h2 | h2
  ·omega
  ·have:=x5k L (p:=t) (q:=p) U J F;unfold lx;omega
 refine⟨fun p q J F H=>?_,fun p J F=>?_,fun p J=>?_⟩
 ·rw[C p,C q];by_cases P:t<q/\q<=m
  ·rw[if_pos P];by_cases G:t<p/\p<=m
   ·rw[if_pos G];exact L _ _ f6J f6J f6J
   ·rw[if_neg G];by_cases N:p=t
    ·rw[if_pos N];exact A _ f6J f6J
    ·rw[if_neg N];exact L _ _ J f6J f6J
  ·rw[if_neg P,if_neg (f6J:¬(t<p/\p<=m)),if_neg f6J];by_cases N:q=t
   ·rw[if_pos N];exact B _ J f6J
   ·rw[if_neg N];exact L _ _ J F f6J
 ·rw[C p];by_cases P:t<p/\p<=m
  ·rw[if_pos P];exact⟨p-1,f6J,f6J,rfl⟩
  ·rw[if_neg P];by_cases N:p=t
   ·rw[if_pos N];exact⟨m,f6J,f6J,rfl⟩
   ·rw[if_neg N];exact⟨p,J,F,rfl⟩
 ·rw[C p,if_neg f6J];by_cases N:p=t
  ·omega
  ·rw[if_neg N]
end Pu
theorem z8h{b B g n cap:Nat}{v:Value}{xs:List Int}{w0 w1 w:World}{l:List Nat}(h:SrY b B g n cap v xs w0 w1 l w)(a m c:Nat)(o:m=a+1)(aL:m<c)(h3:c<=n)(hn:n<=100000)(hs:Pu.SR xs l m c)(R:∀i j,a<=i->i<m->m<=j->j<c->l.getD i 0<l.getD j 0) :
  Calls prog 298 #[.slice (some ⟨g,0,none⟩) n cap,.int .i64 a,.int .i64 m,.int .i64 c,.func (.func 251) #[] #[.pointer (some ⟨b,0,none⟩)]] w (SymP b B g n cap v xs w0 w1 l a c):=by
 have aA:=h.caps;have aJ:=h.len;have H:=O h;have ab:Hid (∀t M,m<=t->t<=c->(t=m\/xs.getD (l.getD (t-1) 0) 0<xs.getD (l.getD a 0) 0)->(t=c\/xs.getD (l.getD a 0) 0<=xs.getD (l.getD t 0) 0)->Pu.fwd l M a (t-1)->Pu.SR xs M a c/\Pu.Org l M a c/\Pu.Out l M a c):=fun t M L k2 k3 k4 k5=>Pu.z2W o L k2 hs R k3 k4 k5;have hd:((m:Int)-(a:Int))=1:=f6J;have aD:(((m:Int)-(a:Int))==1)=true:=(by rw[hd];rfl);have aq:=O o;have aC:a<m:=f6J;clear h hs R hd o;go_enter func298,ntmps298;go_wp2;go_loopw[10,11,12] (fun Q A _ wr=>∃i j:Nat,Q=.int .i64 i/\A=.int .i64 j/\m<=i/\i<=j/\j<=c/\(i=m\/xs.getD (l.getD (i-1) 0) 0<xs.getD (l.getD a 0) 0)/\(j=c\/xs.getD (l.getD a 0) 0<=xs.getD (l.getD j 0) 0)/\SrY b B g n cap v xs w0 w1 l wr) (fun Q A _ _=>(intOf A).toNat-(intOf Q).toNat)
 case atStart=>exact⟨m,c,rfl,rfl,l0r _,f6J,l0r _,.inl rfl,.inl rfl,V H⟩
 case round =>
  clear H;obtain⟨i,j,rfl,rfl,hi,aG,hj,N,J,K⟩:=hrel;by_cases aK:i<j
  ·have aF:(i+j) / 2<j:=f6J;have ar:i<=(i+j) / 2:=f6J;have P:=K.cell (k:=(i+j) / 2) f6J;have e2:=K.cell (k:=a) f6J;have HC:=fun k=>O (K.cmp (i:=(i+j) / 2) (j:=a) f6J f6J k);have f:=O fun k=>K.drewN k;have S:((i:Int)+(j:Int)) / 2=(((i+j) / 2:Nat):Int):=f6J;clear K;generalize hmid:(i+j) / 2=d at *;by_cases I:xs.getD (l.getD d 0) 0<xs.getD (l.getD a 0) 0
   ·have F:Pu.cmpI (xs.getD (l.getD d 0) 0) (xs.getD (l.getD a 0) 0)<0:=Pu.x1V.2 I;have Y:=O I;have y:=O J;clear I N J;generalize Pu.cmpI (xs.getD (l.getD d 0) 0) (xs.getD (l.getD a 0) 0)=cr at *;generalize hp1:l.getD d 0=p at *;generalize hp2:l.getD a 0=q at *;have G:=O hp1;have W:=O hp2;clear hp1 hp2;go_wp2;go_quiet(first| (go_at_call 251;exact Calls.quiet_of (V (HC _))));have U:=O (V f nq);clear P e2 f HC;generalize wr.drewN nq=wd at *;go_wp2
    go_roundw
    case rel=>exact f4G
    case measure=>exact g7T
   ·have F:¬Pu.cmpI (xs.getD (l.getD d 0) 0) (xs.getD (l.getD a 0) 0)<0:=fun hh=>I (Pu.x1V.1 hh);have aj:xs.getD (l.getD a 0) 0<=xs.getD (l.getD d 0) 0:=f6J;have Y:=O aj;clear aj;have u:=O N;clear I N J;generalize Pu.cmpI (xs.getD (l.getD d 0) 0) (xs.getD (l.getD a 0) 0)=cr at *;generalize hp1:l.getD d 0=p at *;generalize hp2:l.getD a 0=q at *;have G:=O hp1;have W:=O hp2;clear hp1 hp2;have aB:(decide (cr<0))=false:=d0f F;go_wp2;go_quiet(first| (go_at_call 251;exact Calls.quiet_of (V (HC _))));have U:=O (V f nq);clear P e2 f HC;generalize wr.drewN nq=wd at *;go_wp2
    go_roundw
    case rel=>exact⟨i,d,rfl,rfl,hi,ar,f6J,V u,.inr (by rw[V G];exact V Y),V U⟩
    case measure=>exact g7T
  ·have am:i=j:=f6J;subst am;have D:=O (fun M C=>V ab i M hi hj N J C);have r:=O K;have ae:=V aq;clear N J K ab;have T:a<=i-1:=f6J;clear ae;go_wp2;go_loopw[13] (fun kk wr=>∃(k:Nat) (M:List Nat),kk=.int .i64 k/\a<=k/\k<=i-1/\SrY b B g n cap v xs w0 w1 M wr/\M.Perm l/\Pu.fwd l M a k) (fun kk _=>c-(intOf kk).toNat)
   case atStart=>exact⟨a,l,rfl,l0r _,T,V r,List.Perm.refl _,Pu.z2X l a⟩
   case round =>
    clear r;obtain⟨k,M,rfl,X,aH,K,s,C⟩:=hrel;have aI:=K.len;by_cases x:k<i-1
    ·have P:=K.cell (k:=k) f6J;have e2:=K.cell (k:=k+1) f6J;have e3:=K.frozen k;have e4:=K.frozen (k+1);have f:=O (K.swap (i:=k) (j:=k+1) f6J f6J);have Z:=O ((Pu.x3m (l:=M) (i:=k) (j:=k+1) f6J f6J).trans s);have HF:=O (Pu.z2Y C X f6J);have aM:¬(k=k+1):=f6J;have aN:((k:Int)+1).toNat=k+1:=f6J;have aw:(k:Int)<(i:Int)-1:=f6J;clear K s C;generalize Pu.swapL M k (k+1)=l2,M.getD k 0=p,M.getD (k+1) 0=q at *;go_wp2;go_region;go_wp2
     go_roundw
     case rel=>exact⟨k+1,l2,g2A,f6J,f6J,V f,V Z,V HF⟩
     case measure=>exact g7T
    ·have ay:k=i-1:=f6J;subst ay
     have HF:Hid (SymP b B g n cap v xs w0 w1 l a c (.returned (.tuple #[])) wr):=M4k
     have aw:¬(((i-1:Nat):Int)<(i:Int)-1):=f6J;clear K s C D;generalize i-1=i2 at *;go_wp2;go_end0;exact V HF
theorem z4w{b B g n cap:Nat}{v:Value}{xs:List Int}{w0 w1 w:World}{l:List Nat}(h:SrY b B g n cap v xs w0 w1 l w)(a m c:Nat)(o:c=m+1)(aB:a+1<m)(h3:c<=n)(hn:n<=100000)(hs:Pu.SR xs l a m)(R:∀i j,a<=i->i<m->m<=j->j<c->l.getD i 0<l.getD j 0) :
  Calls prog 298 #[.slice (some ⟨g,0,none⟩) n cap,.int .i64 a,.int .i64 m,.int .i64 c,.func (.func 251) #[] #[.pointer (some ⟨b,0,none⟩)]] w (SymP b B g n cap v xs w0 w1 l a c):=by
 have ay:=h.caps;have aI:=h.len;have H:=O h;have ab:Hid (∀t M,a<=t->t<=m->(t=a\/xs.getD (l.getD (t-1) 0) 0<=xs.getD (l.getD m 0) 0)->(t=m\/xs.getD (l.getD m 0) 0<xs.getD (l.getD t 0) 0)->Pu.bwd l M m t->Pu.SR xs M a c/\Pu.Org l M a c/\Pu.Out l M a c):=fun t M L k2 k3 k4 k5=>Pu.z2r o L k2 hs R k3 k4 k5;have X:(((m:Int)-(a:Int))==1)=false:=P8P;have hd:((c:Int)-(m:Int))=1:=f6J;have aC:(((c:Int)-(m:Int))==1)=true:=(by rw[hd];rfl);have aK:m<n:=f6J;clear h hs R hd o;go_enter func298,ntmps298;go_wp2;go_loopw[14,15,16] (fun Q A _ wr=>∃i j:Nat,Q=.int .i64 i/\A=.int .i64 j/\a<=i/\i<=j/\j<=m/\(i=a\/xs.getD (l.getD (i-1) 0) 0<=xs.getD (l.getD m 0) 0)/\(j=m\/xs.getD (l.getD m 0) 0<xs.getD (l.getD j 0) 0)/\SrY b B g n cap v xs w0 w1 l wr) (fun Q A _ _=>(intOf A).toNat-(intOf Q).toNat)
 case atStart=>exact⟨a,m,rfl,rfl,l0r _,f6J,l0r _,.inl rfl,.inl rfl,V H⟩
 case round =>
  clear H;obtain⟨i,j,rfl,rfl,hi,aF,hj,N,J,K⟩:=hrel;by_cases aJ:i<j
  ·have aD:(i+j) / 2<j:=f6J;have am:i<=(i+j) / 2:=f6J;have P:=K.cell (k:=(i+j) / 2) f6J;have e2:=K.cell (k:=m) f6J;have HC:=fun k=>O (K.cmp (i:=m) (j:=(i+j) / 2) f6J f6J k);have f:=O fun k=>K.drewN k;have S:((i:Int)+(j:Int)) / 2=(((i+j) / 2:Nat):Int):=f6J;clear K;generalize hmid:(i+j) / 2=d at *;by_cases I:xs.getD (l.getD m 0) 0<xs.getD (l.getD d 0) 0
   ·have F:Pu.cmpI (xs.getD (l.getD m 0) 0) (xs.getD (l.getD d 0) 0)<0:=Pu.x1V.2 I;have Y:=O I;have u:=O N;clear I N J;generalize Pu.cmpI (xs.getD (l.getD m 0) 0) (xs.getD (l.getD d 0) 0)=cr at *;generalize hp1:l.getD d 0=p at *;generalize hp2:l.getD m 0=q at *;have G:=O hp1;have W:=O hp2;clear hp1 hp2;go_wp2;go_quiet(first| (go_at_call 251;exact Calls.quiet_of (V (HC _))));have U:=O (V f nq);clear P e2 f HC;generalize wr.drewN nq=wd at *;go_wp2
    go_roundw
    case rel=>exact⟨i,d,rfl,rfl,hi,am,f6J,V u,.inr (by rw[V G];exact V Y),V U⟩
    case measure=>exact g7W
   ·have F:¬Pu.cmpI (xs.getD (l.getD m 0) 0) (xs.getD (l.getD d 0) 0)<0:=fun hh=>I (Pu.x1V.1 hh);have ae:xs.getD (l.getD d 0) 0<=xs.getD (l.getD m 0) 0:=f6J;have Y:=O ae;clear ae;have y:=O J;clear I N J;generalize Pu.cmpI (xs.getD (l.getD m 0) 0) (xs.getD (l.getD d 0) 0)=cr at *;generalize hp1:l.getD d 0=p at *;generalize hp2:l.getD m 0=q at *;have G:=O hp1;have W:=O hp2;clear hp1 hp2;have aA:(decide (cr<0))=false:=d0f F;go_wp2;go_quiet(first| (go_at_call 251;exact Calls.quiet_of (V (HC _))));have U:=O (V f nq);clear P e2 f HC;generalize wr.drewN nq=wd at *;go_wp2
    go_roundw
    case rel=>exact f4G
    case measure=>exact g7W
  ·have aj:i=j:=f6J;subst aj;have D:=O (fun M C=>V ab i M hi hj N J C);have r:=O K;clear N J K ab;go_wp2;go_loopw[17] (fun kk wr=>∃(k:Nat) (M:List Nat),kk=.int .i64 k/\i<=k/\k<=m/\SrY b B g n cap v xs w0 w1 M wr/\M.Perm l/\Pu.bwd l M m k) (fun kk _=>(intOf kk).toNat)
   case atStart=>exact⟨m,l,rfl,hj,l0r _,V r,List.Perm.refl _,Pu.z2s l m⟩
   case round =>
    clear r;obtain⟨k,M,rfl,aG,ar,K,s,C⟩:=hrel;have aH:=K.len;by_cases x:i<k
    ·have P:=K.cell (k:=k) f6J;have e2:=K.cell (k:=k-1) f6J;have e3:=K.frozen k;have e4:=K.frozen (k-1);have f:=O (K.swap (i:=k) (j:=k-1) f6J f6J);have Z:=O ((Pu.x3m (l:=M) (i:=k) (j:=k-1) f6J f6J).trans s);have T:=O (Pu.z2t C f6J ar f6J);have aL:¬(k=k-1):=f6J;have aM:((k:Int)-1).toNat=k-1:=f6J;have aw:(k:Int)-1=((k-1:Nat):Int):=f6J;clear K s C;generalize Pu.swapL M k (k-1)=l2,M.getD k 0=p,M.getD (k-1) 0=q at *;go_wp2;go_region;go_wp2
     go_roundw
     case rel=>exact⟨k-1,l2,by first| rfl|(rw[aw]) | go_num,f6J,f6J,V f,V Z,V T⟩
     case measure=>exact g7W
    ·have aq:k=i:=f6J;subst aq
     have T:Hid (SymP b B g n cap v xs w0 w1 l a c (.returned (.tuple #[])) wr):=M4k
     clear K s C D;go_wp2;go_end0;exact V T
namespace Pu
structure Mid(xs:List Int)(l l1:List Nat)(a m c mid t E:Nat):Prop where
 sA:SR xs l a m
 sB:SR xs l m c
 ix:∀i j,a<=i->i<m->m<=j->j<c->l.getD i 0<l.getD j 0
 at':a<=t
 tm:t<=m
 mE:m<=E
 Ec:E<=c
 hm:t+(E-m)=mid
 hE:mid+(m-t)=E
 x1:a<t->E<c->xs.getD (l.getD (t-1) 0) 0<=xs.getD (l.getD E 0) 0
 x2:t<m->m<E->xs.getD (l.getD (E-1) 0) 0<xs.getD (l.getD t 0) 0
 rot:∀k,l1.getD k 0=x0v l t m E k
section
variable {xs:List Int} {l l1:List Nat} {a m c mid t E:Nat}
theorem Mid.e1(h:Mid xs l l1 a m c mid t E){k:Nat}(G:k<t\/E<=k):l1.getD k 0=l.getD k 0:=by rw[h.rot k];unfold x0v;rw[if_neg f6J]
theorem Mid.e2(h:Mid xs l l1 a m c mid t E){k:Nat}(Z:t<=k)(D:k<mid):l1.getD k 0=l.getD (k+(m-t)) 0:=by
 have:=h.hm;have:=h.hE;have:=h.tm;have:=h.mE;rw[h.rot k];unfold x0v;rw[if_pos f6J,if_pos f6J]
theorem Mid.e3(h:Mid xs l l1 a m c mid t E){k:Nat}(Z:mid<=k)(D:k<E):l1.getD k 0=l.getD (k-(E-m)) 0:=by
 have:=h.hm;have:=h.hE;have:=h.tm;have:=h.mE;rw[h.rot k];unfold x0v;rw[if_pos f6J,if_neg f6J]
theorem Mid.cross(h:Mid xs l l1 a m c mid t E){i j:Nat}(Z:a<=i)(D:i<mid)(J:mid<=j)(F:j<c):lx xs (l1.getD i 0) (l1.getD j 0):=by
 have y:=h.hm;have A:=h.hE;have B:=h.tm;have f:=h.mE;have H:=h.at';have C:=h.Ec;by_cases hi:i<t
 ·rw[h.e1 (.inl hi)];by_cases R:j<E
  ·rw[h.e3 J R];exact h.sA _ _ Z f6J f6J
  ·rw[h.e1 (.inr f6J)];have G:=x5k h.sA (p:=i) (q:=t-1) Z f6J f6J;have I:=x5k h.sB (p:=E) (q:=j) f6J f6J F;have W:=h.x1 f6J f6J;have K:=h.ix i j Z f6J f6J F;unfold lx;omega
 ·rw[h.e2 f6J D];by_cases R:j<E
  ·rw[h.e3 J R];have G:=x5k h.sB (p:=i+(m-t)) (q:=E-1) f6J f6J f6J;have I:=x5k h.sA (p:=t) (q:=j-(E-m)) f6J f6J f6J;have W:=h.x2 f6J f6J;unfold lx;omega
  ·rw[h.e1 (.inr f6J)];exact h.sB _ _ f6J f6J F
theorem Mid.s1(h:Mid xs l l1 a m c mid t E):SR xs l1 a t:=fun i j Z D J=>by
 have B:=h.tm;rw[h.e1 (.inl f6J),h.e1 (.inl J)];exact h.sA _ _ Z D f6J
theorem Mid.s2(h:Mid xs l l1 a m c mid t E):SR xs l1 t mid:=fun i j Z D J=>by
 have y:=h.hm;have A:=h.hE;have B:=h.tm;have f:=h.mE;have C:=h.Ec;rw[h.e2 Z f6J,h.e2 f6J J];exact h.sB _ _ f6J f6J f6J
theorem Mid.i1(h:Mid xs l l1 a m c mid t E):∀i j,a<=i->i<t->t<=j->j<mid->l1.getD i 0<l1.getD j 0:=fun i j Z D J F=>by
 have y:=h.hm;have A:=h.hE;have B:=h.tm;have f:=h.mE;have C:=h.Ec;rw[h.e1 (.inl D),h.e2 J F];exact h.ix _ _ Z f6J f6J f6J
theorem Mid.s3(h:Mid xs l l1 a m c mid t E):SR xs l1 mid E:=fun i j Z D J=>by
 have y:=h.hm;have A:=h.hE;have B:=h.tm;have f:=h.mE;have H:=h.at';rw[h.e3 Z f6J,h.e3 f6J J];exact h.sA _ _ f6J f6J f6J
theorem Mid.s4(h:Mid xs l l1 a m c mid t E):SR xs l1 E c:=fun i j Z D J=>by
 have f:=h.mE;rw[h.e1 (.inr Z),h.e1 (.inr f6J)];exact h.sB _ _ f6J D J
theorem Mid.i2(h:Mid xs l l1 a m c mid t E):∀i j,mid<=i->i<E->E<=j->j<c->l1.getD i 0<l1.getD j 0:=fun i j Z D J F=>by
 have y:=h.hm;have A:=h.hE;have B:=h.tm;have f:=h.mE;have H:=h.at';rw[h.e3 Z D,h.e1 (.inr J)];exact h.ix _ _ f6J f6J f6J F
theorem Mid.org(h:Mid xs l l1 a m c mid t E):Org l l1 a c:=fun i Z D=>by
 have y:=h.hm;have A:=h.hE;have B:=h.tm;have f:=h.mE;have H:=h.at';have C:=h.Ec;by_cases hi:i<t\/E<=i
 ·exact⟨i,Z,D,h.e1 hi⟩
 ·by_cases R:i<mid
  ·exact⟨_,f6J,f6J,h.e2 f6J R⟩
  ·exact⟨_,f6J,f6J,h.e3 f6J f6J⟩
theorem Mid.out(h:Mid xs l l1 a m c mid t E):Out l l1 a c:=fun k G=>by
 have H:=h.at';have C:=h.Ec;exact h.e1 f6J
theorem Mid.done{l2 X:List Nat}(h:Mid xs l l1 a m c mid t E)(s2:SR xs l2 a mid)(N:Org l1 l2 a mid)(u2:Out l1 l2 a mid)(I:SR xs X mid c)(G:Org l2 X mid c)(u3:Out l2 X mid c):SR xs X a c/\Org l X a c/\Out l X a c:=by
 have y:=h.hm;have A:=h.hE;have B:=h.tm;have f:=h.mE;have H:=h.at';have C:=h.Ec;refine⟨fun i j Z D J=>?_,(h.org.trans (N.wide u2 (l0r _) f6J)).trans (G.wide u3 f6J (l0r _)),(h.out.trans (u2.wide (l0r _) f6J)).trans (u3.wide f6J (l0r _))⟩;by_cases R:j<mid
 ·rw[u3 i f6J,u3 j f6J];exact s2 _ _ Z D R
 ·by_cases hi:mid<=i
  ·exact I _ _ hi D J
  ·obtain⟨T,L,Q,u⟩:=N i Z f6J;obtain⟨S,x,K,F⟩:=G j f6J J;rw[u3 i f6J,u,F,u2 S f6J];exact h.cross L Q x K
theorem x0L{l:List Nat}{t m E:Nat}(h:t=m\/m=E)(k:Nat):l.getD k 0=x0v l t m E k:=by
 unfold x0v;by_cases Z:t<=k/\k<E
 ·rw[if_pos Z];rcases h with h | h
  ·subst h;rw[if_pos f6J,Nat.sub_self,Nat.add_zero]
  ·subst h;rw[if_neg f6J,Nat.sub_self,Nat.sub_zero]
 ·rw[if_neg Z]
theorem x0f{xs:List Int}{l:List Nat}{a t mid:Nat}(Z:SR xs l a t)(D:SR xs l t mid)(h:¬(a<t/\t<mid))(K:a<=t/\t<=mid):SR xs l a mid:=fun i j L k2 u=>by
 by_cases F:t=mid
 ·subst F;exact Z _ _ L k2 u
 ·have:a=t:=f6J;subst this;exact D _ _ L k2 u
end
end Pu
namespace Pu
theorem x0o{xs:List Int}{l1 l2:List Nat}{a mid p q:Nat}(u:Out l1 l2 a mid)(h:mid<=p)(k:SR xs l1 p q):SR xs l2 p q:=fun i j Z D J=>by
 rw[u i f6J,u j f6J];exact k _ _ Z D J
theorem x5u{l1 l2:List Nat}{a mid E c:Nat}(u:Out l1 l2 a mid)(k:∀i j,mid<=i->i<E->E<=j->j<c->l1.getD i 0<l1.getD j 0):∀i j,mid<=i->i<E->E<=j->j<c->l2.getD i 0<l2.getD j 0:=fun i j Z D J F=>by
 rw[u i f6J,u j f6J];exact k _ _ Z D J F
end Pu
def SymC(b B g n cap:Nat)(xv:Value)(xs:List Int)(w0 w1:World)(d:Nat):Prop:=∀(a m c:Nat) (l:List Nat) (w:World),c-a<d->SrY b B g n cap xv xs w0 w1 l w->a<m->m<c->c<=n->Pu.SR xs l a m->Pu.SR xs l m c->(∀i j,a<=i->i<m->m<=j->j<c->l.getD i 0<l.getD j 0) ->
 Calls prog 298 #[.slice (some ⟨g,0,none⟩) n cap,.int .i64 a,.int .i64 m,.int .i64 c,.func (.func 251) #[] #[.pointer (some ⟨b,0,none⟩)]] w (SymP b B g n cap xv xs w0 w1 l a c)
theorem z8g{b B g n cap:Nat}{v:Value}{xs:List Int}{f w1 w:World}{l:List Nat}(h:SrY b B g n cap v xs f w1 l w)(a m c:Nat)(bu:a+1<m)(bG:m+1<c)(h3:c<=n)(hn:n<=100000)(aU:Pu.SR xs l a m)(aV:Pu.SR xs l m c)(aS:∀i j,a<=i->i<m->m<=j->j<c->l.getD i 0<l.getD j 0)
  (aP:SymC b B g n cap v xs f w1 (c-a)) :
  Calls prog 298 #[.slice (some ⟨g,0,none⟩) n cap,.int .i64 a,.int .i64 m,.int .i64 c,.func (.func 251) #[] #[.pointer (some ⟨b,0,none⟩)]] w (SymP b B g n cap v xs f w1 l a c):=by
 have bt:=h.caps;have bB:=h.len;have H:=O h;obtain⟨mid,aT⟩:∃mid,mid=(a+c) / 2:=⟨_,rfl⟩;have bC:a<mid:=f6J;have bD:mid<c:=f6J;have bE:2*mid<=a+c:=f6J;have bF:a+c<=2*mid+1:=f6J;have aZ:((a:Int)+(c:Int)) / 2=(mid:Int):=f6J
 have aA:Hid (∀t E l1,a<=t->t<=m->m<=E->E<=c->t+(E-m)=mid->mid+(m-t)=E->(a<t->E<c->xs.getD (l.getD (t-1) 0) 0<=xs.getD (l.getD E 0) 0)->(t<m->m<E->xs.getD (l.getD (E-1) 0) 0<xs.getD (l.getD t 0) 0)->(∀k,l1.getD k 0=x0v l t m E k)->Pu.Mid xs l l1 a m c mid t E) :=
  fun t E l1 k1 k2 k3 k4 k5 k6 k7 k8 k9=>⟨aU,aV,aS,k1,k2,k3,k4,k5,k6,k7,k8,k9⟩
 have U:=O aP;have bw:(((m:Int)-(a:Int))==1)=false:=P8U;have bA:(((c:Int)-(m:Int))==1)=false:=P8U;clear h aU aV aS aP aT;by_cases bp:mid<m
 ·have aQ:a<=(mid+m-c):=f6J;have aB:(mid+m-c)<=mid:=f6J;have aY:mid<=m:=f6J;have ba:(mid:Int)+(m:Int)-(c:Int)=((mid+m-c:Nat):Int):=f6J;go_enter func298,ntmps298;go_wp2;go_loopw[20,21,23] (fun ss rr _ wr=>∃s r:Nat,ss=.int .i64 s/\rr=.int .i64 r/\(mid+m-c)<=s/\s<=r/\r<=mid/\(s=(mid+m-c)\/xs.getD (l.getD (s-1) 0) 0<=xs.getD (l.getD (mid+m-s) 0) 0)/\(r=mid\/xs.getD (l.getD (mid+m-1-r) 0) 0<xs.getD (l.getD r 0) 0)/\SrY b B g n cap v xs f w1 l wr) (fun ss rr _ _=>(intOf rr).toNat-(intOf ss).toNat)
  case atStart=>exact⟨(mid+m-c),mid,by first| rfl | rw[ba],rfl,l0r _,aB,l0r _,.inl rfl,.inl rfl,V H⟩
  case round =>exact I9m
 ·have aQ:a<=a:=f6J;have aB:a<=m:=f6J;have aY:m<=m:=f6J;have aW:m<=mid:=f6J;go_enter func298,ntmps298;go_wp2;go_loopw[20,21,23] (fun ss rr _ wr=>∃s r:Nat,ss=.int .i64 s/\rr=.int .i64 r/\a<=s/\s<=r/\r<=m/\(s=a\/xs.getD (l.getD (s-1) 0) 0<=xs.getD (l.getD (mid+m-s) 0) 0)/\(r=m\/xs.getD (l.getD (mid+m-1-r) 0) 0<xs.getD (l.getD r 0) 0)/\SrY b B g n cap v xs f w1 l wr) (fun ss rr _ _=>(intOf rr).toNat-(intOf ss).toNat)
  case atStart=>exact⟨a,m,by rfl,rfl,l0r _,aB,l0r _,.inl rfl,.inl rfl,V H⟩
  case round =>exact I9m
theorem z1l{b B g n cap:Nat}{v:Value}{xs:List Int}{f w1:World}(F:n<=100000):∀d,SymC b B g n cap v xs f w1 d:=by
 intro d
 induction d with
 | zero=>intro a m c l w h;omega
 | succ d ih =>
  intro a m c l w hd K Z D J A I R;by_cases P:m=a+1
  ·exact z8h K a m c P D J F I R
  ·by_cases L:c=m+1
   ·exact z4w K a m c L f6J J F A R
   ·refine z8g K a m c f6J f6J J F A I R ?_;intro X U G M C H;exact ih X U G M C f6J
namespace Pu
def SRB(xs:List Int)(l:List Nat)(z u v:Nat):Prop:=∀k i j,u<=i->k*z<=i->i<j->j<k*z+z->j<v->lx xs (l.getD i 0) (l.getD j 0)
def OrgB(l0 l:List Nat)(z u n:Nat):Prop:=∀k i,u<=i->k*z<=i->i<k*z+z->i<n->∃i',k*z<=i'/\i'<k*z+z/\i'<n/\l.getD i 0=l0.getD i' 0
theorem y3L{K k z:Nat}(h:K<k):K*z+z<=k*z:=by
 have:=Nat.mul_le_mul_right z (show K+1<=k from h);rw[Nat.add_mul,Nat.one_mul]at this;exact this
theorem z8X{K k z i:Nat}(Z:K*z<=i)(D:i<K*z+z)(J:k*z<=i)(F:i<k*z+z):K=k:=by
 rcases Nat.lt_trichotomy K k with h | h | h
 ·have:=y3L (z:=z) h;omega
 ·exact h
 ·have:=y3L (z:=z) h;omega
section
variable {xs:List Int} {l0 l l2:List Nat} {k z a b n:Nat}
theorem x5V(h:SRB xs l z 0 a)(A:a=k*z)(Y:b<=a+z)(s:SR xs l2 a b)(u:Out l l2 a b):SRB xs l2 z 0 b:=by
 intro K i j _ Z D J F;rcases Nat.lt_trichotomy K k with hk | hk | hk
 ·have X:=y3L (z:=z) hk;rw[u i f6J,u j f6J];exact h K i j (Nat.zero_le _) Z D J f6J
 ·subst hk;exact s i j f6J D F
 ·have X:=y3L (z:=z) hk;omega
theorem x3T(h:OrgB l0 l z 0 n)(C:a=k*z)(Y:b<=a+z)(F:b<=n)(o:Org l l2 a b)(u:Out l l2 a b):OrgB l0 l2 z 0 n:=by
 intro K i _ Z D J;by_cases hi:a<=i/\i<b
 ·have G:K=k:=z8X Z D f6J f6J;subst G;obtain⟨T,y,A,B⟩:=o i hi.1 hi.2;obtain⟨j,s,r2,r3,r4⟩:=h K T (Nat.zero_le _) f6J f6J f6J;exact⟨j,s,r2,r3,B.trans r4⟩
 ·obtain⟨j,s,r2,r3,r4⟩:=h K i (Nat.zero_le _) Z D J;exact⟨j,s,r2,r3,(u i f6J).trans r4⟩
theorem y7i(l0:List Nat)(z u n:Nat):OrgB l0 l0 z u n:=fun _ i _ Z D J=>⟨i,Z,D,J,rfl⟩
theorem z5A{u v:Nat}(h:OrgB l0 l z u n)(A:u<=v):OrgB l0 l z v n:=fun K i U Z D J=>h K i f6J Z D J
theorem z8R{u v m:Nat}(h:SRB xs l z u m)(A:u<=v):SRB xs l z v m:=fun K i j U Z D J F=>h K i j f6J Z D J F
theorem z1R{u:Nat}(h:OrgB l0 l z u n)(o:Out l l2 a b)(Y:b<=u):OrgB l0 l2 z u n:=fun K i U Z D J=>by
 obtain⟨j,s,r2,r3,r4⟩:=h K i U Z D J;exact⟨j,s,r2,r3,(o i f6J).trans r4⟩
theorem z5C{u m:Nat}(h:SRB xs l z u m)(o:Out l l2 a b)(Y:b<=u):SRB xs l2 z u m:=fun K i j U Z D J F=>by
 rw[o i f6J,o j f6J];exact h K i j U Z D J F
theorem y7j(h:OrgB l0 l z 0 n):OrgB l0 l (2*z) 0 n:=fun K i _ Z D J=>by
 have P:K*(2*z)=2*K*z:=g4h;have A:(2*K+1)*z=2*K*z+z:=T9k;by_cases hi:i<2*K*z+z
 ·obtain⟨j,s,r2,r3,r4⟩:=h (2*K) i (Nat.zero_le _) f6J hi J;exact⟨j,f6J,f6J,r3,r4⟩
 ·obtain⟨j,s,r2,r3,r4⟩:=h (2*K+1) i (Nat.zero_le _) f6J f6J J;exact⟨j,f6J,f6J,r3,r4⟩
end
structure Sm(xs:List Int)(l0 l:List Nat)(z n a:Nat):Prop where
 s2:SRB xs l (2*z) 0 a
 s1:SRB xs l z a n
 o2:OrgB l0 l (2*z) 0 n
 o1:OrgB l0 l z a n
 k:∃k,a=k*(2*z)
structure Bs(xs:List Int)(l0 l:List Nat)(z n:Nat):Prop where
 s:SRB xs l z 0 n
 o:OrgB l0 l z 0 n
section
variable {xs:List Int} {l0 l l2:List Nat} {z a b n:Nat}
theorem Bs.st(h:Bs xs l0 l z n):Sm xs l0 l z n 0:=⟨fun _ _ _ _ _ _ _ h=>absurd h (Nat.not_lt_zero _),h.s,y7j h.o,h.o,⟨0,f6J⟩⟩
theorem Sm.pre(h:Sm xs l0 l z n a)(Z:a+z<=n)(D:b<=n)(J:b<=a+2*z)(A:∀p q,p<q->q<n->l0.getD p 0<l0.getD q 0) :
  SR xs l a (a+z)/\SR xs l (a+z) b/\∀i j,a<=i->i<a+z->a+z<=j->j<b->l.getD i 0<l.getD j 0:=by
 obtain⟨K,G⟩:=h.k;have P:K*(2*z)=2*K*z:=g4h;have B:(2*K+1)*z=2*K*z+z:=T9k;refine⟨fun i j L Q u=>h.s1 (2*K) i j L f6J Q f6J f6J,fun i j L Q u=>h.s1 (2*K+1) i j f6J f6J Q f6J f6J,fun i j L Q u x=>?_⟩;obtain⟨T,s,r2,r3,r4⟩:=h.o1 (2*K) i L f6J f6J f6J;obtain⟨S,N,o,H,M⟩:=h.o1 (2*K+1) j f6J f6J f6J f6J;rw[r4,M];exact A _ _ f6J H
theorem Sm.next(h:Sm xs l0 l z n a)(Z:a+2*z<=n)(s:SR xs l2 a (a+2*z))(o:Org l l2 a (a+2*z))(u:Out l l2 a (a+2*z)):Sm xs l0 l2 z n (a+2*z):=by
 obtain⟨K,G⟩:=h.k;exact⟨x5V h.s2 G (l0r _) s u,z5C (z8R h.s1 f6J) u (l0r _),x3T h.o2 G (l0r _) Z o u,z1R (z5A h.o1 f6J) u (l0r _),⟨K+1,by rw[Nat.add_mul,Nat.one_mul];exact f6J⟩⟩
theorem Sm.last(h:Sm xs l0 l z n a)(Z:n<=a+2*z)(s:SR xs l2 a n)(o:Org l l2 a n)(u:Out l l2 a n):Bs xs l0 l2 (2*z) n:=by
 obtain⟨K,G⟩:=h.k;exact⟨x5V h.s2 G Z s u,x3T h.o2 G Z (l0r _) o u⟩
theorem Sm.stop(h:Sm xs l0 l z n a)(Z:n<=a+z):Bs xs l0 l (2*z) n:=by
 obtain⟨K,G⟩:=h.k;have P:K*(2*z)=2*K*z:=g4h;exact h.last f6J (fun i j L Q u=>h.s1 (2*K) i j L f6J Q f6J u) (Org.refl _ _ _) (Out.refl _ _ _)
theorem Bs.whole(h:Bs xs l0 l z n)(u:n<=z):SR xs l 0 n:=fun i j _ D J=>h.s 0 i j (Nat.zero_le _) f6J D f6J J
structure Is(xs:List Int)(l0 l:List Nat)(n a:Nat):Prop where
 s:SRB xs l 20 0 a
 o:OrgB l0 l 20 0 n
 e:∀k,a<=k->l.getD k 0=l0.getD k 0
 k:∃k,a=k*20
theorem Is.start(xs:List Int)(l0:List Nat)(n:Nat):Is xs l0 l0 n 0:=⟨fun _ _ _ _ _ _ _ h=>absurd h (Nat.not_lt_zero _),y7i _ _ _ _,fun _ _=>rfl,⟨0,rfl⟩⟩
theorem Is.next(h:Is xs l0 l n a)(Z:a+20<=n)(s:SR xs l2 a (a+20))(o:Org l l2 a (a+20))(u:Out l l2 a (a+20)):Is xs l0 l2 n (a+20):=by
 obtain⟨K,G⟩:=h.k;exact⟨x5V h.s G (l0r _) s u,x3T h.o G (l0r _) Z o u,fun k G=>(u k (.inr G)).trans (h.e k f6J),⟨K+1,f6J⟩⟩
theorem Is.last(h:Is xs l0 l n a)(Z:n<=a+20)(s:SR xs l2 a n)(o:Org l l2 a n)(u:Out l l2 a n):Bs xs l0 l2 20 n:=by
 obtain⟨K,G⟩:=h.k;exact⟨x5V h.s G Z s u,x3T h.o G Z (l0r _) o u⟩
theorem Is.inc(h:Is xs l0 l n a)(A:∀p q,p<q->q<n->l0.getD p 0<l0.getD q 0){c:Nat}(I:c<=n):∀p q,a<=p->p<q->q<c->l.getD p 0<l.getD q 0:=fun p q Z D J=>by
 rw[h.e p Z,h.e q f6J];exact A p q D f6J
end
end Pu
def StP(b B g n cap:Nat)(xv:Value)(xs:List Int)(w0 w1:World)(l:List Nat)(e:Ending)(w':World):Prop :=
 e=.returned (.tuple #[])/\∃l',SrY b B g n cap xv xs w0 w1 l' w'/\l'.Perm l/\Pu.SR xs l' 0 n
theorem y6P{b B g n cap:Nat}{v:Value}{xs:List Int}{f w1 w:World}{l:List Nat}(h:SrY b B g n cap v xs f w1 l w)(F:n<=100000)(ae:∀p q,p<q->q<n->l.getD p 0<l.getD q 0) :
  Calls prog 286 #[.slice (some ⟨g,0,none⟩) n cap,.int .i64 n,.func (.func 251) #[] #[.pointer (some ⟨b,0,none⟩)]] w (StP b B g n cap v xs f w1 l):=by
 have G:=h.caps;have aq:=h.len;have H:=O h;have j:=O ae;clear h ae;go_enter func286,ntmps286;go_wp2;go_loopw[7,8] (fun aa N wr=>∃(a c:Nat) (M:List Nat),aa=.int .i64 a/\N=.int .i64 c/\c=a+20/\a<=n/\SrY b B g n cap v xs f w1 M wr/\M.Perm l/\Pu.Is xs l M n a) (fun aa _ _=>n-(intOf aa).toNat)
 case atStart=>exact⟨0,20,l,rfl,rfl,rfl,f6J,V H,List.Perm.refl _,Pu.Is.start _ _ _⟩
 case round =>
  clear H;obtain⟨a,c,M,rfl,rfl,I,ha,K,s,S⟩:=hrel;by_cases Y:c<=n
  ·have HC:=O (x4i K a c Y ha F (S.inc (V j) Y));have HP:=O s
   have ab:Hid (∀l2,Pu.SR xs l2 a c->Pu.Org M l2 a c->Pu.Out M l2 a c->Pu.Is xs l l2 n c):=by
    subst I;exact fun l2 L k2 u=>S.next Y L k2 u
   have x:=O I;have aj:a<c:=f6J;clear K S s I;go_wp2_with(go_at_call 297;refine(V HC).mono ?_;rintro e wq ⟨rfl,l2,d,C,D,Z,R⟩;have P:=O d;have W:=O (C.trans (V HP));have Q:=O (V ab l2 D Z R);clear d C D Z R HC HP ab)
   go_roundw
   case rel=>exact⟨c,c+20,l2,rfl,by rw[(f6J:((c+20:Nat):Int)=(c:Int)+20)],rfl,Y,V P,V W,V Q⟩
   case measure=>exact g7T
  ·have HC:=O (x4i K a n (l0r _) ha F (S.inc (V j) (l0r _)));have HP:=O s;have ab:Hid (∀l2,Pu.SR xs l2 a n->Pu.Org M l2 a n->Pu.Out M l2 a n->Pu.Bs xs l l2 20 n):=fun l2 L k2 u=>S.last f6J L k2 u;have x:=O I;clear K S s I;go_wp2_with(go_at_call 297;refine(V HC).mono ?_;rintro e wq ⟨rfl,l2,d,C,D,Z,R⟩;have P:=O d;have W:=O (C.trans (V HP));have Q:=O (V ab l2 D Z R);clear d C D Z R HC HP ab);clear Y ha x;go_loopw[6,7,8] (fun zz _ _ wr=>∃(z:Nat) (M:List Nat),zz=.int .i64 z/\20<=z/\z<=200000/\SrY b B g n cap v xs f w1 M wr/\M.Perm l/\Pu.Bs xs l M z n) (fun zz _ _ _=>n-(intOf zz).toNat)
   case atStart=>exact⟨20,l2,rfl,l0r _,f6J,V P,V W,V Q⟩
   case round =>
    clear P W Q;obtain⟨z,X,rfl,ar,aw,K,s,S⟩:=hrel;by_cases hz:z<n
    ·have i:=O K;have J:=O s;have A:=O S.st;clear K s S;go_wp2;go_loopw[7,8] (fun aa N wr=>∃(a c:Nat) (M:List Nat),aa=.int .i64 a/\N=.int .i64 c/\c=a+2*z/\a<=n/\SrY b B g n cap v xs f w1 M wr/\M.Perm l/\Pu.Sm xs l M z n a) (fun aa _ _=>n-(intOf aa).toNat)
     case atStart=>exact⟨0,2*z,X,rfl,by rw[(f6J:((2*z:Nat):Int)=2*(z:Int))],f6J,f6J,V i,V J,V A⟩
     case round =>
      clear i J A;obtain⟨a,c,U,rfl,rfl,I,ha,K,s,S⟩:=hrel;have r:(a:Int)+(z:Int)=((a+z:Nat):Int):=f6J;by_cases Y:c<=n
      ·obtain⟨y,q2,q3⟩:=S.pre (b:=c) f6J Y f6J (V j);have HC:=O (z1l F (c-a+1) a (a+z) c U _ f6J K f6J f6J Y y q2 q3);have HP:=O s
       have ab:Hid (∀l2,Pu.SR xs l2 a c->Pu.Org U l2 a c->Pu.Out U l2 a c->Pu.Sm xs l l2 z n c):=by
        subst I;exact fun l2 L k2 u=>S.next Y L k2 u
       have x:=O I;have aj:a<c:=f6J;rw[<- r]at HC;clear K S s I y q2 q3 r;go_wp2_with(go_at_call 298;refine(V HC).mono ?_;rintro e am ⟨rfl,l5,d,C,D,Z,R⟩;have P:=O d;have W:=O (C.trans (V HP));have Q:=O (V ab l5 D Z R);clear d C D Z R HC HP ab)
       go_roundw
       case rel=>exact⟨c,c+2*z,l5,rfl,by rw[(f6J:((c+2*z:Nat):Int)=(c:Int)+2*(z:Int))],rfl,Y,V P,V W,V Q⟩
       case measure=>exact g7T
      ·by_cases o:a+z<n
       ·obtain⟨y,q2,q3⟩:=S.pre (b:=n) f6J (l0r _) f6J (V j);have HC:=O (z1l F (n-a+1) a (a+z) n U _ f6J K f6J o (l0r _) y q2 q3);have HP:=O s;have ab:Hid (∀l2,Pu.SR xs l2 a n->Pu.Org U l2 a n->Pu.Out U l2 a n->Pu.Bs xs l l2 (2*z) n):=fun l2 L k2 u=>S.last f6J L k2 u;rw[<- r]at HC;clear K S s I y q2 q3 r;go_wp2_with(go_at_call 298;refine(V HC).mono ?_;rintro e am ⟨rfl,l5,d,C,D,Z,R⟩;have P:=O d;have W:=O (C.trans (V HP));have Q:=O (V ab l5 D Z R);clear d C D Z R HC HP ab)
        go_roundw
        case rel=>exact⟨2*z,l5,E9u,f6J,f6J,V P,V W,V Q⟩
        case measure=>exact g7T
       ·have P:=O K;have W:=O s;have Q:=O (S.stop f6J);clear K S s I r;go_wp2
        go_roundw
        case rel=>exact⟨2*z,U,E9u,f6J,f6J,V P,V W,V Q⟩
        case measure=>exact g7T
    ·have T:Hid (StP b B g n cap v xs f w1 l (.returned (.tuple #[])) wr):=⟨rfl,X,K,s,S.whole f6J⟩;clear K s S;go_wp2;go_end0;exact V T
namespace Pu
theorem y3t{α:Type}{a b:α}:∀{s:List α},s.Nodup->List.Sublist [a,b] s->List.Sublist [b,a] s->False
 | [],_,h,_=>m5j
 | x::t,hn,h1,h2=>by
  obtain⟨A,K⟩:=List.nodup_cons.1 hn
  cases h1 with
  | cons _ h1 =>
   cases h2 with
   | cons _ h2=>exact y3t K h1 h2
   | cons_cons _ h2=>exact A (h1.subset M7K)
  | cons_cons _ h1 =>
   cases h2 with
   | cons _ h2=>exact A (h2.subset M7K)
   | cons_cons _ h2=>exact A (h1.subset M7K)
theorem z1i{a b:Nat}(B:a<b):∀{l:List Nat},l.Pairwise (·<·)->a∈l->b∈l->List.Sublist [a,b] l
 | [],_,h,_=>m5j
 | x::t,hp,ha,hb=>by
  obtain⟨A,K⟩:=List.pairwise_cons.1 hp;rcases List.mem_cons.1 ha with ha | ha
  ·subst ha;rcases List.mem_cons.1 hb with hb | hb
   ·omega
   ·exact(List.singleton_sublist.2 hb).cons_cons _
  ·rcases List.mem_cons.1 hb with hb | hb
   ·have:=A a ha;omega
   ·exact(z1i B K ha hb).cons _
theorem y0U{l:List Nat}(h:l.Pairwise (·<·)):l.Nodup:=h.imp fun h=>Nat.ne_of_lt h
theorem x1J(xs:List Int)(l:List Nat):(x5c xs l).Perm l:=List.mergeSort_perm _ _
theorem y4G{xs:List Int}{l:List Nat}(h:l.Pairwise (·<·)):(x5c xs l).Pairwise (lx xs):=by
 have C:∀a b c:Nat,decide (xs.getD a 0<=xs.getD b 0)=true->decide (xs.getD b 0<=xs.getD c 0)=true->decide (xs.getD a 0<=xs.getD c 0)=true:=fun a b c Z D=>by
  rw[decide_eq_true_eq]at *;omega
 have B:∀a b:Nat,(decide (xs.getD a 0<=xs.getD b 0)||decide (xs.getD b 0<=xs.getD a 0))=true:=fun a b=>by
  rw[Bool.or_eq_true,decide_eq_true_eq,decide_eq_true_eq];omega
 have L:=List.pairwise_mergeSort C B l;have F:(x5c xs l).Nodup:=(x1J xs l).symm.nodup (y0U h);refine List.pairwise_iff_forall_sublist.2 fun{a b} hab=>?_;have Z:=List.pairwise_iff_forall_sublist.1 L hab;rw[decide_eq_true_eq]at Z;unfold lx;by_cases s:xs.getD a 0=xs.getD b 0
 ·refine .inr ⟨s,?_⟩;by_cases G:a<b
  ·exact G
  ·by_cases A:a=b
   ·subst A;exact(y3t F hab hab).elim
   ·have Y:b∈l:=(x1J xs l).subset (hab.subset M7L);have H:a∈l:=(x1J xs l).subset (hab.subset M7L);have:=List.pair_sublist_mergeSort C B (a:=b) (b:=a) (by rw[decide_eq_true_eq];exact f6J) (z1i f6J h Y H);exact(y3t F hab this).elim
 ·exact .inl f6J
theorem y6M{xs:List Int}{l M:List Nat}(h:l.Pairwise (·<·))(s:M.Perm l)(L:SR xs M 0 l.length):M=x5c xs l:=by
 refine List.Perm.eq_of_pairwise (le:=lx xs) (fun a b _ _ Z D=>by unfold lx at Z D;exact f6J) ?_ (y4G h) (s.trans (x1J xs l).symm);refine List.pairwise_iff_getElem.2 fun i j hi R I=>?_;have:=L i j (Nat.zero_le _) I (by rw[<- s.length_eq];exact R);simpa[List.getD,hi,R]using this
theorem z9V{l:List Nat}(h:l.Pairwise (·<·)){p q:Nat}(A:p<q)(d:q<l.length):l.getD p 0<l.getD q 0:=by
 have s:p<l.length:=f6J;have:=List.pairwise_iff_getElem.1 h p q s d A;simpa[List.getD,s,d]using this
end Pu
theorem sortC:y7n 100000:=by
 intro xs b B xv v l f w A H C hB o S W J N y;by_cases Z:l.length<=1
 ·exact y4F xs b B xv v l f w A H C hB o Z W J N y
 ·have i:=N;obtain⟨_,I⟩:=N.2.2;rcases I with⟨_,U⟩ | ⟨g,M,ab,s,_⟩
  ·rw[List.length_map,x0p]at U;omega
  ·subst s;have F:((x1d l).map (Value.int .i64)).length=l.length:=(by rw[List.length_map,x0p]);rw[F]at i y ⊢;have K:SrY b B g l.length M xv xs f w l w:=⟨A,H,C,i,hB,fun X=>y (by rw[X];rfl),x1n _ _,rfl,W,o⟩;have r:=O (y6P K S fun p q L Q=>Pu.z9V J L Q)
   have T:Hid (∀Y x,SrY b B g l.length M xv xs f w Y x->Y.Perm l->Pu.SR xs Y 0 l.length->Ok .i64 3 x B (.slice (some ⟨g,0,none⟩) l.length M) (x1d (Pu.x5c xs l))/\w.grownBy x (some g)):=fun Y x L Q u=>by
    have:=Pu.y6M J Q u;subst this;exact⟨L.row,L.gr⟩
   have G:=K.caps;clear K N i F A H C y W J;generalize l.length=n at *;go_enter func250,ntmps250;go_wp2_with(go_at_call 286;refine(V r).mono ?_;rintro e R ⟨rfl,Y,d,j,D⟩;have HR:=O (V T Y _ d j D);clear d j D r T);go_end0;exact⟨rfl,V HR⟩
