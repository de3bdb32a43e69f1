import Derived.Test.YtbmckadcjdedcaaGreatDoorF7
import Derived.Test.YtbmckadcjdedcaaGreatDoorF14
import Derived.Test.YtbmckadcjdedcaaGreatDoorF18
import Derived.Test.YtbmckadcjdedcaaGreatDoorF45
set_option maxHeartbeats 20000000
set_option maxRecDepth 40000
namespace Go.Proofs.YtbmckadcjdedcaaGreatDoor
section
variable{p:Prop}
theorem n9j(h:p:=by go_enter func49,ntmps49;go_wp2;go_ret2;exact x2U.mk h):p:=h
theorem R4Q(h:p:=by simp only[mx]at Z ⊢;omega):p:=h
theorem m3q(h:p:=by go_enter func137,ntmps137;exact r0p):p:=h
theorem p7M(h:p:=by rw[u];clear u;generalize(nums s).getD k 0=b at *;go_enter func50,ntmps50;exact t6v):p:=h
theorem e5T(h:p:=by
 have e:c+n+j*n=c+((j+1:Nat):Int)*n:=by
  rw[Int.natCast_add,Int.add_mul];simp;omega
 rw[e]):p:=h
theorem i6u(h:p:=by simpa[Nat.add_assoc,Nat.add_comm 1]using h):p:=h
theorem P9o(h:p:=by have u:onb (nums s) k lo hi=false:=d0f f6J;exact p7M):p:=h
theorem w1k(h:p:=by have HT:=O (S0.none z M H S);clear z u X S M;generalize bnd (y.getD k 0)=bq at *;obtain⟨i,T⟩:=bq;generalize y.getD k 0=b at *;go_wp2_with fail;refine(V (HB _)).mono ?_;rintro e wr ⟨rfl,rfl⟩;clear HB J;go_wp2;go_step3;show Jf s y r w 5 _ _/\_;exact⟨⟨k,v,⟨rfl,rfl,rfl,rfl,rfl,rfl,rfl⟩,G,V HT,A⟩,x1C (k:=k) (k2:=k) rfl rfl T7y⟩):p:=h
theorem e0V(h:p:=by have HT:=O (S0.none z M H S);clear z u X S M;generalize bnd (y.getD 0 0)=bq at *;obtain⟨i,T⟩:=bq;generalize y.getD 0 0=b at *;go_wp2_with fail;refine(V (HB _)).mono ?_;rintro e w ⟨rfl,rfl⟩;clear HB J;go_wp2;go_step3;show Jf s y r w 5 _ _;exact⟨0,.slice none 0 0,⟨rfl,rfl,rfl,rfl,rfl,rfl,rfl⟩,G,V HT,A⟩):p:=h
theorem T7y(h:p:=by simp[mez]<;>omega):p:=h
theorem W9H(h:p:=by go_enter func136,ntmps136;go_wp2;go_ret;exact⟨_,rfl,V a⟩):p:=h
theorem W4S(h:p:=by have:=(x3k.1 ho).1;have:=V E;exact f6J):p:=h
theorem t1E(h:p:=by simp only[mx];exact f6J):p:=h
theorem I0M(h:p:=by have:=V ai;exact T7y):p:=h
theorem m0v(h:p:=by have:=V ai;have:=V ay;exact T7y):p:=h
end
end Go.Proofs.YtbmckadcjdedcaaGreatDoor
namespace Go.Proofs.YtbmckadcjdedcaaGreatDoor.Cn
open Go.Proofs.Tryz
open Ti
def dots(v n:Int):Nat->Int->List Tri.Rg
 | 0,_=>[]
 | k+1,c=>(c,c,v)::dots v n k (c+n)
def spoken(r:Rec)(v:Int):List Tri.Rg :=
 if r.kind≠4\/r.n=1 then[(r.lo,r.hi,v)]else dots v r.n ((r.hi-r.lo) / r.n+1).toNat r.lo
def value(r:Rec):Int:=if r.kind=1 then 1 else if r.kind=2 then 2 else if r.kind=3\/r.kind=4 then 3 else if r.kind=5 then 4 else if r.kind=11 then 1 else r.n
def famOf(f:Int)(rs:List Rec):List Rec:=rs.filter fun r=>decide (fam r.kind=f)
def rangesA(g:Nat->Rec->Int):Nat->List Rec->List Tri.Rg
 | _,[]=>[]
 | i,r::l=>spoken r (g i r)++rangesA g (i+1) l
theorem x5S{v n:Int}{x:Tri.Rg}:∀(k:Nat) (c:Int),x∈dots v n k c↔∃j:Nat,j<k/\x=(c+j*n,c+j*n,v)
 | 0,c=>by simp[dots]
 | k+1,c=>by
  rw[dots,List.mem_cons,x5S k (c+n)];constructor
  ·rintro(rfl|⟨j,K,rfl⟩)
   ·exact⟨0,f6J,M7L⟩
   ·refine⟨j+1,f6J,?_⟩
    exact e5T
  ·rintro⟨j,K,rfl⟩
   cases j with
   | zero=>left;simp
   | succ j =>
    right;refine⟨j,f6J,?_⟩
    exact e5T
theorem y0N{j n:Int}(K:0<=j)(E:1<=n):0<=j*n:=Int.mul_nonneg K f6J
theorem x3p{r}(h:right r=0)(G:r.kind≠15){v}{x:Tri.Rg}(I:x∈spoken r v):Tri.vl x=v/\0<=Tri.lo x/\Tri.lo x<=Tri.hi x/\Tri.hi x<=1114111/\∀c,Tri.lo x<=c->c<=Tri.hi x->speaks r c=true:=by
 obtain⟨N,s,C⟩:=x0n h G;have J:=right_step h;unfold spoken at I;split at I
 ·rename_i hc
  rw[List.mem_singleton]at I;subst I;refine⟨rfl,N,s,C,fun c Z D=>?_⟩;have B:r.lo<=c:=Z;have E:c<=r.hi:=D
  have e:step r=1:=by
   unfold step;rcases hc with hc|hc
   ·rw[if_neg hc]
   ·omega
  unfold speaks;rw[e];exact d0t ⟨G,e8N,f6J,f6J,B,E,Int.emod_one _⟩
 ·rename_i hc
  obtain⟨H,Q⟩:r.kind=4/\r.n≠1:=by
   constructor
   ·omega
   ·exact fun e=>hc (.inr e)
  have A:step r=r.n:=by
   unfold step at J ⊢;rw[if_pos H]at J ⊢;omega
  rw[A]at J;obtain⟨j,K,rfl⟩:=(x5S _ _).1 I;have hd:0<=(r.hi-r.lo) / r.n:=Int.ediv_nonneg f6J f6J;have F:(j:Int)<=(r.hi-r.lo) / r.n:=f6J;have z:(j:Int)*r.n<=r.hi-r.lo:=Int.le_trans (Int.mul_le_mul_of_nonneg_right F f6J) (Int.ediv_mul_le _ f6J);have g:0<=(j:Int)*r.n:=y0N f6J f6J;refine⟨rfl,by show 0<=r.lo+j*r.n;exact f6J,Int.le_refl _,by show r.lo+j*r.n<=_;exact f6J,fun c Z D=>?_⟩;have B:r.lo+j*r.n<=c:=Z;have E:c<=r.lo+j*r.n:=D;obtain rfl:c=r.lo+j*r.n:=f6J;unfold speaks;rw[A];refine d0t ⟨G,f6J,f6J,f6J,f6J,f6J,?_⟩;rw[(f6J:r.lo+j*r.n-r.lo=j*r.n)];exact Int.mul_emod_left _ _
theorem z0v{r}(h:right r=0) v{c}(U:speaks r c=true):∃x∈spoken r v,Tri.lo x<=c/\c<=Tri.hi x:=by
 have J:=right_step h;unfold speaks at U;obtain⟨_,_,l,j,K,B,T⟩:=o0d U;unfold spoken;split
 ·exact⟨_,List.mem_singleton.2 rfl,K,B⟩
 ·rename_i hc
  obtain⟨H,Q⟩:r.kind=4/\r.n≠1:=by
   constructor
   ·omega
   ·exact fun e=>hc (.inr e)
  have A:step r=r.n:=by
   unfold step at J ⊢;rw[if_pos H]at J ⊢;omega
  rw[A]at J T;obtain⟨q,m⟩:=Int.dvd_of_emod_eq_zero T
  have a:0<=q:=by
   rcases Int.lt_or_le q 0 with hn|hn
   ·exfalso;have:r.n*q<=r.n*(-1):=Int.mul_le_mul_of_nonneg_left f6J f6J;omega
   ·exact hn
  have s:q<=(r.hi-r.lo) / r.n:=by
   rw[Int.le_ediv_iff_mul_le f6J,Int.mul_comm];omega
  refine⟨(c,c,v),(x5S _ _).2 ⟨q.toNat,f6J,?_⟩,Int.le_refl _,Int.le_refl _⟩;rw[(f6J:((q.toNat:Nat):Int)=q),Int.mul_comm q,<- m];have:r.lo+(c-r.lo)=c:=f6J;rw[this]
def Apart(x y:Tri.Rg):Prop:=Tri.hi x<Tri.lo y\/Tri.hi y<Tri.lo x
theorem Apart.symm{x y:Tri.Rg}(h:Apart x y):Apart y x:=Or.symm h
theorem x7Y{v n:Int}(E:1<=n):∀(k:Nat) (c:Int),(dots v n k c).Pairwise Apart
 | 0,_=>List.Pairwise.nil
 | k+1,c=>by
  rw[dots];refine List.Pairwise.cons (fun x J=>?_) (x7Y E k (c+n));obtain⟨j,_,rfl⟩:=(x5S _ _).1 J;have:=y0N (j:=j) f6J E;left;show c<c+n+j*n;omega
theorem y1t{r}(h:right r=0) v:(spoken r v).Pairwise Apart:=by
 unfold spoken;split
 ·exact List.pairwise_singleton _ _
 ·rename_i hc
  have J:=right_step h;have H:r.kind=4:=Decidable.byContradiction fun e=>hc (.inl e);unfold step at J;rw[if_pos H]at J;exact x7Y f6J _ _
theorem x1W{g:Nat->Rec->Int}{x:Tri.Rg}:∀(l:List Rec) (i:Nat),x∈rangesA g i l↔∃k,∃G:k<l.length,x∈spoken l[k] (g (i+k) l[k])
 | [],_=>by simp[rangesA]
 | r::l,i=>by
  rw[rangesA,List.mem_append,x1W l (i+1)];constructor
  ·rintro(h|⟨k,G,h⟩)
   ·exact⟨0,M7K,h⟩
   ·exact⟨k+1,E9n,i6u⟩
  ·rintro⟨k,G,h⟩
   cases k with
   | zero=>exact .inl h
   | succ k=>exact .inr ⟨k,E9n,i6u⟩
structure Fine(l:List Rec):Prop where
 right:∀r∈l,right r=0
 notMix:∀r∈l,r.kind≠15
 apart:l.Pairwise fun a b=>∀c,¬(speaks a c=true/\speaks b c=true)
theorem Fine.tail{r l}(h:Fine (r::l)):Fine l:=⟨fun x J=>h.1 x (List.mem_cons_of_mem _ J),fun x J=>h.2 x (List.mem_cons_of_mem _ J),(List.pairwise_cons.1 h.3).2⟩
theorem x4r{g:Nat->Rec->Int}:∀(l:List Rec) (i:Nat),Fine l->(rangesA g i l).Pairwise Apart
 | [],_,_=>List.Pairwise.nil
 | r::l,i,h=>by
  rw[rangesA,List.pairwise_append];refine⟨y1t (h.1 r M7K) _,x4r l (i+1) h.tail,fun x J y hy=>?_⟩;obtain⟨k,G,hy⟩:=(x1W l (i+1)).1 hy;obtain⟨_,_,L,_,A⟩:=x3p (h.1 r M7K) (h.2 r M7K) J;have z:l[k]∈r::l:=List.mem_cons_of_mem _ (List.getElem_mem G);obtain⟨_,_,b1,_,F⟩:=x3p (h.1 _ z) (h.2 _ z) hy;have X:=(List.pairwise_cons.1 h.3).1 l[k] (List.getElem_mem G);unfold Apart;rcases Int.lt_or_le (Tri.hi x) (Tri.lo y)with h1|h1
  ·exact .inl h1
  ·rcases Int.lt_or_le (Tri.hi y) (Tri.lo x)with h2|h2
   ·exact .inr h2
   ·exfalso;rcases Int.le_total (Tri.lo x) (Tri.lo y)with h3|h3
    ·exact X (Tri.lo y) ⟨A _ h3 h1,F _ (Int.le_refl _) b1⟩
    ·exact X (Tri.lo x) ⟨A _ (Int.le_refl _) L,F _ h3 h2⟩
theorem z4t:∀(m:List Tri.Rg) (b:Int),(∀x∈m,b<=Tri.lo x/\Tri.lo x<=Tri.hi x/\Tri.hi x<=1114111/\0<=Tri.vl x/\Tri.vl x<=65535)->m.Pairwise Apart->m.Pairwise (fun x y=>Tri.lo x<=Tri.lo y)->Tri.Val b m
 | [],_,_,_,_=>trivial
 | x::m,b,h,ha,hs=>by
  obtain⟨Z,D,R,H,p⟩:=h x M7L;obtain⟨G,A⟩:=List.pairwise_cons.1 ha;obtain⟨T,i⟩:=List.pairwise_cons.1 hs;refine⟨Z,D,R,H,p,z4t m (Tri.hi x+1) (fun y hy=>?_) A i⟩;obtain⟨J,g2,M,U,g⟩:=h y (List.mem_cons_of_mem _ hy);have e:=T y hy;have d:=G y hy;unfold Apart at d;exact⟨f6J,g2,M,U,g⟩
theorem z0M{x:Tri.Rg}:∀(m:List Tri.Rg) (b:Int),Tri.Val b m->x∈m->b<=Tri.lo x
 | y::m,b,h,hx=>by
  obtain⟨J,g2,_,_,_,u⟩:=h;rcases List.mem_cons.1 hx with rfl|hx
  ·exact J
  ·have:=z0M m _ u hx;omega
theorem z3M{d c:Int}{x:Tri.Rg}:∀(m:List Tri.Rg) (b:Int),Tri.Val b m->x∈m->Tri.lo x<=c->c<=Tri.hi x->Tri.get d m c=Tri.vl x
 | y::m,b,h,hx,h1,h2=>by
  obtain⟨J,g2,M,U,g,u⟩:=h;rw[Tri.x1t];rcases List.mem_cons.1 hx with rfl|hx
  ·rw[if_pos ⟨h1,h2⟩]
  ·have Y:Tri.hi y+1<=Tri.lo x:=z0M m _ u hx;rw[if_neg f6J];exact z3M m _ u hx h1 h2
theorem y8y{d c:Int}:∀(m:List Tri.Rg),(∀x∈m,¬(Tri.lo x<=c/\c<=Tri.hi x))->Tri.get d m c=d
 | [],_=>rfl
 | y::m,h=>by rw[Tri.x1t,if_neg (h y M7K),y8y m fun x J=>h x (List.mem_cons_of_mem _ J)]
theorem y3f{g:Nat->Rec->Int}{i l}{m:List Tri.Rg}(h:Fine l)(C:∀k,(G:k<l.length)->0<=g (i+k) l[k]/\g (i+k) l[k]<=65535)(L:m.Perm (rangesA g i l))(U:m.Pairwise fun x y=>Tri.lo x<=Tri.lo y) :
  Tri.Val 0 m/\∀c,(∀k,(G:k<l.length)->speaks l[k] c=true->Tri.get 0 m c=g (i+k) l[k])/\((∀r∈l,speaks r c=false)->Tri.get 0 m c=0):=by
 have N:Tri.Val 0 m:=by
  refine z4t m 0 (fun x J=>?_) ((x4r (g:=g) l i h).perm L.symm Apart.symm) U;obtain⟨k,G,J⟩:=(x1W l i).1 (L.mem_iff.1 J);obtain⟨A,P,t,M,_⟩:=x3p (h.1 _ (List.getElem_mem G)) (h.2 _ (List.getElem_mem G)) J;have:=C k G;exact⟨P,t,M,f6J,f6J⟩
 refine⟨N,fun c=>⟨fun k G H=>?_,fun X=>?_⟩⟩
 ·obtain⟨x,J,Z,D⟩:=z0v (h.1 _ (List.getElem_mem G)) (g (i+k) l[k]) H;rw[z3M m 0 N (L.mem_iff.2 ((x1W l i).2 ⟨k,G,J⟩)) Z D];exact(x3p (h.1 _ (List.getElem_mem G)) (h.2 _ (List.getElem_mem G)) J).1
 ·refine y8y m fun x J I=>?_;obtain⟨k,G,J⟩:=(x1W l i).1 (L.mem_iff.1 J);have:=(x3p (h.1 _ (List.getElem_mem G)) (h.2 _ (List.getElem_mem G)) J).2.2.2.2 c I.1 I.2;rw[X _ (List.getElem_mem G)]at this;cases this
theorem x0r{f rs r}:r∈famOf f rs↔r∈rs/\fam r.kind=f:=by simp[famOf]
theorem y2i{rs f}(h:(check6 rs).2=0)(X:f≠10/\f≠0):Fine (famOf f rs):=by
 obtain⟨_,D,R⟩:=x0m.1 h;have G:∀r:Rec,fam r.kind=f->r.kind≠15:=fun r e A=>X.1 (by rw[<- e,A];exact e8M);refine⟨fun r u=>D r (x0r.1 u).1,fun r u=>G r (x0r.1 u).2,?_⟩;have H:=List.Pairwise.and_mem.1 (R.filter fun r=>decide (fam r.kind=f));refine H.imp fun{a b} hab c hc=>?_;obtain⟨g,Y,t⟩:=hab;have B:=x0r.1 g;have Q:=x0r.1 Y;rw[(x1V (D a B.1) (D b Q.1) (B.2.trans Q.2.symm) (G a B.2) (G b Q.2)).2 ⟨c,hc⟩]at t;cases t
theorem y6G{rs f}(h:(check6 rs).2=0)(X:f≠10/\f≠0)(N:∀r∈rs,fam r.kind=f->0<=value r/\value r<=65535){m:List Tri.Rg}(L:m.Perm (rangesA (fun _ r=>value r) 1 (famOf f rs)))(U:m.Pairwise fun x y=>Tri.lo x<=Tri.lo y) :
  Tri.Val 0 m/\∀c,Tri.get 0 m c=match hit rs f c with | some r=>value r | Option.none=>0:=by
 obtain⟨Z,D⟩:=y3f (y2i h X) (fun k G=>by have:=x0r.1 (List.getElem_mem G);exact N _ this.1 this.2) L U;refine⟨Z,fun c=>?_⟩
 cases he:hit rs f c with
 | some r =>
  obtain⟨J,I,M⟩:=(x1z h X r).1 he;obtain⟨k,G,rfl⟩:=List.getElem_of_mem (x0r.2 ⟨J,I⟩);exact(D c).1 k G M
 | none=>exact(D c).2 fun r u=>y3P X he r (x0r.1 u).1 (x0r.1 u).2
theorem x8o{rs f}(h:(check6 rs).2=0)(X:f≠10/\f≠0){m:List Tri.Rg}(L:m.Perm (rangesA (fun i _=>(i:Int)) 1 (famOf f rs)))(U:m.Pairwise fun x y=>Tri.lo x<=Tri.lo y) :
  Tri.Val 0 m/\∀c,0<=Tri.get 0 m c/\Tri.get 0 m c<=(famOf f rs).length/\(none::famOf f rs).getD (Tri.get 0 m c).toNat none=match hit rs f c with | some r=>r | Option.none=>none:=by
 have s:(famOf f rs).length<=4096:=Nat.le_trans (List.length_filter_le _ _) (x0m.1 h).1;obtain⟨Z,D⟩:=y3f (y2i h X) (fun k G=>f6J) L U;refine⟨Z,fun c=>?_⟩
 cases he:hit rs f c with
 | some r =>
  obtain⟨J,I,M⟩:=(x1z h X r).1 he;obtain⟨k,G,rfl⟩:=List.getElem_of_mem (x0r.2 ⟨J,I⟩);rw[(D c).1 k G M];refine⟨f6J,f6J,?_⟩;rw[(f6J:((1+k:Nat):Int).toNat=k+1)];exact w8a
 | none =>
  rw[(D c).2 fun r u=>y3P X he r (x0r.1 u).1 (x0r.1 u).2];exact⟨f6J,f6J,rfl⟩
end Go.Proofs.YtbmckadcjdedcaaGreatDoor.Cn
namespace Go.Proofs.YtbmckadcjdedcaaGreatDoor
open Go.Proofs.Tryz
open Go.RowKit
open Ti
theorem y6F r vt w(X:RecFit r)(U:Sk .i32 w vt r.to):Calls prog 137 #[recV r vt] w (IntB w (Cn.value r)):=by
 obtain⟨R,Y,rfl,_,_⟩:=U.shape;unfold recV;obtain⟨G,k,D,A⟩:=x0L w r.kind r.lo r.hi r.n (.slice R r.to.length Y) r.name r.other r.wt;obtain⟨x,u,S,p,J,t,y,T⟩:=D;have B:=O A;obtain⟨I,M⟩:=X.kind;unfold Cn.value;generalize r.kind=K at *;by_cases P:K=1
 ·rw[if_pos P];subst P;exact m3q
 by_cases f:K=2
 ·rw[if_neg P,if_pos f];subst f;exact m3q
 by_cases E:K=3
 ·rw[if_neg P,if_neg f,if_pos (.inl E)];subst E;exact m3q
 by_cases o:K=4
 ·rw[if_neg P,if_neg f,if_pos (.inr o)];subst o;exact m3q
 by_cases i:K=5
 ·rw[if_neg P,if_neg f,if_neg f6J,if_pos i];subst i;exact m3q
 by_cases Z:K=11
 ·rw[if_neg P,if_neg f,if_neg f6J,if_neg i,if_pos Z];subst Z;exact m3q
 ·rw[if_neg P,if_neg f,if_neg f6J,if_neg i,if_neg Z];have g:(K==1)=false:=b0f P;have H:(K==2)=false:=b0f f;have Q:(K==3)=false:=b0f E;have b:(K==4)=false:=b0f o;have F:(K==5)=false:=b0f i;have d:(K==11)=false:=b0f Z;exact m3q
namespace Cn
theorem z9t{lo hi n:Int}(E:1<=n)(h:lo<=hi)(j:Nat):lo+j*n<=hi↔j<((hi-lo) / n+1).toNat:=by
 have A:0<=(hi-lo) / n:=Int.ediv_nonneg f6J f6J;have Z:(j:Int)<=(hi-lo) / n↔(j:Int)*n<=hi-lo:=Int.le_ediv_iff_mul_le f6J;constructor
 ·omega
 ·omega
theorem y0j(v n:Int):∀(j:Nat) (c:Int),dots v n (j+1) c=dots v n j c++[(c+j*n,c+j*n,v)]
 | 0,c=>by simp[dots]
 | j+1,c=>by
  rw[dots,y0j v n j (c+n),dots,List.cons_append]
  have e:c+n+j*n=c+((j+1:Nat):Int)*n:=by
   rw[Int.natCast_add,Int.add_mul];exact f4R
  rw[e]
theorem x5R(v n:Int):∀(j:Nat) (c:Int),(dots v n j c).length=j
 | 0,_=>rfl
 | j+1,c=>by rw[dots,List.length_cons,x5R v n j]
end Cn
theorem y6i{w:World}{B B' sz n e v xs}(h:w.ownsRow B e sz v n xs)(Y:B'<=B):w.ownsRow B' e sz v n xs:=by
 obtain⟨Z,D⟩:=h;refine⟨Z,?_⟩;rcases D with D|⟨g,M,T,a,b,c⟩
 ·exact .inl D
 ·exact .inr ⟨g,M,T,a,Nat.le_trans Y b,c⟩
theorem z6s(w:World) lo hi v(Z:Fi lo)(D:Fi hi)(R:Fi v):Or4 (w.alloc (.cells #[.int .i64 lo,.int .i64 hi,.int .i64 v] 259)) w.heap.size (.slice (some ⟨w.heap.size,0,none⟩) 1 1) [(lo,hi,v)]:=by
 refine⟨fun r u=>?_,M7M,⟨rfl,.inr ⟨w.heap.size,1,#[.int .i64 lo,.int .i64 hi,.int .i64 v],rfl,l0r _,?_,l0r _,T7W,rfl,rfl⟩⟩⟩
 ·simp only[List.mem_cons,List.mem_nil_iff,or_false]at u;subst u;exact⟨Z,D,R⟩
 ·exact R0p
theorem x7o r vt v w(X:RecFit r)(hs:Sk .i32 w vt r.to)(hr:Cn.right r=0)(hk:r.kind≠15)(N:Fi v):Calls prog 136 #[recV r vt,.int .i64 v] w (y6Q w (Cn.spoken r v)):=by
 obtain⟨i0,S,f,p,t⟩:=info_parts Tryz.info259;obtain⟨ao,tc,rfl,_,_⟩:=hs.shape;obtain⟨s1,s2,s3⟩:=Cn.x0n hr hk;have am:=Cn.right_step hr;unfold recV;obtain⟨U,k,D,ai⟩:=x0L w r.kind r.lo r.hi r.n (.slice ao r.to.length tc) r.name r.other r.wt;have Y:Hid (∀W,Bw U W->BoxAt W w.heap.size r.kind r.lo r.hi r.n (.slice ao r.to.length tc) r.name r.other r.wt):=fun W h=>D.keep h;obtain⟨x0,x1,x2,x3,x4,x5,x6,x7⟩:=D;have d:Hid (∀W u ys,Or4 W U.heap.size u ys->Bw U W->Or4 W w.heap.size u ys/\Bw w W):=fun W u ys Z h2=>⟨⟨Z.1,Z.2.1,y6i Z.2.2 ai.size⟩,x0b ai h2⟩;obtain⟨k1,k2⟩:=X.kind;obtain⟨n1,n2⟩:=X.n
 have ay:r.kind=4->1<=r.n/\r.n<=64:=fun e=>by
  unfold Cn.step at am;rw[if_pos e]at am;omega
 by_cases hc:r.kind≠4\/r.n=1
 ·have H:Cn.spoken r v=[(r.lo,r.hi,v)]:=(by unfold Cn.spoken;rw[if_pos hc]);rw[H];have C:=O (z6s U r.lo r.hi v ⟨f6J,f6J⟩ ⟨f6J,f6J⟩ N);generalize r.kind=kd,r.lo=lo,r.hi=hi,r.n=n at *;generalize r.name=nm,r.other=ot,r.wt=wt,r.to.length=tl at *;have a:=O (V d _ _ _ (V C) ((b0r).alloc (l0r _) _));by_cases h4:kd=4
  ·subst h4;obtain rfl:n=1:=f6J;exact W9H
  ·have d4:(kd != 4)=true:=(by simp[h4]);exact W9H
 ·obtain⟨h4,ar⟩:r.kind=4/\r.n≠1:=f6J;obtain⟨aw,aC⟩:=ay h4;have H:Cn.spoken r v=Cn.dots v r.n ((r.hi-r.lo) / r.n+1).toNat r.lo:=(by unfold Cn.spoken;rw[if_neg hc]);rw[H];have ae:Hid (∀j:Nat,r.lo+j*r.n<=r.hi↔j<((r.hi-r.lo) / r.n+1).toNat):=fun j=>Cn.z9t aw s2 j;have ag:Hid (∀j:Nat,Cn.dots v r.n (j+1) r.lo=Cn.dots v r.n j r.lo++[(r.lo+j*r.n,r.lo+j*r.n,v)]):=fun j=>Cn.y0j v r.n j r.lo;have i:Hid (∀j:Nat,(Cn.dots v r.n j r.lo).length=j):=fun j=>Cn.x5R v r.n j r.lo
  have aB:((r.hi-r.lo) / r.n+1).toNat<=1114112:=by
   have:(r.hi-r.lo) / r.n<=r.hi-r.lo:=Int.ediv_le_self _ f6J;omega
  have d1:(r.n==1)=false:=b0f ar;generalize((r.hi-r.lo) / r.n+1).toNat=m,r.kind=kd at *;subst h4;generalize r.lo=lo,r.hi=hi,r.n=n at *;generalize r.name=nm,r.other=ot,r.wt=wt at *;generalize r.to.length=tl,hds:Cn.dots v n m lo=az at *;have R:=O hds;go_enter func136,ntmps136;go_wp2;go_loopw[5,6] (fun lv b wr=>∃(j:Nat) (c:Int),b=.int .i64 c/\c=lo+j*n/\lo<=c/\c<=1114175/\j<=m/\Or4 wr U.heap.size lv (Cn.dots v n j lo)/\Bw U wr) (fun _ b _=>(1114176-intOf b).toNat)
  case atStart=>exact⟨0,lo,rfl,by simp,f6J,f6J,f6J,Or4.nil _ _,b0r⟩
  case round =>
   obtain⟨j,c,rfl,E,aA,q,hj,z,A⟩:=hrel;obtain⟨y0,y1,y2,y3,y4,y5,y6,y7⟩:=V Y _ A
   have I:Hid (c<=hi↔j<m):=by
    show _↔_;rw[E];exact V ae j
   have af:Hid (Cn.dots v n (j+1) lo=Cn.dots v n j lo++[(c,c,v)]):=by
    show _=_;rw[V ag j,<- E]
   have Q:Hid (c+n=lo+((j+1:Nat):Int)*n):=by
    show _=_;rw[Int.natCast_add,Int.add_mul,E];simp;omega
   have B:=V i j;have L:=z.2.2;have l:=z.1;have aD:=A.size;clear ae ag i E x0 x1 x2 x3 x4 x5 x6 x7;obtain⟨v1,v2⟩:=N;rw[B]at L;clear z;generalize hd2:Cn.dots v n j lo=T at *;have ab:=O hd2;clear hd2;by_cases aq:c<=hi
   ·have aj:=(V I).1 aq;have P:=y7l wr (c,c,v);simp only[Tri.x6I,Tri.x8Y,Tri.vl_mk]at P;have G:Hid (∀o,(wr.alloc o).ownsRow U.heap.size 259 3 u5 j (Ti.rcells T)):=fun o=>L.alloc o;have F:=O P
    have J:Hid (∀K y o,y.ownsRow U.heap.size 259 3 K (j+1) (Ti.rcells T++Ti.rcells [(c,c,v)])->(wr.alloc o).grownBy y u5.ownBlock->Or4 y U.heap.size K (T++[(c,c,v)])/\Bw U y):=fun K y o M s=>by
     refine⟨⟨fun x hx=>?_,by rw[List.length_append,B];exact P8P,by rw[List.length_append,B,Ti.x2r];exact M⟩,(A.alloc A.size o).grown s (A.alloc A.size o).size (fun g hg=>(L.lt g hg).1)⟩;rcases List.mem_append.1 hx with hx|hx
     ·exact l x hx
     ·simp only[List.mem_cons,List.mem_nil_iff,or_false]at hx;subst hx;exact⟨⟨by show _<=c;exact f6J,by show c<=_;exact f6J⟩,⟨by show _<=c;exact f6J,by show c<=_;exact f6J⟩,⟨v1,v2⟩⟩
    clear L P l A B I;go_wp2_with(at_builtin;refine wpList_append_own _ rfl (.tmp 32) (.tmp 37) 203 rfl U.heap.size 259 i0 (.agg #[.int .i64 0,.int .i64 0,.int .i64 0]) 3 24 underlying203 S f p t rfl e8P _ _ _ rfl (V G _) ⟨wr.heap.size,0,none⟩ 1 1 (Ti.rcells [(c,c,v)]) rfl rfl (V F) (Ti.x4X [(c,c,v)]) T7X f6J P8P ?_);intro K y M s _;obtain⟨z,A⟩:=V J K y _ M s;obtain⟨z0,z1,z2,z3,z4,z5,z6,z7⟩:=V Y _ A;clear J G F M s y0 y1 y2 y3 y4 y5 y6 y7;go_wp2
    go_roundw
    case rel=>exact⟨j+1,c+n,g2D,V Q,f6J,f6J,f6J,by rw[V af];exact z,A⟩
    case measure=>exact g7W
   ·have aj:j=m:=(by have:=(V I).2;exact f6J);subst aj;have a:=O (V d _ _ _ ⟨l,f6J,by rw[B];exact L⟩ A);rw[show T=az from(V ab).symm.trans (V R)]at a;clear ab L l A B I d Y af Q R;go_wp2;go_ret;exact⟨_,rfl,V a⟩
def bnd(b:Int):Int×Int:=if b=224 then(160,191)else if b=237 then(128,159)else if b=240 then(144,191)else if b=244 then(128,143)else(128,191)
def x2U(w:World)(r:Int×Int)(e:Ending)(w':World):Prop:=e=.returned (.tuple #[.int .u8 r.1,.int .u8 r.2])/\w'=w
theorem x2U.mk{w}{r:Int×Int}{a b}(h:r=(a,b)):x2U w r (.returned (.tuple #[.int .u8 a,.int .u8 b])) w:=t5o
theorem x2Q b w(A:0<=b)(Z:b<=255):Calls prog 49 #[.int .u8 b] w (x2U w (bnd b)):=by
 have u:(b=224/\bnd b=(160,191))\/(b=237/\bnd b=(128,159))\/(b=240/\bnd b=(144,191))\/(b=244/\bnd b=(128,143))\/((b≠224/\b≠237/\b≠240/\b≠244)/\bnd b=(128,191)):=by
  unfold bnd;split
  ·simp[*]
  ·grind
 rcases u with⟨rfl,h⟩|⟨rfl,h⟩|⟨rfl,h⟩|⟨rfl,h⟩|⟨⟨S,z,D,G⟩,h⟩
 ·generalize bnd 224=r at *;exact n9j
 ·generalize bnd 237=r at *;exact n9j
 ·generalize bnd 240=r at *;exact n9j
 ·generalize bnd 244=r at *;exact n9j
 ·generalize bnd b=r at *;exact n9j
def onb(zs:List Int)(k:Nat)(lo hi:Int):Bool:=decide (k<zs.length/\lo<=zs.getD k 0/\zs.getD k 0<=hi)
theorem x1L s(k:Nat) lo hi w(G:k<=s.size):Calls prog 50 #[.string s,.int .i64 k,.int .u8 lo,.int .u8 hi] w (fun e w'=>e=.returned (.bool (onb (nums s) k lo hi))/\w'=w):=by
 have E:=nums_length s;by_cases H:k<s.size
 ·have N:=x2t s k k rfl H;by_cases Z:lo<=(nums s).getD k 0
  ·by_cases D:(nums s).getD k 0<=hi
   ·have u:onb (nums s) k lo hi=true:=d0t ⟨f6J,Z,D⟩;exact p7M
   ·exact P9o
  ·exact P9o
 ·have u:onb (nums s) k lo hi=false:=d0f f6J;rw[u];clear u;go_enter func50,ntmps50;exact t6v
theorem x0H c b w(L:0<=c)(o:c<=32767)(A:0<=b)(E:b<=255):Calls prog 51 #[.int .i32 c,.int .u8 b] w (fun e w'=>e=.returned (.int .i32 (c*64+b%64))/\w'=w):=by
 go_enter func51,ntmps51;exact t6u
theorem z2U zs:Utf.dec 0 zs=Utf.glue [] (Utf.dec 0 (zs.drop 0)):=by
 rw[List.drop_zero,Utf.y3N]
 ·intro h;rcases Utf.dec_shape _ 0 zs (l0r _)with Z|⟨q,Z,_⟩
  ·exact Z.2.1
  ·rw[Z]at h;simp at h
 ·intro h;rcases Utf.dec_shape _ 0 zs (l0r _)with Z|⟨q,Z,_⟩
  ·exact absurd Z.1 h
  ·rw[Z]
def S0(s:ByteArray)(zs:List Int)(r:List Int×Int×Int)(w:World)(k:Nat)(xs:List Int)(v:Value)(wr:World):Prop :=
 k<=s.size/\Ok .i32 21 wr w.heap.size v xs/\xs.length<=k/\Below w.heap.size w wr/\r=Utf.glue xs (Utf.dec k (zs.drop k))
def mx:Nat->Int
 | 3=>7
 | 2=>511
 | 1=>32767
 | _=>2097151
def Sn(s:ByteArray)(zs:List Int)(r:List Int×Int×Int)(w:World)(n k:Nat)(xs:List Int)(v:Value)(c lo hi:Int)(wr:World):Prop :=
 k<=s.size/\Ok .i32 21 wr w.heap.size v xs/\xs.length+1<=k/\Below w.heap.size w wr/\0<=c/\c<=mx n/\r=Utf.fin xs zs (Utf.x0I n lo hi c k (zs.drop k))
def Fr(s:ByteArray)(v:Value)(k:Nat)(a:Act):Prop:=a.defers=[]/\a.tmps.size=110/\a.tmps.getD 0 undef=.string s/\a.tmps.getD 1 undef=undef/\a.tmps.getD 2 undef=v/\a.tmps.getD 3 undef=.int .i64 (k:Int)/\a.tmps.getD 4 undef=.bool false
def Fc(c:Int)(a:Act):Prop:=a.tmps.getD 5 undef=.int .i32 c
def Fb(lo hi:Int)(a:Act):Prop:=a.tmps.getD 7 undef=.int .u8 lo/\a.tmps.getD 8 undef=.int .u8 hi
theorem z2s l n(h:l.length=n):l=(List.range n).map (fun i=>l.getD i undef):=by
 apply List.ext_getElem
 ·simp[h]
 ·grind
theorem Fr.open{s v k a}(h:Fr s v k a):∃U:Nat->Value,(∀i,a.tmps.getD i undef=U i)/\a=({ tmps:=#[.string s,undef,v,.int .i64 (k:Int),.bool false,U 5,U 6,U 7,U 8,U 9,U 10,U 11,U 12,U 13,U 14,U 15,U 16,U 17,U 18,U 19,U 20,U 21,U 22,U 23,U 24,U 25,U 26,U 27,U 28,U 29,U 30,U 31,U 32,U 33,U 34,U 35,U 36,U 37,U 38,U 39,U 40,U 41,U 42,U 43,U 44,U 45,U 46,U 47,U 48,U 49,U 50,U 51,U 52,U 53,U 54,U 55,U 56,U 57,U 58,U 59,U 60,U 61,U 62,U 63,U 64,U 65,U 66,U 67,U 68,U 69,U 70,U 71,U 72,U 73,U 74,U 75,U 76,U 77,U 78,U 79,U 80,U 81,U 82,U 83,U 84,U 85,U 86,U 87,U 88,U 89,U 90,U 91,U 92,U 93,U 94,U 95,U 96,U 97,U 98,U 99,U 100,U 101,U 102,U 103,U 104,U 105,U 106,U 107,U 108,U 109],defers:=[] }:Act):=by
 obtain⟨t,d⟩:=a;obtain⟨Z,D,R,H,p,F,o⟩:=h;refine⟨fun i=>t.getD i undef,fun i=>rfl,?_⟩;simp only at Z D R H p F o;subst Z;congr 1;rw[<- R,<- p,<- F,<- o];obtain⟨l⟩:=t;have S:l.length=110:=(by simpa using D);apply congrArg Array.mk;have e:=z2s l 110 S;rw[show(List.range 110).map (fun i=>l.getD i undef)=[l.getD 0 undef,l.getD 1 undef,l.getD 2 undef,l.getD 3 undef,l.getD 4 undef,l.getD 5 undef,l.getD 6 undef,l.getD 7 undef,l.getD 8 undef,l.getD 9 undef,l.getD 10 undef,l.getD 11 undef,l.getD 12 undef,l.getD 13 undef,l.getD 14 undef,l.getD 15 undef,l.getD 16 undef,l.getD 17 undef,l.getD 18 undef,l.getD 19 undef,l.getD 20 undef,l.getD 21 undef,l.getD 22 undef,l.getD 23 undef,l.getD 24 undef,l.getD 25 undef,l.getD 26 undef,l.getD 27 undef,l.getD 28 undef,l.getD 29 undef,l.getD 30 undef,l.getD 31 undef,l.getD 32 undef,l.getD 33 undef,l.getD 34 undef,l.getD 35 undef,l.getD 36 undef,l.getD 37 undef,l.getD 38 undef,l.getD 39 undef,l.getD 40 undef,l.getD 41 undef,l.getD 42 undef,l.getD 43 undef,l.getD 44 undef,l.getD 45 undef,l.getD 46 undef,l.getD 47 undef,l.getD 48 undef,l.getD 49 undef,l.getD 50 undef,l.getD 51 undef,l.getD 52 undef,l.getD 53 undef,l.getD 54 undef,l.getD 55 undef,l.getD 56 undef,l.getD 57 undef,l.getD 58 undef,l.getD 59 undef,l.getD 60 undef,l.getD 61 undef,l.getD 62 undef,l.getD 63 undef,l.getD 64 undef,l.getD 65 undef,l.getD 66 undef,l.getD 67 undef,l.getD 68 undef,l.getD 69 undef,l.getD 70 undef,l.getD 71 undef,l.getD 72 undef,l.getD 73 undef,l.getD 74 undef,l.getD 75 undef,l.getD 76 undef,l.getD 77 undef,l.getD 78 undef,l.getD 79 undef,l.getD 80 undef,l.getD 81 undef,l.getD 82 undef,l.getD 83 undef,l.getD 84 undef,l.getD 85 undef,l.getD 86 undef,l.getD 87 undef,l.getD 88 undef,l.getD 89 undef,l.getD 90 undef,l.getD 91 undef,l.getD 92 undef,l.getD 93 undef,l.getD 94 undef,l.getD 95 undef,l.getD 96 undef,l.getD 97 undef,l.getD 98 undef,l.getD 99 undef,l.getD 100 undef,l.getD 101 undef,l.getD 102 undef,l.getD 103 undef,l.getD 104 undef,l.getD 105 undef,l.getD 106 undef,l.getD 107 undef,l.getD 108 undef,l.getD 109 undef]from rfl]at e;have g:∀i,(Array.mk l).getD i undef=l.getD i undef:=fun i=>m9N;have A:l.getD 1 undef=undef:=(by grind);simp only[g];rw[A]at e;exact e
def Jf(s:ByteArray)(zs:List Int)(r:List Int×Int×Int)(w:World):Nat->Act->World->Prop
 | 0,a,wr=>∃(k:Nat) (xs:List Int) (v:Value),Fr s v k a/\S0 s zs r w k xs v wr
 | 1,a,wr=>∃(k:Nat) (xs:List Int) (v:Value) (c lo hi:Int),Fr s v k a/\Fc c a/\Sn s zs r w 0 k xs v c lo hi wr
 | 2,a,wr=>∃(k:Nat) (xs:List Int) (v:Value) (c lo hi:Int),Fr s v k a/\Fc c a/\Fb lo hi a/\Sn s zs r w 1 k xs v c lo hi wr
 | 3,a,wr=>∃(k:Nat) (xs:List Int) (v:Value) (c lo hi:Int),Fr s v k a/\Fc c a/\Fb lo hi a/\Sn s zs r w 2 k xs v c lo hi wr
 | 4,a,wr=>∃(k:Nat) (xs:List Int) (v:Value) (c lo hi:Int),Fr s v k a/\Fc c a/\Fb lo hi a/\Sn s zs r w 3 k xs v c lo hi wr
 | 5,a,wr=>∃(k:Nat) (v:Value),Fr s v k a/\k<=s.size/\r=([],(k:Int),30)/\Below w.heap.size w wr
 | _,_,_=>False
def mes(N l:Nat)(a:Act):Nat:=if l=5 then 0 else 2*(N-(intOf (a.tmps.getD 3 undef)).toNat)+(if l=0 then 0 else 1)
def mez(N l k:Nat):Nat:=if l=5 then 0 else 2*(N-k)+(if l=0 then 0 else 1)
theorem x1C{N l l2 k k2 a a2}(h:a.tmps.getD 3 undef=.int .i64 (k:Int))(D:a2.tmps.getD 3 undef=.int .i64 (k2:Int))(z:mez N l2 k2<mez N l k):mes N l2 a2<mes N l a:=by
 unfold mes;rw[h,D];exact z
def x5P(w:World)(r:List Int×Int×Int)(e:Ending)(w':World):Prop :=
 (∃v p xs,e=.returned (.tuple #[v,.int .i64 p,.bool true])/\Ok .i32 21 w' w.heap.size v xs/\r=(xs,0,0)/\Below w.heap.size w w') \/
  (∃p,r=([],p,30)/\e=.returned (.tuple #[.slice none 0 0,.int .i64 p,.bool false])/\Below w.heap.size w w')
theorem ways b:(b<=127/\Utf.lead b=some (0,0,0,b))\/((194<=b/\b<=223)/\Utf.lead b=some (1,(bnd b).1,(bnd b).2,b%32))\/((224<=b/\b<=239)/\Utf.lead b=some (2,(bnd b).1,(bnd b).2,b%16)) \/
  ((240<=b/\b<=244)/\Utf.lead b=some (3,(bnd b).1,(bnd b).2,b%8))\/((128<=b/\b<194)/\Utf.lead b=none)\/(244<b/\Utf.lead b=none):=by
 by_cases Z:b<=127
 ·exact .inl ⟨Z,by unfold Utf.lead;rw[if_pos f6J]⟩
 ·by_cases D:194<=b/\b<=223
  ·refine .inr (.inl ⟨D,?_⟩);rw[Utf.z5U D];unfold bnd;rw[if_neg f6J,if_neg f6J,if_neg f6J,if_neg f6J]
  ·by_cases R:224<=b/\b<=239
   ·refine .inr (.inr (.inl ⟨R,?_⟩));rw[Utf.z5V R];unfold bnd;by_cases P:b=224
    ·subst P;simp
    ·grind
   ·by_cases H:240<=b/\b<=244
    ·refine .inr (.inr (.inr (.inl ⟨H,?_⟩)));rw[Utf.z5W H];unfold bnd;by_cases P:b=240
     ·subst P;simp
     ·grind
    ·have E:Utf.lead b=none:=by
      unfold Utf.lead;rw[if_neg f6J,if_neg D,if_neg f6J,if_neg f6J,if_neg f6J,if_neg f6J,if_neg f6J,if_neg f6J]
     by_cases p:b<194
     ·exact .inr (.inr (.inr (.inr (.inl ⟨⟨f6J,p⟩,E⟩))))
     ·exact .inr (.inr (.inr (.inr (.inr ⟨f6J,E⟩))))
theorem Sn.first{s zs r w}{k n xs v wr}{lo hi c}(h:S0 s zs r w k xs v wr)(o:zs.length=s.size)(G:k<s.size)(S:Utf.lead (zs.getD k 0)=some (n,lo,hi,c))(A:0<=c)(Z:c<=mx n):Sn s zs r w n (k+1) xs v c lo hi wr:=by
 obtain⟨L,P,t,M,Q⟩:=h;have:=Utf.x7R f6J Q;rw[S]at this;exact⟨f6J,P,f6J,M,A,Z,this⟩
theorem S0.none{s zs r w}{k xs v wr}(h:S0 s zs r w k xs v wr)(o:zs.length=s.size)(G:k<s.size)(S:Utf.lead (zs.getD k 0)=none):r=([],(k:Int),30):=by
 have:=Utf.x7R f6J h.2.2.2.2;rw[S]at this;exact this
theorem z6h{n c}(E:n<=2)(A:0<=c)(Z:c<=mx (n+1)) y:0<=c*64+y%64/\c*64+y%64<=mx n:=by
 match n,E with
 | 0,_=>exact R4Q
 | 1,_=>exact R4Q
 | 2,_=>exact R4Q
theorem y5J{n c}(E:n<=2)(Z:c<=mx (n+1)):c<=32767:=by
 match n,E with
 | 0,_=>simp only[mx]at Z;omega
 | 1,_=>simp only[mx]at Z;omega
 | 2,_=>simp only[mx]at Z;omega
theorem x3k{zs k lo hi}:onb zs k lo hi=true↔k<zs.length/\lo<=zs.getD k 0/\zs.getD k 0<=hi:=by unfold onb;exact decide_eq_true_iff
theorem Sn.next{s zs r w}{k n xs v wr}{lo hi c}(h:Sn s zs r w (n+1) k xs v c lo hi wr)(E:n<=2)(o:zs.length=s.size)(y:onb zs k lo hi=true) :
  Sn s zs r w n (k+1) xs v (c*64+zs.getD k 0%64) 128 191 wr:=by
 obtain⟨L,P,t,M,Q,B,A⟩:=h;obtain⟨b1,m,b⟩:=x3k.1 y;have:=z6h E Q B (zs.getD k 0);exact⟨f6J,P,f6J,M,this.1,this.2,Utf.y9k b1 m b A⟩
theorem Sn.bad{s zs r w}{k n xs v wr}{lo hi c}(h:Sn s zs r w (n+1) k xs v c lo hi wr)(o:zs.length=s.size)(y:onb zs k lo hi=false):r=([],(k:Int),30):=by
 obtain⟨L,P,t,M,Q,B,A⟩:=h;have X:¬(k<zs.length/\lo<=zs.getD k 0/\zs.getD k 0<=hi):=fun h=>(by rw[x3k.2 h]at y;cases y);rcases Nat.lt_or_ge k zs.length with h1|h1
 ·exact Utf.z2x h1 f6J A
 ·exact Utf.z2y f6J A
theorem z2W s w(hs:s.size<=1000000000):Calls prog 27 #[.string s] w (x5P w (Utf.dec 0 (nums s))):=by
 obtain⟨i0,aw,f,p,t⟩:=info_parts Tryz.info21;have aA:=nums_length s;have Q:=z2U (nums s);generalize Utf.dec 0 (nums s)=r at *;obtain⟨y,aB⟩:∃y,nums s=y:=⟨_,rfl⟩;rw[aB]at aA Q;have aC:=O Q;have R:=O aB;have E:=O aA;clear Q aB aA;go_enter func27,ntmps27;go_wp2;refine x2R (Jf s y r w) (fun l a _=>mes s.size l a) ?hf ?first ?pass
 case hf =>
  intro l a wr h
  match l,h with
  | 0,_=>rfl
  | 1,_=>rfl
  | 2,_=>rfl
  | 3,_=>rfl
  | 4,_=>rfl
  | 5,_=>rfl
  | (l+6),h=>exact h.elim
 case first =>
  have z:S0 s y r w 0 [] (.slice none 0 0) w:=⟨f6J,Ok.nil _ _ _ _,by simp,b0r,V aC⟩;go_wp2;go_step3;obtain⟨G,X,ar,A,u⟩:=id z;by_cases H:0<s.size
  ·have J:=fun w=>x2t s (0:Int) 0 rfl H w;have ab:=(x1i (x0w s)).u8at 0;rw[V R]at J ab;have HB:=fun w=>O (x2Q (y.getD 0 0) w ab.1 ab.2);have aF:((0:Int)==(s.size:Int))=false:=P8P;have M:=V E;rcases ways (y.getD 0 0)with⟨q,S⟩|⟨⟨q1,q2⟩,S⟩|⟨⟨q1,q2⟩,S⟩|⟨⟨q1,q2⟩,S⟩|⟨⟨q1,q2⟩,S⟩|⟨q,S⟩
   ·have HT:=O (Sn.first z M H S f6J t1E);clear z u X S M;generalize bnd (y.getD 0 0)=bq at *;obtain⟨i,T⟩:=bq;generalize y.getD 0 0=b at *;go_wp2_with fail;refine(V (HB _)).mono ?_;rintro e w ⟨rfl,rfl⟩;clear HB J;go_wp2;go_step3;show Jf s y r w 1 _ _;exact⟨1,[],.slice none 0 0,b,0,0,⟨rfl,rfl,rfl,rfl,rfl,rfl,rfl⟩,rfl,V HT⟩
   ·have HT:=O (Sn.first z M H S f6J t1E);clear z u X S M;generalize bnd (y.getD 0 0)=bq at *;obtain⟨i,T⟩:=bq;generalize y.getD 0 0=b at *;go_wp2_with fail;refine(V (HB _)).mono ?_;rintro e w ⟨rfl,rfl⟩;clear HB J;go_wp2;go_step3;show Jf s y r w 2 _ _;exact⟨1,[],.slice none 0 0,b%32,i,T,⟨rfl,rfl,rfl,rfl,rfl,rfl,rfl⟩,rfl,⟨rfl,rfl⟩,V HT⟩
   ·have HT:=O (Sn.first z M H S f6J t1E);clear z u X S M;generalize bnd (y.getD 0 0)=bq at *;obtain⟨i,T⟩:=bq;generalize y.getD 0 0=b at *;go_wp2_with fail;refine(V (HB _)).mono ?_;rintro e w ⟨rfl,rfl⟩;clear HB J;go_wp2;go_step3;show Jf s y r w 3 _ _;exact⟨1,[],.slice none 0 0,b%16,i,T,⟨rfl,rfl,rfl,rfl,rfl,rfl,rfl⟩,rfl,⟨rfl,rfl⟩,V HT⟩
   ·have HT:=O (Sn.first z M H S f6J t1E);clear z u X S M;generalize bnd (y.getD 0 0)=bq at *;obtain⟨i,T⟩:=bq;generalize y.getD 0 0=b at *;go_wp2_with fail;refine(V (HB _)).mono ?_;rintro e w ⟨rfl,rfl⟩;clear HB J;go_wp2;go_step3;show Jf s y r w 4 _ _;exact⟨1,[],.slice none 0 0,b%8,i,T,⟨rfl,rfl,rfl,rfl,rfl,rfl,rfl⟩,rfl,⟨rfl,rfl⟩,V HT⟩
   ·exact e0V
   ·exact e0V
  ·have f:s.size=0:=f6J;have m:=Utf.y0a (by have:=V E;exact f6J) u;have HF:x5P w r (.returned (.tuple #[.slice none 0 0,.int .i64 0,.bool true])) w:=.inl ⟨_,_,[],rfl,X,m,A⟩;clear z u X m;go_wp2;go_ret3;exact HF
 case pass =>
  intro l a wr h
  match l,h with
  | (l+6),h=>exact h.elim
  | 0,h =>
   obtain⟨k,L,v,g,z⟩:=h;obtain⟨U,hU,rfl⟩:=g.open;clear g hU
   conv=>arg 2;whnf
   obtain⟨G,X,ar,A,u⟩:=id z;by_cases H:k<s.size
   ·have J:=fun w=>x2t s (k:Int) k rfl H w;have ab:=(x1i (x0w s)).u8at k;rw[V R]at J ab;have HB:=fun w=>O (x2Q (y.getD k 0) w ab.1 ab.2);have aF:((k:Int)==(s.size:Int))=false:=P8P;have M:=V E;rcases ways (y.getD k 0)with⟨q,S⟩|⟨⟨q1,q2⟩,S⟩|⟨⟨q1,q2⟩,S⟩|⟨⟨q1,q2⟩,S⟩|⟨⟨q1,q2⟩,S⟩|⟨q,S⟩
    ·have HT:=O (Sn.first z M H S f6J t1E);clear z u X S M;generalize bnd (y.getD k 0)=bq at *;obtain⟨i,T⟩:=bq;generalize y.getD k 0=b at *;go_wp2_with fail;refine(V (HB _)).mono ?_;rintro e wr ⟨rfl,rfl⟩;clear HB J;go_wp2;go_step3;show Jf s y r w 1 _ _/\_;exact⟨⟨k+1,L,v,b,0,0,⟨rfl,rfl,rfl,rfl,rfl,rfl,rfl⟩,rfl,V HT⟩,x1C (k:=k) (k2:=k+1) rfl rfl T7y⟩
    ·have HT:=O (Sn.first z M H S f6J t1E);clear z u X S M;generalize bnd (y.getD k 0)=bq at *;obtain⟨i,T⟩:=bq;generalize y.getD k 0=b at *;go_wp2_with fail;refine(V (HB _)).mono ?_;rintro e wr ⟨rfl,rfl⟩;clear HB J;go_wp2;go_step3;show Jf s y r w 2 _ _/\_;exact⟨⟨k+1,L,v,b%32,i,T,⟨rfl,rfl,rfl,rfl,rfl,rfl,rfl⟩,rfl,⟨rfl,rfl⟩,V HT⟩,x1C (k:=k) (k2:=k+1) rfl rfl T7y⟩
    ·have HT:=O (Sn.first z M H S f6J t1E);clear z u X S M;generalize bnd (y.getD k 0)=bq at *;obtain⟨i,T⟩:=bq;generalize y.getD k 0=b at *;go_wp2_with fail;refine(V (HB _)).mono ?_;rintro e wr ⟨rfl,rfl⟩;clear HB J;go_wp2;go_step3;show Jf s y r w 3 _ _/\_;exact⟨⟨k+1,L,v,b%16,i,T,⟨rfl,rfl,rfl,rfl,rfl,rfl,rfl⟩,rfl,⟨rfl,rfl⟩,V HT⟩,x1C (k:=k) (k2:=k+1) rfl rfl T7y⟩
    ·have HT:=O (Sn.first z M H S f6J t1E);clear z u X S M;generalize bnd (y.getD k 0)=bq at *;obtain⟨i,T⟩:=bq;generalize y.getD k 0=b at *;go_wp2_with fail;refine(V (HB _)).mono ?_;rintro e wr ⟨rfl,rfl⟩;clear HB J;go_wp2;go_step3;show Jf s y r w 4 _ _/\_;exact⟨⟨k+1,L,v,b%8,i,T,⟨rfl,rfl,rfl,rfl,rfl,rfl,rfl⟩,rfl,⟨rfl,rfl⟩,V HT⟩,x1C (k:=k) (k2:=k+1) rfl rfl T7y⟩
    ·exact w1k
    ·exact w1k
   ·obtain rfl:k=s.size:=f6J;have m:=Utf.y0a (by have:=V E;exact f6J) u;have HF:x5P w r (.returned (.tuple #[v,.int .i64 (s.size:Int),.bool true])) wr:=.inl ⟨v,_,L,rfl,X,m,A⟩;clear z u X m;go_wp2;go_ret3;exact HF
  | 1,h =>
   obtain⟨k,L,v,c,lo,hi,g,I,z⟩:=h;obtain⟨U,hU,rfl⟩:=g.open;have F:U 5=.int .i32 c:=(hU 5).symm.trans I;rw[F];clear g hU I F
   conv=>arg 2;whnf
   obtain⟨G,X,ar,A,az,o,u⟩:=id z;have aj:=O (Utf.x4q u);have am:=A.size;simp only[mx]at o;clear z u;go_wp2_with(at_builtin;refine wpList_append_own _ rfl (.tmp 105) (.tmp 107) 40 rfl w.heap.size 21 i0 (.int .i32 0) 1 4 underlying40 aw f p t rfl e8P _ _ _ rfl (X.row.alloc _) ⟨wr.heap.size,0,none⟩ 1 1 [.int .i32 c] rfl rfl (cell_one_new _ _ _) (x0J .i32 c) T7X f6J P8P ?_);intro v9 w9 x ae _;have aq:Ok .i32 21 w9 w.heap.size v9 (L++[c]):=Ok.of (X.1.snoc (x0T f6J)) P8P x (by simp) (by simp);have d:Bw w w9:=x0p am X.row A ae;clear x ae X A;go_wp2;go_step3;show Jf s y r w 0 _ _/\_;exact⟨⟨k,L++[c],v9,⟨rfl,rfl,rfl,rfl,rfl,rfl,rfl⟩,⟨G,aq,P8P,d,V aj⟩⟩,x1C (k:=k) (k2:=k) rfl rfl T7y⟩
  | 2,h =>
   obtain⟨k,L,v,c,lo,hi,g,I,⟨af,Z⟩,z⟩:=h;obtain⟨U,hU,rfl⟩:=g.open;have F:U 5=.int .i32 c:=(hU 5).symm.trans I;have D:U 7=.int .u8 lo:=(hU 7).symm.trans af;have ag:U 8=.int .u8 hi:=(hU 8).symm.trans Z;rw[F,D,ag];clear g hU I F af Z D ag
   conv=>arg 2;whnf
   have W:=fun w=>O (x1L s k lo hi w z.1);rw[V R]at W
   cases ho:onb y k lo hi with
   | false =>
    have HT:=O (Sn.bad z (V E) ho);have G:=z.1;have A:=z.2.2.2.1;rw[ho]at W;clear z ho;go_wp2_with fail;refine(V (W _)).mono ?_;rintro e wr ⟨rfl,rfl⟩;clear W;go_wp2;go_step3;show Jf s y r w 5 _ _/\_;exact⟨⟨k,v,⟨rfl,rfl,rfl,rfl,rfl,rfl,rfl⟩,G,V HT,A⟩,x1C (k:=k) (k2:=k) rfl rfl T7y⟩
   | true =>
    have HT:=O (Sn.next z f6J (V E) ho);have H:k<s.size:=W4S;have J:=fun w=>x2t s (k:Int) k rfl H w;have ab:=(x1i (x0w s)).u8at k;rw[V R]at J ab;have Y:=fun w=>O (x0H c (y.getD k 0) w z.2.2.2.2.1 (y5J (n:=0) f6J z.2.2.2.2.2.1) ab.1 ab.2);rw[ho]at W;clear z ho;generalize y.getD k 0=b at *;go_wp2_with fail;refine(V (W _)).mono ?_;rintro e wr ⟨rfl,rfl⟩;clear W;go_wp2_with fail;refine(V (Y _)).mono ?_;rintro e wr ⟨rfl,rfl⟩;clear Y J;go_wp2;go_step3;have z:=V HT;clear HT ab;have P:(k:Int)+1=((k+1:Nat):Int):=f6J;rw[P];obtain⟨j,C⟩:∃c':Int,c*64+b%64=c':=⟨_,rfl⟩;rw[C]at z ⊢;obtain⟨B,N⟩:∃k',k+1=k':=⟨_,rfl⟩;rw[N]at z P ⊢;have ai:=O N;clear P N H C;obtain⟨G,X,ar,A,az,o,u⟩:=id z;have aj:=O (Utf.x4q u);have am:=A.size;simp only[mx]at o;clear z u;go_wp2_with(at_builtin;refine wpList_append_own _ rfl (.tmp 105) (.tmp 107) 40 rfl w.heap.size 21 i0 (.int .i32 0) 1 4 underlying40 aw f p t rfl e8P _ _ _ rfl (X.row.alloc _) ⟨wr.heap.size,0,none⟩ 1 1 [.int .i32 j] rfl rfl (cell_one_new _ _ _) (x0J .i32 j) T7X f6J P8P ?_);intro v9 w9 x ae _;have aq:Ok .i32 21 w9 w.heap.size v9 (L++[j]):=Ok.of (X.1.snoc (x0T f6J)) P8P x (by simp) (by simp);have d:Bw w w9:=x0p am X.row A ae;clear x ae X A;go_wp2;go_step3;show Jf s y r w 0 _ _/\_;exact⟨⟨B,L++[j],v9,⟨rfl,rfl,rfl,rfl,rfl,rfl,rfl⟩,⟨G,aq,P8P,d,V aj⟩⟩,x1C (k:=k) (k2:=B) rfl rfl I0M⟩
  | 3,h =>
   obtain⟨k,L,v,c,lo,hi,g,I,⟨af,Z⟩,z⟩:=h;obtain⟨U,hU,rfl⟩:=g.open;have F:U 5=.int .i32 c:=(hU 5).symm.trans I;have D:U 7=.int .u8 lo:=(hU 7).symm.trans af;have ag:U 8=.int .u8 hi:=(hU 8).symm.trans Z;rw[F,D,ag];clear g hU I F af Z D ag
   conv=>arg 2;whnf
   have W:=fun w=>O (x1L s k lo hi w z.1);rw[V R]at W
   cases ho:onb y k lo hi with
   | false =>
    have HT:=O (Sn.bad z (V E) ho);have G:=z.1;have A:=z.2.2.2.1;rw[ho]at W;clear z ho;go_wp2_with fail;refine(V (W _)).mono ?_;rintro e wr ⟨rfl,rfl⟩;clear W;go_wp2;go_step3;show Jf s y r w 5 _ _/\_;exact⟨⟨k,v,⟨rfl,rfl,rfl,rfl,rfl,rfl,rfl⟩,G,V HT,A⟩,x1C (k:=k) (k2:=k) rfl rfl T7y⟩
   | true =>
    have HT:=O (Sn.next z f6J (V E) ho);have H:k<s.size:=W4S;have J:=fun w=>x2t s (k:Int) k rfl H w;have ab:=(x1i (x0w s)).u8at k;rw[V R]at J ab;have Y:=fun w=>O (x0H c (y.getD k 0) w z.2.2.2.2.1 (y5J (n:=1) f6J z.2.2.2.2.2.1) ab.1 ab.2);rw[ho]at W;clear z ho;generalize y.getD k 0=b at *;go_wp2_with fail;refine(V (W _)).mono ?_;rintro e wr ⟨rfl,rfl⟩;clear W;go_wp2_with fail;refine(V (Y _)).mono ?_;rintro e wr ⟨rfl,rfl⟩;clear Y J;go_wp2;go_step3;have z:=V HT;clear HT ab;have P:(k:Int)+1=((k+1:Nat):Int):=f6J;rw[P];obtain⟨j,C⟩:∃c':Int,c*64+b%64=c':=⟨_,rfl⟩;rw[C]at z ⊢;obtain⟨B,N⟩:∃k',k+1=k':=⟨_,rfl⟩;rw[N]at z P ⊢;have ai:=O N;clear P N H C;have W:=fun w=>O (x1L s B 128 191 w z.1);rw[V R]at W
    cases ho:onb y B 128 191 with
    | false =>
     have HT:=O (Sn.bad z (V E) ho);have G:=z.1;have A:=z.2.2.2.1;rw[ho]at W;clear z ho;go_wp2_with fail;refine(V (W _)).mono ?_;rintro e wr ⟨rfl,rfl⟩;clear W;go_wp2;go_step3;show Jf s y r w 5 _ _/\_;exact⟨⟨B,v,⟨rfl,rfl,rfl,rfl,rfl,rfl,rfl⟩,G,V HT,A⟩,x1C (k:=k) (k2:=B) rfl rfl I0M⟩
    | true =>
     have HT:=O (Sn.next z f6J (V E) ho);have H:B<s.size:=W4S;have J:=fun w=>x2t s (B:Int) B rfl H w;have ab:=(x1i (x0w s)).u8at B;rw[V R]at J ab;have Y:=fun w=>O (x0H j (y.getD B 0) w z.2.2.2.2.1 (y5J (n:=0) f6J z.2.2.2.2.2.1) ab.1 ab.2);rw[ho]at W;clear z ho;generalize y.getD B 0=b at *;go_wp2_with fail;refine(V (W _)).mono ?_;rintro e wr ⟨rfl,rfl⟩;clear W;go_wp2_with fail;refine(V (Y _)).mono ?_;rintro e wr ⟨rfl,rfl⟩;clear Y J;go_wp2;go_step3;have z:=V HT;clear HT ab;have P:(B:Int)+1=((B+1:Nat):Int):=f6J;rw[P];obtain⟨K,C⟩:∃c':Int,j*64+b%64=c':=⟨_,rfl⟩;rw[C]at z ⊢;obtain⟨k2,N⟩:∃k',B+1=k':=⟨_,rfl⟩;rw[N]at z P ⊢;have ay:=O N;clear P N H C;obtain⟨G,X,ar,A,az,o,u⟩:=id z;have aj:=O (Utf.x4q u);have am:=A.size;simp only[mx]at o;clear z u;go_wp2_with(at_builtin;refine wpList_append_own _ rfl (.tmp 105) (.tmp 107) 40 rfl w.heap.size 21 i0 (.int .i32 0) 1 4 underlying40 aw f p t rfl e8P _ _ _ rfl (X.row.alloc _) ⟨wr.heap.size,0,none⟩ 1 1 [.int .i32 K] rfl rfl (cell_one_new _ _ _) (x0J .i32 K) T7X f6J P8P ?_);intro v9 w9 x ae _;have aq:Ok .i32 21 w9 w.heap.size v9 (L++[K]):=Ok.of (X.1.snoc (x0T f6J)) P8P x (by simp) (by simp);have d:Bw w w9:=x0p am X.row A ae;clear x ae X A;go_wp2;go_step3;show Jf s y r w 0 _ _/\_;exact⟨⟨k2,L++[K],v9,⟨rfl,rfl,rfl,rfl,rfl,rfl,rfl⟩,⟨G,aq,P8P,d,V aj⟩⟩,x1C (k:=k) (k2:=k2) rfl rfl m0v⟩
  | 4,h =>
   obtain⟨k,L,v,c,lo,hi,g,I,⟨af,Z⟩,z⟩:=h;obtain⟨U,hU,rfl⟩:=g.open;have F:U 5=.int .i32 c:=(hU 5).symm.trans I;have D:U 7=.int .u8 lo:=(hU 7).symm.trans af;have ag:U 8=.int .u8 hi:=(hU 8).symm.trans Z;rw[F,D,ag];clear g hU I F af Z D ag
   conv=>arg 2;whnf
   have W:=fun w=>O (x1L s k lo hi w z.1);rw[V R]at W
   cases ho:onb y k lo hi with
   | false =>
    have HT:=O (Sn.bad z (V E) ho);have G:=z.1;have A:=z.2.2.2.1;rw[ho]at W;clear z ho;go_wp2_with fail;refine(V (W _)).mono ?_;rintro e wr ⟨rfl,rfl⟩;clear W;go_wp2;go_step3;show Jf s y r w 5 _ _/\_;exact⟨⟨k,v,⟨rfl,rfl,rfl,rfl,rfl,rfl,rfl⟩,G,V HT,A⟩,x1C (k:=k) (k2:=k) rfl rfl T7y⟩
   | true =>
    have HT:=O (Sn.next z f6J (V E) ho);have H:k<s.size:=W4S;have J:=fun w=>x2t s (k:Int) k rfl H w;have ab:=(x1i (x0w s)).u8at k;rw[V R]at J ab;have Y:=fun w=>O (x0H c (y.getD k 0) w z.2.2.2.2.1 (y5J (n:=2) f6J z.2.2.2.2.2.1) ab.1 ab.2);rw[ho]at W;clear z ho;generalize y.getD k 0=b at *;go_wp2_with fail;refine(V (W _)).mono ?_;rintro e wr ⟨rfl,rfl⟩;clear W;go_wp2_with fail;refine(V (Y _)).mono ?_;rintro e wr ⟨rfl,rfl⟩;clear Y J;go_wp2;go_step3;have z:=V HT;clear HT ab;have P:(k:Int)+1=((k+1:Nat):Int):=f6J;rw[P];obtain⟨j,C⟩:∃c':Int,c*64+b%64=c':=⟨_,rfl⟩;rw[C]at z ⊢;obtain⟨B,N⟩:∃k',k+1=k':=⟨_,rfl⟩;rw[N]at z P ⊢;have ai:=O N;clear P N H C;have W:=fun w=>O (x1L s B 128 191 w z.1);rw[V R]at W
    cases ho:onb y B 128 191 with
    | false =>
     have HT:=O (Sn.bad z (V E) ho);have G:=z.1;have A:=z.2.2.2.1;rw[ho]at W;clear z ho;go_wp2_with fail;refine(V (W _)).mono ?_;rintro e wr ⟨rfl,rfl⟩;clear W;go_wp2;go_step3;show Jf s y r w 5 _ _/\_;exact⟨⟨B,v,⟨rfl,rfl,rfl,rfl,rfl,rfl,rfl⟩,G,V HT,A⟩,x1C (k:=k) (k2:=B) rfl rfl I0M⟩
    | true =>
     have HT:=O (Sn.next z f6J (V E) ho);have H:B<s.size:=W4S;have J:=fun w=>x2t s (B:Int) B rfl H w;have ab:=(x1i (x0w s)).u8at B;rw[V R]at J ab;have Y:=fun w=>O (x0H j (y.getD B 0) w z.2.2.2.2.1 (y5J (n:=1) f6J z.2.2.2.2.2.1) ab.1 ab.2);rw[ho]at W;clear z ho;generalize y.getD B 0=b at *;go_wp2_with fail;refine(V (W _)).mono ?_;rintro e wr ⟨rfl,rfl⟩;clear W;go_wp2_with fail;refine(V (Y _)).mono ?_;rintro e wr ⟨rfl,rfl⟩;clear Y J;go_wp2;go_step3;have z:=V HT;clear HT ab;have P:(B:Int)+1=((B+1:Nat):Int):=f6J;rw[P];obtain⟨K,C⟩:∃c':Int,j*64+b%64=c':=⟨_,rfl⟩;rw[C]at z ⊢;obtain⟨k2,N⟩:∃k',B+1=k':=⟨_,rfl⟩;rw[N]at z P ⊢;have ay:=O N;clear P N H C;have W:=fun w=>O (x1L s k2 128 191 w z.1);rw[V R]at W
     cases ho:onb y k2 128 191 with
     | false =>
      have HT:=O (Sn.bad z (V E) ho);have G:=z.1;have A:=z.2.2.2.1;rw[ho]at W;clear z ho;go_wp2_with fail;refine(V (W _)).mono ?_;rintro e wr ⟨rfl,rfl⟩;clear W;go_wp2;go_step3;show Jf s y r w 5 _ _/\_;exact⟨⟨k2,v,⟨rfl,rfl,rfl,rfl,rfl,rfl,rfl⟩,G,V HT,A⟩,x1C (k:=k) (k2:=k2) rfl rfl m0v⟩
     | true =>
      have HT:=O (Sn.next z f6J (V E) ho);have H:k2<s.size:=W4S;have J:=fun w=>x2t s (k2:Int) k2 rfl H w;have ab:=(x1i (x0w s)).u8at k2;rw[V R]at J ab;have Y:=fun w=>O (x0H K (y.getD k2 0) w z.2.2.2.2.1 (y5J (n:=0) f6J z.2.2.2.2.2.1) ab.1 ab.2);rw[ho]at W;clear z ho;generalize y.getD k2 0=b at *;go_wp2_with fail;refine(V (W _)).mono ?_;rintro e wr ⟨rfl,rfl⟩;clear W;go_wp2_with fail;refine(V (Y _)).mono ?_;rintro e wr ⟨rfl,rfl⟩;clear Y J;go_wp2;go_step3;have z:=V HT;clear HT ab;have P:(k2:Int)+1=((k2+1:Nat):Int):=f6J;rw[P];obtain⟨c3,C⟩:∃c':Int,K*64+b%64=c':=⟨_,rfl⟩;rw[C]at z ⊢;obtain⟨k3,N⟩:∃k',k2+1=k':=⟨_,rfl⟩;rw[N]at z P ⊢;have aD:=O N;clear P N H C;obtain⟨G,X,ar,A,az,o,u⟩:=id z;have aj:=O (Utf.x4q u);have am:=A.size;simp only[mx]at o;clear z u;go_wp2_with(at_builtin;refine wpList_append_own _ rfl (.tmp 105) (.tmp 107) 40 rfl w.heap.size 21 i0 (.int .i32 0) 1 4 underlying40 aw f p t rfl e8P _ _ _ rfl (X.row.alloc _) ⟨wr.heap.size,0,none⟩ 1 1 [.int .i32 c3] rfl rfl (cell_one_new _ _ _) (x0J .i32 c3) T7X f6J P8P ?_);intro v9 w9 x ae _;have aq:Ok .i32 21 w9 w.heap.size v9 (L++[c3]):=Ok.of (X.1.snoc (x0T f6J)) P8P x (by simp) (by simp);have d:Bw w w9:=x0p am X.row A ae;clear x ae X A;go_wp2;go_step3;show Jf s y r w 0 _ _/\_;exact⟨⟨k3,L++[c3],v9,⟨rfl,rfl,rfl,rfl,rfl,rfl,rfl⟩,⟨G,aq,P8P,d,V aj⟩⟩,x1C (k:=k) (k2:=k3) rfl rfl (by have:=V ai;have:=V ay;have:=V aD;exact T7y)⟩
  | 5,h =>
   obtain⟨k,v,g,G,m,A⟩:=h;obtain⟨U,hU,rfl⟩:=g.open;clear g hU
   conv=>arg 2;whnf
   have HF:x5P w r (.returned (.tuple #[.slice none 0 0,.int .i64 (k:Int),.bool false])) wr:=.inr ⟨_,m,rfl,A⟩;clear m A;go_wp2;go_ret3;exact HF
theorem decC:DecC:=by
 intro s w U;have H:=O (z2W s w U);generalize Utf.dec 0 (nums s)=r at *;go_enter func13,ntmps13;go_wp2_with fail;refine(V H).mono ?_;clear H;rintro e Q (⟨v,p,L,rfl,X,m,Y⟩|⟨p,m,rfl,Y⟩)
 ·have T:=x3L.end (w:=w) m X Y;clear X m;exact i5F
 ·have T:=x3L.err (w:=w) m Y;clear m;exact i5F
