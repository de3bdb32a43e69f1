/- Ud9 Ue9 YMach3 YMachb3 -/
import Derived.Test.YtbmckadcjdedcaaGreatDoorD7
import Derived.Test.YtbmckadcjdedcaaGreatDoorD14
import Derived.Test.YtbmckadcjdedcaaGreatDoorD18
import Derived.Test.YtbmckadcjdedcaaGreatDoorD45
set_option maxHeartbeats 20000000
set_option maxRecDepth 40000
namespace Go.Proofs.YtbmckadcjdedcaaGreatDoor
section
variable{p:Prop}
theorem s7S(h:p:=by go_enter func49,ntmps49;go_wp2;go_ret2;exact x2O.mk h):p:=h
theorem s3Y(h:p:=by simp only[mx]at D ⊢;omega):p:=h
theorem e5T(h:p:=by
 have e:c+n+j*n=c+((j+1:Nat):Int)*n:=by
  rw[Int.natCast_add,Int.add_mul];simp;omega
 rw[e]):p:=h
theorem m3q(h:p:=by go_enter func137,ntmps137;exact r0p):p:=h
theorem p7M(h:p:=by rw[u];clear u;generalize(nums s).getD k 0=b at *;go_enter func50,ntmps50;exact t6v):p:=h
theorem i6u(h:p:=by simpa[Nat.add_assoc,Nat.add_comm 1]using h):p:=h
theorem P9o(h:p:=by have u:onb (nums s) k lo hi=false:=d0f f6J;exact p7M):p:=h
theorem v2p(h:p:=by have HT:=O (S0.none K F H S);clear K u y S F;generalize bnd (L.getD k 0)=E at *;obtain⟨j,Z⟩:=E;generalize L.getD k 0=b at *;go_wp2_with fail;refine(V (B _)).mono ?_;rintro e wr ⟨rfl,rfl⟩;clear B J;go_wp2;go_step3;show Jf s L r w 5 _ _/\_;exact⟨⟨k,v,⟨rfl,rfl,rfl,rfl,rfl,rfl,rfl⟩,G,V HT,A⟩,x1B (k:=k) (k2:=k) rfl rfl T7y⟩):p:=h
theorem W9j(h:p:=by have HT:=O (S0.none K F H S);clear K u y S F;generalize bnd (L.getD 0 0)=E at *;obtain⟨j,Z⟩:=E;generalize L.getD 0 0=b at *;go_wp2_with fail;refine(V (B _)).mono ?_;rintro e w ⟨rfl,rfl⟩;clear B J;go_wp2;go_step3;show Jf s L r w 5 _ _;exact⟨0,.slice none 0 0,⟨rfl,rfl,rfl,rfl,rfl,rfl,rfl⟩,G,V HT,A⟩):p:=h
theorem T7y(h:p:=by simp[mez]<;>omega):p:=h
theorem N1Z(h:p:=by go_wp2;go_ret;exact⟨_,rfl,V HR⟩):p:=h
theorem G4V(h:p:=by have:=(x3d.1 ho).1;have:=V hn;exact f6J):p:=h
theorem t1E(h:p:=by simp only[mx];exact f6J):p:=h
theorem G9p(h:p:=by have:=V aj;exact T7y):p:=h
theorem T9a(h:p:=by have:=V aj;have:=V ay;exact T7y):p:=h
end
end Go.Proofs.YtbmckadcjdedcaaGreatDoor
namespace Go.Proofs.YtbmckadcjdedcaaGreatDoor.Cn
open Go.Proofs.Tryz
open Ti
def dots(v n:Int):Nat->Int->List Tri.Rg
 | 0,_=>[]
 | k+1,c=>(c,c,v)::dots v n k (c+n)
def spoken(r:Rec)(v:Int):List Tri.Rg :=
 if r.kind≠4\/r.n=1 then[(r.lo,r.hi,v)]else dots v r.n ((r.hi-r.lo) / r.n+1).toNat r.lo
def value(r:Rec):Int:=if r.kind=1 then 1 else if r.kind=2 then 2 else if r.kind=3\/r.kind=4 then 3 else if r.kind=5 then 4 else if r.kind=11 then 1 else r.n
def famOf(f:Int)(rs:List Rec):List Rec:=rs.filter fun r=>decide (fam r.kind=f)
def rangesA(g:Nat->Rec->Int):Nat->List Rec->List Tri.Rg
 | _,[]=>[]
 | i,r::l=>spoken r (g i r)++rangesA g (i+1) l
theorem x5M{v n:Int}{x:Tri.Rg}:∀(k:Nat) (c:Int),x∈dots v n k c↔∃j:Nat,j<k/\x=(c+j*n,c+j*n,v)
 | 0,c=>by simp[dots]
 | k+1,c=>by
  rw[dots,List.mem_cons,x5M k (c+n)];constructor
  ·rintro(rfl | ⟨j,K,rfl⟩)
   ·exact⟨0,f6J,M7L⟩
   ·refine⟨j+1,f6J,?_⟩
    exact e5T
  ·rintro⟨j,K,rfl⟩
   cases j with
   | zero=>left;simp
   | succ j =>
    right;refine⟨j,f6J,?_⟩
    exact e5T
theorem y0z{j n:Int}(K:0<=j)(E:1<=n):0<=j*n:=Int.mul_nonneg K f6J
theorem x3i{r:Rec}(h:right r=0)(G:r.kind≠15){v:Int}{x:Tri.Rg}(J:x∈spoken r v):Tri.vl x=v/\0<=Tri.lo x/\Tri.lo x<=Tri.hi x/\Tri.hi x<=1114111/\∀c,Tri.lo x<=c->c<=Tri.hi x->speaks r c=true:=by
 obtain⟨L,d,Y⟩:=x0o h G;have B:=right_step h;unfold spoken at J;split at J
 ·rename_i hc
  rw[List.mem_singleton]at J;subst J;refine⟨rfl,L,d,Y,fun c D Z=>?_⟩;have E:r.lo<=c:=D;have F:c<=r.hi:=Z
  have e:step r=1:=by
   unfold step;rcases hc with hc | hc
   ·rw[if_neg hc]
   ·omega
  unfold speaks;rw[e];exact d0t ⟨G,e8N,f6J,f6J,E,F,Int.emod_one _⟩
 ·rename_i hc
  obtain⟨H,C⟩:r.kind=4/\r.n≠1:=by
   constructor
   ·omega
   ·exact fun e=>hc (.inr e)
  have A:step r=r.n:=by
   unfold step at B ⊢;rw[if_pos H]at B ⊢;omega
  rw[A]at B;obtain⟨j,K,rfl⟩:=(x5M _ _).1 J;have hd:0<=(r.hi-r.lo) / r.n:=Int.ediv_nonneg f6J f6J;have I:(j:Int)<=(r.hi-r.lo) / r.n:=f6J;have U:(j:Int)*r.n<=r.hi-r.lo:=Int.le_trans (Int.mul_le_mul_of_nonneg_right I f6J) (Int.ediv_mul_le _ f6J);have i:0<=(j:Int)*r.n:=y0z f6J f6J;refine⟨rfl,by show 0<=r.lo+j*r.n;exact f6J,Int.le_refl _,by show r.lo+j*r.n<=_;exact f6J,fun c D Z=>?_⟩;have E:r.lo+j*r.n<=c:=D;have F:c<=r.lo+j*r.n:=Z;obtain rfl:c=r.lo+j*r.n:=f6J;unfold speaks;rw[A];refine d0t ⟨G,f6J,f6J,f6J,f6J,f6J,?_⟩;rw[(f6J:r.lo+j*r.n-r.lo=j*r.n)];exact Int.mul_emod_left _ _
theorem y9U{r:Rec}(h:right r=0)(v:Int){c:Int}(X:speaks r c=true):∃x∈spoken r v,Tri.lo x<=c/\c<=Tri.hi x:=by
 have B:=right_step h;unfold speaks at X;obtain⟨_,_,Y,o,z,s,K⟩:=o0d X;unfold spoken;split
 ·exact⟨_,List.mem_singleton.2 rfl,z,s⟩
 ·rename_i hc
  obtain⟨H,C⟩:r.kind=4/\r.n≠1:=by
   constructor
   ·omega
   ·exact fun e=>hc (.inr e)
  have A:step r=r.n:=by
   unfold step at B ⊢;rw[if_pos H]at B ⊢;omega
  rw[A]at B K;obtain⟨q,L⟩:=Int.dvd_of_emod_eq_zero K
  have Q:0<=q:=by
   rcases Int.lt_or_le q 0 with hn | hn
   ·exfalso;have:r.n*q<=r.n*(-1):=Int.mul_le_mul_of_nonneg_left f6J f6J;omega
   ·exact hn
  have b:q<=(r.hi-r.lo) / r.n:=by
   rw[Int.le_ediv_iff_mul_le f6J,Int.mul_comm];omega
  refine⟨(c,c,v),(x5M _ _).2 ⟨q.toNat,f6J,?_⟩,Int.le_refl _,Int.le_refl _⟩;rw[(f6J:((q.toNat:Nat):Int)=q),Int.mul_comm q,<- L];have:r.lo+(c-r.lo)=c:=f6J;rw[this]
def Apart(x y:Tri.Rg):Prop:=Tri.hi x<Tri.lo y\/Tri.hi y<Tri.lo x
theorem Apart.symm{x y:Tri.Rg}(h:Apart x y):Apart y x:=Or.symm h
theorem x7Q{v n:Int}(E:1<=n):∀(k:Nat) (c:Int),(dots v n k c).Pairwise Apart
 | 0,_=>List.Pairwise.nil
 | k+1,c=>by
  rw[dots];refine List.Pairwise.cons (fun x J=>?_) (x7Q E k (c+n));obtain⟨j,_,rfl⟩:=(x5M _ _).1 J;have:=y0z (j:=j) f6J E;left;show c<c+n+j*n;omega
theorem y1e{r:Rec}(h:right r=0)(v:Int):(spoken r v).Pairwise Apart:=by
 unfold spoken;split
 ·exact List.pairwise_singleton _ _
 ·rename_i hc
  have B:=right_step h;have H:r.kind=4:=Decidable.byContradiction fun e=>hc (.inl e);unfold step at B;rw[if_pos H]at B;exact x7Q f6J _ _
theorem x1U{g:Nat->Rec->Int}{x:Tri.Rg}:∀(l:List Rec) (i:Nat),x∈rangesA g i l↔∃k,∃G:k<l.length,x∈spoken l[k] (g (i+k) l[k])
 | [],_=>by simp[rangesA]
 | r::l,i=>by
  rw[rangesA,List.mem_append,x1U l (i+1)];constructor
  ·rintro(h | ⟨k,G,h⟩)
   ·exact⟨0,M7K,h⟩
   ·exact⟨k+1,E9n,i6u⟩
  ·rintro⟨k,G,h⟩
   cases k with
   | zero=>exact .inl h
   | succ k=>exact .inr ⟨k,E9n,i6u⟩
structure Fine(l:List Rec):Prop where
 right:∀r∈l,right r=0
 notMix:∀r∈l,r.kind≠15
 apart:l.Pairwise fun a b=>∀c,¬(speaks a c=true/\speaks b c=true)
theorem Fine.tail{r:Rec}{l:List Rec}(h:Fine (r::l)):Fine l:=⟨fun x J=>h.1 x (List.mem_cons_of_mem _ J),fun x J=>h.2 x (List.mem_cons_of_mem _ J),(List.pairwise_cons.1 h.3).2⟩
theorem x4m{g:Nat->Rec->Int}:∀(l:List Rec) (i:Nat),Fine l->(rangesA g i l).Pairwise Apart
 | [],_,_=>List.Pairwise.nil
 | r::l,i,h=>by
  rw[rangesA,List.pairwise_append];refine⟨y1e (h.1 r M7K) _,x4m l (i+1) h.tail,fun x J y hy=>?_⟩;obtain⟨k,G,hy⟩:=(x1U l (i+1)).1 hy;obtain⟨_,_,A,_,B⟩:=x3i (h.1 r M7K) (h.2 r M7K) J;have U:l[k]∈r::l:=List.mem_cons_of_mem _ (List.getElem_mem G);obtain⟨_,_,b1,_,p⟩:=x3i (h.1 _ U) (h.2 _ U) hy;have L:=(List.pairwise_cons.1 h.3).1 l[k] (List.getElem_mem G);unfold Apart;rcases Int.lt_or_le (Tri.hi x) (Tri.lo y)with h1 | h1
  ·exact .inl h1
  ·rcases Int.lt_or_le (Tri.hi y) (Tri.lo x)with h2 | h2
   ·exact .inr h2
   ·exfalso;rcases Int.le_total (Tri.lo x) (Tri.lo y)with h3 | h3
    ·exact L (Tri.lo y) ⟨B _ h3 h1,p _ (Int.le_refl _) b1⟩
    ·exact L (Tri.lo x) ⟨B _ (Int.le_refl _) A,p _ h3 h2⟩
theorem z3K:∀(m:List Tri.Rg) (b:Int),(∀x∈m,b<=Tri.lo x/\Tri.lo x<=Tri.hi x/\Tri.hi x<=1114111/\0<=Tri.vl x/\Tri.vl x<=65535)->m.Pairwise Apart->m.Pairwise (fun x y=>Tri.lo x<=Tri.lo y)->Tri.Val b m
 | [],_,_,_,_=>trivial
 | x::m,b,h,ha,hs=>by
  obtain⟨D,Z,R,H,p⟩:=h x M7L;obtain⟨c,A⟩:=List.pairwise_cons.1 ha;obtain⟨N,E⟩:=List.pairwise_cons.1 hs;refine⟨D,Z,R,H,p,z3K m (Tri.hi x+1) (fun y hy=>?_) A E⟩;obtain⟨i,g2,M,Y,j⟩:=h y (List.mem_cons_of_mem _ hy);have e:=N y hy;have d:=c y hy;unfold Apart at d;exact⟨f6J,g2,M,Y,j⟩
theorem z0m{x:Tri.Rg}:∀(m:List Tri.Rg) (b:Int),Tri.Val b m->x∈m->b<=Tri.lo x
 | y::m,b,h,hx=>by
  obtain⟨i,g2,_,_,_,q⟩:=h;rcases List.mem_cons.1 hx with rfl | hx
  ·exact i
  ·have:=z0m m _ q hx;omega
theorem z3h{d c:Int}{x:Tri.Rg}:∀(m:List Tri.Rg) (b:Int),Tri.Val b m->x∈m->Tri.lo x<=c->c<=Tri.hi x->Tri.get d m c=Tri.vl x
 | y::m,b,h,hx,h1,h2=>by
  obtain⟨i,g2,M,Y,j,q⟩:=h;rw[Tri.x1t];rcases List.mem_cons.1 hx with rfl | hx
  ·rw[if_pos ⟨h1,h2⟩]
  ·have C:Tri.hi y+1<=Tri.lo x:=z0m m _ q hx;rw[if_neg f6J];exact z3h m _ q hx h1 h2
theorem y7X{d c:Int}:∀(m:List Tri.Rg),(∀x∈m,¬(Tri.lo x<=c/\c<=Tri.hi x))->Tri.get d m c=d
 | [],_=>rfl
 | y::m,h=>by rw[Tri.x1t,if_neg (h y M7K),y7X m fun x J=>h x (List.mem_cons_of_mem _ J)]
theorem y2I{g:Nat->Rec->Int}{i:Nat}{l:List Rec}{m:List Tri.Rg}(h:Fine l)(Y:∀k,(G:k<l.length)->0<=g (i+k) l[k]/\g (i+k) l[k]<=65535)(A:m.Perm (rangesA g i l))(X:m.Pairwise fun x y=>Tri.lo x<=Tri.lo y) :
  Tri.Val 0 m/\∀c,(∀k,(G:k<l.length)->speaks l[k] c=true->Tri.get 0 m c=g (i+k) l[k])/\((∀r∈l,speaks r c=false)->Tri.get 0 m c=0):=by
 have N:Tri.Val 0 m:=by
  refine z3K m 0 (fun x J=>?_) ((x4m (g:=g) l i h).perm A.symm Apart.symm) X;obtain⟨k,G,J⟩:=(x1U l i).1 (A.mem_iff.1 J);obtain⟨C,B,d,M,_⟩:=x3i (h.1 _ (List.getElem_mem G)) (h.2 _ (List.getElem_mem G)) J;have:=Y k G;exact⟨B,d,M,f6J,f6J⟩
 refine⟨N,fun c=>⟨fun k G P=>?_,fun L=>?_⟩⟩
 ·obtain⟨x,J,D,Z⟩:=y9U (h.1 _ (List.getElem_mem G)) (g (i+k) l[k]) P;rw[z3h m 0 N (A.mem_iff.2 ((x1U l i).2 ⟨k,G,J⟩)) D Z];exact(x3i (h.1 _ (List.getElem_mem G)) (h.2 _ (List.getElem_mem G)) J).1
 ·refine y7X m fun x J I=>?_;obtain⟨k,G,J⟩:=(x1U l i).1 (A.mem_iff.1 J);have:=(x3i (h.1 _ (List.getElem_mem G)) (h.2 _ (List.getElem_mem G)) J).2.2.2.2 c I.1 I.2;rw[L _ (List.getElem_mem G)]at this;cases this
theorem x0r{f:Int}{rs:List Rec}{r:Rec}:r∈famOf f rs↔r∈rs/\fam r.kind=f:=by simp[famOf]
theorem y1R{rs:List Rec}{f:Int}(h:(check6 rs).2=0)(z:f≠10/\f≠0):Fine (famOf f rs):=by
 obtain⟨_,Z,R⟩:=x0m.1 h;have G:∀r:Rec,fam r.kind=f->r.kind≠15:=fun r e B=>z.1 (by rw[<- e,B];exact e8M);refine⟨fun r u=>Z r (x0r.1 u).1,fun r u=>G r (x0r.1 u).2,?_⟩;have H:=List.Pairwise.and_mem.1 (R.filter fun r=>decide (fam r.kind=f));refine H.imp fun{a b} hab c hc=>?_;obtain⟨L,C,y⟩:=hab;have A:=x0r.1 L;have P:=x0r.1 C;rw[(x1S (Z a A.1) (Z b P.1) (A.2.trans P.2.symm) (G a A.2) (G b P.2)).2 ⟨c,hc⟩]at y;cases y
theorem y6b{rs:List Rec}{f:Int}(h:(check6 rs).2=0)(z:f≠10/\f≠0)(N:∀r∈rs,fam r.kind=f->0<=value r/\value r<=65535){m:List Tri.Rg}(A:m.Perm (rangesA (fun _ r=>value r) 1 (famOf f rs)))(X:m.Pairwise fun x y=>Tri.lo x<=Tri.lo y) :
  Tri.Val 0 m/\∀c,Tri.get 0 m c=match hit rs f c with | some r=>value r | Option.none=>0:=by
 obtain⟨D,Z⟩:=y2I (y1R h z) (fun k G=>by have:=x0r.1 (List.getElem_mem G);exact N _ this.1 this.2) A X;refine⟨D,fun c=>?_⟩
 cases he:hit rs f c with
 | some r =>
  obtain⟨i,U,M⟩:=(x1T h z r).1 he;obtain⟨k,G,rfl⟩:=List.getElem_of_mem (x0r.2 ⟨i,U⟩);exact(Z c).1 k G M
 | none=>exact(Z c).2 fun r u=>y3q z he r (x0r.1 u).1 (x0r.1 u).2
theorem x8f{rs:List Rec}{f:Int}(h:(check6 rs).2=0)(z:f≠10/\f≠0){m:List Tri.Rg}(A:m.Perm (rangesA (fun i _=>(i:Int)) 1 (famOf f rs)))(X:m.Pairwise fun x y=>Tri.lo x<=Tri.lo y) :
  Tri.Val 0 m/\∀c,0<=Tri.get 0 m c/\Tri.get 0 m c<=(famOf f rs).length/\(none::famOf f rs).getD (Tri.get 0 m c).toNat none=match hit rs f c with | some r=>r | Option.none=>none:=by
 have d:(famOf f rs).length<=4096:=Nat.le_trans (List.length_filter_le _ _) (x0m.1 h).1;obtain⟨D,Z⟩:=y2I (y1R h z) (fun k G=>f6J) A X;refine⟨D,fun c=>?_⟩
 cases he:hit rs f c with
 | some r =>
  obtain⟨B,U,M⟩:=(x1T h z r).1 he;obtain⟨k,G,rfl⟩:=List.getElem_of_mem (x0r.2 ⟨B,U⟩);rw[(Z c).1 k G M];refine⟨f6J,f6J,?_⟩;rw[(f6J:((1+k:Nat):Int).toNat=k+1)];exact w8a
 | none =>
  rw[(Z c).2 fun r u=>y3q z he r (x0r.1 u).1 (x0r.1 u).2];exact⟨f6J,f6J,rfl⟩
end Go.Proofs.YtbmckadcjdedcaaGreatDoor.Cn
namespace Go.Proofs.YtbmckadcjdedcaaGreatDoor
open Go.Proofs.Tryz
open Go.RowKit
open Ti
theorem y6a(r:Rec)(vt:Value)(w:World)(z:RecFit r)(X:Sk .i32 w vt r.to):Calls prog 137 #[recV r vt] w (IntB w (Cn.value r)):=by
 obtain⟨s,q,rfl,_,_⟩:=X.shape;unfold recV;obtain⟨l,P,T,U⟩:=x0L w r.kind r.lo r.hi r.n (.slice s r.to.length q) r.name r.other r.wt;obtain⟨x,u,p,R,F,j,H,K⟩:=T;have B:=O U;obtain⟨M,G⟩:=z.kind;unfold Cn.value;generalize r.kind=J at *;by_cases N:J=1
 ·rw[if_pos N];subst N;exact m3q
 by_cases f:J=2
 ·rw[if_neg N,if_pos f];subst f;exact m3q
 by_cases E:J=3
 ·rw[if_neg N,if_neg f,if_pos (.inl E)];subst E;exact m3q
 by_cases I:J=4
 ·rw[if_neg N,if_neg f,if_pos (.inr I)];subst I;exact m3q
 by_cases d:J=5
 ·rw[if_neg N,if_neg f,if_neg f6J,if_pos d];subst d;exact m3q
 by_cases Z:J=11
 ·rw[if_neg N,if_neg f,if_neg f6J,if_neg d,if_pos Z];subst Z;exact m3q
 ·rw[if_neg N,if_neg f,if_neg f6J,if_neg d,if_neg Z];have g:(J==1)=false:=b0f N;have L:(J==2)=false:=b0f f;have t:(J==3)=false:=b0f E;have A:(J==4)=false:=b0f I;have v:(J==5)=false:=b0f d;have C:(J==11)=false:=b0f Z;exact m3q
namespace Cn
theorem z8K{lo hi n:Int}(E:1<=n)(h:lo<=hi)(j:Nat):lo+j*n<=hi↔j<((hi-lo) / n+1).toNat:=by
 have T:0<=(hi-lo) / n:=Int.ediv_nonneg f6J f6J;have D:(j:Int)<=(hi-lo) / n↔(j:Int)*n<=hi-lo:=Int.le_ediv_iff_mul_le f6J;constructor
 ·omega
 ·omega
theorem x9X(v n:Int):∀(j:Nat) (c:Int),dots v n (j+1) c=dots v n j c++[(c+j*n,c+j*n,v)]
 | 0,c=>by simp[dots]
 | j+1,c=>by
  rw[dots,x9X v n j (c+n),dots,List.cons_append]
  exact e5T
theorem x5L(v n:Int):∀(j:Nat) (c:Int),(dots v n j c).length=j
 | 0,_=>rfl
 | j+1,c=>by rw[dots,List.length_cons,x5L v n j]
end Cn
theorem y5G{w:World}{B E K n:Nat}{e:TypeId}{v:Value}{xs:List Value}(h:w.ownsRow B e K v n xs)(C:E<=B):w.ownsRow E e K v n xs:=by
 obtain⟨D,Z⟩:=h;refine⟨D,?_⟩;rcases Z with Z | ⟨g,M,P,a,b,c⟩
 ·exact .inl Z
 ·exact .inr ⟨g,M,P,a,Nat.le_trans C b,c⟩
theorem z5K(w:World)(lo hi v:Int)(D:Fi lo)(Z:Fi hi)(R:Fi v):Or4 (w.alloc (.cells #[.int .i64 lo,.int .i64 hi,.int .i64 v] 259)) w.heap.size (.slice (some ⟨w.heap.size,0,none⟩) 1 1) [(lo,hi,v)]:=by
 refine⟨fun r u=>?_,M7N,⟨rfl,.inr ⟨w.heap.size,1,#[.int .i64 lo,.int .i64 hi,.int .i64 v],rfl,l0r _,?_,l0r _,T7W,rfl,rfl⟩⟩⟩
 ·simp only[List.mem_cons,List.mem_nil_iff,or_false]at u;subst u;exact⟨D,Z,R⟩
 ·exact R0p
theorem x7g(r:Rec)(vt:Value)(v:Int)(w:World)(z:RecFit r)(X:Sk .i32 w vt r.to)(hr:Cn.right r=0)(hk:r.kind≠15)(N:Fi v):Calls prog 136 #[recV r vt,.int .i64 v] w (y6m w (Cn.spoken r v)):=by
 obtain⟨i0,S,i,aA,f⟩:=info_parts Tryz.info259;obtain⟨s,q,rfl,_,_⟩:=X.shape;obtain⟨s1,s2,s3⟩:=Cn.x0o hr hk;have ar:=Cn.right_step hr;unfold recV;obtain⟨l,aB,T,U⟩:=x0L w r.kind r.lo r.hi r.n (.slice s r.to.length q) r.name r.other r.wt;have C:Hid (∀W,Bw l W->BoxAt W w.heap.size r.kind r.lo r.hi r.n (.slice s r.to.length q) r.name r.other r.wt):=fun W h=>T.keep h;obtain⟨x0,x1,x2,x3,x4,x5,x6,x7⟩:=T;have M:Hid (∀W u ys,Or4 W l.heap.size u ys->Bw l W->Or4 W w.heap.size u ys/\Bw w W):=fun W u ys h1 Z=>⟨⟨h1.1,h1.2.1,y5G h1.2.2 U.size⟩,x0b U Z⟩;obtain⟨k1,k2⟩:=z.kind;obtain⟨n1,n2⟩:=z.n
 have az:r.kind=4->1<=r.n/\r.n<=64:=fun e=>by
  unfold Cn.step at ar;rw[if_pos e]at ar;omega
 by_cases hc:r.kind≠4\/r.n=1
 ·have P:Cn.spoken r v=[(r.lo,r.hi,v)]:=(by unfold Cn.spoken;rw[if_pos hc]);rw[P];have k:=O (z5K l r.lo r.hi v ⟨f6J,f6J⟩ ⟨f6J,f6J⟩ N);generalize r.kind=J,r.lo=lo,r.hi=hi,r.n=n at *;generalize r.name=nm,r.other=ot,r.wt=wt,r.to.length=tl at *;have HR:=O (V M _ _ _ (V k) ((b0r).alloc (l0r _) _));by_cases H:J=4
  ·subst H;obtain rfl:n=1:=f6J;go_enter func136,ntmps136;exact N1Z
  ·have d4:(J != 4)=true:=(by simp[H]);go_enter func136,ntmps136;exact N1Z
 ·obtain⟨H,ay⟩:r.kind=4/\r.n≠1:=f6J;obtain⟨L,aF⟩:=az H;have P:Cn.spoken r v=Cn.dots v r.n ((r.hi-r.lo) / r.n+1).toNat r.lo:=(by unfold Cn.spoken;rw[if_neg hc]);rw[P];have aq:Hid (∀j:Nat,r.lo+j*r.n<=r.hi↔j<((r.hi-r.lo) / r.n+1).toNat):=fun j=>Cn.z8K L s2 j;have b:Hid (∀j:Nat,Cn.dots v r.n (j+1) r.lo=Cn.dots v r.n j r.lo++[(r.lo+j*r.n,r.lo+j*r.n,v)]):=fun j=>Cn.x9X v r.n j r.lo;have Y:Hid (∀j:Nat,(Cn.dots v r.n j r.lo).length=j):=fun j=>Cn.x5L v r.n j r.lo
  have aD:((r.hi-r.lo) / r.n+1).toNat<=1114112:=by
   have:(r.hi-r.lo) / r.n<=r.hi-r.lo:=Int.ediv_le_self _ f6J;omega
  have d1:(r.n==1)=false:=b0f ay;generalize((r.hi-r.lo) / r.n+1).toNat=m,r.kind=J at *;subst H;generalize r.lo=lo,r.hi=hi,r.n=n at *;generalize r.name=nm,r.other=ot,r.wt=wt at *;generalize r.to.length=tl,hds:Cn.dots v n m lo=t at *;have aj:=O hds;go_enter func136,ntmps136;go_wp2;go_loopw[5,6] (fun lv E wr=>∃(j:Nat) (c:Int),E=.int .i64 c/\c=lo+j*n/\lo<=c/\c<=1114175/\j<=m/\Or4 wr l.heap.size lv (Cn.dots v n j lo)/\Bw l wr) (fun _ E _=>(1114176-intOf E).toNat)
  case atStart=>exact⟨0,lo,rfl,by simp,f6J,f6J,f6J,Or4.nil _ _,b0r⟩
  case round =>
   obtain⟨j,c,rfl,B,aC,Q,hj,F,A⟩:=hrel;obtain⟨y0,y1,y2,y3,y4,y5,y6,y7⟩:=V C _ A
   have d:Hid (c<=hi↔j<m):=by
    show _↔_;rw[B];exact V aq j
   have R:Hid (Cn.dots v n (j+1) lo=Cn.dots v n j lo++[(c,c,v)]):=by
    show _=_;rw[V b j,<- B]
   have ai:Hid (c+n=lo+((j+1:Nat):Int)*n):=by
    show _=_;rw[Int.natCast_add,Int.add_mul,B];simp;omega
   have ae:=V Y j;have a:=F.2.2;have ab:=F.1;have aG:=A.size;clear aq b Y B x0 x1 x2 x3 x4 x5 x6 x7;obtain⟨v1,v2⟩:=N;rw[ae]at a;clear F;generalize hd2:Cn.dots v n j lo=ds at *;have K:=O hd2;clear hd2;by_cases aw:c<=hi
   ·have I:=(V d).1 aw;have ag:=y6J wr (c,c,v);simp only[Tri.x6D,Tri.x8R,Tri.vl_mk]at ag;have HM:Hid (∀o,(wr.alloc o).ownsRow l.heap.size 259 3 u5 j (Ti.rcells ds)):=fun o=>a.alloc o;have am:=O ag
    have G:Hid (∀D y o,y.ownsRow l.heap.size 259 3 D (j+1) (Ti.rcells ds++Ti.rcells [(c,c,v)])->(wr.alloc o).grownBy y u5.ownBlock->Or4 y l.heap.size D (ds++[(c,c,v)])/\Bw l y):=fun D y o p af=>by
     refine⟨⟨fun x hx=>?_,by rw[List.length_append,ae];exact P8P,by rw[List.length_append,ae,Ti.x2k];exact p⟩,(A.alloc A.size o).grown af (A.alloc A.size o).size (fun g hg=>(a.lt g hg).1)⟩;rcases List.mem_append.1 hx with hx | hx
     ·exact ab x hx
     ·simp only[List.mem_cons,List.mem_nil_iff,or_false]at hx;subst hx;exact⟨⟨by show _<=c;exact f6J,by show c<=_;exact f6J⟩,⟨by show _<=c;exact f6J,by show c<=_;exact f6J⟩,⟨v1,v2⟩⟩
    clear a ag ab A ae d;go_wp2_with(at_builtin;refine wpList_append_own _ rfl (.tmp 32) (.tmp 37) 203 rfl l.heap.size 259 i0 (.agg #[.int .i64 0,.int .i64 0,.int .i64 0]) 3 24 underlying203 S i aA f rfl e8Q _ _ _ rfl (V HM _) ⟨wr.heap.size,0,none⟩ 1 1 (Ti.rcells [(c,c,v)]) rfl rfl (V am) (Ti.x4R [(c,c,v)]) T7X f6J P8P ?_);intro D y p af _;obtain⟨F,A⟩:=V G D y _ p af;obtain⟨z0,z1,z2,z3,z4,z5,z6,z7⟩:=V C _ A;clear G HM am p af y0 y1 y2 y3 y4 y5 y6 y7;go_wp2
    go_roundw
    case rel=>exact⟨j+1,c+n,g2D,V ai,f6J,f6J,f6J,by rw[V R];exact F,A⟩
    case measure=>exact g7V
   ·have I:j=m:=(by have:=(V d).2;exact f6J);subst I;have HR:=O (V M _ _ _ ⟨ab,f6J,by rw[ae];exact a⟩ A);rw[show ds=t from(V K).symm.trans (V aj)]at HR;clear K a ab A ae d M C R ai aj;exact N1Z
def bnd(b:Int):Int×Int:=if b=224 then(160,191)else if b=237 then(128,159)else if b=240 then(144,191)else if b=244 then(128,143)else(128,191)
def x2O(w:World)(r:Int×Int)(e:Ending)(w':World):Prop:=e=.returned (.tuple #[.int .u8 r.1,.int .u8 r.2])/\w'=w
theorem x2O.mk{w:World}{r:Int×Int}{a b:Int}(h:r=(a,b)):x2O w r (.returned (.tuple #[.int .u8 a,.int .u8 b])) w:=t5o
theorem x2L(b:Int)(w:World)(T:0<=b)(D:b<=255):Calls prog 49 #[.int .u8 b] w (x2O w (bnd b)):=by
 have u:(b=224/\bnd b=(160,191))\/(b=237/\bnd b=(128,159))\/(b=240/\bnd b=(144,191))\/(b=244/\bnd b=(128,143))\/((b≠224/\b≠237/\b≠240/\b≠244)/\bnd b=(128,191)):=by
  unfold bnd;split
  ·simp[*]
  ·grind
 rcases u with⟨rfl,h⟩ | ⟨rfl,h⟩ | ⟨rfl,h⟩ | ⟨rfl,h⟩ | ⟨⟨t,E,a,G⟩,h⟩
 ·generalize bnd 224=r at *;exact s7S
 ·generalize bnd 237=r at *;exact s7S
 ·generalize bnd 240=r at *;exact s7S
 ·generalize bnd 244=r at *;exact s7S
 ·generalize bnd b=r at *;exact s7S
def onb(zs:List Int)(k:Nat)(lo hi:Int):Bool:=decide (k<zs.length/\lo<=zs.getD k 0/\zs.getD k 0<=hi)
theorem x1K(s:ByteArray)(k:Nat)(lo hi:Int)(w:World)(G:k<=s.size):Calls prog 50 #[.string s,.int .i64 k,.int .u8 lo,.int .u8 hi] w (fun e w'=>e=.returned (.bool (onb (nums s) k lo hi))/\w'=w):=by
 have E:=nums_length s;by_cases H:k<s.size
 ·have q:=x2m s k k rfl H;by_cases D:lo<=(nums s).getD k 0
  ·by_cases Z:(nums s).getD k 0<=hi
   ·have u:onb (nums s) k lo hi=true:=d0t ⟨f6J,D,Z⟩;exact p7M
   ·exact P9o
  ·exact P9o
 ·have u:onb (nums s) k lo hi=false:=d0f f6J;rw[u];clear u;go_enter func50,ntmps50;exact t6v
theorem x0H(c b:Int)(w:World)(r:0<=c)(f:c<=32767)(U:0<=b)(E:b<=255):Calls prog 51 #[.int .i32 c,.int .u8 b] w (fun e w'=>e=.returned (.int .i32 (c*64+b%64))/\w'=w):=by
 go_enter func51,ntmps51;exact t6u
theorem z2o(zs:List Int):Utf.dec 0 zs=Utf.glue [] (Utf.dec 0 (zs.drop 0)):=by
 rw[List.drop_zero,Utf.y3o]
 ·intro h;rcases Utf.dec_shape _ 0 zs (l0r _)with D | ⟨q,D,_⟩
  ·exact D.2.1
  ·rw[D]at h;simp at h
 ·intro h;rcases Utf.dec_shape _ 0 zs (l0r _)with D | ⟨q,D,_⟩
  ·exact absurd D.1 h
  ·rw[D]
def S0(s:ByteArray)(zs:List Int)(r:List Int×Int×Int)(w:World)(k:Nat)(xs:List Int)(v:Value)(wr:World):Prop :=
 k<=s.size/\Ok .i32 21 wr w.heap.size v xs/\xs.length<=k/\Below w.heap.size w wr/\r=Utf.glue xs (Utf.dec k (zs.drop k))
def mx:Nat->Int
 | 3=>7
 | 2=>511
 | 1=>32767
 | _=>2097151
def Sn(s:ByteArray)(zs:List Int)(r:List Int×Int×Int)(w:World)(n k:Nat)(xs:List Int)(v:Value)(c lo hi:Int)(wr:World):Prop :=
 k<=s.size/\Ok .i32 21 wr w.heap.size v xs/\xs.length+1<=k/\Below w.heap.size w wr/\0<=c/\c<=mx n/\r=Utf.fin xs zs (Utf.x0S n lo hi c k (zs.drop k))
def Fr(s:ByteArray)(v:Value)(k:Nat)(a:Act):Prop:=a.defers=[]/\a.tmps.size=110/\a.tmps.getD 0 undef=.string s/\a.tmps.getD 1 undef=undef/\a.tmps.getD 2 undef=v/\a.tmps.getD 3 undef=.int .i64 (k:Int)/\a.tmps.getD 4 undef=.bool false
def Fc(c:Int)(a:Act):Prop:=a.tmps.getD 5 undef=.int .i32 c
def Fb(lo hi:Int)(a:Act):Prop:=a.tmps.getD 7 undef=.int .u8 lo/\a.tmps.getD 8 undef=.int .u8 hi
theorem z1Q(l:List Value)(n:Nat)(h:l.length=n):l=(List.range n).map (fun i=>l.getD i undef):=by
 apply List.ext_getElem
 ·simp[h]
 ·grind
theorem Fr.open{s:ByteArray}{v:Value}{k:Nat}{a:Act}(h:Fr s v k a):∃U:Nat->Value,(∀i,a.tmps.getD i undef=U i)/\a=({ tmps:=#[.string s,undef,v,.int .i64 (k:Int),.bool false,U 5,U 6,U 7,U 8,U 9,U 10,U 11,U 12,U 13,U 14,U 15,U 16,U 17,U 18,U 19,U 20,U 21,U 22,U 23,U 24,U 25,U 26,U 27,U 28,U 29,U 30,U 31,U 32,U 33,U 34,U 35,U 36,U 37,U 38,U 39,U 40,U 41,U 42,U 43,U 44,U 45,U 46,U 47,U 48,U 49,U 50,U 51,U 52,U 53,U 54,U 55,U 56,U 57,U 58,U 59,U 60,U 61,U 62,U 63,U 64,U 65,U 66,U 67,U 68,U 69,U 70,U 71,U 72,U 73,U 74,U 75,U 76,U 77,U 78,U 79,U 80,U 81,U 82,U 83,U 84,U 85,U 86,U 87,U 88,U 89,U 90,U 91,U 92,U 93,U 94,U 95,U 96,U 97,U 98,U 99,U 100,U 101,U 102,U 103,U 104,U 105,U 106,U 107,U 108,U 109],defers:=[] }:Act):=by
 obtain⟨t,d⟩:=a;obtain⟨D,Z,R,H,p,F,x⟩:=h;refine⟨fun i=>t.getD i undef,fun i=>rfl,?_⟩;simp only at D Z R H p F x;subst D;congr 1;rw[<- R,<- p,<- F,<- x];obtain⟨l⟩:=t;have S:l.length=110:=(by simpa using Z);apply congrArg Array.mk;have e:=z1Q l 110 S;rw[show(List.range 110).map (fun i=>l.getD i undef)=[l.getD 0 undef,l.getD 1 undef,l.getD 2 undef,l.getD 3 undef,l.getD 4 undef,l.getD 5 undef,l.getD 6 undef,l.getD 7 undef,l.getD 8 undef,l.getD 9 undef,l.getD 10 undef,l.getD 11 undef,l.getD 12 undef,l.getD 13 undef,l.getD 14 undef,l.getD 15 undef,l.getD 16 undef,l.getD 17 undef,l.getD 18 undef,l.getD 19 undef,l.getD 20 undef,l.getD 21 undef,l.getD 22 undef,l.getD 23 undef,l.getD 24 undef,l.getD 25 undef,l.getD 26 undef,l.getD 27 undef,l.getD 28 undef,l.getD 29 undef,l.getD 30 undef,l.getD 31 undef,l.getD 32 undef,l.getD 33 undef,l.getD 34 undef,l.getD 35 undef,l.getD 36 undef,l.getD 37 undef,l.getD 38 undef,l.getD 39 undef,l.getD 40 undef,l.getD 41 undef,l.getD 42 undef,l.getD 43 undef,l.getD 44 undef,l.getD 45 undef,l.getD 46 undef,l.getD 47 undef,l.getD 48 undef,l.getD 49 undef,l.getD 50 undef,l.getD 51 undef,l.getD 52 undef,l.getD 53 undef,l.getD 54 undef,l.getD 55 undef,l.getD 56 undef,l.getD 57 undef,l.getD 58 undef,l.getD 59 undef,l.getD 60 undef,l.getD 61 undef,l.getD 62 undef,l.getD 63 undef,l.getD 64 undef,l.getD 65 undef,l.getD 66 undef,l.getD 67 undef,l.getD 68 undef,l.getD 69 undef,l.getD 70 undef,l.getD 71 undef,l.getD 72 undef,l.getD 73 undef,l.getD 74 undef,l.getD 75 undef,l.getD 76 undef,l.getD 77 undef,l.getD 78 undef,l.getD 79 undef,l.getD 80 undef,l.getD 81 undef,l.getD 82 undef,l.getD 83 undef,l.getD 84 undef,l.getD 85 undef,l.getD 86 undef,l.getD 87 undef,l.getD 88 undef,l.getD 89 undef,l.getD 90 undef,l.getD 91 undef,l.getD 92 undef,l.getD 93 undef,l.getD 94 undef,l.getD 95 undef,l.getD 96 undef,l.getD 97 undef,l.getD 98 undef,l.getD 99 undef,l.getD 100 undef,l.getD 101 undef,l.getD 102 undef,l.getD 103 undef,l.getD 104 undef,l.getD 105 undef,l.getD 106 undef,l.getD 107 undef,l.getD 108 undef,l.getD 109 undef]from rfl]at e;have g:∀i,(Array.mk l).getD i undef=l.getD i undef:=fun i=>m9N;have A:l.getD 1 undef=undef:=(by grind);simp only[g];rw[A]at e;exact e
def Jf(s:ByteArray)(zs:List Int)(r:List Int×Int×Int)(w:World):Nat->Act->World->Prop
 | 0,a,wr=>∃(k:Nat) (xs:List Int) (v:Value),Fr s v k a/\S0 s zs r w k xs v wr
 | 1,a,wr=>∃(k:Nat) (xs:List Int) (v:Value) (c lo hi:Int),Fr s v k a/\Fc c a/\Sn s zs r w 0 k xs v c lo hi wr
 | 2,a,wr=>∃(k:Nat) (xs:List Int) (v:Value) (c lo hi:Int),Fr s v k a/\Fc c a/\Fb lo hi a/\Sn s zs r w 1 k xs v c lo hi wr
 | 3,a,wr=>∃(k:Nat) (xs:List Int) (v:Value) (c lo hi:Int),Fr s v k a/\Fc c a/\Fb lo hi a/\Sn s zs r w 2 k xs v c lo hi wr
 | 4,a,wr=>∃(k:Nat) (xs:List Int) (v:Value) (c lo hi:Int),Fr s v k a/\Fc c a/\Fb lo hi a/\Sn s zs r w 3 k xs v c lo hi wr
 | 5,a,wr=>∃(k:Nat) (v:Value),Fr s v k a/\k<=s.size/\r=([],(k:Int),30)/\Below w.heap.size w wr
 | _,_,_=>False
def mes(N l:Nat)(a:Act):Nat:=if l=5 then 0 else 2*(N-(intOf (a.tmps.getD 3 undef)).toNat)+(if l=0 then 0 else 1)
def mez(N l k:Nat):Nat:=if l=5 then 0 else 2*(N-k)+(if l=0 then 0 else 1)
theorem x1B{N l n k k2:Nat}{a J:Act}(h:a.tmps.getD 3 undef=.int .i64 (k:Int))(Z:J.tmps.getD 3 undef=.int .i64 (k2:Int))(U:mez N n k2<mez N l k):mes N n J<mes N l a:=by
 unfold mes;rw[h,Z];exact U
def x5K(w:World)(r:List Int×Int×Int)(e:Ending)(w':World):Prop :=
 (∃v p xs,e=.returned (.tuple #[v,.int .i64 p,.bool true])/\Ok .i32 21 w' w.heap.size v xs/\r=(xs,0,0)/\Below w.heap.size w w') \/
  (∃p,r=([],p,30)/\e=.returned (.tuple #[.slice none 0 0,.int .i64 p,.bool false])/\Below w.heap.size w w')
theorem ways(b:Int):(b<=127/\Utf.lead b=some (0,0,0,b))\/((194<=b/\b<=223)/\Utf.lead b=some (1,(bnd b).1,(bnd b).2,b%32))\/((224<=b/\b<=239)/\Utf.lead b=some (2,(bnd b).1,(bnd b).2,b%16)) \/
  ((240<=b/\b<=244)/\Utf.lead b=some (3,(bnd b).1,(bnd b).2,b%8))\/((128<=b/\b<194)/\Utf.lead b=none)\/(244<b/\Utf.lead b=none):=by
 by_cases D:b<=127
 ·exact .inl ⟨D,by unfold Utf.lead;rw[if_pos f6J]⟩
 ·by_cases Z:194<=b/\b<=223
  ·refine .inr (.inl ⟨Z,?_⟩);rw[Utf.z7N Z];unfold bnd;rw[if_neg f6J,if_neg f6J,if_neg f6J,if_neg f6J]
  ·by_cases R:224<=b/\b<=239
   ·refine .inr (.inr (.inl ⟨R,?_⟩));rw[Utf.z7O R];unfold bnd;by_cases N:b=224
    ·subst N;simp
    ·grind
   ·by_cases H:240<=b/\b<=244
    ·refine .inr (.inr (.inr (.inl ⟨H,?_⟩)));rw[Utf.z7P H];unfold bnd;by_cases N:b=240
     ·subst N;simp
     ·grind
    ·have E:Utf.lead b=none:=by
      unfold Utf.lead;rw[if_neg f6J,if_neg Z,if_neg f6J,if_neg f6J,if_neg f6J,if_neg f6J,if_neg f6J,if_neg f6J]
     by_cases p:b<194
     ·exact .inr (.inr (.inr (.inr (.inl ⟨⟨f6J,p⟩,E⟩))))
     ·exact .inr (.inr (.inr (.inr (.inr ⟨f6J,E⟩))))
theorem Sn.first{s:ByteArray}{zs:List Int}{r:List Int×Int×Int}{w:World}{k n:Nat}{xs:List Int}{v:Value}{wr:World}{lo hi c:Int}(h:S0 s zs r w k xs v wr)(o:zs.length=s.size)(G:k<s.size)(S:Utf.lead (zs.getD k 0)=some (n,lo,hi,c))(T:0<=c)(D:c<=mx n):Sn s zs r w n (k+1) xs v c lo hi wr:=by
 obtain⟨A,J,d,M,H⟩:=h;have:=Utf.x7J f6J H;rw[S]at this;exact⟨f6J,J,f6J,M,T,D,this⟩
theorem S0.none{s:ByteArray}{zs:List Int}{r:List Int×Int×Int}{w:World}{k:Nat}{xs:List Int}{v:Value}{wr:World}(h:S0 s zs r w k xs v wr)(o:zs.length=s.size)(G:k<s.size)(S:Utf.lead (zs.getD k 0)=none):r=([],(k:Int),30):=by
 have:=Utf.x7J f6J h.2.2.2.2;rw[S]at this;exact this
theorem z5A{n:Nat}{c:Int}(E:n<=2)(T:0<=c)(D:c<=mx (n+1))(y:Int):0<=c*64+y%64/\c*64+y%64<=mx n:=by
 match n,E with
 | 0,_=>exact s3Y
 | 1,_=>exact s3Y
 | 2,_=>exact s3Y
theorem y5i{n:Nat}{c:Int}(E:n<=2)(D:c<=mx (n+1)):c<=32767:=by
 match n,E with
 | 0,_=>simp only[mx]at D;omega
 | 1,_=>simp only[mx]at D;omega
 | 2,_=>simp only[mx]at D;omega
theorem x3d{zs:List Int}{k:Nat}{lo hi:Int}:onb zs k lo hi=true↔k<zs.length/\lo<=zs.getD k 0/\zs.getD k 0<=hi:=by unfold onb;exact decide_eq_true_iff
theorem Sn.next{s:ByteArray}{zs:List Int}{r:List Int×Int×Int}{w:World}{k n:Nat}{xs:List Int}{v:Value}{wr:World}{lo hi c:Int}(h:Sn s zs r w (n+1) k xs v c lo hi wr)(E:n<=2)(o:zs.length=s.size)(y:onb zs k lo hi=true) :
  Sn s zs r w n (k+1) xs v (c*64+zs.getD k 0%64) 128 191 wr:=by
 obtain⟨A,J,d,M,H,B,C⟩:=h;obtain⟨b1,m,G⟩:=x3d.1 y;have:=z5A E H B (zs.getD k 0);exact⟨f6J,J,f6J,M,this.1,this.2,Utf.y8J b1 m G C⟩
theorem Sn.bad{s:ByteArray}{zs:List Int}{r:List Int×Int×Int}{w:World}{k n:Nat}{xs:List Int}{v:Value}{wr:World}{lo hi c:Int}(h:Sn s zs r w (n+1) k xs v c lo hi wr)(o:zs.length=s.size)(y:onb zs k lo hi=false):r=([],(k:Int),30):=by
 obtain⟨A,J,d,M,H,B,C⟩:=h;have L:¬(k<zs.length/\lo<=zs.getD k 0/\zs.getD k 0<=hi):=fun h=>(by rw[x3d.2 h]at y;cases y);rcases Nat.lt_or_ge k zs.length with h1 | h1
 ·exact Utf.z1V h1 f6J C
 ·exact Utf.z1W f6J C
theorem z2q(s:ByteArray)(w:World)(hs:s.size<=1000000000):Calls prog 27 #[.string s] w (x5K w (Utf.dec 0 (nums s))):=by
 obtain⟨i0,aw,i,d,az⟩:=info_parts Tryz.info21;have aB:=nums_length s;have aC:=z2o (nums s);generalize Utf.dec 0 (nums s)=r at *;obtain⟨L,aD⟩:∃L,nums s=L:=⟨_,rfl⟩;rw[aD]at aB aC;have aF:=O aC;have Q:=O aD;have hn:=O aB;clear aC aD aB;go_enter func27,ntmps27;go_wp2;refine x2M (Jf s L r w) (fun l a _=>mes s.size l a) ?hf ?first ?pass
 case hf =>
  intro l a wr h
  match l,h with
  | 0,_=>rfl
  | 1,_=>rfl
  | 2,_=>rfl
  | 3,_=>rfl
  | 4,_=>rfl
  | 5,_=>rfl
  | (l+6),h=>exact h.elim
 case first =>
  have K:S0 s L r w 0 [] (.slice none 0 0) w:=⟨f6J,Ok.nil _ _ _ _,by simp,b0r,V aF⟩;go_wp2;go_step3;obtain⟨G,y,ar,A,u⟩:=id K;by_cases H:0<s.size
  ·have J:=fun w=>x2m s (0:Int) 0 rfl H w;have ab:=(x1j (x0x s)).u8at 0;rw[V Q]at J ab;have B:=fun w=>O (x2L (L.getD 0 0) w ab.1 ab.2);have aH:((0:Int)==(s.size:Int))=false:=P8P;have F:=V hn;rcases ways (L.getD 0 0)with⟨q,S⟩ | ⟨⟨P,q2⟩,S⟩ | ⟨⟨P,q2⟩,S⟩ | ⟨⟨P,q2⟩,S⟩ | ⟨⟨P,q2⟩,S⟩ | ⟨q,S⟩
   ·have HT:=O (Sn.first K F H S f6J t1E);clear K u y S F;generalize bnd (L.getD 0 0)=E at *;obtain⟨j,Z⟩:=E;generalize L.getD 0 0=b at *;go_wp2_with fail;refine(V (B _)).mono ?_;rintro e w ⟨rfl,rfl⟩;clear B J;go_wp2;go_step3;show Jf s L r w 1 _ _;exact⟨1,[],.slice none 0 0,b,0,0,⟨rfl,rfl,rfl,rfl,rfl,rfl,rfl⟩,rfl,V HT⟩
   ·have HT:=O (Sn.first K F H S f6J t1E);clear K u y S F;generalize bnd (L.getD 0 0)=E at *;obtain⟨j,Z⟩:=E;generalize L.getD 0 0=b at *;go_wp2_with fail;refine(V (B _)).mono ?_;rintro e w ⟨rfl,rfl⟩;clear B J;go_wp2;go_step3;show Jf s L r w 2 _ _;exact⟨1,[],.slice none 0 0,b%32,j,Z,⟨rfl,rfl,rfl,rfl,rfl,rfl,rfl⟩,rfl,⟨rfl,rfl⟩,V HT⟩
   ·have HT:=O (Sn.first K F H S f6J t1E);clear K u y S F;generalize bnd (L.getD 0 0)=E at *;obtain⟨j,Z⟩:=E;generalize L.getD 0 0=b at *;go_wp2_with fail;refine(V (B _)).mono ?_;rintro e w ⟨rfl,rfl⟩;clear B J;go_wp2;go_step3;show Jf s L r w 3 _ _;exact⟨1,[],.slice none 0 0,b%16,j,Z,⟨rfl,rfl,rfl,rfl,rfl,rfl,rfl⟩,rfl,⟨rfl,rfl⟩,V HT⟩
   ·have HT:=O (Sn.first K F H S f6J t1E);clear K u y S F;generalize bnd (L.getD 0 0)=E at *;obtain⟨j,Z⟩:=E;generalize L.getD 0 0=b at *;go_wp2_with fail;refine(V (B _)).mono ?_;rintro e w ⟨rfl,rfl⟩;clear B J;go_wp2;go_step3;show Jf s L r w 4 _ _;exact⟨1,[],.slice none 0 0,b%8,j,Z,⟨rfl,rfl,rfl,rfl,rfl,rfl,rfl⟩,rfl,⟨rfl,rfl⟩,V HT⟩
   ·exact W9j
   ·exact W9j
  ·have i:s.size=0:=f6J;have hq:=Utf.x9O (by have:=V hn;exact f6J) u;have HF:x5K w r (.returned (.tuple #[.slice none 0 0,.int .i64 0,.bool true])) w:=.inl ⟨_,_,[],rfl,y,hq,A⟩;clear K u y hq;go_wp2;go_ret3;exact HF
 case pass =>
  intro l a wr h
  match l,h with
  | (l+6),h=>exact h.elim
  | 0,h =>
   obtain⟨k,m,v,g,K⟩:=h;obtain⟨U,hU,rfl⟩:=g.open;clear g hU
   conv=>arg 2;whnf
   obtain⟨G,y,ar,A,u⟩:=id K;by_cases H:k<s.size
   ·have J:=fun w=>x2m s (k:Int) k rfl H w;have ab:=(x1j (x0x s)).u8at k;rw[V Q]at J ab;have B:=fun w=>O (x2L (L.getD k 0) w ab.1 ab.2);have aH:((k:Int)==(s.size:Int))=false:=P8P;have F:=V hn;rcases ways (L.getD k 0)with⟨q,S⟩ | ⟨⟨P,q2⟩,S⟩ | ⟨⟨P,q2⟩,S⟩ | ⟨⟨P,q2⟩,S⟩ | ⟨⟨P,q2⟩,S⟩ | ⟨q,S⟩
    ·have HT:=O (Sn.first K F H S f6J t1E);clear K u y S F;generalize bnd (L.getD k 0)=E at *;obtain⟨j,Z⟩:=E;generalize L.getD k 0=b at *;go_wp2_with fail;refine(V (B _)).mono ?_;rintro e wr ⟨rfl,rfl⟩;clear B J;go_wp2;go_step3;show Jf s L r w 1 _ _/\_;exact⟨⟨k+1,m,v,b,0,0,⟨rfl,rfl,rfl,rfl,rfl,rfl,rfl⟩,rfl,V HT⟩,x1B (k:=k) (k2:=k+1) rfl rfl T7y⟩
    ·have HT:=O (Sn.first K F H S f6J t1E);clear K u y S F;generalize bnd (L.getD k 0)=E at *;obtain⟨j,Z⟩:=E;generalize L.getD k 0=b at *;go_wp2_with fail;refine(V (B _)).mono ?_;rintro e wr ⟨rfl,rfl⟩;clear B J;go_wp2;go_step3;show Jf s L r w 2 _ _/\_;exact⟨⟨k+1,m,v,b%32,j,Z,⟨rfl,rfl,rfl,rfl,rfl,rfl,rfl⟩,rfl,⟨rfl,rfl⟩,V HT⟩,x1B (k:=k) (k2:=k+1) rfl rfl T7y⟩
    ·have HT:=O (Sn.first K F H S f6J t1E);clear K u y S F;generalize bnd (L.getD k 0)=E at *;obtain⟨j,Z⟩:=E;generalize L.getD k 0=b at *;go_wp2_with fail;refine(V (B _)).mono ?_;rintro e wr ⟨rfl,rfl⟩;clear B J;go_wp2;go_step3;show Jf s L r w 3 _ _/\_;exact⟨⟨k+1,m,v,b%16,j,Z,⟨rfl,rfl,rfl,rfl,rfl,rfl,rfl⟩,rfl,⟨rfl,rfl⟩,V HT⟩,x1B (k:=k) (k2:=k+1) rfl rfl T7y⟩
    ·have HT:=O (Sn.first K F H S f6J t1E);clear K u y S F;generalize bnd (L.getD k 0)=E at *;obtain⟨j,Z⟩:=E;generalize L.getD k 0=b at *;go_wp2_with fail;refine(V (B _)).mono ?_;rintro e wr ⟨rfl,rfl⟩;clear B J;go_wp2;go_step3;show Jf s L r w 4 _ _/\_;exact⟨⟨k+1,m,v,b%8,j,Z,⟨rfl,rfl,rfl,rfl,rfl,rfl,rfl⟩,rfl,⟨rfl,rfl⟩,V HT⟩,x1B (k:=k) (k2:=k+1) rfl rfl T7y⟩
    ·exact v2p
    ·exact v2p
   ·obtain rfl:k=s.size:=f6J;have hq:=Utf.x9O (by have:=V hn;exact f6J) u;have HF:x5K w r (.returned (.tuple #[v,.int .i64 (s.size:Int),.bool true])) wr:=.inl ⟨v,_,m,rfl,y,hq,A⟩;clear K u y hq;go_wp2;go_ret3;exact HF
  | 1,h =>
   obtain⟨k,m,v,c,lo,hi,g,hc,K⟩:=h;obtain⟨U,hU,rfl⟩:=g.open;have ae:U 5=.int .i32 c:=(hU 5).symm.trans hc;rw[ae];clear g hU hc ae
   conv=>arg 2;whnf
   obtain⟨G,y,ar,A,aA,f,u⟩:=id K;have am:=O (Utf.x4l u);have I:=A.size;simp only[mx]at f;clear K u;go_wp2_with(at_builtin;refine wpList_append_own _ rfl (.tmp 105) (.tmp 107) 40 rfl w.heap.size 21 i0 (.int .i32 0) 1 4 underlying40 aw i d az rfl e8P _ _ _ rfl (y.row.alloc _) ⟨wr.heap.size,0,none⟩ 1 1 [.int .i32 c] rfl rfl (cell_one_new _ _ _) (x0J .i32 c) T7X f6J P8P ?_);intro X w9 Y R _;have aq:Ok .i32 21 w9 w.heap.size X (m++[c]):=Ok.of (y.1.snoc (x0T f6J)) P8P Y (by simp) (by simp);have x:Bw w w9:=x0p I y.row A R;clear Y R y A;go_wp2;go_step3;show Jf s L r w 0 _ _/\_;exact⟨⟨k,m++[c],X,⟨rfl,rfl,rfl,rfl,rfl,rfl,rfl⟩,⟨G,aq,P8P,x,V am⟩⟩,x1B (k:=k) (k2:=k) rfl rfl T7y⟩
  | 2,h =>
   obtain⟨k,m,v,c,lo,hi,g,hc,⟨af,ag⟩,K⟩:=h;obtain⟨U,hU,rfl⟩:=g.open;have ae:U 5=.int .i32 c:=(hU 5).symm.trans hc;have D:U 7=.int .u8 lo:=(hU 7).symm.trans af;have ai:U 8=.int .u8 hi:=(hU 8).symm.trans ag;rw[ae,D,ai];clear g hU hc ae af ag D ai
   conv=>arg 2;whnf
   have W:=fun w=>O (x1K s k lo hi w K.1);rw[V Q]at W
   cases ho:onb L k lo hi with
   | false =>
    have HT:=O (Sn.bad K (V hn) ho);have G:=K.1;have A:=K.2.2.2.1;rw[ho]at W;clear K ho;go_wp2_with fail;refine(V (W _)).mono ?_;rintro e wr ⟨rfl,rfl⟩;clear W;go_wp2;go_step3;show Jf s L r w 5 _ _/\_;exact⟨⟨k,v,⟨rfl,rfl,rfl,rfl,rfl,rfl,rfl⟩,G,V HT,A⟩,x1B (k:=k) (k2:=k) rfl rfl T7y⟩
   | true =>
    have HT:=O (Sn.next K f6J (V hn) ho);have H:k<s.size:=G4V;have J:=fun w=>x2m s (k:Int) k rfl H w;have ab:=(x1j (x0x s)).u8at k;rw[V Q]at J ab;have C:=fun w=>O (x0H c (L.getD k 0) w K.2.2.2.2.1 (y5i (n:=0) f6J K.2.2.2.2.2.1) ab.1 ab.2);rw[ho]at W;clear K ho;generalize L.getD k 0=b at *;go_wp2_with fail;refine(V (W _)).mono ?_;rintro e wr ⟨rfl,rfl⟩;clear W;go_wp2_with fail;refine(V (C _)).mono ?_;rintro e wr ⟨rfl,rfl⟩;clear C J;go_wp2;go_step3;have K:=V HT;clear HT ab;have N:(k:Int)+1=((k+1:Nat):Int):=f6J;rw[N];obtain⟨o,p⟩:∃t:Int,c*64+b%64=t:=⟨_,rfl⟩;rw[p]at K ⊢;obtain⟨M,T⟩:∃k',k+1=k':=⟨_,rfl⟩;rw[T]at K N ⊢;have aj:=O T;clear N T H p;obtain⟨G,y,ar,A,aA,f,u⟩:=id K;have am:=O (Utf.x4l u);have I:=A.size;simp only[mx]at f;clear K u;go_wp2_with(at_builtin;refine wpList_append_own _ rfl (.tmp 105) (.tmp 107) 40 rfl w.heap.size 21 i0 (.int .i32 0) 1 4 underlying40 aw i d az rfl e8P _ _ _ rfl (y.row.alloc _) ⟨wr.heap.size,0,none⟩ 1 1 [.int .i32 o] rfl rfl (cell_one_new _ _ _) (x0J .i32 o) T7X f6J P8P ?_);intro X w9 Y R _;have aq:Ok .i32 21 w9 w.heap.size X (m++[o]):=Ok.of (y.1.snoc (x0T f6J)) P8P Y (by simp) (by simp);have x:Bw w w9:=x0p I y.row A R;clear Y R y A;go_wp2;go_step3;show Jf s L r w 0 _ _/\_;exact⟨⟨M,m++[o],X,⟨rfl,rfl,rfl,rfl,rfl,rfl,rfl⟩,⟨G,aq,P8P,x,V am⟩⟩,x1B (k:=k) (k2:=M) rfl rfl G9p⟩
  | 3,h =>
   obtain⟨k,m,v,c,lo,hi,g,hc,⟨af,ag⟩,K⟩:=h;obtain⟨U,hU,rfl⟩:=g.open;have ae:U 5=.int .i32 c:=(hU 5).symm.trans hc;have D:U 7=.int .u8 lo:=(hU 7).symm.trans af;have ai:U 8=.int .u8 hi:=(hU 8).symm.trans ag;rw[ae,D,ai];clear g hU hc ae af ag D ai
   conv=>arg 2;whnf
   have W:=fun w=>O (x1K s k lo hi w K.1);rw[V Q]at W
   cases ho:onb L k lo hi with
   | false =>
    have HT:=O (Sn.bad K (V hn) ho);have G:=K.1;have A:=K.2.2.2.1;rw[ho]at W;clear K ho;go_wp2_with fail;refine(V (W _)).mono ?_;rintro e wr ⟨rfl,rfl⟩;clear W;go_wp2;go_step3;show Jf s L r w 5 _ _/\_;exact⟨⟨k,v,⟨rfl,rfl,rfl,rfl,rfl,rfl,rfl⟩,G,V HT,A⟩,x1B (k:=k) (k2:=k) rfl rfl T7y⟩
   | true =>
    have HT:=O (Sn.next K f6J (V hn) ho);have H:k<s.size:=G4V;have J:=fun w=>x2m s (k:Int) k rfl H w;have ab:=(x1j (x0x s)).u8at k;rw[V Q]at J ab;have C:=fun w=>O (x0H c (L.getD k 0) w K.2.2.2.2.1 (y5i (n:=1) f6J K.2.2.2.2.2.1) ab.1 ab.2);rw[ho]at W;clear K ho;generalize L.getD k 0=b at *;go_wp2_with fail;refine(V (W _)).mono ?_;rintro e wr ⟨rfl,rfl⟩;clear W;go_wp2_with fail;refine(V (C _)).mono ?_;rintro e wr ⟨rfl,rfl⟩;clear C J;go_wp2;go_step3;have K:=V HT;clear HT ab;have N:(k:Int)+1=((k+1:Nat):Int):=f6J;rw[N];obtain⟨o,p⟩:∃t:Int,c*64+b%64=t:=⟨_,rfl⟩;rw[p]at K ⊢;obtain⟨M,T⟩:∃k',k+1=k':=⟨_,rfl⟩;rw[T]at K N ⊢;have aj:=O T;clear N T H p;have W:=fun w=>O (x1K s M 128 191 w K.1);rw[V Q]at W
    cases ho:onb L M 128 191 with
    | false =>
     have HT:=O (Sn.bad K (V hn) ho);have G:=K.1;have A:=K.2.2.2.1;rw[ho]at W;clear K ho;go_wp2_with fail;refine(V (W _)).mono ?_;rintro e wr ⟨rfl,rfl⟩;clear W;go_wp2;go_step3;show Jf s L r w 5 _ _/\_;exact⟨⟨M,v,⟨rfl,rfl,rfl,rfl,rfl,rfl,rfl⟩,G,V HT,A⟩,x1B (k:=k) (k2:=M) rfl rfl G9p⟩
    | true =>
     have HT:=O (Sn.next K f6J (V hn) ho);have H:M<s.size:=G4V;have J:=fun w=>x2m s (M:Int) M rfl H w;have ab:=(x1j (x0x s)).u8at M;rw[V Q]at J ab;have C:=fun w=>O (x0H o (L.getD M 0) w K.2.2.2.2.1 (y5i (n:=0) f6J K.2.2.2.2.2.1) ab.1 ab.2);rw[ho]at W;clear K ho;generalize L.getD M 0=b at *;go_wp2_with fail;refine(V (W _)).mono ?_;rintro e wr ⟨rfl,rfl⟩;clear W;go_wp2_with fail;refine(V (C _)).mono ?_;rintro e wr ⟨rfl,rfl⟩;clear C J;go_wp2;go_step3;have K:=V HT;clear HT ab;have N:(M:Int)+1=((M+1:Nat):Int):=f6J;rw[N];obtain⟨z,p⟩:∃t:Int,o*64+b%64=t:=⟨_,rfl⟩;rw[p]at K ⊢;obtain⟨k2,T⟩:∃k',M+1=k':=⟨_,rfl⟩;rw[T]at K N ⊢;have ay:=O T;clear N T H p;obtain⟨G,y,ar,A,aA,f,u⟩:=id K;have am:=O (Utf.x4l u);have I:=A.size;simp only[mx]at f;clear K u;go_wp2_with(at_builtin;refine wpList_append_own _ rfl (.tmp 105) (.tmp 107) 40 rfl w.heap.size 21 i0 (.int .i32 0) 1 4 underlying40 aw i d az rfl e8P _ _ _ rfl (y.row.alloc _) ⟨wr.heap.size,0,none⟩ 1 1 [.int .i32 z] rfl rfl (cell_one_new _ _ _) (x0J .i32 z) T7X f6J P8P ?_);intro X w9 Y R _;have aq:Ok .i32 21 w9 w.heap.size X (m++[z]):=Ok.of (y.1.snoc (x0T f6J)) P8P Y (by simp) (by simp);have x:Bw w w9:=x0p I y.row A R;clear Y R y A;go_wp2;go_step3;show Jf s L r w 0 _ _/\_;exact⟨⟨k2,m++[z],X,⟨rfl,rfl,rfl,rfl,rfl,rfl,rfl⟩,⟨G,aq,P8P,x,V am⟩⟩,x1B (k:=k) (k2:=k2) rfl rfl T9a⟩
  | 4,h =>
   obtain⟨k,m,v,c,lo,hi,g,hc,⟨af,ag⟩,K⟩:=h;obtain⟨U,hU,rfl⟩:=g.open;have ae:U 5=.int .i32 c:=(hU 5).symm.trans hc;have D:U 7=.int .u8 lo:=(hU 7).symm.trans af;have ai:U 8=.int .u8 hi:=(hU 8).symm.trans ag;rw[ae,D,ai];clear g hU hc ae af ag D ai
   conv=>arg 2;whnf
   have W:=fun w=>O (x1K s k lo hi w K.1);rw[V Q]at W
   cases ho:onb L k lo hi with
   | false =>
    have HT:=O (Sn.bad K (V hn) ho);have G:=K.1;have A:=K.2.2.2.1;rw[ho]at W;clear K ho;go_wp2_with fail;refine(V (W _)).mono ?_;rintro e wr ⟨rfl,rfl⟩;clear W;go_wp2;go_step3;show Jf s L r w 5 _ _/\_;exact⟨⟨k,v,⟨rfl,rfl,rfl,rfl,rfl,rfl,rfl⟩,G,V HT,A⟩,x1B (k:=k) (k2:=k) rfl rfl T7y⟩
   | true =>
    have HT:=O (Sn.next K f6J (V hn) ho);have H:k<s.size:=G4V;have J:=fun w=>x2m s (k:Int) k rfl H w;have ab:=(x1j (x0x s)).u8at k;rw[V Q]at J ab;have C:=fun w=>O (x0H c (L.getD k 0) w K.2.2.2.2.1 (y5i (n:=2) f6J K.2.2.2.2.2.1) ab.1 ab.2);rw[ho]at W;clear K ho;generalize L.getD k 0=b at *;go_wp2_with fail;refine(V (W _)).mono ?_;rintro e wr ⟨rfl,rfl⟩;clear W;go_wp2_with fail;refine(V (C _)).mono ?_;rintro e wr ⟨rfl,rfl⟩;clear C J;go_wp2;go_step3;have K:=V HT;clear HT ab;have N:(k:Int)+1=((k+1:Nat):Int):=f6J;rw[N];obtain⟨o,p⟩:∃t:Int,c*64+b%64=t:=⟨_,rfl⟩;rw[p]at K ⊢;obtain⟨M,T⟩:∃k',k+1=k':=⟨_,rfl⟩;rw[T]at K N ⊢;have aj:=O T;clear N T H p;have W:=fun w=>O (x1K s M 128 191 w K.1);rw[V Q]at W
    cases ho:onb L M 128 191 with
    | false =>
     have HT:=O (Sn.bad K (V hn) ho);have G:=K.1;have A:=K.2.2.2.1;rw[ho]at W;clear K ho;go_wp2_with fail;refine(V (W _)).mono ?_;rintro e wr ⟨rfl,rfl⟩;clear W;go_wp2;go_step3;show Jf s L r w 5 _ _/\_;exact⟨⟨M,v,⟨rfl,rfl,rfl,rfl,rfl,rfl,rfl⟩,G,V HT,A⟩,x1B (k:=k) (k2:=M) rfl rfl G9p⟩
    | true =>
     have HT:=O (Sn.next K f6J (V hn) ho);have H:M<s.size:=G4V;have J:=fun w=>x2m s (M:Int) M rfl H w;have ab:=(x1j (x0x s)).u8at M;rw[V Q]at J ab;have C:=fun w=>O (x0H o (L.getD M 0) w K.2.2.2.2.1 (y5i (n:=1) f6J K.2.2.2.2.2.1) ab.1 ab.2);rw[ho]at W;clear K ho;generalize L.getD M 0=b at *;go_wp2_with fail;refine(V (W _)).mono ?_;rintro e wr ⟨rfl,rfl⟩;clear W;go_wp2_with fail;refine(V (C _)).mono ?_;rintro e wr ⟨rfl,rfl⟩;clear C J;go_wp2;go_step3;have K:=V HT;clear HT ab;have N:(M:Int)+1=((M+1:Nat):Int):=f6J;rw[N];obtain⟨z,p⟩:∃t:Int,o*64+b%64=t:=⟨_,rfl⟩;rw[p]at K ⊢;obtain⟨k2,T⟩:∃k',M+1=k':=⟨_,rfl⟩;rw[T]at K N ⊢;have ay:=O T;clear N T H p;have W:=fun w=>O (x1K s k2 128 191 w K.1);rw[V Q]at W
     cases ho:onb L k2 128 191 with
     | false =>
      have HT:=O (Sn.bad K (V hn) ho);have G:=K.1;have A:=K.2.2.2.1;rw[ho]at W;clear K ho;go_wp2_with fail;refine(V (W _)).mono ?_;rintro e wr ⟨rfl,rfl⟩;clear W;go_wp2;go_step3;show Jf s L r w 5 _ _/\_;exact⟨⟨k2,v,⟨rfl,rfl,rfl,rfl,rfl,rfl,rfl⟩,G,V HT,A⟩,x1B (k:=k) (k2:=k2) rfl rfl T9a⟩
     | true =>
      have HT:=O (Sn.next K f6J (V hn) ho);have H:k2<s.size:=G4V;have J:=fun w=>x2m s (k2:Int) k2 rfl H w;have ab:=(x1j (x0x s)).u8at k2;rw[V Q]at J ab;have C:=fun w=>O (x0H z (L.getD k2 0) w K.2.2.2.2.1 (y5i (n:=0) f6J K.2.2.2.2.2.1) ab.1 ab.2);rw[ho]at W;clear K ho;generalize L.getD k2 0=b at *;go_wp2_with fail;refine(V (W _)).mono ?_;rintro e wr ⟨rfl,rfl⟩;clear W;go_wp2_with fail;refine(V (C _)).mono ?_;rintro e wr ⟨rfl,rfl⟩;clear C J;go_wp2;go_step3;have K:=V HT;clear HT ab;have N:(k2:Int)+1=((k2+1:Nat):Int):=f6J;rw[N];obtain⟨c3,p⟩:∃t:Int,z*64+b%64=t:=⟨_,rfl⟩;rw[p]at K ⊢;obtain⟨k3,T⟩:∃k',k2+1=k':=⟨_,rfl⟩;rw[T]at K N ⊢;have aG:=O T;clear N T H p;obtain⟨G,y,ar,A,aA,f,u⟩:=id K;have am:=O (Utf.x4l u);have I:=A.size;simp only[mx]at f;clear K u;go_wp2_with(at_builtin;refine wpList_append_own _ rfl (.tmp 105) (.tmp 107) 40 rfl w.heap.size 21 i0 (.int .i32 0) 1 4 underlying40 aw i d az rfl e8P _ _ _ rfl (y.row.alloc _) ⟨wr.heap.size,0,none⟩ 1 1 [.int .i32 c3] rfl rfl (cell_one_new _ _ _) (x0J .i32 c3) T7X f6J P8P ?_);intro X w9 Y R _;have aq:Ok .i32 21 w9 w.heap.size X (m++[c3]):=Ok.of (y.1.snoc (x0T f6J)) P8P Y (by simp) (by simp);have x:Bw w w9:=x0p I y.row A R;clear Y R y A;go_wp2;go_step3;show Jf s L r w 0 _ _/\_;exact⟨⟨k3,m++[c3],X,⟨rfl,rfl,rfl,rfl,rfl,rfl,rfl⟩,⟨G,aq,P8P,x,V am⟩⟩,x1B (k:=k) (k2:=k3) rfl rfl (by have:=V aj;have:=V ay;have:=V aG;exact T7y)⟩
  | 5,h =>
   obtain⟨k,v,g,G,hq,A⟩:=h;obtain⟨U,hU,rfl⟩:=g.open;clear g hU
   conv=>arg 2;whnf
   have HF:x5K w r (.returned (.tuple #[.slice none 0 0,.int .i64 (k:Int),.bool false])) wr:=.inr ⟨_,hq,rfl,A⟩;clear hq A;go_wp2;go_ret3;exact HF
theorem decC:DecC:=by
 intro s w X;have H:=O (z2q s w X);generalize Utf.dec 0 (nums s)=r at *;go_enter func13,ntmps13;go_wp2_with fail;refine(V H).mono ?_;clear H;rintro e Q (⟨v,p,m,rfl,y,L,C⟩ | ⟨p,L,rfl,C⟩)
 ·have T:=x3E.end (w:=w) L y C;clear y L;exact i5E
 ·have T:=x3E.err (w:=w) L C;clear L;exact i5E
