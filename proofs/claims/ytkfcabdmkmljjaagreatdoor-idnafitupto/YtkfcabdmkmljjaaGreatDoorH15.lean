/- Lemmas. -/
import Derived.Test.YtkfcabdmkmljjaaGreatDoorH7
import Derived.Test.YtkfcabdmkmljjaaGreatDoorH14
import Derived.Test.YtkfcabdmkmljjaaGreatDoorH17
import Derived.BigQuiet
import Derived.Deep.QuietTactic
import Derived.Deep.DeepCutAuto
import Derived.Laws.BitsLemmas
import Derived.Test.YtkfcabdmkmljjaaGreatDoorH42
set_option maxHeartbeats 20000000
set_option maxRecDepth 40000
namespace Go.Proofs.YtkfcabdmkmljjaaGreatDoor
section
variable{p:Prop}
theorem R9W(h:p:=by go_enter func75,ntmps75;go_wp2;go_ret2;exact x2C.mk h):p:=h
theorem u7C(h:p:=by rw[Y.cell (x0a h.1)];exact h.1):p:=h
theorem R4Q(h:p:=by simp only[mx]at Z ⊢;omega):p:=h
theorem u9X(h:p:=by go_wp2;go_ret;exact⟨rfl,V T⟩):p:=h
theorem M7T(h:p:=by rw[Y.cell (x0a h.2)];exact h.2):p:=h
theorem n2h(h:p:=by
 obtain rfl:=V Q rfl;clear Q
 cases ob with
 | false =>
  clear B U;exact E0e
 | true =>
  go_wp2_with fail;refine c1m (V B _ (V x)) fun w2 H=>?_;obtain⟨y0,y1,y2,y3,y4,y5,y6,y7⟩:=(V U).keep H;have T:=O (bthen (V x) H);clear B U x H g S x2 x3 x4 x5 u x7
  cases b1 with
  | false =>exact u9X
  | true =>
   go_wp2_with fail;refine(V KZ _ (V T)).mono ?_;exact M5E):p:=h
theorem P9u(h:p:=by go_enter func146,ntmps146;exact E0c):p:=h
theorem w7s(h:p:=by rw[u];clear u;generalize(nums s).getD k 0=b at *;go_enter func76,ntmps76;exact t6v):p:=h
theorem e5T(h:p:=by
 have e:c+n+j*n=c+((j+1:Nat):Int)*n:=by
  rw[Int.natCast_add,Int.add_mul];simp;omega
 rw[e]):p:=h
theorem i6u(h:p:=by simpa[Nat.add_assoc,Nat.add_comm 1]using h):p:=h
theorem t0A(h:p:=by rw[Y.cell (x0a h.3)];exact h.3):p:=h
theorem n3U(h:p:=by rcases A with rfl | rfl<;>rfl):p:=h
theorem E0e(h:p:=by go_wp2;go_ret;exact⟨rfl,V x⟩):p:=h
theorem P7a(h:p:=by clear J KP E f U HZ y0 y1 y2 v S y5 M L;go_wp2;go_ret;exact⟨rfl,(V T).2⟩):p:=h
theorem w6u(h:p:=by rw[Y.cell (x0a h.4)];exact h.4):p:=h
theorem E4I(h:p:=by have u:onb (nums s) k lo hi=false:=d0f f6J;exact w7s):p:=h
theorem V2O(h:p:=by exact⟨by first| rfl | exact b,congrArg Value.bool (V HE)⟩):p:=h
theorem T7y(h:p:=by simp[mez]<;>omega):p:=h
theorem G9b(h:p:=by rcases A with rfl | rfl<;>exact⟨f6J,f6J⟩):p:=h
theorem n8C(h:p:=by have:=(x7g.1 ho).1;have:=V F;exact f6J):p:=h
theorem f5Y(h:p:=by first| rfl | trivial):p:=h
theorem E8Q(h:p:=by simp[List.getD,hk]):p:=h
theorem M5E(h:p:=by
 rintro e w3 ⟨rfl,rfl⟩;cases z
 all_goals
  go_wp2;go_ret;exact⟨rfl,V T⟩):p:=h
theorem r7e(h:p:=by go_enter func145,ntmps145;go_wp2;go_ret;exact⟨_,rfl,V L⟩):p:=h
end
end Go.Proofs.YtkfcabdmkmljjaaGreatDoor
namespace Go.Proofs.YtkfcabdmkmljjaaGreatDoor.Cn
open Go.Proofs.Tryz
open Ti
def dots(v n:Int):Nat->Int->List Tri.Rg
 | 0,_=>[]
 | k+1,c=>(c,c,v)::dots v n k (c+n)
def spoken(r:Rec)(v:Int):List Tri.Rg :=
 if r.kind≠4\/r.n=1 then[(r.lo,r.hi,v)]else dots v r.n ((r.hi-r.lo) / r.n+1).toNat r.lo
def value(r:Rec):Int:=if r.kind=1 then 1 else if r.kind=2 then 2 else if r.kind=3\/r.kind=4 then 3 else if r.kind=5 then 4 else if r.kind=11 then 1 else r.n
def famOf(f:Int)(rs:List Rec):List Rec:=rs.filter fun r=>decide (fam r.kind=f)
def rangesA(g:Nat->Rec->Int):Nat->List Rec->List Tri.Rg
 | _,[]=>[]
 | i,r::l=>spoken r (g i r)++rangesA g (i+1) l
theorem x6a{v n:Int}{x:Tri.Rg}:∀(k:Nat) (c:Int),x∈dots v n k c↔∃j:Nat,j<k/\x=(c+j*n,c+j*n,v)
 | 0,c=>by simp[dots]
 | k+1,c=>by
  rw[dots,List.mem_cons,x6a k (c+n)];constructor
  ·rintro(rfl | ⟨j,X,rfl⟩)
   ·exact⟨0,f6J,M7L⟩
   ·refine⟨j+1,f6J,?_⟩
    exact e5T
  ·rintro⟨j,X,rfl⟩
   cases j with
   | zero=>left;simp
   | succ j =>
    right;refine⟨j,f6J,?_⟩
    exact e5T
theorem y1h{j n:Int}(X:0<=j)(F:1<=n):0<=j*n:=Int.mul_nonneg X f6J
theorem x2X{r}(h:right r=0)(G:r.kind≠15){v}{x:Tri.Rg}(J:x∈spoken r v):Tri.vl x=v/\0<=Tri.lo x/\Tri.lo x<=Tri.hi x/\Tri.hi x<=1114111/\∀c,Tri.lo x<=c->c<=Tri.hi x->speaks r c=true:=by
 obtain⟨U,B,C⟩:=x0p h G;have A:=right_step h;unfold spoken at J;split at J
 ·rename_i hc
  rw[List.mem_singleton]at J;subst J;refine⟨rfl,U,B,C,fun c Z D=>?_⟩;have E:r.lo<=c:=Z;have F:c<=r.hi:=D
  have e:step r=1:=by
   unfold step;rcases hc with hc | hc
   ·rw[if_neg hc]
   ·omega
  unfold speaks;rw[e];exact d0t ⟨G,e8N,f6J,f6J,E,F,Int.emod_one _⟩
 ·rename_i hc
  obtain⟨H,K⟩:r.kind=4/\r.n≠1:=by
   constructor
   ·omega
   ·exact fun e=>hc (.inr e)
  have d:step r=r.n:=by
   unfold step at A ⊢;rw[if_pos H]at A ⊢;omega
  rw[d]at A;obtain⟨j,X,rfl⟩:=(x6a _ _).1 J;have hd:0<=(r.hi-r.lo) / r.n:=Int.ediv_nonneg f6J f6J;have I:(j:Int)<=(r.hi-r.lo) / r.n:=f6J;have o:(j:Int)*r.n<=r.hi-r.lo:=Int.le_trans (Int.mul_le_mul_of_nonneg_right I f6J) (Int.ediv_mul_le _ f6J);have i:0<=(j:Int)*r.n:=y1h f6J f6J;refine⟨rfl,by show 0<=r.lo+j*r.n;exact f6J,Int.le_refl _,by show r.lo+j*r.n<=_;exact f6J,fun c Z D=>?_⟩;have E:r.lo+j*r.n<=c:=Z;have F:c<=r.lo+j*r.n:=D;obtain rfl:c=r.lo+j*r.n:=f6J;unfold speaks;rw[d];refine d0t ⟨G,f6J,f6J,f6J,f6J,f6J,?_⟩;rw[(f6J:r.lo+j*r.n-r.lo=j*r.n)];exact Int.mul_emod_left _ _
theorem z1i{r}(h:right r=0) v{c}(L:speaks r c=true):∃x∈spoken r v,Tri.lo x<=c/\c<=Tri.hi x:=by
 have A:=right_step h;unfold speaks at L;obtain⟨_,_,X,C,B,K,S⟩:=o0d L;unfold spoken;split
 ·exact⟨_,List.mem_singleton.2 rfl,B,K⟩
 ·rename_i hc
  obtain⟨H,G⟩:r.kind=4/\r.n≠1:=by
   constructor
   ·omega
   ·exact fun e=>hc (.inr e)
  have d:step r=r.n:=by
   unfold step at A ⊢;rw[if_pos H]at A ⊢;omega
  rw[d]at A S;obtain⟨q,y⟩:=Int.dvd_of_emod_eq_zero S
  have M:0<=q:=by
   rcases Int.lt_or_le q 0 with hn | hn
   ·exfalso;have:r.n*q<=r.n*(-1):=Int.mul_le_mul_of_nonneg_left f6J f6J;omega
   ·exact hn
  have i:q<=(r.hi-r.lo) / r.n:=by
   rw[Int.le_ediv_iff_mul_le f6J,Int.mul_comm];omega
  refine⟨(c,c,v),(x6a _ _).2 ⟨q.toNat,f6J,?_⟩,Int.le_refl _,Int.le_refl _⟩;rw[(f6J:((q.toNat:Nat):Int)=q),Int.mul_comm q,<- y];have:r.lo+(c-r.lo)=c:=f6J;rw[this]
def Apart(x y:Tri.Rg):Prop:=Tri.hi x<Tri.lo y\/Tri.hi y<Tri.lo x
theorem Apart.symm{x y:Tri.Rg}(h:Apart x y):Apart y x:=Or.symm h
theorem x8o{v n:Int}(F:1<=n):∀(k:Nat) (c:Int),(dots v n k c).Pairwise Apart
 | 0,_=>List.Pairwise.nil
 | k+1,c=>by
  rw[dots];refine List.Pairwise.cons (fun x A=>?_) (x8o F k (c+n));obtain⟨j,_,rfl⟩:=(x6a _ _).1 A;have:=y1h (j:=j) f6J F;left;show c<c+n+j*n;omega
theorem y1N{r}(h:right r=0) v:(spoken r v).Pairwise Apart:=by
 unfold spoken;split
 ·exact List.pairwise_singleton _ _
 ·rename_i hc
  have A:=right_step h;have H:r.kind=4:=Decidable.byContradiction fun e=>hc (.inl e);unfold step at A;rw[if_pos H]at A;exact x8o f6J _ _
theorem x1O{g:Nat->Rec->Int}{x:Tri.Rg}:∀(l:List Rec) (i:Nat),x∈rangesA g i l↔∃k,∃G:k<l.length,x∈spoken l[k] (g (i+k) l[k])
 | [],_=>by simp[rangesA]
 | r::l,i=>by
  rw[rangesA,List.mem_append,x1O l (i+1)];constructor
  ·rintro(h | ⟨k,G,h⟩)
   ·exact⟨0,M7K,h⟩
   ·exact⟨k+1,E9n,i6u⟩
  ·rintro⟨k,G,h⟩
   cases k with
   | zero=>exact .inl h
   | succ k=>exact .inr ⟨k,E9n,i6u⟩
structure Fine(l:List Rec):Prop where
 right:∀r∈l,right r=0
 notMix:∀r∈l,r.kind≠15
 apart:l.Pairwise fun a b=>∀c,¬(speaks a c=true/\speaks b c=true)
theorem Fine.tail{r l}(h:Fine (r::l)):Fine l:=⟨fun x A=>h.1 x (List.mem_cons_of_mem _ A),fun x A=>h.2 x (List.mem_cons_of_mem _ A),(List.pairwise_cons.1 h.3).2⟩
theorem x4o{g:Nat->Rec->Int}:∀(l:List Rec) (i:Nat),Fine l->(rangesA g i l).Pairwise Apart
 | [],_,_=>List.Pairwise.nil
 | r::l,i,h=>by
  rw[rangesA,List.pairwise_append];refine⟨y1N (h.1 r M7K) _,x4o l (i+1) h.tail,fun x A y hy=>?_⟩;obtain⟨k,G,hy⟩:=(x1O l (i+1)).1 hy;obtain⟨_,_,d,_,B⟩:=x2X (h.1 r M7K) (h.2 r M7K) A;have o:l[k]∈r::l:=List.mem_cons_of_mem _ (List.getElem_mem G);obtain⟨_,_,b1,_,p⟩:=x2X (h.1 _ o) (h.2 _ o) hy;have J:=(List.pairwise_cons.1 h.3).1 l[k] (List.getElem_mem G);unfold Apart;rcases Int.lt_or_le (Tri.hi x) (Tri.lo y)with h1 | h1
  ·exact .inl h1
  ·rcases Int.lt_or_le (Tri.hi y) (Tri.lo x)with h2 | h2
   ·exact .inr h2
   ·exfalso;rcases Int.le_total (Tri.lo x) (Tri.lo y)with h3 | h3
    ·exact J (Tri.lo y) ⟨B _ h3 h1,p _ (Int.le_refl _) b1⟩
    ·exact J (Tri.lo x) ⟨B _ (Int.le_refl _) d,p _ h3 h2⟩
theorem z5w:∀(m:List Tri.Rg) (b:Int),(∀x∈m,b<=Tri.lo x/\Tri.lo x<=Tri.hi x/\Tri.hi x<=1114111/\0<=Tri.vl x/\Tri.vl x<=65535)->m.Pairwise Apart->m.Pairwise (fun x y=>Tri.lo x<=Tri.lo y)->Tri.Val b m
 | [],_,_,_,_=>trivial
 | x::m,b,h,ha,hs=>by
  obtain⟨Z,D,J,H,K⟩:=h x M7L;obtain⟨W,A⟩:=List.pairwise_cons.1 ha;obtain⟨N,F⟩:=List.pairwise_cons.1 hs;refine⟨Z,D,J,H,K,z5w m (Tri.hi x+1) (fun y hy=>?_) A F⟩;obtain⟨i,g2,M,j,B⟩:=h y (List.mem_cons_of_mem _ hy);have e:=N y hy;have d:=W y hy;unfold Apart at d;exact⟨f6J,g2,M,j,B⟩
theorem z1A{x:Tri.Rg}:∀(m:List Tri.Rg) (b:Int),Tri.Val b m->x∈m->b<=Tri.lo x
 | y::m,b,h,hx=>by
  obtain⟨i,g2,_,_,_,L⟩:=h;rcases List.mem_cons.1 hx with rfl | hx
  ·exact i
  ·have:=z1A m _ L hx;omega
theorem z4Z{d c:Int}{x:Tri.Rg}:∀(m:List Tri.Rg) (b:Int),Tri.Val b m->x∈m->Tri.lo x<=c->c<=Tri.hi x->Tri.get d m c=Tri.vl x
 | y::m,b,h,hx,h1,h2=>by
  obtain⟨i,g2,M,j,B,L⟩:=h;rw[Tri.x1q];rcases List.mem_cons.1 hx with rfl | hx
  ·rw[if_pos ⟨h1,h2⟩]
  ·have Y:Tri.hi y+1<=Tri.lo x:=z1A m _ L hx;rw[if_neg f6J];exact z4Z m _ L hx h1 h2
theorem y9d{d c:Int}:∀(m:List Tri.Rg),(∀x∈m,¬(Tri.lo x<=c/\c<=Tri.hi x))->Tri.get d m c=d
 | [],_=>rfl
 | y::m,h=>by rw[Tri.x1q,if_neg (h y M7K),y9d m fun x A=>h x (List.mem_cons_of_mem _ A)]
theorem y3t{g:Nat->Rec->Int}{i l}{m:List Tri.Rg}(h:Fine l)(C:∀k,(G:k<l.length)->0<=g (i+k) l[k]/\g (i+k) l[k]<=65535)(s:m.Perm (rangesA g i l))(L:m.Pairwise fun x y=>Tri.lo x<=Tri.lo y) :
  Tri.Val 0 m/\∀c,(∀k,(G:k<l.length)->speaks l[k] c=true->Tri.get 0 m c=g (i+k) l[k])/\((∀r∈l,speaks r c=false)->Tri.get 0 m c=0):=by
 have N:Tri.Val 0 m:=by
  refine z5w m 0 (fun x A=>?_) ((x4o (g:=g) l i h).perm s.symm Apart.symm) L;obtain⟨k,G,A⟩:=(x1O l i).1 (s.mem_iff.1 A);obtain⟨d,P,f,X,_⟩:=x2X (h.1 _ (List.getElem_mem G)) (h.2 _ (List.getElem_mem G)) A;have:=C k G;exact⟨P,f,X,f6J,f6J⟩
 refine⟨N,fun c=>⟨fun k G F=>?_,fun J=>?_⟩⟩
 ·obtain⟨x,A,Z,D⟩:=z1i (h.1 _ (List.getElem_mem G)) (g (i+k) l[k]) F;rw[z4Z m 0 N (s.mem_iff.2 ((x1O l i).2 ⟨k,G,A⟩)) Z D];exact(x2X (h.1 _ (List.getElem_mem G)) (h.2 _ (List.getElem_mem G)) A).1
 ·refine y9d m fun x A I=>?_;obtain⟨k,G,A⟩:=(x1O l i).1 (s.mem_iff.1 A);have:=(x2X (h.1 _ (List.getElem_mem G)) (h.2 _ (List.getElem_mem G)) A).2.2.2.2 c I.1 I.2;rw[J _ (List.getElem_mem G)]at this;cases this
theorem x0s{f rs r}:r∈famOf f rs↔r∈rs/\fam r.kind=f:=by simp[famOf]
theorem y2y{rs f}(h:(check6 rs).2=0)(z:f≠10/\f≠0):Fine (famOf f rs):=by
 obtain⟨_,D,J⟩:=x0k.1 h;have G:∀r:Rec,fam r.kind=f->r.kind≠15:=fun r e E=>z.1 (by rw[<- e,E];exact e8M);refine⟨fun r u=>D r (x0s.1 u).1,fun r u=>G r (x0s.1 u).2,?_⟩;have H:=List.Pairwise.and_mem.1 (J.filter fun r=>decide (fam r.kind=f));refine H.imp fun{a b} hab c hc=>?_;obtain⟨g,Y,F⟩:=hab;have A:=x0s.1 g;have K:=x0s.1 Y;rw[(x1M (D a A.1) (D b K.1) (A.2.trans K.2.symm) (G a A.2) (G b K.2)).2 ⟨c,hc⟩]at F;cases F
theorem y7d{rs f}(h:(check6 rs).2=0)(z:f≠10/\f≠0)(N:∀r∈rs,fam r.kind=f->0<=value r/\value r<=65535){m:List Tri.Rg}(s:m.Perm (rangesA (fun _ r=>value r) 1 (famOf f rs)))(L:m.Pairwise fun x y=>Tri.lo x<=Tri.lo y) :
  Tri.Val 0 m/\∀c,Tri.get 0 m c=match hit rs f c with | some r=>value r | Option.none=>0:=by
 obtain⟨Z,D⟩:=y3t (y2y h z) (fun k G=>by have:=x0s.1 (List.getElem_mem G);exact N _ this.1 this.2) s L;refine⟨Z,fun c=>?_⟩
 cases he:hit rs f c with
 | some r =>
  obtain⟨i,A,M⟩:=(x1N h z r).1 he;obtain⟨k,G,rfl⟩:=List.getElem_of_mem (x0s.2 ⟨i,A⟩);exact(D c).1 k G M
 | none=>exact(D c).2 fun r u=>y4j z he r (x0s.1 u).1 (x0s.1 u).2
theorem x8F{rs f}(h:(check6 rs).2=0)(z:f≠10/\f≠0){m:List Tri.Rg}(s:m.Perm (rangesA (fun i _=>(i:Int)) 1 (famOf f rs)))(L:m.Pairwise fun x y=>Tri.lo x<=Tri.lo y) :
  Tri.Val 0 m/\∀c,0<=Tri.get 0 m c/\Tri.get 0 m c<=(famOf f rs).length/\(none::famOf f rs).getD (Tri.get 0 m c).toNat none=match hit rs f c with | some r=>r | Option.none=>none:=by
 have d:(famOf f rs).length<=4096:=Nat.le_trans (List.length_filter_le _ _) (x0k.1 h).1;obtain⟨Z,D⟩:=y3t (y2y h z) (fun k G=>f6J) s L;refine⟨Z,fun c=>?_⟩
 cases he:hit rs f c with
 | some r =>
  obtain⟨B,A,M⟩:=(x1N h z r).1 he;obtain⟨k,G,rfl⟩:=List.getElem_of_mem (x0s.2 ⟨B,A⟩);rw[(D c).1 k G M];refine⟨f6J,f6J,?_⟩;rw[(f6J:((1+k:Nat):Int).toNat=k+1)];exact w8a
 | none =>
  rw[(D c).2 fun r u=>y4j z he r (x0s.1 u).1 (x0s.1 u).2];exact⟨f6J,f6J,rfl⟩
end Go.Proofs.YtkfcabdmkmljjaaGreatDoor.Cn
namespace Go.Proofs.YtkfcabdmkmljjaaGreatDoor
open Go.Proofs.Tryz
open Go.RowKit
namespace Cn
theorem z2M{k}(h:fam k=10):k=15:=by
  unfold fam at h;split at h
  · omega
  · omega
theorem y5p{b s hi c k}(h:¬c<=hi):clashA b s hi k c=false:=by
  cases k with
  | zero=>rfl
  | succ k=>rw[clashA,if_neg h]
theorem y5q{b s hi c k}(h:c<=hi)(L:speaks b c=true):clashA b s hi (k+1) c=true:=by
  rw[clashA,if_pos h,L];rfl
theorem y2m{b s hi c k}(h:c<=hi)(L:speaks b c=false):clashA b s hi (k+1) c=clashA b s hi k (c+s):=by
  rw[clashA,if_pos h,L];rfl
end Cn
theorem bytes_beq(a b:ByteArray):(a.toList==b.toList)=decide (a=b):=by
  have h:a.toList=b.toList↔a=b:=⟨fun h=>by
    rw[ByteArray.toList_eq,ByteArray.toList_eq]at h;obtain⟨⟨x⟩⟩:=a;obtain⟨⟨y⟩⟩:=b
    simpa using h,fun h=>by rw[h]⟩
  by_cases e:a=b
  · grind
  · grind
structure BoxAt(w:World)(b:Nat)(kd lo hi n:Int)(vt:Value)(nm ot:ByteArray)(wt:Nat):Prop where
  kind:w.cell? ⟨b,0,none⟩=some (.int .i64 kd)
  lo:w.cell? ⟨b,1,none⟩=some (.int .i64 lo)
  hi:w.cell? ⟨b,2,none⟩=some (.int .i64 hi)
  n:w.cell? ⟨b,3,none⟩=some (.int .i64 n)
  tq:w.cell? ⟨b,4,none⟩=some vt
  name:w.cell? ⟨b,5,none⟩=some (.string nm)
  other:w.cell? ⟨b,6,none⟩=some (.string ot)
  wt:w.cell? ⟨b,7,none⟩=some (.float .f64 wt)
theorem BoxAt.keep{w w' b kd lo hi n vt}{nm ot wt}(h:BoxAt w b kd lo hi n vt nm ot wt)(Y:Bw w w'):BoxAt w' b kd lo hi n vt nm ot wt :=
  ⟨u7C,M7T,t0A,w6u,by rw[Y.cell (x0a h.5)];exact h.5,by rw[Y.cell (x0a h.6)];exact h.6,by rw[Y.cell (x0a h.7)];exact h.7,by rw[Y.cell (x0a h.8)];exact h.8⟩
theorem y2j(w:World) kd lo hi n vt nm ot wt:BoxAt (w.alloc (.cells #[.int .i64 kd,.int .i64 lo,.int .i64 hi,.int .i64 n,vt,.string nm,.string ot,.float .f64 wt] 60)) w.heap.size kd lo hi n vt nm ot wt:=by
  refine⟨?_,?_,?_,?_,?_,?_,?_,?_⟩<;>simp[World.cell?,World.alloc,-World.alloc_eq]
def boxO(kd lo hi n:Int)(vt:Value)(nm ot:ByteArray)(wt:Nat):Obj:=.cells #[.int .i64 kd,.int .i64 lo,.int .i64 hi,.int .i64 n,vt,.string nm,.string ot,.float .f64 wt] 60
theorem z5Y w k1 l1 h1 n1 v1 a1 b1 t1 k2 l2 h2 n2 v2 a2 b2 t2 :
    ∃W,(w.alloc (boxO k1 l1 h1 n1 v1 a1 b1 t1)).alloc (boxO k2 l2 h2 n2 v2 a2 b2 t2)=W/\BoxAt W w.heap.size k1 l1 h1 n1 v1 a1 b1 t1/\BoxAt W (w.heap.size+1) k2 l2 h2 n2 v2 a2 b2 t2/\Bw w W:=by
  refine⟨_,rfl,(y2j w k1 l1 h1 n1 v1 a1 b1 t1).keep ((b0r).alloc (l0r _) _),?_,((b0r).alloc (l0r _) _).alloc M7K _⟩;have:=y2j (w.alloc (boxO k1 l1 h1 n1 v1 a1 b1 t1)) k2 l2 h2 n2 v2 a2 b2 t2;simpa[boxO]using this
def ClIn(w:World)(b:Nat)(k2 l2 h2 n2:Int)(v2:Value)(a2 b2:ByteArray)(t2:Nat)(W:World):Prop:=BoxAt W b k2 l2 h2 n2 v2 a2 b2 t2/\Below w.heap.size w W
theorem ClIn.on{w b k2 l2 h2 n2 v2}{a2 b2 t2 W W'}(h:ClIn w b k2 l2 h2 n2 v2 a2 b2 t2 W)(Y:Bw W W'):ClIn w b k2 l2 h2 n2 v2 a2 b2 t2 W':=⟨h.1.keep Y,bthen h.2 Y⟩
theorem y1z:z4M:=by
  intro a b va vb w fa fb t az ra rb;have P:∀k w,Hid (I64 k)->Hid (Calls prog 80 #[.int .i64 k] w fun e w'=>e=.returned (.int .i64 (Cn.fam k))/\w'=w):=fun k w h=>x0j k w (V h);have p:=O (fun w=>x7n a va w fa);have KP:=O (fun c w hc=>x4r b vb c w fb hc);obtain⟨R,J⟩:∃R,Cn.clash a b=R:=⟨_,rfl⟩;have F:=J;unfold Cn.clash at F;rw[J];clear J;have h1:=fun h=>Cn.x0p (r:=a) ra h;have D:=fun h=>Cn.x0p (r:=b) rb h;have h3:=Cn.right_step ra;obtain⟨ao,ca,rfl,_,_⟩:=t.shape;obtain⟨bo,cb,rfl,_,_⟩:=az.shape;have E:Hid (∀s hi k c,c<=hi->Cn.speaks b c=true->Cn.clashA b s hi (k+1) c=true):=fun s hi k c h hs=>Cn.y5q h hs;have f:Hid (∀s hi k c,c<=hi->Cn.speaks b c=false->Cn.clashA b s hi (k+1) c=Cn.clashA b s hi k (c+s)):=fun s hi k c h hs=>Cn.y2m h hs;have U:Hid (∀s hi k c,¬c<=hi->Cn.clashA b s hi k c=false):=fun s hi k c h=>Cn.y5p h;have HZ:Hid (∀s hi c,Cn.clashA b s hi 0 c=false):=fun s hi c=>rfl;have u:b.kind=15->Cn.fam b.kind=10:=fun h=>(by rw[h];rfl);have Y:Cn.fam a.kind=10->a.kind=15:=Cn.z2M;have H:=fa.kind;have I:=fb.kind;clear t az ra rb fa fb;generalize Cn.clashA b=cA,Cn.speaks b=sp,Cn.step a=X at *;unfold recV at *;generalize a.kind=kind1,a.lo=lo1,a.hi=hi1,a.n=n1 at *;generalize a.name=name1,a.other=other1,a.wt=wt1,b.kind=C at *;generalize b.lo=lo2,b.hi=hi2,b.n=n2 at *;generalize b.name=name2,b.other=other2,b.wt=ae at *;generalize a.to.length=tl1,b.to.length=B at *;have F1:=O H;have x:=O I;clear H I;generalize Cn.fam=fam at *;obtain⟨w0,m,g,aj,am⟩:=z5Y w kind1 lo1 hi1 n1 (.slice ao tl1 ca) name1 other1 wt1 C lo2 hi2 n2 (.slice bo B cb) name2 other2 ae;unfold boxO at m;have l:=O g;have af:=O aj;have Z:=O am;clear am;obtain⟨x0,x1,x2,x3,x4,x5,x6,x7⟩:=g;obtain⟨y0,y1,y2,v,S,y5,M,L⟩:=aj;by_cases z:fam kind1=fam C;rotate_left
  · rw[if_pos z]at F
    subst F;have q:(fam kind1 != fam C)=true:=p1J;clear h1 D h3 u Y E f U HZ p KP z;go_enter func79,ntmps79;go_wp2_with fail;go_quiet(first| (go_at_call 80;refine Calls.quiet_of_same (V (P _ _ ?_));with_reducible (first| exact F1 | exact x)));go_wp2;go_ret;exact⟨rfl,bthen (V Z) (x0i ⟨_,rfl⟩)⟩
  rw[if_neg (by simpa using z)]at F;have q:(fam kind1 != fam C)=false:=p1J;by_cases ab:kind1=15
  · rw[if_pos ab]at F
    have aw:(kind1==15)=true:=f9c;clear ab z;have e1:=bytes_beq name1 name2;have e2:=bytes_beq other1 other2;have e3:=bytes_beq name1 other2;have e4:=bytes_beq other1 name2
    have ar:R=((decide (name1=name2)&&decide (other1=other2))||(decide (name1=other2)&&decide (other1=name2))):=by
      rw[<- F];by_cases c1:name1=name2<;>by_cases c2:other1=other2<;>by_cases c3:name1=other2<;>by_cases c4:other1=name2<;>simp_all
    clear F h1 D h3 u Y E f U HZ p KP;generalize decide (name1=name2)=c1,decide (other1=other2)=c2,decide (name1=other2)=c3,decide (other1=name2)=c4 at *;subst ar;cases c1<;>cases c2<;>cases c3<;>cases c4<;>
    (go_enter func79,ntmps79
     go_wp2_with fail;go_quiet(first| (go_at_call 80;refine Calls.quiet_of_same (V (P _ _ ?_));with_reducible (first| exact F1 | exact x)));go_wp2;go_ret
     exact⟨rfl,bthen (V Z) (x0i ⟨_,rfl⟩)⟩)
  rw[if_neg ab]at F;have aw:(kind1==15)=false:=b0f ab;have Q:C≠15:=fun h=>ab (Y (z.trans (u h)));obtain⟨a0,a1,a2⟩:=h1 ab;obtain⟨b0,b1,b2⟩:=D Q;obtain⟨s0,s1⟩:=h3;clear h1 D u Y Q ab z;have aD:∃mx,max lo1 lo2=mx/\0<=mx/\mx<=1114111/\lo1<=mx:=⟨_,rfl,f6J,f6J,f6J⟩;obtain⟨mx,aB,m0,m1,m2⟩:=aD;have aC:∃A,min hi1 hi2=A/\0<=A/\A<=1114111:=⟨_,rfl,f6J,f6J⟩;obtain⟨A,aA,n0,n9⟩:=aC;rw[aB,aA]at F
  obtain⟨c0,K,c1,c2,F⟩:∃c0:Int,(if lo1<mx then lo1+(mx-lo1+X-1) / X*X else lo1)=c0/\0<=c0/\c0<=1114200/\cA X A 64 c0=R:=by
    refine⟨_,rfl,?_,?_,F⟩
    · split
      · have:=Int.ediv_nonneg (a:=mx-lo1+X-1) (b:=X) f6J f6J
        have:=Int.mul_nonneg this (f6J:0<=X);omega
      · omega
    · split
      · have:=Int.ediv_mul_le (mx-lo1+X-1) (f6J:X≠0)
        omega
      · omega
  have ag:=O F;clear F;have ai:Hid (∀W,Bw w0 W->Calls prog 127 #[.agg #[.int .i64 kind1,.int .i64 lo1,.int .i64 hi1,.int .i64 n1,.slice ao tl1 ca,.string name1,.string other1,.float .f64 wt1]] W (fun e N=>e=.returned (.int .i64 X)/\BoxAt N w.heap.size kind1 lo1 hi1 n1 (.slice ao tl1 ca) name1 other1 wt1/\ClIn w (w.heap.size+1) C lo2 hi2 n2 (.slice bo B cb) name2 other2 ae N)):=fun W hb=>(V p W).mono (fun e N ⟨h1,D⟩=>⟨h1,(V l).keep (bthen hb D),(V af).keep (bthen hb D),bthen (V Z) (bthen hb D)⟩);clear p l af Z;rcases Int.lt_or_le lo1 lo2 with g1 | g1;obtain rfl:lo2=mx:=f6J;rw[if_pos g1]at K;obtain⟨d,hd⟩:∃d,(lo2-lo1+X-1).tdiv X=d:=⟨_,rfl⟩;have j:(lo2-lo1+X-1) / X=d:=(by rw[<- hd,Int.tdiv_eq_ediv_of_nonneg f6J]);have e0:=Int.mul_nonneg (Int.ediv_nonneg (a:=lo2-lo1+X-1) (b:=X) f6J f6J) (f6J:0<=X);have e1:=Int.ediv_mul_le (lo2-lo1+X-1) (f6J:X≠0);have e8:=Int.ediv_nonneg (a:=lo2-lo1+X-1) (b:=X) f6J f6J;have e9:=Int.ediv_le_self (a:=lo2-lo1+X-1) X f6J;rw[j]at K e0 e1 e8 e9;obtain rfl:=K;have e2:(X==0)=false:=b0f f6J;clear j;rotate_left;obtain rfl:lo1=mx:=f6J;rw[if_neg f6J]at K;obtain rfl:=K
  all_goals
    rcases Int.lt_or_le hi2 hi1 with g2 | g2;have em:=O (f6J:hi2=A);rotate_left;have em:=O (f6J:hi1=A)
    all_goals
      go_enter func79,ntmps79;go_wp2_with fail;go_quiet(first| (go_at_call 80;refine Calls.quiet_of_same (V (P _ _ ?_));with_reducible (first| exact F1 | exact x)));go_wp2_with fail;go_quiet(fail);clear P F1 x;go_wp2_with fail;refine((V ai) _ (x0i ⟨_,rfl⟩)).mono ?_;rintro e1 w1 ⟨rfl,g,o⟩;have T:=O o;clear ai o x0 x1 x2 x3 x4 x5 x6 x7 y0 y1 y2 v S y5 M L m;obtain⟨x0,x1,x2,x3,x4,x5,x6,x7⟩:=g
      try
        go_wp2_with fail;go_quiet(fail);have T:=O ((V T).on (x0i ⟨nq,rfl⟩))
      go_wp2;rw[V em];clear x0 x1 x2 x3 x4 x5 x6 x7;go_loopw[8,9] (fun cv kv wr=>∃(k:Nat) (c:Int),cv=.int .i64 c/\kv=.int .i64 k/\k<=64/\0<=c/\c<=1114200/\cA X A (64-k) c=R/\ClIn w (w.heap.size+1) C lo2 hi2 n2 (.slice bo B cb) name2 other2 ae wr) (fun _ kv _=>64-(intOf kv).toNat)
      case atStart=>exact⟨0,_,rfl,rfl,f6J,f6J,f6J,V ag,V T⟩
      case round =>
        clear ag T;obtain⟨k,c,rfl,rfl,hk,k0,k1,J,o⟩:=hrel;have T:=O o;obtain⟨y0,y1,y2,v,S,y5,M,L⟩:=o.1;clear o;by_cases aF:k<64
        · by_cases i:c<=A
          · obtain⟨r,hr⟩:∃r,64-k=r+1:=⟨63-k,f6J⟩
            rw[hr]at J;have HH:=O (fun h=>(V E X A r c i h).symm.trans J);have HX:=O (fun h=>(V f X A r c i h).symm.trans J);have KC:=O (V KP c wr ⟨f6J,f6J⟩);clear J KP E f U HZ;generalize sp c=y at *;go_wp2_with fail;refine c0m KC fun w2 aq=>?_;have T:=O ((V T).on aq);clear KC aq y0 y1 y2 v S y5 M L
            cases y with
            | true =>
              obtain rfl:=V HH rfl;clear HH HX;go_wp2;go_ret;exact⟨rfl,(V T).2⟩
            | false =>
              have G:=O (V HX rfl);clear HH HX;go_wp2
              go_roundw
              case rel=>exact⟨k+1,c+X,g2A,g2A,f6J,f6J,f6J,by rw[(f6J:64-(k+1)=r)];exact V G,V T⟩
              case measure=>exact g7T
          · obtain rfl:=(V U X A (64-k) c f6J).symm.trans J
            exact P7a
        · obtain rfl:k=64:=by omega
          obtain rfl:=(V HZ X A c).symm.trans J;exact P7a
theorem x0J w kd lo hi n vt nm ot wt:∃W,w.alloc (.cells #[.int .i64 kd,.int .i64 lo,.int .i64 hi,.int .i64 n,vt,.string nm,.string ot,.float .f64 wt] 60)=W/\BoxAt W w.heap.size kd lo hi n vt nm ot wt/\Bw w W :=
 ⟨_,rfl,y2j w kd lo hi n vt nm ot wt,(b0r).alloc (l0r _) _⟩
def ansG(x:Bool):Int:=if x=true then 0 else 61
theorem x0M x:Rune (wrap32 x):=by
 unfold wrap32 Rune;omega
theorem y6i{x}(R:0<=x)(Z:x<=1114111):wrap32 (bits BinOp.and IntKind.i64 x 2097151)=x:=by
 have A:(2:Int)^63=9223372036854775808:=e8N;have h:=bits_mask .i64 63 e8N (fun n R Z=>by rw[A]at Z;exact s7C) 21 e8N x f6J (by rw[A];exact f6J);have e:((2:Int)^21-1)=2097151:=e8N;have E:((2:Int)^21)=2097152:=e8N;rw[e,E]at h;rw[h];unfold wrap32;omega
theorem x2U{okb oneb lo hi}(o:Hid (okb=decide (0<=lo/\lo<=hi/\hi<=(1114111:Int))))(l:Hid (okb=true->oneb=(decide (lo=hi)&&Cn.scalar lo))):∃G:Bool->Prop,Hid (0<=lo->lo<=hi->hi<=1114111->true=okb)/\Hid (¬(0<=lo/\lo<=hi/\hi<=1114111)->false=okb)/\Hid (lo=hi->G (Cn.scalar (wrap32 (bits BinOp.and IntKind.i64 lo 2097151))))/\Hid (¬lo=hi->G false)/\Hid (∀z,G z->okb=true->z=oneb) :=
 ⟨fun z=>okb=true->z=oneb,fun y q K=>by rw[V o,d0t ⟨y,q,K⟩],fun c=>by rw[V o,d0f c],fun d h=>by
  have Z:=o0d ((V o).symm.trans h)
  rw[V l h,y6i Z.1 f6J,d0t d,Bool.true_and],fun d h=>by rw[V l h,d0f d,Bool.false_and],fun _ h=>h⟩
open Ti
theorem y7c r vt w(z:RecFit r)(L:Sk .i32 w vt r.to):Calls prog 146 #[recV r vt] w (IntB w (Cn.value r)):=by
 obtain⟨B,J,rfl,_,_⟩:=L.shape;unfold recV;obtain⟨X,b,Y,f⟩:=x0J w r.kind r.lo r.hi r.n (.slice B r.to.length J) r.name r.other r.wt;obtain⟨D,S,p,K,j,m,G,k⟩:=Y;have x:=O f;obtain⟨M,o⟩:=z.kind;unfold Cn.value;generalize r.kind=F at *;by_cases P:F=1
 ·rw[if_pos P];subst P;exact P9u
 by_cases E:F=2
 ·rw[if_neg P,if_pos E];subst E;exact P9u
 by_cases N:F=3
 ·rw[if_neg P,if_neg E,if_pos (.inl N)];subst N;exact P9u
 by_cases I:F=4
 ·rw[if_neg P,if_neg E,if_pos (.inr I)];subst I;exact P9u
 by_cases U:F=5
 ·rw[if_neg P,if_neg E,if_neg f6J,if_pos U];subst U;exact P9u
 by_cases C:F=11
 ·rw[if_neg P,if_neg E,if_neg f6J,if_neg U,if_pos C];subst C;exact P9u
 ·rw[if_neg P,if_neg E,if_neg f6J,if_neg U,if_neg C];have u:(F==1)=false:=b0f P;have g:(F==2)=false:=b0f E;have l:(F==3)=false:=b0f N;have v:(F==4)=false:=b0f I;have R:(F==5)=false:=b0f U;have t:(F==11)=false:=b0f C;exact P9u
namespace Cn
theorem q0N{lo hi n:Int}(F:1<=n)(h:lo<=hi)(j:Nat):lo+j*n<=hi↔j<((hi-lo) / n+1).toNat:=by
 have R:0<=(hi-lo) / n:=Int.ediv_nonneg f6J f6J;have Z:(j:Int)<=(hi-lo) / n↔(j:Int)*n<=hi-lo:=Int.le_ediv_iff_mul_le f6J;constructor
 ·omega
 ·omega
theorem y0C(v n:Int):∀(j:Nat) (c:Int),dots v n (j+1) c=dots v n j c++[(c+j*n,c+j*n,v)]
 | 0,c=>by simp[dots]
 | j+1,c=>by
  rw[dots,y0C v n j (c+n),dots,List.cons_append]
  have e:c+n+j*n=c+((j+1:Nat):Int)*n:=by
   rw[Int.natCast_add,Int.add_mul];exact f4R
  rw[e]
theorem x5Z(v n:Int):∀(j:Nat) (c:Int),(dots v n j c).length=j
 | 0,_=>rfl
 | j+1,c=>by rw[dots,List.length_cons,x5Z v n j]
end Cn
theorem y6G{w:World}{B B' sz n e v xs}(h:w.ownsRow B e sz v n xs)(Y:B'<=B):w.ownsRow B' e sz v n xs:=by
 obtain⟨Z,D⟩:=h;refine⟨Z,?_⟩;rcases D with D | ⟨g,M,Q,a,b,c⟩
 ·exact .inl D
 ·exact .inr ⟨g,M,Q,a,Nat.le_trans Y b,c⟩
theorem z7C(w:World) lo hi v(Z:Fi lo)(D:Fi hi)(J:Fi v):Or4 (w.alloc (.cells #[.int .i64 lo,.int .i64 hi,.int .i64 v] 272)) w.heap.size (.slice (some ⟨w.heap.size,0,none⟩) 1 1) [(lo,hi,v)]:=by
 refine⟨fun r u=>?_,M7M,⟨rfl,.inr ⟨w.heap.size,1,#[.int .i64 lo,.int .i64 hi,.int .i64 v],rfl,l0r _,?_,l0r _,T7W,rfl,rfl⟩⟩⟩
 ·simp only[List.mem_cons,List.mem_nil_iff,or_false]at u;subst u;exact⟨Z,D,J⟩
 ·exact R0p
theorem x7D r vt v w(z:RecFit r)(hs:Sk .i32 w vt r.to)(hr:Cn.right r=0)(hk:r.kind≠15)(hv:Fi v):Calls prog 145 #[recV r vt,.int .i64 v] w (y7q w (Cn.spoken r v)):=by
 obtain⟨i0,ai,d,am,R⟩:=info_parts Tryz.info272;obtain⟨ao,tc,rfl,_,_⟩:=hs.shape;obtain⟨s1,s2,s3⟩:=Cn.x0p hr hk;have ag:=Cn.right_step hr;unfold recV;obtain⟨X,b,Y,f⟩:=x0J w r.kind r.lo r.hi r.n (.slice ao r.to.length tc) r.name r.other r.wt;have U:Hid (∀W,Bw X W->BoxAt W w.heap.size r.kind r.lo r.hi r.n (.slice ao r.to.length tc) r.name r.other r.wt):=fun W h=>Y.keep h;obtain⟨x0,x1,x2,x3,x4,x5,x6,x7⟩:=Y;have t:Hid (∀W u ys,Or4 W X.heap.size u ys->Bw X W->Or4 W w.heap.size u ys/\Bw w W):=fun W u ys h1 h2=>⟨⟨h1.1,h1.2.1,y6G h1.2.2 f.size⟩,bthen f h2⟩;obtain⟨k1,k2⟩:=z.kind;obtain⟨n1,n2⟩:=z.n
 have aj:r.kind=4->1<=r.n/\r.n<=64:=fun e=>by
  unfold Cn.step at ag;rw[if_pos e]at ag;omega
 by_cases hc:r.kind≠4\/r.n=1
 ·have F:Cn.spoken r v=[(r.lo,r.hi,v)]:=(by unfold Cn.spoken;rw[if_pos hc]);rw[F];have HO:=O (z7C X r.lo r.hi v ⟨f6J,f6J⟩ ⟨f6J,f6J⟩ hv);generalize r.kind=kd,r.lo=lo,r.hi=hi,r.n=n at *;generalize r.name=nm,r.other=ot,r.wt=wt,r.to.length=tl at *;have L:=O (V t _ _ _ (V HO) ((b0r).alloc (l0r _) _));by_cases H:kd=4
  ·subst H;obtain rfl:n=1:=f6J;exact r7e
  ·have d4:(kd != 4)=true:=(by simp[H]);exact r7e
 ·obtain⟨H,G⟩:r.kind=4/\r.n≠1:=f6J;obtain⟨q,az⟩:=aj H;have F:Cn.spoken r v=Cn.dots v r.n ((r.hi-r.lo) / r.n+1).toNat r.lo:=(by unfold Cn.spoken;rw[if_neg hc]);rw[F];have Z:Hid (∀j:Nat,r.lo+j*r.n<=r.hi↔j<((r.hi-r.lo) / r.n+1).toNat):=fun j=>Cn.q0N q s2 j;have a:Hid (∀j:Nat,Cn.dots v r.n (j+1) r.lo=Cn.dots v r.n j r.lo++[(r.lo+j*r.n,r.lo+j*r.n,v)]):=fun j=>Cn.y0C v r.n j r.lo;have B:Hid (∀j:Nat,(Cn.dots v r.n j r.lo).length=j):=fun j=>Cn.x5Z v r.n j r.lo
  have aw:((r.hi-r.lo) / r.n+1).toNat<=1114112:=by
   have:(r.hi-r.lo) / r.n<=r.hi-r.lo:=Int.ediv_le_self _ f6J;omega
  have d1:(r.n==1)=false:=b0f G;generalize((r.hi-r.lo) / r.n+1).toNat=m,r.kind=kd at *;subst H;generalize r.lo=lo,r.hi=hi,r.n=n at *;generalize r.name=nm,r.other=ot,r.wt=wt at *;generalize r.to.length=tl,hds:Cn.dots v n m lo=aq at *;have I:=O hds;go_enter func145,ntmps145;go_wp2;go_loopw[5,6] (fun lv cv wr=>∃(j:Nat) (c:Int),cv=.int .i64 c/\c=lo+j*n/\lo<=c/\c<=1114175/\j<=m/\Or4 wr X.heap.size lv (Cn.dots v n j lo)/\Bw X wr) (fun _ cv _=>(1114176-intOf cv).toNat)
  case atStart=>exact⟨0,lo,rfl,M7N,f6J,f6J,f6J,Or4.nil _ _,b0r⟩
  case round =>
   obtain⟨j,c,rfl,E,l,ar,hj,P,T⟩:=hrel;obtain⟨y0,y1,y2,y3,y4,y5,y6,y7⟩:=V U _ T
   have HJ:Hid (c<=hi↔j<m):=by
    show _↔_;rw[E];exact V Z j
   have ae:Hid (Cn.dots v n (j+1) lo=Cn.dots v n j lo++[(c,c,v)]):=by
    show _=_;rw[V a j,<- E]
   have p:Hid (c+n=lo+((j+1:Nat):Int)*n):=by
    show _=_;rw[Int.natCast_add,Int.add_mul,E];simp;omega
   have Q:=V B j;have J:=P.2.2;have s:=P.1;have aA:=T.size;clear Z a B E x0 x1 x2 x3 x4 x5 x6 x7;obtain⟨v1,v2⟩:=hv;rw[Q]at J;clear P;generalize hd2:Cn.dots v n j lo=D at *;have K:=O hd2;clear hd2;by_cases i:c<=hi
   ·have af:=(V HJ).1 i;have S:=y7P wr (c,c,v);simp only[Tri.x6V,Tri.x9q,Tri.vl_mk]at S;have C:Hid (∀o,(wr.alloc o).ownsRow X.heap.size 272 3 u5 j (Ti.rcells D)):=fun o=>J.alloc o;have ab:=O S
    have M:Hid (∀N A o,A.ownsRow X.heap.size 272 3 N (j+1) (Ti.rcells D++Ti.rcells [(c,c,v)])->(wr.alloc o).grownBy A u5.ownBlock->Or4 A X.heap.size N (D++[(c,c,v)])/\Bw X A):=fun N A o k y=>by
     refine⟨⟨fun x hx=>?_,by rw[List.length_append,Q];exact P8P,by rw[List.length_append,Q,Ti.x2f];exact k⟩,(T.alloc T.size o).grown y (T.alloc T.size o).size (fun g hg=>(J.lt g hg).1)⟩;rcases List.mem_append.1 hx with hx | hx
     ·exact s x hx
     ·simp only[List.mem_cons,List.mem_nil_iff,or_false]at hx;subst hx;exact⟨⟨by show _<=c;exact f6J,by show c<=_;exact f6J⟩,⟨by show _<=c;exact f6J,by show c<=_;exact f6J⟩,⟨v1,v2⟩⟩
    clear J S s T Q HJ;go_wp2_with(at_builtin;refine wpList_append_own _ rfl (.tmp 32) (.tmp 37) 230 rfl X.heap.size 272 i0 (.agg #[.int .i64 0,.int .i64 0,.int .i64 0]) 3 24 underlying230 ai d am R rfl e8Q _ _ _ rfl (V C _) ⟨wr.heap.size,0,none⟩ 1 1 (Ti.rcells [(c,c,v)]) rfl rfl (V ab) (Ti.x4W [(c,c,v)]) T7X f6J P8P ?_);intro N A k y _;obtain⟨P,T⟩:=V M N A _ k y;obtain⟨z0,z1,z2,z3,z4,z5,z6,z7⟩:=V U _ T;clear M C ab k y y0 y1 y2 y3 y4 y5 y6 y7;go_wp2
    go_roundw
    case rel=>exact⟨j+1,c+n,g2D,V p,f6J,f6J,f6J,by rw[V ae];exact P,T⟩
    case measure=>exact g7W
   ·have af:j=m:=(by have:=(V HJ).2;exact f6J);subst af;have L:=O (V t _ _ _ ⟨s,f6J,by rw[Q];exact J⟩ T);rw[show D=aq from(V K).symm.trans (V I)]at L;clear K J s T Q HJ t U ae p I;go_wp2;go_ret;exact⟨_,rfl,V L⟩
def bnd(b:Int):Int×Int:=if b=224 then(160,191)else if b=237 then(128,159)else if b=240 then(144,191)else if b=244 then(128,143)else(128,191)
def x2C(w:World)(r:Int×Int)(e:Ending)(w':World):Prop:=e=.returned (.tuple #[.int .u8 r.1,.int .u8 r.2])/\w'=w
theorem x2C.mk{w}{r:Int×Int}{a b}(h:r=(a,b)):x2C w r (.returned (.tuple #[.int .u8 a,.int .u8 b])) w:=t5o
theorem x5Q b w(R:0<=b)(Z:b<=255):Calls prog 75 #[.int .u8 b] w (x2C w (bnd b)):=by
 have u:(b=224/\bnd b=(160,191))\/(b=237/\bnd b=(128,159))\/(b=240/\bnd b=(144,191))\/(b=244/\bnd b=(128,143))\/((b≠224/\b≠237/\b≠240/\b≠244)/\bnd b=(128,191)):=by
  unfold bnd;split
  ·simp[*]
  ·grind
 rcases u with⟨rfl,h⟩ | ⟨rfl,h⟩ | ⟨rfl,h⟩ | ⟨rfl,h⟩ | ⟨⟨T,a,D,G⟩,h⟩
 ·generalize bnd 224=r at *;exact R9W
 ·generalize bnd 237=r at *;exact R9W
 ·generalize bnd 240=r at *;exact R9W
 ·generalize bnd 244=r at *;exact R9W
 ·generalize bnd b=r at *;exact R9W
def onb(zs:List Int)(k:Nat)(lo hi:Int):Bool:=decide (k<zs.length/\lo<=zs.getD k 0/\zs.getD k 0<=hi)
theorem x4N s(k:Nat) lo hi w(G:k<=s.size):Calls prog 76 #[.string s,.int .i64 k,.int .u8 lo,.int .u8 hi] w (fun e w'=>e=.returned (.bool (onb (nums s) k lo hi))/\w'=w):=by
 have F:=nums_length s;by_cases E:k<s.size
 ·have Q:=x2A s k k rfl E;by_cases Z:lo<=(nums s).getD k 0
  ·by_cases D:(nums s).getD k 0<=hi
   ·have u:onb (nums s) k lo hi=true:=d0t ⟨f6J,Z,D⟩;exact w7s
   ·exact E4I
  ·exact E4I
 ·have u:onb (nums s) k lo hi=false:=d0f f6J;rw[u];clear u;go_enter func76,ntmps76;exact t6v
theorem x1Q c b w(K:0<=c)(l:c<=32767)(f:0<=b)(F:b<=255):Calls prog 77 #[.int .i32 c,.int .u8 b] w (fun e w'=>e=.returned (.int .i32 (c*64+b%64))/\w'=w):=by
 go_enter func77,ntmps77;exact t6u
theorem z3W zs:Utf.dec 0 zs=Utf.glue [] (Utf.dec 0 (zs.drop 0)):=by
 rw[List.drop_zero,Utf.y4h]
 ·intro h;rcases Utf.dec_shape _ 0 zs (l0r _)with Z | ⟨q,Z,_⟩
  ·exact Z.2.1
  ·rw[Z]at h;simp at h
 ·intro h;rcases Utf.dec_shape _ 0 zs (l0r _)with Z | ⟨q,Z,_⟩
  ·exact absurd Z.1 h
  ·rw[Z]
def S0(s:ByteArray)(zs:List Int)(r:List Int×Int×Int)(w:World)(k:Nat)(xs:List Int)(v:Value)(wr:World):Prop :=
 k<=s.size/\Ok .i32 21 wr w.heap.size v xs/\xs.length<=k/\Below w.heap.size w wr/\r=Utf.glue xs (Utf.dec k (zs.drop k))
def mx:Nat->Int
 | 3=>7
 | 2=>511
 | 1=>32767
 | _=>2097151
def Sn(s:ByteArray)(zs:List Int)(r:List Int×Int×Int)(w:World)(n k:Nat)(xs:List Int)(v:Value)(c lo hi:Int)(wr:World):Prop :=
 k<=s.size/\Ok .i32 21 wr w.heap.size v xs/\xs.length+1<=k/\Below w.heap.size w wr/\0<=c/\c<=mx n/\r=Utf.fin xs zs (Utf.x0P n lo hi c k (zs.drop k))
def Fr(s:ByteArray)(v:Value)(k:Nat)(a:Act):Prop:=a.defers=[]/\a.tmps.size=110/\a.tmps.getD 0 undef=.string s/\a.tmps.getD 1 undef=undef/\a.tmps.getD 2 undef=v/\a.tmps.getD 3 undef=.int .i64 (k:Int)/\a.tmps.getD 4 undef=.bool false
def Fc(c:Int)(a:Act):Prop:=a.tmps.getD 5 undef=.int .i32 c
def Fb(lo hi:Int)(a:Act):Prop:=a.tmps.getD 7 undef=.int .u8 lo/\a.tmps.getD 8 undef=.int .u8 hi
theorem z3x l n(h:l.length=n):l=(List.range n).map (fun i=>l.getD i undef):=by
 apply List.ext_getElem
 ·simp[h]
 ·grind
theorem Fr.open{s v k a}(h:Fr s v k a):∃U:Nat->Value,(∀i,a.tmps.getD i undef=U i)/\a=({ tmps:=#[.string s,undef,v,.int .i64 (k:Int),.bool false,U 5,U 6,U 7,U 8,U 9,U 10,U 11,U 12,U 13,U 14,U 15,U 16,U 17,U 18,U 19,U 20,U 21,U 22,U 23,U 24,U 25,U 26,U 27,U 28,U 29,U 30,U 31,U 32,U 33,U 34,U 35,U 36,U 37,U 38,U 39,U 40,U 41,U 42,U 43,U 44,U 45,U 46,U 47,U 48,U 49,U 50,U 51,U 52,U 53,U 54,U 55,U 56,U 57,U 58,U 59,U 60,U 61,U 62,U 63,U 64,U 65,U 66,U 67,U 68,U 69,U 70,U 71,U 72,U 73,U 74,U 75,U 76,U 77,U 78,U 79,U 80,U 81,U 82,U 83,U 84,U 85,U 86,U 87,U 88,U 89,U 90,U 91,U 92,U 93,U 94,U 95,U 96,U 97,U 98,U 99,U 100,U 101,U 102,U 103,U 104,U 105,U 106,U 107,U 108,U 109],defers:=[] }:Act):=by
 obtain⟨t,d⟩:=a;obtain⟨Z,D,J,H,K,y,x⟩:=h;refine⟨fun i=>t.getD i undef,fun i=>rfl,?_⟩;simp only at Z D J H K y x;subst Z;congr 1;rw[<- J,<- K,<- y,<- x];obtain⟨l⟩:=t;have S:l.length=110:=(by simpa using D);apply congrArg Array.mk;have e:=z3x l 110 S;rw[show(List.range 110).map (fun i=>l.getD i undef)=[l.getD 0 undef,l.getD 1 undef,l.getD 2 undef,l.getD 3 undef,l.getD 4 undef,l.getD 5 undef,l.getD 6 undef,l.getD 7 undef,l.getD 8 undef,l.getD 9 undef,l.getD 10 undef,l.getD 11 undef,l.getD 12 undef,l.getD 13 undef,l.getD 14 undef,l.getD 15 undef,l.getD 16 undef,l.getD 17 undef,l.getD 18 undef,l.getD 19 undef,l.getD 20 undef,l.getD 21 undef,l.getD 22 undef,l.getD 23 undef,l.getD 24 undef,l.getD 25 undef,l.getD 26 undef,l.getD 27 undef,l.getD 28 undef,l.getD 29 undef,l.getD 30 undef,l.getD 31 undef,l.getD 32 undef,l.getD 33 undef,l.getD 34 undef,l.getD 35 undef,l.getD 36 undef,l.getD 37 undef,l.getD 38 undef,l.getD 39 undef,l.getD 40 undef,l.getD 41 undef,l.getD 42 undef,l.getD 43 undef,l.getD 44 undef,l.getD 45 undef,l.getD 46 undef,l.getD 47 undef,l.getD 48 undef,l.getD 49 undef,l.getD 50 undef,l.getD 51 undef,l.getD 52 undef,l.getD 53 undef,l.getD 54 undef,l.getD 55 undef,l.getD 56 undef,l.getD 57 undef,l.getD 58 undef,l.getD 59 undef,l.getD 60 undef,l.getD 61 undef,l.getD 62 undef,l.getD 63 undef,l.getD 64 undef,l.getD 65 undef,l.getD 66 undef,l.getD 67 undef,l.getD 68 undef,l.getD 69 undef,l.getD 70 undef,l.getD 71 undef,l.getD 72 undef,l.getD 73 undef,l.getD 74 undef,l.getD 75 undef,l.getD 76 undef,l.getD 77 undef,l.getD 78 undef,l.getD 79 undef,l.getD 80 undef,l.getD 81 undef,l.getD 82 undef,l.getD 83 undef,l.getD 84 undef,l.getD 85 undef,l.getD 86 undef,l.getD 87 undef,l.getD 88 undef,l.getD 89 undef,l.getD 90 undef,l.getD 91 undef,l.getD 92 undef,l.getD 93 undef,l.getD 94 undef,l.getD 95 undef,l.getD 96 undef,l.getD 97 undef,l.getD 98 undef,l.getD 99 undef,l.getD 100 undef,l.getD 101 undef,l.getD 102 undef,l.getD 103 undef,l.getD 104 undef,l.getD 105 undef,l.getD 106 undef,l.getD 107 undef,l.getD 108 undef,l.getD 109 undef]from rfl]at e;have g:∀i,(Array.mk l).getD i undef=l.getD i undef:=fun i=>m9N;have A:l.getD 1 undef=undef:=(by grind);simp only[g];rw[A]at e;exact e
def Jf(s:ByteArray)(zs:List Int)(r:List Int×Int×Int)(w:World):Nat->Act->World->Prop
 | 0,a,wr=>∃(k:Nat) (xs:List Int) (v:Value),Fr s v k a/\S0 s zs r w k xs v wr
 | 1,a,wr=>∃(k:Nat) (xs:List Int) (v:Value) (c lo hi:Int),Fr s v k a/\Fc c a/\Sn s zs r w 0 k xs v c lo hi wr
 | 2,a,wr=>∃(k:Nat) (xs:List Int) (v:Value) (c lo hi:Int),Fr s v k a/\Fc c a/\Fb lo hi a/\Sn s zs r w 1 k xs v c lo hi wr
 | 3,a,wr=>∃(k:Nat) (xs:List Int) (v:Value) (c lo hi:Int),Fr s v k a/\Fc c a/\Fb lo hi a/\Sn s zs r w 2 k xs v c lo hi wr
 | 4,a,wr=>∃(k:Nat) (xs:List Int) (v:Value) (c lo hi:Int),Fr s v k a/\Fc c a/\Fb lo hi a/\Sn s zs r w 3 k xs v c lo hi wr
 | 5,a,wr=>∃(k:Nat) (v:Value),Fr s v k a/\k<=s.size/\r=([],(k:Int),30)/\Below w.heap.size w wr
 | _,_,_=>False
def mes(N l:Nat)(a:Act):Nat:=if l=5 then 0 else 2*(N-(intOf (a.tmps.getD 3 undef)).toNat)+(if l=0 then 0 else 1)
def mez(N l k:Nat):Nat:=if l=5 then 0 else 2*(N-k)+(if l=0 then 0 else 1)
theorem x3u{N l l2 k k2 a a2}(h:a.tmps.getD 3 undef=.int .i64 (k:Int))(D:a2.tmps.getD 3 undef=.int .i64 (k2:Int))(o:mez N l2 k2<mez N l k):mes N l2 a2<mes N l a:=by
 unfold mes;rw[h,D];exact o
def x8U(w:World)(r:List Int×Int×Int)(e:Ending)(w':World):Prop :=
 (∃v p xs,e=.returned (.tuple #[v,.int .i64 p,.bool true])/\Ok .i32 21 w' w.heap.size v xs/\r=(xs,0,0)/\Below w.heap.size w w') \/
  (∃p,r=([],p,30)/\e=.returned (.tuple #[.slice none 0 0,.int .i64 p,.bool false])/\Below w.heap.size w w')
theorem ways b:(b<=127/\Utf.lead b=some (0,0,0,b))\/((194<=b/\b<=223)/\Utf.lead b=some (1,(bnd b).1,(bnd b).2,b%32))\/((224<=b/\b<=239)/\Utf.lead b=some (2,(bnd b).1,(bnd b).2,b%16)) \/
  ((240<=b/\b<=244)/\Utf.lead b=some (3,(bnd b).1,(bnd b).2,b%8))\/((128<=b/\b<194)/\Utf.lead b=none)\/(244<b/\Utf.lead b=none):=by
 by_cases Z:b<=127
 ·exact .inl ⟨Z,by unfold Utf.lead;rw[if_pos f6J]⟩
 ·by_cases D:194<=b/\b<=223
  ·refine .inr (.inl ⟨D,?_⟩);rw[Utf.z9U D];unfold bnd;rw[if_neg f6J,if_neg f6J,if_neg f6J,if_neg f6J]
  ·by_cases J:224<=b/\b<=239
   ·refine .inr (.inr (.inl ⟨J,?_⟩));rw[Utf.z9V J];unfold bnd;by_cases P:b=224
    ·subst P;simp
    ·grind
   ·by_cases H:240<=b/\b<=244
    ·refine .inr (.inr (.inr (.inl ⟨H,?_⟩)));rw[Utf.z9W H];unfold bnd;by_cases P:b=240
     ·subst P;simp
     ·grind
    ·have F:Utf.lead b=none:=by
      unfold Utf.lead;rw[if_neg f6J,if_neg D,if_neg f6J,if_neg f6J,if_neg f6J,if_neg f6J,if_neg f6J,if_neg f6J]
     by_cases K:b<194
     ·exact .inr (.inr (.inr (.inr (.inl ⟨⟨f6J,K⟩,F⟩))))
     ·exact .inr (.inr (.inr (.inr (.inr ⟨f6J,F⟩))))
theorem Sn.first{s zs r w}{k n xs v wr}{lo hi c}(h:S0 s zs r w k xs v wr)(T:zs.length=s.size)(G:k<s.size)(S:Utf.lead (zs.getD k 0)=some (n,lo,hi,c))(R:0<=c)(Z:c<=mx n):Sn s zs r w n (k+1) xs v c lo hi wr:=by
 obtain⟨d,P,f,X,t⟩:=h;have:=Utf.x8g f6J t;rw[S]at this;exact⟨f6J,P,f6J,X,R,Z,this⟩
theorem S0.none{s zs r w}{k xs v wr}(h:S0 s zs r w k xs v wr)(T:zs.length=s.size)(G:k<s.size)(S:Utf.lead (zs.getD k 0)=none):r=([],(k:Int),30):=by
 have:=Utf.x8g f6J h.2.2.2.2;rw[S]at this;exact this
theorem z7t{n c}(F:n<=2)(R:0<=c)(Z:c<=mx (n+1)) y:0<=c*64+y%64/\c*64+y%64<=mx n:=by
 match n,F with
 | 0,_=>exact R4Q
 | 1,_=>exact R4Q
 | 2,_=>exact R4Q
theorem z7s{n c}(F:n<=2)(Z:c<=mx (n+1)):c<=32767:=by
 match n,F with
 | 0,_=>simp only[mx]at Z;omega
 | 1,_=>simp only[mx]at Z;omega
 | 2,_=>simp only[mx]at Z;omega
theorem x7g{zs k lo hi}:onb zs k lo hi=true↔k<zs.length/\lo<=zs.getD k 0/\zs.getD k 0<=hi:=by unfold onb;exact decide_eq_true_iff
theorem Sn.next{s zs r w}{k n xs v wr}{lo hi c}(h:Sn s zs r w (n+1) k xs v c lo hi wr)(F:n<=2)(T:zs.length=s.size)(C:onb zs k lo hi=true) :
  Sn s zs r w n (k+1) xs v (c*64+zs.getD k 0%64) 128 191 wr:=by
 obtain⟨d,P,f,X,t,A,B⟩:=h;obtain⟨b1,u,z⟩:=x7g.1 C;have:=z7t F t A (zs.getD k 0);exact⟨f6J,P,f6J,X,this.1,this.2,Utf.y9T b1 u z B⟩
theorem Sn.bad{s zs r w}{k n xs v wr}{lo hi c}(h:Sn s zs r w (n+1) k xs v c lo hi wr)(T:zs.length=s.size)(X:onb zs k lo hi=false):r=([],(k:Int),30):=by
 obtain⟨d,P,f,C,t,A,B⟩:=h;have J:¬(k<zs.length/\lo<=zs.getD k 0/\zs.getD k 0<=hi):=fun h=>(by rw[x7g.2 h]at X;cases X);rcases Nat.lt_or_ge k zs.length with h1 | h1
 ·exact Utf.z3D h1 f6J B
 ·exact Utf.z3E f6J B
theorem z3Z s w(hs:s.size<=1000000000):Calls prog 45 #[.string s] w (x8U w (Utf.dec 0 (nums s))):=by
 obtain⟨i0,ai,d,Y,am⟩:=info_parts Tryz.info21;have N:=nums_length s;have J:=z3W (nums s);generalize Utf.dec 0 (nums s)=r at *;obtain⟨m,ab⟩:∃m,nums s=m:=⟨_,rfl⟩;rw[ab]at N J;have ae:=O J;have j:=O ab;have F:=O N;clear J ab N;go_enter func45,ntmps45;go_wp2;refine wp_scope_jumps (Jf s m r w) (fun l a _=>mes s.size l a) ?hf ?first ?pass
 case hf =>
  intro l a wr h
  match l,h with
  | 0,_=>rfl
  | 1,_=>rfl
  | 2,_=>rfl
  | 3,_=>rfl
  | 4,_=>rfl
  | 5,_=>rfl
  | (l+6),h=>exact h.elim
 case first =>
  intro H;have hS:S0 s m r w 0 [] (.slice none 0 0) w:=⟨f6J,Ok.nil _ _ _ _,M7N,b0r,V ae⟩;clear ae;go_wp2;go_step3
  rename_i K hK
  refine hK _ _ ?_;exact H _ _ ⟨0,[],.slice none 0 0,⟨rfl,rfl,rfl,rfl,rfl,rfl,rfl⟩,hS⟩
 case pass =>
  intro l a wr h Z
  match l,h with
  | (l+6),h=>exact h.elim
  | 0,h =>
   clear Z;obtain⟨k,X,v,y,hS⟩:=h;obtain⟨U,Q,rfl⟩:=y.open;clear y Q
   conv=>arg 2;whnf
   obtain⟨G,o,z,T,u⟩:=id hS;by_cases E:k<s.size
   ·have A:=fun w=>x2A s (k:Int) k rfl E w;have f:=(x2M (x0T s)).u8at k;rw[V j]at A f;have x:=fun w=>O (x5Q (m.getD k 0) w f.1 f.2);have aA:((k:Int)==(s.size:Int))=false:=P8P;have L:=V F;rcases ways (m.getD k 0)with⟨q,S⟩ | ⟨⟨q1,q2⟩,S⟩ | ⟨⟨q1,q2⟩,S⟩ | ⟨⟨q1,q2⟩,S⟩ | ⟨⟨q1,q2⟩,S⟩ | ⟨q,S⟩
    all_goals
     first
     | have HT:=O (Sn.first hS L E S f6J (by simp only[mx];exact f6J))
     | have HT:=O (S0.none hS L E S)
     clear hS u o S L;generalize bnd (m.getD k 0)=bq at *;obtain⟨aw,ar⟩:=bq;generalize m.getD k 0=b at *;go_wp2_with fail;refine(V (x _)).mono ?_;rintro e wr ⟨rfl,rfl⟩;clear x A;go_wp2;go_step3
     first
     | exact⟨⟨k,v,⟨rfl,rfl,rfl,rfl,rfl,rfl,rfl⟩,G,V HT,T⟩,x3u (k:=k) (k2:=k) rfl rfl T7y⟩
     | exact⟨⟨k+1,X,v,_,_,_,⟨rfl,rfl,rfl,rfl,rfl,rfl,rfl⟩,rfl,⟨rfl,rfl⟩,V HT⟩,x3u (k:=k) (k2:=k+1) rfl rfl T7y⟩
     | exact⟨⟨k+1,X,v,_,0,0,⟨rfl,rfl,rfl,rfl,rfl,rfl,rfl⟩,rfl,V HT⟩,x3u (k:=k) (k2:=k+1) rfl rfl T7y⟩
   ·obtain rfl:k=s.size:=f6J;have hq:=Utf.y7G (by have:=V F;exact f6J) u;have HF:x8U w r (.returned (.tuple #[v,.int .i64 (s.size:Int),.bool true])) wr:=.inl ⟨v,_,X,rfl,o,hq,T⟩;clear hS u o hq;go_wp2;go_ret3;exact HF
  | 1,h =>
   clear Z;obtain⟨k,X,v,c,lo,hi,y,I,hS⟩:=h;obtain⟨U,Q,rfl⟩:=y.open;have M:U 5=.int .i32 c:=(Q 5).symm.trans I;rw[M];clear y Q I M
   conv=>arg 2;whnf
   obtain⟨G,o,z,T,az,ag,u⟩:=id hS;have C:=O (Utf.y9S u);have aj:=T.size;simp only[mx]at ag;clear hS u;go_wp2_with(at_builtin;refine wpList_append_own _ rfl (.tmp 105) (.tmp 107) 36 rfl w.heap.size 21 i0 (.int .i32 0) 1 4 underlying36 ai d Y am rfl e8P _ _ _ rfl (o.row.alloc _) ⟨wr.heap.size,0,none⟩ 1 1 [.int .i32 c] rfl rfl (cell_one_new _ _ _) (x1k .i32 c) T7X f6J P8P ?_);intro v9 p t i _;have aq:Ok .i32 21 p w.heap.size v9 (X++[c]):=Ok.of (o.1.snoc (x1j f6J)) P8P t M7N M7N;have af:Bw w p:=x0z aj o.row T i;clear t i o T;go_wp2;go_step3;show Jf s m r w 0 _ _/\_;exact⟨⟨k,X++[c],v9,⟨rfl,rfl,rfl,rfl,rfl,rfl,rfl⟩,⟨G,aq,P8P,af,V C⟩⟩,x3u (k:=k) (k2:=k) rfl rfl T7y⟩
  | 2,h =>
   obtain⟨k,X,v,c,lo,hi,y,I,⟨g,P⟩,hS⟩:=h;obtain⟨U,Q,rfl⟩:=y.open;have M:U 5=.int .i32 c:=(Q 5).symm.trans I;have B:U 7=.int .u8 lo:=(Q 7).symm.trans g;have D:U 8=.int .u8 hi:=(Q 8).symm.trans P;rw[M,B,D]at Z ⊢;clear y Q I M g P B D
   conv=>arg 2;whnf
   have W:=fun w=>O (x4N s k lo hi w hS.1);rw[V j]at W
   cases ho:onb m k lo hi with
   | false =>
    have HT:=O (Sn.bad hS (V F) ho);have G:=hS.1;have T:=hS.2.2.2.1;rw[ho]at W;clear hS ho Z;go_wp2_with fail;refine(V (W _)).mono ?_;rintro e wr ⟨rfl,rfl⟩;clear W;go_wp2;go_step3;exact⟨⟨k,v,⟨rfl,rfl,rfl,rfl,rfl,rfl,rfl⟩,G,V HT,T⟩,x3u (k:=k) (k2:=k) rfl rfl T7y⟩
   | true =>
    have HT:=O (Sn.next hS f6J (V F) ho);have E:k<s.size:=n8C;have A:=fun w=>x2A s (k:Int) k rfl E w;have f:=(x2M (x0T s)).u8at k;rw[V j]at A f;have R:=fun w=>O (x1Q c (m.getD k 0) w hS.2.2.2.2.1 (z7s (n:=0) f6J hS.2.2.2.2.2.1) f.1 f.2);replace Z:=O Z;rw[ho]at W;clear hS ho;generalize m.getD k 0=b at *;go_wp2_with fail;refine(V (W _)).mono ?_;rintro e wr ⟨rfl,rfl⟩;clear W;go_wp2_with fail;refine(V (R _)).mono ?_;rintro e wr ⟨rfl,rfl⟩;clear R A;go_wp2;go_step3;rw[show(k:Int)+1=((k+1:Nat):Int)from rfl]
    rename_i K hK
    refine hK _ _ ?_;exact V Z 1 _ _ ⟨k+1,X,v,_,128,191,⟨rfl,rfl,rfl,rfl,rfl,rfl,rfl⟩,rfl,V HT⟩ (x3u (k:=k) (k2:=k+1) rfl rfl T7y)
  | 3,h =>
   obtain⟨k,X,v,c,lo,hi,y,I,⟨g,P⟩,hS⟩:=h;obtain⟨U,Q,rfl⟩:=y.open;have M:U 5=.int .i32 c:=(Q 5).symm.trans I;have B:U 7=.int .u8 lo:=(Q 7).symm.trans g;have D:U 8=.int .u8 hi:=(Q 8).symm.trans P;rw[M,B,D]at Z ⊢;clear y Q I M g P B D
   conv=>arg 2;whnf
   have W:=fun w=>O (x4N s k lo hi w hS.1);rw[V j]at W
   cases ho:onb m k lo hi with
   | false =>
    have HT:=O (Sn.bad hS (V F) ho);have G:=hS.1;have T:=hS.2.2.2.1;rw[ho]at W;clear hS ho Z;go_wp2_with fail;refine(V (W _)).mono ?_;rintro e wr ⟨rfl,rfl⟩;clear W;go_wp2;go_step3;exact⟨⟨k,v,⟨rfl,rfl,rfl,rfl,rfl,rfl,rfl⟩,G,V HT,T⟩,x3u (k:=k) (k2:=k) rfl rfl T7y⟩
   | true =>
    have HT:=O (Sn.next hS f6J (V F) ho);have E:k<s.size:=n8C;have A:=fun w=>x2A s (k:Int) k rfl E w;have f:=(x2M (x0T s)).u8at k;rw[V j]at A f;have R:=fun w=>O (x1Q c (m.getD k 0) w hS.2.2.2.2.1 (z7s (n:=1) f6J hS.2.2.2.2.2.1) f.1 f.2);replace Z:=O Z;rw[ho]at W;clear hS ho;generalize m.getD k 0=b at *;go_wp2_with fail;refine(V (W _)).mono ?_;rintro e wr ⟨rfl,rfl⟩;clear W;go_wp2_with fail;refine(V (R _)).mono ?_;rintro e wr ⟨rfl,rfl⟩;clear R A;go_wp2;go_step3;rw[show(k:Int)+1=((k+1:Nat):Int)from rfl]
    rename_i K hK
    refine hK _ _ ?_;exact V Z 2 _ _ ⟨k+1,X,v,_,128,191,⟨rfl,rfl,rfl,rfl,rfl,rfl,rfl⟩,rfl,⟨rfl,rfl⟩,V HT⟩ (x3u (k:=k) (k2:=k+1) rfl rfl T7y)
  | 4,h =>
   obtain⟨k,X,v,c,lo,hi,y,I,⟨g,P⟩,hS⟩:=h;obtain⟨U,Q,rfl⟩:=y.open;have M:U 5=.int .i32 c:=(Q 5).symm.trans I;have B:U 7=.int .u8 lo:=(Q 7).symm.trans g;have D:U 8=.int .u8 hi:=(Q 8).symm.trans P;rw[M,B,D]at Z ⊢;clear y Q I M g P B D
   conv=>arg 2;whnf
   have W:=fun w=>O (x4N s k lo hi w hS.1);rw[V j]at W
   cases ho:onb m k lo hi with
   | false =>
    have HT:=O (Sn.bad hS (V F) ho);have G:=hS.1;have T:=hS.2.2.2.1;rw[ho]at W;clear hS ho Z;go_wp2_with fail;refine(V (W _)).mono ?_;rintro e wr ⟨rfl,rfl⟩;clear W;go_wp2;go_step3;exact⟨⟨k,v,⟨rfl,rfl,rfl,rfl,rfl,rfl,rfl⟩,G,V HT,T⟩,x3u (k:=k) (k2:=k) rfl rfl T7y⟩
   | true =>
    have HT:=O (Sn.next hS f6J (V F) ho);have E:k<s.size:=n8C;have A:=fun w=>x2A s (k:Int) k rfl E w;have f:=(x2M (x0T s)).u8at k;rw[V j]at A f;have R:=fun w=>O (x1Q c (m.getD k 0) w hS.2.2.2.2.1 (z7s (n:=2) f6J hS.2.2.2.2.2.1) f.1 f.2);replace Z:=O Z;rw[ho]at W;clear hS ho;generalize m.getD k 0=b at *;go_wp2_with fail;refine(V (W _)).mono ?_;rintro e wr ⟨rfl,rfl⟩;clear W;go_wp2_with fail;refine(V (R _)).mono ?_;rintro e wr ⟨rfl,rfl⟩;clear R A;go_wp2;go_step3;rw[show(k:Int)+1=((k+1:Nat):Int)from rfl]
    rename_i K hK
    refine hK _ _ ?_;exact V Z 3 _ _ ⟨k+1,X,v,_,128,191,⟨rfl,rfl,rfl,rfl,rfl,rfl,rfl⟩,rfl,⟨rfl,rfl⟩,V HT⟩ (x3u (k:=k) (k2:=k+1) rfl rfl T7y)
  | 5,h =>
   clear Z;obtain⟨k,v,y,G,hq,T⟩:=h;obtain⟨U,Q,rfl⟩:=y.open;clear y Q
   conv=>arg 2;whnf
   have HF:x8U w r (.returned (.tuple #[.slice none 0 0,.int .i64 (k:Int),.bool false])) wr:=.inr ⟨_,hq,rfl,T⟩;clear hq T;go_wp2;go_ret3;exact HF
theorem decC:DecC:=by
 intro s w L;have H:=O (z3Z s w L);generalize Utf.dec 0 (nums s)=r at *;go_enter func19,ntmps19;go_wp2_with fail;refine(V H).mono ?_;clear H;rintro e Q (⟨v,p,X,rfl,o,y,Y⟩ | ⟨p,y,rfl,Y⟩)
 ·have U:=x3x.end (w:=w) y o Y;clear o y;exact n2e
 ·have U:=x3x.err (w:=w) y Y;clear y;exact n2e
