/- Lemmas. -/
import Derived.Test.YtbmckadcjdedcaaGreatDoorK14
import Derived.Deep.AppendLies
import Derived.Deep.DrawnRows
import Derived.Deep.OwnRows
import Derived.Deep.RegionHeld3
import Derived.Great.BuildSlice
set_option maxHeartbeats 4000000
set_option maxRecDepth 50000
namespace Go.Proofs.YtbmckadcjdedcaaGreatDoor
section
variable{p:Prop}
theorem R6q(h:p:=by rw[cell_of_row _ _ _ _ _ _ hr];rfl):p:=h
theorem M9Q(h:p:=by
 clear hz G x z X c0 c1 c2;obtain⟨c,L,rfl,aI,aJ,aR,X,hz,G,x,A,S⟩:=hrel;obtain⟨c0,c1,c2⟩:=x.cells;by_cases aF:c<=hi/\c<D+64
 ·obtain⟨q1,q2⟩:=aF;obtain⟨i,aS⟩:∃i:Nat,c-D=(i:Int):=⟨(c-D).toNat,f6J⟩;have aL:i<64:=f6J;have ar:=hz.cell (i:=i) f6J;have aT:=hz.frozen i;have f:=hz.set i T;have M:=G.other (a:=⟨m,i,none⟩) aB (.int .u16 T);have N:=x.other (a:=⟨m,i,none⟩) aG (.int .u16 T);have F:=A.setCell (p:=⟨m,i,none⟩) ab (.int .u16 T)
  have I:Hid (∀j,j<64->(L.set i T).getD j 0=if lo<=D+(j:Nat)/\D+(j:Nat)<c+1/\D+(j:Nat)<=hi then T else Tri.get d (rs.take k) (D+(j:Nat))):=by
   intro j hj;rw[x7c L i j T f6J,S j hj];by_cases af:j=i
   ·rw[if_pos af,if_pos f6J]
   ·rw[if_neg af];by_cases hx:lo<=D+(j:Nat)/\D+(j:Nat)<c/\D+(j:Nat)<=hi
    ·rw[if_pos hx,if_pos f6J]
    ·rw[if_neg hx,if_neg f6J]
  have n:(0:Int)<=(i:Int):=f6J;have u:(i:Int)<64:=f6J;generalize L.getD i 0=aP at *;clear S hz G x;by_cases W:D+64<hi+1
  ·exact P9n
  ·have aM:c<hi+1:=f6J;exact P9n
 ·have I:Hid (∀j,j<64->L.getD j 0=Tri.get d (rs.take (k+1)) (D+(j:Nat))):=by
   intro j hj;rw[S j hj,(V aA)];by_cases hx:lo<=D+(j:Nat)/\D+(j:Nat)<=hi
   ·rw[if_pos hx,if_pos f6J]
   ·rw[if_neg hx,if_neg f6J]
  clear S;by_cases W:D+64<hi+1
  ·have ae:¬(c<D+64):=f6J;exact i4q
  ·have ae:¬(c<hi+1):=f6J;exact i4q):p:=h
theorem P6S(h:p:=by go_enter func277,ntmps277;go_wp2_with fail;refine(V B _).mono ?_;rintro e I ⟨rfl,rfl⟩;go_wp2;go_ret;exact⟨rfl,c⟩):p:=h
theorem w4S(h:p:=by obtain⟨i,hi,Z⟩:=Option.map_eq_some_iff.1 h;simp only[Prod.mk.injEq]at Z;obtain⟨Z,D,R⟩:=Z;obtain⟨z,o,k⟩:=Option.map_eq_some_iff.1 R;exact⟨i,z,hi,o,Z,D,k⟩):p:=h
theorem u7B(h:p:=by rw[List.length_append];exact f6J):p:=h
theorem F7u(h:p:=by go_enter func277,ntmps277;go_wp2;go_ret;exact⟨rfl,c⟩):p:=h
theorem m0W(h:p:=by go_enter func278,ntmps278;go_wp2;go_ret;exact g9T):p:=h
theorem f0R(h:p:=by rw[Z];exact e8M):p:=h
theorem t1l(h:p:=by simpa using T):p:=h
theorem g2B(h:p:=by go_num):p:=h
theorem i4q(h:p:=by
 go_wp2
 go_roundw
 case rel=>first| exact⟨_,_,.int .i64 ((k+1:Nat):Int),⟨k+1,rfl,f6J,L,X,hz,by simpa using V I⟩,rfl,rfl,g2B⟩ | exact⟨k+1,L,g2B,f6J,X,hz,G,A,V I⟩ | exact⟨k+1,g2B,f6J,L,X,hz,by simpa using V I⟩ | exact⟨k+1,g2B,f6J,L,X,hz,G,by simpa using V I⟩
 case measure=>exact g7U):p:=h
theorem R4y(h:p:=by rw[show(L.map (Value.int .u16)).toArray.size=64 by simp[X]];exact y8D):p:=h
theorem S2s(h:p:=by go_wp2_with fail;refine(V HV _).mono ?_;rintro e I ⟨rfl,rfl⟩;go_wp2;go_ret2;exact Y):p:=h
theorem P9n(h:p:=by
 go_wp2
 go_roundw
 case rel=>exact⟨c+1,L.set i T,g2B,f6J,f6J,f6J,by simp[X],f,M,N,F,V I⟩
 case measure=>exact g7U):p:=h
theorem N2b(h:p:=by go_wp2;exact bodyPost_ret (v:=.agg (arrA L)) (x2G rfl _ _ _ Y _ (by rfl) y) rfl ⟨rfl,b⟩):p:=h
theorem R3N(h:p:=by go_wp2;go_ret;exact V Y):p:=h
theorem M8g(h:p:=by rw[if_neg f6J];exact V aj j hj):p:=h
theorem I2w(h:p:=by simpa using r):p:=h
end
end Go.Proofs.YtbmckadcjdedcaaGreatDoor
namespace Go.Proofs.YtbmckadcjdedcaaGreatDoor.Ti
open Go.Proofs.Tryz
open Go.RowKit
theorem Sz.cut{sz len l h m w ao cap}{us}(X:Sz sz w (.slice ao len cap) len us)(Z:l<=h)(D:h<=len)(R:h<=m)(z:m<=cap) :
  Sz sz w (sliced ao l h m sz) (h-l) ((us.drop (l*sz)).take ((h-l)*sz)):=by
 obtain⟨b1,C,L⟩:=X;have G:(h-l)*sz+l*sz=h*sz:=(by rw[<- Nat.add_mul];congr 1;exact f6J);have f:h*sz<=len*sz:=Nat.mul_le_mul_right _ D;refine⟨P8P,f6J,?_⟩;rcases L with⟨rfl,g,J,N,y,F⟩ | ⟨b,A,J,N,S,y,T⟩
 ·simp only[Value.slice.injEq]at N;obtain⟨rfl,_,rfl⟩:=N;refine .inl ⟨f6J,(if m=l then ao else ao.map (·.add (l*sz))),m-l,?_,f6J,fun B=>?_⟩
  ·exact w4F
  ·split at B
   ·omega
   ·simp_all
 ·simp only[Value.slice.injEq]at N;obtain⟨rfl,_,rfl⟩:=N;by_cases d:h=l
  ·refine .inl ⟨f6J,(if m=l then some ⟨b,A,none⟩else(some ⟨b,A,none⟩:Option Addr).map (·.add (l*sz))),m-l,?_,f6J,fun B=>?_⟩
   ·exact w4F
   ·split at B<;>simp at B
  ·refine .inr ⟨b,A+l*sz,m-l,?_,f6J,f6J,fun i hi=>?_⟩
   ·have:¬m=l:=f6J;simp only[sliced,this,if_false,Option.map_some,addr_add]
   ·grind
theorem y2z(rs:List Tri.Rg) k:(rcells rs).drop (k*3)=rcells (rs.drop k):=by
 induction k generalizing rs with
 | zero=>simp
 | succ k ih =>
  cases rs with
  | nil=>simp[rcells]
  | cons r rs =>
   have:(k+1)*3=3+k*3:=f6J;simp only[rcells,List.drop_succ_cons];rw[this,<- List.drop_drop,<- ih rs];rfl
theorem Sr.cut{w ao len cap l h m}{rs:List Tri.Rg}(X:Sr w (.slice ao len cap) rs)(S:len=rs.length)(Z:l<=h)(D:h<=len)(R:h<=m)(z:m<=cap) :
  Sr w (sliced ao l h m 3) ((rs.drop l).take (h-l)):=by
 subst S;have:=X.2.cut Z D R z;rw[y2z,y2A]at this;have e:((rs.drop l).take (h-l)).length=h-l:=P8P;refine⟨fun r u=>X.1 r (List.mem_of_mem_drop (List.mem_of_mem_take u)),?_⟩;rw[e];exact this
namespace Tri
theorem z1W{d c}{rs:List Rg} k(h:∀j,j<k->j<rs.length->hi (rs.getD j (0,0,0))<c):get d (rs.drop k) c=get d rs c:=by
 induction k generalizing rs with
 | zero=>exact s4M
 | succ k ih =>
  cases rs with
  | nil=>rfl
  | cons r rs =>
   have A:=h 0 f6J M7L;simp only[List.getD_cons_zero]at A;rw[List.drop_succ_cons,x1t,if_neg f6J];refine ih fun j B S=>?_;have:=h (j+1) f6J t2Y;simpa using this
theorem z3m{b}{rs:List Rg}(h:Val b rs) k:Val b (rs.drop k):=by
 induction k generalizing rs b with
 | zero=>exact S4r
 | succ k ih =>
  cases rs with
  | nil=>trivial
  | cons r rs =>
   obtain⟨Z,D,R,z,H,q⟩:=h;rw[List.drop_succ_cons];exact(ih q).mono f6J
end Tri
def x9P(w0 w:World)(rs:List Tri.Rg)(lo:Int)(e:Ending)(w':World):Prop :=
 w'=w/\∃v' k,e=.returned v'/\Sr w0 v' (rs.drop k)/\k<=rs.length/\∀j,j<k->Tri.hi (rs.getD j (0,0,0))<lo
theorem y9O v(rs:List Tri.Rg) lo w0 w(N:Sr w0 v rs)(T:Bw w0 w)(c:Fi lo) :
  Calls prog 279 #[v,.int .i64 lo] w (x9P w0 w rs lo):=by
 obtain⟨l1,l2⟩:=c;have s:=N.len;have t:=O T;have U:Hid (∀u k,Sr w0 u (rs.drop k)->k<=rs.length->(∀j,j<k->Tri.hi (rs.getD j (0,0,0))<lo)->x9P w0 w rs lo (.returned u) w):=fun u k Z D R=>⟨rfl,u,k,rfl,Z,D,R⟩;go_enter func279,ntmps279;go_wp2;go_loop [0] (fun u=>∃k:Nat,Sr w0 u (rs.drop k)/\k<=rs.length/\∀j,j<k->Tri.hi (rs.getD j (0,0,0))<lo) (fun u=>match u with | .slice _ n _=>n | _=>0)
 case atStart=>exact⟨0,by simpa using N,f6J,fun j x=>f6J⟩
 case round =>
  obtain⟨k,X,G,S⟩:=hrel;have Y:=O (V U _ k X G S);have r:(rs.drop k).length=rs.length-k:=List.length_drop;rcases Nat.eq_zero_or_pos (rs.drop k).length with h0 | h0
  ·obtain⟨ao,M,rfl,C,q⟩:=X.shape;rw[h0]at Y C ⊢;exact R3N
  ·have I:=X.1.at 0;have i:=O X;obtain⟨b,ab,M,rfl,C,q,L⟩:=X.place h0;obtain⟨z,W,p⟩:=L 0 h0;rw[<- (V t).cell (x0a W)]at W;simp only[Nat.zero_mul,Nat.add_zero]at z W p;have hcut:=(V i).cut rfl (l:=1) (h:=(rs.drop k).length) (m:=M) f6J f6J f6J f6J
   have g:(((rs.drop k).drop 1).take ((rs.drop k).length-1))=rs.drop (k+1):=by
    rw[List.drop_drop,List.take_of_length_le P8P]
   have f:(rs.drop k).getD 0 (0,0,0)=rs.getD k (0,0,0):=(by grind);rw[g]at hcut;rw[f]at W I
   have H:Hid (Tri.hi (rs.getD k (0,0,0))<lo->∀j,j<k+1->Tri.hi (rs.getD j (0,0,0))<lo):=by
    intro J j x;by_cases h:j=k
    ·subst h;exact J
    ·exact S j f6J
   obtain⟨_,⟨f1,f2⟩,_⟩:=I;have d:1<=(rs.drop k).length:=h0;have y:k<rs.length:=f6J;have B:=O hcut;clear X i L S hcut z p g f r;generalize Tri.hi (rs.getD k (0,0,0))=h,(rs.drop k).length=n at *;by_cases a:h<lo
   ·have A:=O (V H a);go_wp2;go_round
    case rel=>exact⟨k+1,V B,f6J,V A⟩
    case measure=>simp;omega
   ·clear H U;exact R3N
end Go.Proofs.YtbmckadcjdedcaaGreatDoor.Ti
namespace Go.Proofs.YtbmckadcjdedcaaGreatDoor.Ti
open Go.Proofs.Tryz
open Go.RowKit
def Bk(w:World)(g:Nat)(zs:List Int):Prop:=w.heap[g]?=some (.cells (arrA zs) 272 (0,0))
theorem Bk.lt{w g zs}(h:Bk w g zs):g<w.heap.size:=(Array.getElem?_eq_some_iff.1 h).1
theorem Bk.cell{w g zs}(h:Bk w g zs){i}(hi:i<zs.length):w.cell? ⟨g,i,none⟩=some (.int .u16 (zs.getD i 0)):=by
 unfold Bk at h;exact E2f
theorem Bk.frozen{w g zs}(h:Bk w g zs) i:w.frozen? ⟨g,i,none⟩=false:=by
 unfold Bk at h;simp[World.frozen?,h]
theorem Bk.set{w g zs}(h:Bk w g zs) i v:Bk (w.setCell ⟨g,i,none⟩ (.int .u16 v)) g (zs.set i v):=by
 unfold Bk at h ⊢;exact N9T
theorem Bk.other{w g zs}(h:Bk w g zs){a}(F:g≠a.block) v:Bk (w.setCell a v) g zs:=by
 unfold Bk at h ⊢;exact r7O
theorem Bk.box{w g zs}(h:Bk w g zs):Box w g zs:=fun j v N=>by
 have A:j<zs.length:=(by grind);rw[Nat.zero_add,h.cell A];rw[List.getElem?_map,List.getElem?_eq_getElem A]at N;simp only[Option.map_some,Option.some.injEq]at N;rw[<- N];simp[List.getD,A]
theorem Bk.new(w:World) zs C(A:C=arrA zs):Bk (w.alloc (.cells C 272)) w.heap.size zs:=by
 subst A;exact heap_alloc_last w _
theorem Bk.alloc{w g zs}(h:Bk w g zs) o:Bk (w.alloc o) g zs:=by
 have S:=h.lt;unfold Bk at h ⊢;rw[Below.heap_alloc w o g S];exact h
theorem Bk.there{w g zs}(h:Bk w g zs):w.there g 0 zs.length:=fun j A=>by
 rw[Nat.zero_add];exact⟨by rw[h.cell A];rfl,h.frozen j⟩
theorem y8D:(prog.info? 272).map (·.size)=some 64:=f4x
def Rb(w:World)(g:Nat)(l h x:Int):Prop:=w.heap[g]?=some (.cells #[.int .i64 l,.int .i64 h,.int .i64 x] 259 (0,0))
theorem Rb.cells{w g l h x}(hr:Rb w g l h x):w.cell? ⟨g,0,none⟩=some (.int .i64 l)/\w.cell? ⟨g,1,none⟩=some (.int .i64 h)/\w.cell? ⟨g,2,none⟩=some (.int .i64 x) :=
 ⟨R6q,R6q,R6q⟩
theorem Rb.other{w g l h x}(hr:Rb w g l h x){a}(F:g≠a.block) v:Rb (w.setCell a v) g l h x:=by
 unfold Rb at hr ⊢;rw[heap_setCell_other w a g v F];exact hr
namespace Tri
theorem y8s{b d c}{rs:List Rg}(N:Val b rs) k(G:k<rs.length)(T:c<lo (rs.getD k (0,0,0))):get d rs c=get d (rs.take k) c:=by
 induction rs generalizing b k with
 | nil=>simp at G
 | cons r rs ih =>
  obtain⟨Z,D,R,z,H,q⟩:=N
  cases k with
  | zero =>
   simp only[List.getD_cons_zero]at T;have F:Val (lo r) (r::rs):=⟨Int.le_refl _,D,R,z,H,q⟩;rw[x6A F T];rfl
  | succ k =>
   simp only[List.take_succ_cons,x1t];rw[ih q k E9n t1l]
end Tri
theorem z1o f(p:Nat) lo0(A:lo0=(p:Int)*64) zs(S:zs.length=64)(h:∀j:Nat,j<64->zs.getD j 0=f (lo0+(j:Int))):zs=Tri.blk f p :=
 z4H f p zs S fun j B=>by rw[h j B,(f6J:lo0+(j:Int)=((64*p+j:Nat):Int))]
theorem z6W v(rs:List Tri.Rg) d(p:Nat) w(hv:Sr w v rs)(q:Tri.Val 0 rs)(hd:0<=d/\d<=65535)(hp:p<17408) :
  Calls prog 280 #[v,.int .i64 ((p:Int)*64),.int .i64 d] w (y6y w (Tri.blk (Tri.get d rs) p)):=by
 obtain⟨ba,be⟩:=hd;obtain⟨D,H⟩:∃l:Int,l=(p:Int)*64:=⟨_,rfl⟩;have HX:=O (z1o (Tri.get d rs) p D H);have z1:0<=D:=f6J;have z2:D<=1114048:=f6J;rw[<- H];clear H;have HV:=O q;have aU:=O hv;have aV:=hv.len;obtain⟨ao,aX,rfl,aI,aJ⟩:=hv.shape;have aH:Hid (∀c,Tri.get d (rs.take 0) c=d):=fun c=>rfl;have ay:Hid (∀c,Tri.get d (rs.take rs.length) c=Tri.get d rs c):=fun c=>(by rw[List.take_length]);have az:Hid (∀(k:Nat),k<rs.length->∀c,c<Tri.lo (rs.getD k (0,0,0))->Tri.get d rs c=Tri.get d (rs.take k) c):=fun k hk c hc=>Tri.y8s q k hk hc;clear hv q;generalize Tri.blk (Tri.get d rs) p=bj at *;go_enter func280,ntmps280;go_wp2;have hA:Bw w ((w.alloc (.cells #[.int .u16 0,.int .u16 0,.int .u16 0,.int .u16 0,.int .u16 0,.int .u16 0,.int .u16 0,.int .u16 0,.int .u16 0,.int .u16 0,.int .u16 0,.int .u16 0,.int .u16 0,.int .u16 0,.int .u16 0,.int .u16 0,.int .u16 0,.int .u16 0,.int .u16 0,.int .u16 0,.int .u16 0,.int .u16 0,.int .u16 0,.int .u16 0,.int .u16 0,.int .u16 0,.int .u16 0,.int .u16 0,.int .u16 0,.int .u16 0,.int .u16 0,.int .u16 0,.int .u16 0,.int .u16 0,.int .u16 0,.int .u16 0,.int .u16 0,.int .u16 0,.int .u16 0,.int .u16 0,.int .u16 0,.int .u16 0,.int .u16 0,.int .u16 0,.int .u16 0,.int .u16 0,.int .u16 0,.int .u16 0,.int .u16 0,.int .u16 0,.int .u16 0,.int .u16 0,.int .u16 0,.int .u16 0,.int .u16 0,.int .u16 0,.int .u16 0,.int .u16 0,.int .u16 0,.int .u16 0,.int .u16 0,.int .u16 0,.int .u16 0,.int .u16 0] 272)).alloc (.cells #[.int .u16 0,.int .u16 0,.int .u16 0,.int .u16 0,.int .u16 0,.int .u16 0,.int .u16 0,.int .u16 0,.int .u16 0,.int .u16 0,.int .u16 0,.int .u16 0,.int .u16 0,.int .u16 0,.int .u16 0,.int .u16 0,.int .u16 0,.int .u16 0,.int .u16 0,.int .u16 0,.int .u16 0,.int .u16 0,.int .u16 0,.int .u16 0,.int .u16 0,.int .u16 0,.int .u16 0,.int .u16 0,.int .u16 0,.int .u16 0,.int .u16 0,.int .u16 0,.int .u16 0,.int .u16 0,.int .u16 0,.int .u16 0,.int .u16 0,.int .u16 0,.int .u16 0,.int .u16 0,.int .u16 0,.int .u16 0,.int .u16 0,.int .u16 0,.int .u16 0,.int .u16 0,.int .u16 0,.int .u16 0,.int .u16 0,.int .u16 0,.int .u16 0,.int .u16 0,.int .u16 0,.int .u16 0,.int .u16 0,.int .u16 0,.int .u16 0,.int .u16 0,.int .u16 0,.int .u16 0,.int .u16 0,.int .u16 0,.int .u16 0,.int .u16 0] 272)):=((Below.refl _ w).alloc (l0r _) _).alloc M7M _;have am:Bk ((w.alloc (.cells #[.int .u16 0,.int .u16 0,.int .u16 0,.int .u16 0,.int .u16 0,.int .u16 0,.int .u16 0,.int .u16 0,.int .u16 0,.int .u16 0,.int .u16 0,.int .u16 0,.int .u16 0,.int .u16 0,.int .u16 0,.int .u16 0,.int .u16 0,.int .u16 0,.int .u16 0,.int .u16 0,.int .u16 0,.int .u16 0,.int .u16 0,.int .u16 0,.int .u16 0,.int .u16 0,.int .u16 0,.int .u16 0,.int .u16 0,.int .u16 0,.int .u16 0,.int .u16 0,.int .u16 0,.int .u16 0,.int .u16 0,.int .u16 0,.int .u16 0,.int .u16 0,.int .u16 0,.int .u16 0,.int .u16 0,.int .u16 0,.int .u16 0,.int .u16 0,.int .u16 0,.int .u16 0,.int .u16 0,.int .u16 0,.int .u16 0,.int .u16 0,.int .u16 0,.int .u16 0,.int .u16 0,.int .u16 0,.int .u16 0,.int .u16 0,.int .u16 0,.int .u16 0,.int .u16 0,.int .u16 0,.int .u16 0,.int .u16 0,.int .u16 0,.int .u16 0] 272)).alloc (.cells #[.int .u16 0,.int .u16 0,.int .u16 0,.int .u16 0,.int .u16 0,.int .u16 0,.int .u16 0,.int .u16 0,.int .u16 0,.int .u16 0,.int .u16 0,.int .u16 0,.int .u16 0,.int .u16 0,.int .u16 0,.int .u16 0,.int .u16 0,.int .u16 0,.int .u16 0,.int .u16 0,.int .u16 0,.int .u16 0,.int .u16 0,.int .u16 0,.int .u16 0,.int .u16 0,.int .u16 0,.int .u16 0,.int .u16 0,.int .u16 0,.int .u16 0,.int .u16 0,.int .u16 0,.int .u16 0,.int .u16 0,.int .u16 0,.int .u16 0,.int .u16 0,.int .u16 0,.int .u16 0,.int .u16 0,.int .u16 0,.int .u16 0,.int .u16 0,.int .u16 0,.int .u16 0,.int .u16 0,.int .u16 0,.int .u16 0,.int .u16 0,.int .u16 0,.int .u16 0,.int .u16 0,.int .u16 0,.int .u16 0,.int .u16 0,.int .u16 0,.int .u16 0,.int .u16 0,.int .u16 0,.int .u16 0,.int .u16 0,.int .u16 0,.int .u16 0] 272)) w.heap.size Zs:=(Bk.new w Zs _ rfl).alloc _
 have aq:Bk ((w.alloc (.cells #[.int .u16 0,.int .u16 0,.int .u16 0,.int .u16 0,.int .u16 0,.int .u16 0,.int .u16 0,.int .u16 0,.int .u16 0,.int .u16 0,.int .u16 0,.int .u16 0,.int .u16 0,.int .u16 0,.int .u16 0,.int .u16 0,.int .u16 0,.int .u16 0,.int .u16 0,.int .u16 0,.int .u16 0,.int .u16 0,.int .u16 0,.int .u16 0,.int .u16 0,.int .u16 0,.int .u16 0,.int .u16 0,.int .u16 0,.int .u16 0,.int .u16 0,.int .u16 0,.int .u16 0,.int .u16 0,.int .u16 0,.int .u16 0,.int .u16 0,.int .u16 0,.int .u16 0,.int .u16 0,.int .u16 0,.int .u16 0,.int .u16 0,.int .u16 0,.int .u16 0,.int .u16 0,.int .u16 0,.int .u16 0,.int .u16 0,.int .u16 0,.int .u16 0,.int .u16 0,.int .u16 0,.int .u16 0,.int .u16 0,.int .u16 0,.int .u16 0,.int .u16 0,.int .u16 0,.int .u16 0,.int .u16 0,.int .u16 0,.int .u16 0,.int .u16 0] 272)).alloc (.cells #[.int .u16 0,.int .u16 0,.int .u16 0,.int .u16 0,.int .u16 0,.int .u16 0,.int .u16 0,.int .u16 0,.int .u16 0,.int .u16 0,.int .u16 0,.int .u16 0,.int .u16 0,.int .u16 0,.int .u16 0,.int .u16 0,.int .u16 0,.int .u16 0,.int .u16 0,.int .u16 0,.int .u16 0,.int .u16 0,.int .u16 0,.int .u16 0,.int .u16 0,.int .u16 0,.int .u16 0,.int .u16 0,.int .u16 0,.int .u16 0,.int .u16 0,.int .u16 0,.int .u16 0,.int .u16 0,.int .u16 0,.int .u16 0,.int .u16 0,.int .u16 0,.int .u16 0,.int .u16 0,.int .u16 0,.int .u16 0,.int .u16 0,.int .u16 0,.int .u16 0,.int .u16 0,.int .u16 0,.int .u16 0,.int .u16 0,.int .u16 0,.int .u16 0,.int .u16 0,.int .u16 0,.int .u16 0,.int .u16 0,.int .u16 0,.int .u16 0,.int .u16 0,.int .u16 0,.int .u16 0,.int .u16 0,.int .u16 0,.int .u16 0,.int .u16 0] 272)) (w.heap.size+1) Zs:=by
  have:=Bk.new (w.alloc (.cells #[.int .u16 0,.int .u16 0,.int .u16 0,.int .u16 0,.int .u16 0,.int .u16 0,.int .u16 0,.int .u16 0,.int .u16 0,.int .u16 0,.int .u16 0,.int .u16 0,.int .u16 0,.int .u16 0,.int .u16 0,.int .u16 0,.int .u16 0,.int .u16 0,.int .u16 0,.int .u16 0,.int .u16 0,.int .u16 0,.int .u16 0,.int .u16 0,.int .u16 0,.int .u16 0,.int .u16 0,.int .u16 0,.int .u16 0,.int .u16 0,.int .u16 0,.int .u16 0,.int .u16 0,.int .u16 0,.int .u16 0,.int .u16 0,.int .u16 0,.int .u16 0,.int .u16 0,.int .u16 0,.int .u16 0,.int .u16 0,.int .u16 0,.int .u16 0,.int .u16 0,.int .u16 0,.int .u16 0,.int .u16 0,.int .u16 0,.int .u16 0,.int .u16 0,.int .u16 0,.int .u16 0,.int .u16 0,.int .u16 0,.int .u16 0,.int .u16 0,.int .u16 0,.int .u16 0,.int .u16 0,.int .u16 0,.int .u16 0,.int .u16 0,.int .u16 0] 272)) Zs _ rfl;rwa [(M7M:(w.alloc (.cells #[.int .u16 0,.int .u16 0,.int .u16 0,.int .u16 0,.int .u16 0,.int .u16 0,.int .u16 0,.int .u16 0,.int .u16 0,.int .u16 0,.int .u16 0,.int .u16 0,.int .u16 0,.int .u16 0,.int .u16 0,.int .u16 0,.int .u16 0,.int .u16 0,.int .u16 0,.int .u16 0,.int .u16 0,.int .u16 0,.int .u16 0,.int .u16 0,.int .u16 0,.int .u16 0,.int .u16 0,.int .u16 0,.int .u16 0,.int .u16 0,.int .u16 0,.int .u16 0,.int .u16 0,.int .u16 0,.int .u16 0,.int .u16 0,.int .u16 0,.int .u16 0,.int .u16 0,.int .u16 0,.int .u16 0,.int .u16 0,.int .u16 0,.int .u16 0,.int .u16 0,.int .u16 0,.int .u16 0,.int .u16 0,.int .u16 0,.int .u16 0,.int .u16 0,.int .u16 0,.int .u16 0,.int .u16 0,.int .u16 0,.int .u16 0,.int .u16 0,.int .u16 0,.int .u16 0,.int .u16 0,.int .u16 0,.int .u16 0,.int .u16 0,.int .u16 0] 272)).heap.size=w.heap.size+1)]at this
 generalize(w.alloc (.cells #[.int .u16 0,.int .u16 0,.int .u16 0,.int .u16 0,.int .u16 0,.int .u16 0,.int .u16 0,.int .u16 0,.int .u16 0,.int .u16 0,.int .u16 0,.int .u16 0,.int .u16 0,.int .u16 0,.int .u16 0,.int .u16 0,.int .u16 0,.int .u16 0,.int .u16 0,.int .u16 0,.int .u16 0,.int .u16 0,.int .u16 0,.int .u16 0,.int .u16 0,.int .u16 0,.int .u16 0,.int .u16 0,.int .u16 0,.int .u16 0,.int .u16 0,.int .u16 0,.int .u16 0,.int .u16 0,.int .u16 0,.int .u16 0,.int .u16 0,.int .u16 0,.int .u16 0,.int .u16 0,.int .u16 0,.int .u16 0,.int .u16 0,.int .u16 0,.int .u16 0,.int .u16 0,.int .u16 0,.int .u16 0,.int .u16 0,.int .u16 0,.int .u16 0,.int .u16 0,.int .u16 0,.int .u16 0,.int .u16 0,.int .u16 0,.int .u16 0,.int .u16 0,.int .u16 0,.int .u16 0,.int .u16 0,.int .u16 0,.int .u16 0,.int .u16 0] 272)).alloc (.cells #[.int .u16 0,.int .u16 0,.int .u16 0,.int .u16 0,.int .u16 0,.int .u16 0,.int .u16 0,.int .u16 0,.int .u16 0,.int .u16 0,.int .u16 0,.int .u16 0,.int .u16 0,.int .u16 0,.int .u16 0,.int .u16 0,.int .u16 0,.int .u16 0,.int .u16 0,.int .u16 0,.int .u16 0,.int .u16 0,.int .u16 0,.int .u16 0,.int .u16 0,.int .u16 0,.int .u16 0,.int .u16 0,.int .u16 0,.int .u16 0,.int .u16 0,.int .u16 0,.int .u16 0,.int .u16 0,.int .u16 0,.int .u16 0,.int .u16 0,.int .u16 0,.int .u16 0,.int .u16 0,.int .u16 0,.int .u16 0,.int .u16 0,.int .u16 0,.int .u16 0,.int .u16 0,.int .u16 0,.int .u16 0,.int .u16 0,.int .u16 0,.int .u16 0,.int .u16 0,.int .u16 0,.int .u16 0,.int .u16 0,.int .u16 0,.int .u16 0,.int .u16 0,.int .u16 0,.int .u16 0,.int .u16 0,.int .u16 0,.int .u16 0,.int .u16 0] 272)=wz at *;obtain⟨Y,aD⟩:∃Y,Y=w.heap.size:=⟨_,rfl⟩;obtain⟨m,U⟩:∃m,m=w.heap.size+1:=⟨_,rfl⟩;rw[<- aD]at am;rw[<- U]at aq;have aB:Y≠m:=f6J;have aw:w.heap.size<=Y:=f6J;have ab:w.heap.size<=m:=f6J;rw[<- U,<- aD];clear aD U;obtain⟨Z,hZ⟩:∃Z,Z=Zs:=⟨_,rfl⟩;rw[<- hZ]at am aq;have aQ:Z.length=64:=(by rw[hZ];exact z7t);clear hZ;go_loopw[13] (fun i wr=>∃(k:Nat) (L:List Int),i=.int .i64 k/\k<=64/\L.length=64/\Bk wr m L/\Bk wr Y Z/\Bw w wr/\∀j,j<k->L.getD j 0=d) (fun i _=>64-(intOf i).toNat)
 case atStart=>exact⟨0,Z,rfl,f6J,aQ,aq,am,hA,fun j hj=>f6J⟩
 case round =>
  clear hA am aq;obtain⟨k,L,rfl,hk,X,hz,G,A,S⟩:=hrel;by_cases ag:k<64
  ·have hc:=hz.cell (i:=k) f6J;have hf:=hz.frozen k;have f:=hz.set k d;have M:=G.other (a:=⟨m,k,none⟩) aB (.int .u16 d);have F:=A.setCell (p:=⟨m,k,none⟩) ab (.int .u16 d)
   have I:Hid (∀j,j<k+1->(L.set k d).getD j 0=d):=by
    intro j hj;rw[x7c L k j d f6J];split
    ·rfl
    ·exact S j f6J
   have n:(0:Int)<=(k:Int):=f6J;have u:(k:Int)<64:=f6J;generalize L.getD k 0=aP at *;clear S hz G A;go_wp2
   go_roundw
   case rel=>exact⟨k+1,L.set k d,by go_num,f6J,by simp[X],f,M,F,V I⟩
   case measure=>exact g7V
  ·obtain rfl:k=64:=f6J;have B:Hid (∀j,j<64->L.getD j 0=Tri.get d (rs.take 0) (D+(j:Nat))):=fun j hj=>(by rw[S j hj,(V aH)]);clear S aH;go_wp2;go_loopw[11,12,25] (fun _ _ i wr=>∃(k:Nat) (L:List Int),i=.int .i64 k/\k<=rs.length/\L.length=64/\Bk wr m L/\Bk wr Y Z/\Bw w wr/\∀j,j<64->L.getD j 0=Tri.get d (rs.take k) (D+(j:Nat))) (fun _ _ i _=>rs.length-(intOf i).toNat)
   case atStart=>exact⟨0,L,rfl,f6J,X,hz,G,A,V B⟩
   case round =>
    clear hz G A B X;obtain⟨k,L,rfl,hk,X,hz,G,A,S⟩:=hrel;by_cases ag:k<rs.length
    ·have aK:=fun c=>Tri.z1X (d:=d) (c:=c) (V HV) k ag;have g:=O (V az k ag);obtain⟨b1,b2,b3,b4,b5⟩:=z9P (V HV) (Int.le_refl _) k ag;obtain⟨bx,aW,aY,aO,_,_,ar⟩:=(V aU).place f6J;simp only[Value.slice.injEq]at aO;obtain⟨rfl,_,rfl⟩:=aO;obtain⟨c0,c1,c2⟩:=ar k ag;rw[<- A.cell (x0a c0)]at c0;rw[<- A.cell (x0a c1)]at c1;rw[<- A.cell (x0a c2)]at c2;have aA:=O aK;have aj:=O S;clear ar aK S;generalize Tri.lo (rs.getD k (0,0,0))=lo,Tri.hi (rs.getD k (0,0,0))=hi,Tri.vl (rs.getD k (0,0,0))=T at *;have aN:=A.size;have x:Rb (wr.alloc (.cells #[.int .i64 lo,.int .i64 hi,.int .i64 T] 259)) wr.heap.size lo hi T:=heap_alloc_last wr _;have hz:=hz.alloc (.cells #[.int .i64 lo,.int .i64 hi,.int .i64 T] 259);have G:=G.alloc (.cells #[.int .i64 lo,.int .i64 hi,.int .i64 T] 259);have z:Bw w (wr.alloc (.cells #[.int .i64 lo,.int .i64 hi,.int .i64 T] 259)):=A.alloc aN _;obtain⟨t,s⟩:∃t,t=wr.heap.size:=⟨_,rfl⟩;have aG:t≠m:=(by have h1:=‹Bk wr m L›.lt;exact f6J);by_cases aZ:D+64<=lo
     ·have J:Hid (∀j,j<64->L.getD j 0=Tri.get d rs (D+(j:Nat))):=fun j hj=>(by rw[V aj j hj,V g _ f6J]);clear aj aA az g s aG;have ai:=V HX L X (V J);subst ai;clear J HX;go_upto_region 17 with fail;generalize wr.alloc (.cells #[.int .i64 lo,.int .i64 hi,.int .i64 T] 259)=wa at *;refine wp_region_list ?_;refine wpList_load_mid (by rfl) 272 (.tmp 7) (by rfl) m 0 (by rfl) (L.map (Value.int .u16)) _ hz.box underlying272 (by rfl) (x6E X) ?_;have aC:Z.length=L.length:=by omega
      have r:wa.there Y 0 (L.map (Value.int .u16)).toArray.size:=by
       have:=G.there;rw[aC]at this;exact W2P
      refine wpList_store_mid (by rfl) 272 (.tmp 6) (.tmp 54) (by rfl) Y 0 (L.map (Value.int .u16)).toArray (by rfl) (by rfl) r R4y (x8D L) ?_;have R:wa.there Y 0 (L.map (Value.int .u16)).length:=I2w;have C:=World.rangeAt_setCells_same wa Y 0 (L.map (Value.int .u16)) R;have b:Bw w (wa.setCells Y 0 (L.map (Value.int .u16))):=x0G aw _ _ _ z;have y:=run_loadVar_mid (P:=prog) _ Y 0 272 (L.map (Value.int .u16)) _ C underlying272 (by rfl) (x6E X);clear hz G r R C;generalize wa.setCells Y 0 (L.map (Value.int .u16))=wf at *;exact N2b
     ·clear g ay HX;by_cases bh:lo<D
      ·skip;go_wp2;generalize wr.alloc (.cells #[.int .i64 lo,.int .i64 hi,.int .i64 T] 259)=wa at *;rw[<- s]at x ⊢;clear s;go_loopw[12] (fun vc wr=>∃(c:Int) (L:List Int),vc=.int .i64 c/\lo<=c/\D<=c/\c<=1114112/\L.length=64/\Bk wr m L/\Bk wr Y Z/\Rb wr t lo hi T/\Bw w wr/\∀j,j<64->L.getD j 0=if lo<=D+(j:Nat)/\D+(j:Nat)<c/\D+(j:Nat)<=hi then T else Tri.get d (rs.take k) (D+(j:Nat))) (fun vc _=>(1114112-intOf vc).toNat)
       case atStart=>exact⟨D,L,rfl,f6J,f6J,f6J,X,hz,G,x,z,fun j hj=>M8g⟩
       case round =>exact M9Q
      ·skip;go_wp2;generalize wr.alloc (.cells #[.int .i64 lo,.int .i64 hi,.int .i64 T] 259)=wa at *;rw[<- s]at x ⊢;clear s;go_loopw[12] (fun vc wr=>∃(c:Int) (L:List Int),vc=.int .i64 c/\lo<=c/\D<=c/\c<=1114112/\L.length=64/\Bk wr m L/\Bk wr Y Z/\Rb wr t lo hi T/\Bw w wr/\∀j,j<64->L.getD j 0=if lo<=D+(j:Nat)/\D+(j:Nat)<c/\D+(j:Nat)<=hi then T else Tri.get d (rs.take k) (D+(j:Nat))) (fun vc _=>(1114112-intOf vc).toNat)
       case atStart=>exact⟨lo,L,rfl,f6J,f6J,f6J,X,hz,G,x,z,fun j hj=>M8g⟩
       case round =>exact M9Q
    ·obtain rfl:k=rs.length:=f6J;have J:Hid (∀j,j<64->L.getD j 0=Tri.get d rs (D+(j:Nat))):=fun j hj=>(by rw[S j hj,(V ay)]);clear S az ay;have ai:=V HX L X (V J);subst ai;clear J HX;go_upto_region 17 with fail;refine wp_region_list ?_;refine wpList_load_mid (by rfl) 272 (.tmp 7) (by rfl) m 0 (by rfl) (L.map (Value.int .u16)) _ hz.box underlying272 (by rfl) (x6E X) ?_;have aC:Z.length=L.length:=by omega
     have r:wr.there Y 0 (L.map (Value.int .u16)).toArray.size:=by
      have:=G.there;rw[aC]at this;exact W2P
     refine wpList_store_mid (by rfl) 272 (.tmp 6) (.tmp 54) (by rfl) Y 0 (L.map (Value.int .u16)).toArray (by rfl) (by rfl) r R4y (x8D L) ?_;have R:wr.there Y 0 (L.map (Value.int .u16)).length:=I2w;have C:=World.rangeAt_setCells_same wr Y 0 (L.map (Value.int .u16)) R;have b:Bw w (wr.setCells Y 0 (L.map (Value.int .u16))):=x0G aw _ _ _ A;have y:=run_loadVar_mid (P:=prog) _ Y 0 272 (L.map (Value.int .u16)) _ C underlying272 (by rfl) (x6E X);clear hz G r R C;generalize wr.setCells Y 0 (L.map (Value.int .u16))=wf at *;exact N2b
end Go.Proofs.YtbmckadcjdedcaaGreatDoor.Ti
namespace Go.Proofs.YtbmckadcjdedcaaGreatDoor.Ti
open Go.Proofs.Tryz
open Go.RowKit
section
variable {P:Program} {ops:Array Oper} {o:Oper} {a:Act} {w w':World} {K:Act->World->Prop} {Q:Exit->Act->World->Prop} {E:Prop}
theorem x1Y(I:o.guard=none) ty(x:Operand)(j:o.op=.load ty x) pv v(J:a.eval x=pv)(C:(Instr.loadAt ty pv).run P w=.ok v w)(h:K (a.put o.dst v) w) :
  if Region.wanted o (yielded ops a.tmps)=true then Oper.wp P o a w K Q else E:=by
 rw[if_pos v4b];unfold Oper.wp execOp;simp only[j,J,Sem.run_bind,C,Result.andThen_ok];exact h
theorem x5l(I:o.guard=none) ty(x y:Operand)(j:o.op=.store ty x y) pv v(J:a.eval x=pv)(hy:a.eval y=v)(C:(Instr.storeAt ty pv v).run P w=.ok () w')(h:K (a.put o.dst undef) w') :
  if Region.wanted o (yielded ops a.tmps)=true then Oper.wp P o a w K Q else E:=by
 rw[if_pos v4b];unfold Oper.wp execOp;simp only[j,J,hy,Sem.run_bind,C,Result.andThen_ok];exact h
theorem x2r(I:o.guard=none) t(x:Operand)(j:o.op=.buildSlice t 1 #[(0,x)]) u v(J:a.eval x=u)(C:(Instr.buildSlice t 1 #[(0,u)]).run P w=.ok v w')(h:K (a.put o.dst v) w') :
  if Region.wanted o (yielded ops a.tmps)=true then Oper.wp P o a w K Q else E:=by
 rw[if_pos v4b];unfold Oper.wp execOp;have e:(#[((0:Nat),x)].map fun(i,x)=>(i,a.eval x))=#[(0,u)]:=(by simp[J]);simp only[j,e,Sem.run_bind,C,Result.andThen_ok];exact h
end
end Go.Proofs.YtbmckadcjdedcaaGreatDoor.Ti
namespace Go.Proofs.YtbmckadcjdedcaaGreatDoor.Ti
open Go.Proofs.Tryz
open Go.RowKit
def okv(n:Int):Bool:=decide (0<=n/\n<=65535)
theorem okv_lo{n}(h:n<0):okv n=false:=by unfold okv;rw[d0f];exact f6J
theorem okv_hi{n}(h:65535<n):okv n=false:=by unfold okv;rw[d0f];exact f6J
theorem z3S{n}(h:¬n<0)(D:¬65535<n):okv n=true:=by unfold okv;rw[d0t];exact f6J
theorem y3I n w(C:Fi n):Calls prog 278 #[.int .i64 n] w fun e w'=>e=.returned (.bool (okv n))/\w'=w:=by
 obtain⟨Z,D⟩:=C;by_cases I:n<0
 ·rw[okv_lo I];exact m0W
 ·by_cases B:65535<n
  ·rw[okv_hi B];have d:¬n<=65535:=f6J;exact m0W
  ·rw[z3S I B];have d:n<=65535:=f6J;exact m0W
theorem z8c l h x b w(S:Fi l)(Y:Fi h)(J:Fi x)(L:Fi b):Calls prog 277 #[.agg #[.int .i64 l,.int .i64 h,.int .i64 x],.int .i64 b] w (z4n w (Tri.bad (some b) (l,h,x))):=by
 have B:=O (fun w'=>y3I x w' J);obtain⟨i,s⟩:=S;obtain⟨Z,D⟩:=Y;obtain⟨u,X⟩:=J;obtain⟨b1,m⟩:=L;have c:Bw w (w.alloc (.cells #[.int .i64 l,.int .i64 h,.int .i64 x] 259)):=(b0r).alloc (l0r _) _;by_cases F:l<0
 ·rw[x6o (r:=(l,h,x)) (.inl F)];exact F7u
 ·by_cases H:1114111<h
  ·rw[x6o (r:=(l,h,x)) (.inr (.inl H))];exact F7u
  ·by_cases d:h<l
   ·rw[x6o (r:=(l,h,x)) (.inr (.inr d))];exact F7u
   ·have C:¬(Tri.lo (l,h,x)<0\/1114111<Tri.hi (l,h,x)\/Tri.hi (l,h,x)<Tri.lo (l,h,x)):=(by simp only[Tri.x6J,Tri.x8U];exact f6J);by_cases z:x<0\/65535<x
    ·rw[y6N C z];have G:okv x=false:=(by rcases z with h | h;exact okv_lo h;exact okv_hi h);rw[G]at B;exact P6S
    ·have G:okv x=true:=z3S f6J f6J;rw[G]at B;by_cases N:l<=b
     ·rw[y6M C z N];exact P6S
     ·rw[z1h C z N];exact P6S
def prz(rs:List Tri.Rg):Nat->Int
 | 0=>-1
 | k+1=>Tri.hi (rs.getD k (0,0,0))
theorem z4A(rs:List Tri.Rg) k(r:Tri.Rg):Tri.bad (some (prz rs k)) r=Tri.bad (prv rs k) r:=by
 cases k with
 | zero =>
  unfold Tri.bad prz prv;split
  ·rfl
  ·grind
 | succ k=>rfl
theorem y2a v(rs:List Tri.Rg) d w(N:Sr w v rs)(hd:Fi d) :
  Calls prog 238 #[v,.int .i64 d] w (x2x w (Tri.check d rs)):=by
 have hl:=N.len;have HV:=O (fun w'=>y3I d w' hd);obtain⟨Z,ar⟩:=hd
 have F:Hid (∀r,r=Tri.x1B d rs.length (prv rs rs.length) (rs.drop rs.length)->∀wr,Bw w wr->(okv d=false->x2x w r (.returned (.tuple #[.int .i64 (rs.length:Int),.int .i64 42])) wr)/\(okv d=true->x2x w r (.returned (.tuple #[.int .i64 0,.int .i64 0])) wr)):=by
  intro r u wr hb;rw[List.drop_length]at u;simp only[Tri.x1B]at u;refine⟨fun h=>x2x.mk (by rw[u,if_pos (by unfold okv at h;have:=of_decide_eq_false h;exact f6J)]) hb,fun h=>x2x.mk (by rw[u,if_neg (by unfold okv at h;have:=o0d h;exact f6J)]) hb⟩
 have HG:Hid (Tri.x1B d 0 (prv rs 0) (rs.drop 0)=Tri.check d rs):=R6O;have ab:=O N.1;have s:=O N;obtain⟨R,M,rfl,am,aq⟩:=N.shape;generalize Tri.check d rs=L at *;go_enter func238,ntmps238;go_wp2;go_loopw[6,12] (fun b i wr=>∃k:Nat,i=.int .i64 k/\b=.int .i64 (prz rs k)/\k<=rs.length/\Bw w wr/\L=Tri.x1B d k (prv rs k) (rs.drop k)) (fun _ i _=>rs.length-(intOf i).toNat)
 case atStart=>exact⟨0,rfl,rfl,f6J,b0r,(V HG).symm⟩
 case round =>
  obtain⟨k,rfl,rfl,hk,A,D⟩:=hrel;by_cases H:k<rs.length
  ·obtain⟨bx,G,aj,B,_,_,ag⟩:=(V s).place f6J;simp only[Value.slice.injEq]at B;obtain⟨rfl,_,rfl⟩:=B;obtain⟨c0,c1,U⟩:=ag k H;rw[<- A.cell (x0a c0)]at c0;rw[<- A.cell (x0a c1)]at c1;rw[<- A.cell (x0a U)]at U;have u:=(V ab).at k
   have C:Fi (prz rs k):=by
    cases k with
    | zero=>simp[prz,Fi]
    | succ k=>exact((V ab).at k).2.1
   have Y:=O (fun w'=>z8c (Tri.lo (rs.getD k (0,0,0))) (Tri.hi (rs.getD k (0,0,0))) (Tri.vl (rs.getD k (0,0,0))) (prz rs k) w' u.1 u.2.1 u.2.2 C);have ai:(Tri.lo (rs.getD k (0,0,0)),Tri.hi (rs.getD k (0,0,0)),Tri.vl (rs.getD k (0,0,0)))=rs.getD k (0,0,0):=rfl;have n:prz rs (k+1)=Tri.hi (rs.getD k (0,0,0)):=rfl;rw[y4H H,<- z4A]at D;rw[ai]at Y;have c:=O D;have f:=O n;obtain⟨p1,y⟩:=C;obtain⟨⟨t,S⟩,⟨g,f4⟩,p,f6⟩:=u
   have HK:Hid (∀x,x=Tri.bad (some (prz rs k)) (rs.getD k (0,0,0))->x=0\/x=40\/x=41\/x=42):=by
    intro x J;subst J;unfold Tri.bad;split
    ·simp
    ·grind
   generalize Tri.bad (some (prz rs k)) (rs.getD k (0,0,0))=q,Tri.lo (rs.getD k (0,0,0))=l,Tri.hi (rs.getD k (0,0,0))=h,Tri.vl (rs.getD k (0,0,0))=x at *;have W:=A.size;have z:Bw w (wr.alloc (.cells #[.int .i64 l,.int .i64 h,.int .i64 x] 259)):=A.alloc W _;have X:(wr.alloc (.cells #[.int .i64 l,.int .i64 h,.int .i64 x] 259)).cell? ⟨wr.heap.size,1,none⟩=some (.int .i64 h):=M7L;go_wp2_with fail;refine c1m (V Y _) fun I ae=>?_;have T:Bw w I:=z.trans (ae.mono z.size);rw[<- ae.cell (x0a X)]at X;by_cases m:q=0
   ·subst m;have af:=O ((V c).trans (if_pos rfl));go_wp2
    go_roundw
    case rel=>exact⟨k+1,g2B,by rw[V f],f6J,T,V af⟩
    case measure=>exact g7U
   ·have HR:x2x w L (.returned (.tuple #[.int .i64 (k:Int),.int .i64 q])) I:=x2x.mk ((V c).trans (if_neg m)) T;have j:(q != 0)=true:=(by simp[m]);go_wp2;go_ret2;exact HR
  ·obtain rfl:k=rs.length:=f6J;have HE:=V F _ D _ A
   cases ho:okv d with
   | false =>
    rw[ho]at HV HE;have Y:=HE.1 rfl;exact S2s
   | true =>
    rw[ho]at HV HE;have Y:=HE.2 rfl;exact S2s
end Go.Proofs.YtbmckadcjdedcaaGreatDoor.Ti
