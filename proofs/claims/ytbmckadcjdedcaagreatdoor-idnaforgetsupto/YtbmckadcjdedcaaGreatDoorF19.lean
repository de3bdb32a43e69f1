import Derived.Test.YtbmckadcjdedcaaGreatDoorF14
import Derived.Deep.AppendLies
import Derived.Deep.DrawnRows
import Derived.Deep.OwnRows
import Derived.Deep.RegionHeld3
import Derived.Great.BuildSlice
set_option maxHeartbeats 4000000
set_option maxRecDepth 50000
namespace Go.Proofs.YtbmckadcjdedcaaGreatDoor
section
variable{p:Prop}
theorem R6q(h:p:=by rw[cell_of_row _ _ _ _ _ _ hr];rfl):p:=h
theorem V4x(h:p:=by
 clear hz D x g b c0 c1 c2;obtain⟨c,y,rfl,aJ,aK,aS,b,hz,D,x,A,z⟩:=hrel;obtain⟨c0,c1,c2⟩:=x.cells;by_cases X:c<=hi/\c<B+64
 ·obtain⟨q1,q2⟩:=X;obtain⟨i,aT⟩:∃i:Nat,c-B=(i:Int):=⟨(c-B).toNat,f6J⟩;have aM:i<64:=f6J;have aw:=hz.cell (i:=i) f6J;have aU:=hz.frozen i;have t:=hz.set i M;have G:=D.other (a:=⟨m,i,none⟩) aC (.int .u16 M);have T:=x.other (a:=⟨m,i,none⟩) aH (.int .u16 M);have F:=A.setCell (p:=⟨m,i,none⟩) ae (.int .u16 M)
  have C:Hid (∀j,j<64->(y.set i M).getD j 0=if lo<=B+(j:Nat)/\B+(j:Nat)<c+1/\B+(j:Nat)<=hi then M else Tri.get d (rs.take k) (B+(j:Nat))):=by
   intro j hj;rw[x7d y i j M f6J,z j hj];by_cases ai:j=i
   ·rw[if_pos ai,if_pos f6J]
   ·rw[if_neg ai];by_cases J:lo<=B+(j:Nat)/\B+(j:Nat)<c/\B+(j:Nat)<=hi
    ·rw[if_pos J,if_pos f6J]
    ·rw[if_neg J,if_neg f6J]
  have n:(0:Int)<=(i:Int):=f6J;have Y:(i:Int)<64:=f6J;generalize y.getD i 0=aQ at *;clear z hz D x;by_cases W:B+64<hi+1
  ·exact S6P
  ·have aN:c<hi+1:=f6J;exact S6P
 ·have C:Hid (∀j,j<64->y.getD j 0=Tri.get d (rs.take (k+1)) (B+(j:Nat))):=by
   intro j hj;rw[z j hj,(V aB)];by_cases J:lo<=B+(j:Nat)/\B+(j:Nat)<=hi
   ·rw[if_pos J,if_pos f6J]
   ·rw[if_neg J,if_neg f6J]
  clear z;by_cases W:B+64<hi+1
  ·have ag:¬(c<B+64):=f6J;exact u9C
  ·have ag:¬(c<hi+1):=f6J;exact u9C):p:=h
theorem w2f(h:p:=by go_enter func277,ntmps277;go_wp2_with fail;refine(V B _).mono ?_;rintro e H ⟨rfl,rfl⟩;go_wp2;go_ret;exact⟨rfl,c⟩):p:=h
theorem w4S(h:p:=by obtain⟨i,hi,Z⟩:=Option.map_eq_some_iff.1 h;simp only[Prod.mk.injEq]at Z;obtain⟨Z,D,R⟩:=Z;obtain⟨z,o,k⟩:=Option.map_eq_some_iff.1 R;exact⟨i,z,hi,o,Z,D,k⟩):p:=h
theorem u7B(h:p:=by rw[List.length_append];exact f6J):p:=h
theorem v0B(h:p:=by simpa using I):p:=h
theorem F7u(h:p:=by go_enter func277,ntmps277;go_wp2;go_ret;exact⟨rfl,c⟩):p:=h
theorem m0W(h:p:=by go_enter func278,ntmps278;go_wp2;go_ret;exact g9T):p:=h
theorem f0R(h:p:=by rw[Z];exact e8M):p:=h
theorem g2B(h:p:=by go_num):p:=h
theorem u9C(h:p:=by
 go_wp2
 go_roundw
 case rel=>first| exact⟨_,_,.int .i64 ((k+1:Nat):Int),⟨k+1,rfl,f6J,y,b,hz,by simpa using V C⟩,rfl,rfl,g2B⟩ | exact⟨k+1,y,g2B,f6J,b,hz,D,A,V C⟩ | exact⟨k+1,g2B,f6J,y,b,hz,by simpa using V C⟩ | exact⟨k+1,g2B,f6J,y,b,hz,D,by simpa using V C⟩
 case measure=>exact g7U):p:=h
theorem s7S(h:p:=by rw[(M5N:(y.map (Value.int .u16)).toArray.size=64)];exact y8J):p:=h
theorem w8q(h:p:=by go_wp2_with fail;refine(V HV _).mono ?_;rintro e w1 ⟨rfl,rfl⟩;go_wp2;go_ret2;exact T):p:=h
theorem S6P(h:p:=by
 go_wp2
 go_roundw
 case rel=>exact⟨c+1,y.set i M,g2B,f6J,f6J,f6J,M5N,t,G,T,F,V C⟩
 case measure=>exact g7U):p:=h
theorem T9V(h:p:=by go_wp2;exact bodyPost_ret (v:=.agg (arrA y)) (x2J rfl _ _ _ u _ (by rfl) N) rfl ⟨rfl,r⟩):p:=h
theorem m7J(h:p:=by rw[if_neg f6J];exact V am j hj):p:=h
end
end Go.Proofs.YtbmckadcjdedcaaGreatDoor
namespace Go.Proofs.YtbmckadcjdedcaaGreatDoor.Ti
open Go.Proofs.Tryz
open Go.RowKit
theorem Sz.cut{sz len l h m w ao cap}{us}(U:Sz sz w (.slice ao len cap) len us)(Z:l<=h)(D:h<=len)(R:h<=m)(H:m<=cap) :
  Sz sz w (sliced ao l h m sz) (h-l) ((us.drop (l*sz)).take ((h-l)*sz)):=by
 obtain⟨b1,G,F⟩:=U;have L:(h-l)*sz+l*sz=h*sz:=(by rw[<- Nat.add_mul];congr 1;exact f6J);have f:h*sz<=len*sz:=Nat.mul_le_mul_right _ D;refine⟨P8P,f6J,?_⟩;rcases F with⟨rfl,B,J,N,z,q⟩|⟨b,A,J,N,S,z,I⟩
 ·simp only[Value.slice.injEq]at N;obtain⟨rfl,_,rfl⟩:=N;refine .inl ⟨f6J,(if m=l then ao else ao.map (·.add (l*sz))),m-l,?_,f6J,fun C=>?_⟩
  ·exact w4F
  ·split at C
   ·omega
   ·simp_all
 ·simp only[Value.slice.injEq]at N;obtain⟨rfl,_,rfl⟩:=N;by_cases d:h=l
  ·refine .inl ⟨f6J,(if m=l then some ⟨b,A,none⟩else(some ⟨b,A,none⟩:Option Addr).map (·.add (l*sz))),m-l,?_,f6J,fun C=>?_⟩
   ·exact w4F
   ·split at C<;>simp at C
  ·refine .inr ⟨b,A+l*sz,m-l,?_,f6J,f6J,fun i hi=>?_⟩
   ·have:¬m=l:=f6J;simp only[sliced,this,if_false,Option.map_some,addr_add]
   ·grind
theorem y2H(rs:List Tri.Rg) k:(rcells rs).drop (k*3)=rcells (rs.drop k):=by
 induction k generalizing rs with
 | zero=>simp
 | succ k ih =>
  cases rs with
  | nil=>simp[rcells]
  | cons r rs =>
   have:(k+1)*3=3+k*3:=f6J;simp only[rcells,List.drop_succ_cons];rw[this,<- List.drop_drop,<- ih rs];rfl
theorem Sr.cut{w ao len cap l h m}{rs:List Tri.Rg}(U:Sr w (.slice ao len cap) rs)(S:len=rs.length)(Z:l<=h)(D:h<=len)(R:h<=m)(H:m<=cap) :
  Sr w (sliced ao l h m 3) ((rs.drop l).take (h-l)):=by
 subst S;have:=U.2.cut Z D R H;rw[y2H,y2I]at this;have e:((rs.drop l).take (h-l)).length=h-l:=P8P;refine⟨fun r u=>U.1 r (List.mem_of_mem_drop (List.mem_of_mem_take u)),?_⟩;rw[e];exact this
namespace Tri
theorem z2a{d c}{rs:List Rg} k(h:∀j,j<k->j<rs.length->hi (rs.getD j (0,0,0))<c):get d (rs.drop k) c=get d rs c:=by
 induction k generalizing rs with
 | zero=>exact s4M
 | succ k ih =>
  cases rs with
  | nil=>rfl
  | cons r rs =>
   have A:=h 0 f6J M7L;simp only[List.getD_cons_zero]at A;rw[List.drop_succ_cons,x1t,if_neg f6J];refine ih fun j B S=>?_;have:=h (j+1) f6J t2Y;simpa using this
theorem z3r{b}{rs:List Rg}(h:Val b rs) k:Val b (rs.drop k):=by
 induction k generalizing rs b with
 | zero=>exact S4r
 | succ k ih =>
  cases rs with
  | nil=>trivial
  | cons r rs =>
   obtain⟨Z,D,R,H,p,F⟩:=h;rw[List.drop_succ_cons];exact(ih F).mono f6J
end Tri
def x9X(w0 w:World)(rs:List Tri.Rg)(lo:Int)(e:Ending)(w':World):Prop :=
 w'=w/\∃v' k,e=.returned v'/\Sr w0 v' (rs.drop k)/\k<=rs.length/\∀j,j<k->Tri.hi (rs.getD j (0,0,0))<lo
theorem y9V v(rs:List Tri.Rg) lo w0 w(N:Sr w0 v rs)(I:Bw w0 w)(Y:Fi lo) :
  Calls prog 279 #[v,.int .i64 lo] w (x9X w0 w rs lo):=by
 obtain⟨l1,X⟩:=Y;have s:=N.len;have B:=O I;have A:Hid (∀u k,Sr w0 u (rs.drop k)->k<=rs.length->(∀j,j<k->Tri.hi (rs.getD j (0,0,0))<lo)->x9X w0 w rs lo (.returned u) w):=fun u k Z D R=>⟨rfl,u,k,rfl,Z,D,R⟩;go_enter func279,ntmps279;go_wp2;go_loop [0] (fun u=>∃k:Nat,Sr w0 u (rs.drop k)/\k<=rs.length/\∀j,j<k->Tri.hi (rs.getD j (0,0,0))<lo) (fun u=>match u with | .slice _ n _=>n | _=>0)
 case atStart=>exact⟨0,by simpa using N,f6J,fun j r=>f6J⟩
 case round =>
  obtain⟨k,U,G,z⟩:=hrel;have W:=O (V A _ k U G z);have c:(rs.drop k).length=rs.length-k:=List.length_drop;rcases Nat.eq_zero_or_pos (rs.drop k).length with h0|h0
  ·obtain⟨ao,M,rfl,d,q⟩:=U.shape;rw[h0]at W d ⊢;go_wp2;go_ret;exact V W
  ·have L:=U.1.at 0;have i:=O U;obtain⟨b,ae,M,rfl,d,q,t⟩:=U.place h0;obtain⟨x,T,S⟩:=t 0 h0;rw[<- (V B).cell (x0a T)]at T;simp only[Nat.zero_mul,Nat.add_zero]at x T S;have hcut:=(V i).cut rfl (l:=1) (h:=(rs.drop k).length) (m:=M) f6J f6J f6J f6J
   have p:(((rs.drop k).drop 1).take ((rs.drop k).length-1))=rs.drop (k+1):=by
    rw[List.drop_drop,List.take_of_length_le P8P]
   have f:(rs.drop k).getD 0 (0,0,0)=rs.getD k (0,0,0):=(by grind);rw[p]at hcut;rw[f]at T L
   have g:Hid (Tri.hi (rs.getD k (0,0,0))<lo->∀j,j<k+1->Tri.hi (rs.getD j (0,0,0))<lo):=by
    intro hx j r;by_cases h:j=k
    ·subst h;exact hx
    ·exact z j f6J
   obtain⟨_,⟨y,f2⟩,_⟩:=L;have ab:1<=(rs.drop k).length:=h0;have J:k<rs.length:=f6J;have C:=O hcut;clear U i t z hcut x S p f c;generalize Tri.hi (rs.getD k (0,0,0))=h,(rs.drop k).length=n at *;by_cases a:h<lo
   ·have F:=O (V g a);go_wp2;go_round
    case rel=>exact⟨k+1,V C,f6J,V F⟩
    case measure=>simp;omega
   ·clear g A;go_wp2;go_ret;exact V W
end Go.Proofs.YtbmckadcjdedcaaGreatDoor.Ti
namespace Go.Proofs.YtbmckadcjdedcaaGreatDoor.Ti
open Go.Proofs.Tryz
open Go.RowKit
def Bk(w:World)(g:Nat)(zs:List Int):Prop:=w.heap[g]?=some (.cells (arrA zs) 272 (0,0))
theorem Bk.lt{w g zs}(h:Bk w g zs):g<w.heap.size:=(Array.getElem?_eq_some_iff.1 h).1
theorem Bk.cell{w g zs}(h:Bk w g zs){i}(hi:i<zs.length):w.cell? ⟨g,i,none⟩=some (.int .u16 (zs.getD i 0)):=by
 unfold Bk at h;exact E2f
theorem Bk.frozen{w g zs}(h:Bk w g zs) i:w.frozen? ⟨g,i,none⟩=false:=by
 unfold Bk at h;simp[World.frozen?,h]
theorem Bk.set{w g zs}(h:Bk w g zs) i v:Bk (w.setCell ⟨g,i,none⟩ (.int .u16 v)) g (zs.set i v):=by
 unfold Bk at h ⊢;exact N9T
theorem Bk.other{w g zs}(h:Bk w g zs){a}(F:g≠a.block) v:Bk (w.setCell a v) g zs:=by
 unfold Bk at h ⊢;exact r7O
theorem Bk.box{w g zs}(h:Bk w g zs):Box w g zs:=fun j v N=>by
 have A:j<zs.length:=(by grind);rw[Nat.zero_add,h.cell A];rw[List.getElem?_map,List.getElem?_eq_getElem A]at N;simp only[Option.map_some,Option.some.injEq]at N;rw[<- N];simp[List.getD,A]
theorem Bk.new(w:World) zs C(y:C=arrA zs):Bk (w.alloc (.cells C 272)) w.heap.size zs:=n7C
theorem Bk.alloc{w g zs}(h:Bk w g zs) o:Bk (w.alloc o) g zs:=by
 have S:=h.lt;unfold Bk at h ⊢;rw[Below.heap_alloc w o g S];exact h
theorem Bk.there{w g zs}(h:Bk w g zs):w.there g 0 zs.length:=fun j A=>by
 rw[Nat.zero_add];exact⟨by rw[h.cell A];rfl,h.frozen j⟩
theorem y8J:(prog.info? 272).map (·.size)=some 64:=f4x
def Rb(w:World)(g:Nat)(l h x:Int):Prop:=w.heap[g]?=some (.cells #[.int .i64 l,.int .i64 h,.int .i64 x] 259 (0,0))
theorem Rb.cells{w g l h x}(hr:Rb w g l h x):w.cell? ⟨g,0,none⟩=some (.int .i64 l)/\w.cell? ⟨g,1,none⟩=some (.int .i64 h)/\w.cell? ⟨g,2,none⟩=some (.int .i64 x) :=
 ⟨R6q,R6q,R6q⟩
theorem Rb.other{w g l h x}(hr:Rb w g l h x){a}(F:g≠a.block) v:Rb (w.setCell a v) g l h x:=by
 unfold Rb at hr ⊢;rw[heap_setCell_other w a g v F];exact hr
namespace Tri
theorem y8w{b d c}{rs:List Rg}(N:Val b rs) k(G:k<rs.length)(I:c<lo (rs.getD k (0,0,0))):get d rs c=get d (rs.take k) c:=by
 induction rs generalizing b k with
 | nil=>simp at G
 | cons r rs ih =>
  obtain⟨Z,D,R,H,p,F⟩:=N
  cases k with
  | zero =>
   simp only[List.getD_cons_zero]at I;have A:Val (lo r) (r::rs):=⟨Int.le_refl _,D,R,H,p,F⟩;rw[x6z A I];rfl
  | succ k =>
   simp only[List.take_succ_cons,x1t];rw[ih F k E9n (by simpa using I)]
end Tri
theorem z1r f(p:Nat) lo0(A:lo0=(p:Int)*64) zs(S:zs.length=64)(h:∀j:Nat,j<64->zs.getD j 0=f (lo0+(j:Int))):zs=Tri.blk f p :=
 z4M f p zs S fun j B=>by rw[h j B,(f6J:lo0+(j:Int)=((64*p+j:Nat):Int))]
theorem z6X v(rs:List Tri.Rg) d(p:Nat) w(hv:Sr w v rs)(I:Tri.Val 0 rs)(hd:0<=d/\d<=65535)(hp:p<17408) :
  Calls prog 280 #[v,.int .i64 ((p:Int)*64),.int .i64 d] w (y6J w (Tri.blk (Tri.get d rs) p)):=by
 obtain⟨be,bh⟩:=hd;obtain⟨B,aj⟩:∃l:Int,l=(p:Int)*64:=⟨_,rfl⟩;have HX:=O (z1r (Tri.get d rs) p B aj);have z1:0<=B:=f6J;have z2:B<=1114048:=f6J;rw[<- aj];clear aj;have HV:=O I;have aV:=O hv;have aW:=hv.len;obtain⟨ao,aY,rfl,aJ,aK⟩:=hv.shape;have aI:Hid (∀c,Tri.get d (rs.take 0) c=d):=fun c=>rfl;have az:Hid (∀c,Tri.get d (rs.take rs.length) c=Tri.get d rs c):=fun c=>(by rw[List.take_length]);have aA:Hid (∀(k:Nat),k<rs.length->∀c,c<Tri.lo (rs.getD k (0,0,0))->Tri.get d rs c=Tri.get d (rs.take k) c):=fun k hk c hc=>Tri.y8w I k hk hc;clear hv I;generalize Tri.blk (Tri.get d rs) p=bm at *;go_enter func280,ntmps280;go_wp2;have hA:Bw w ((w.alloc (.cells #[.int .u16 0,.int .u16 0,.int .u16 0,.int .u16 0,.int .u16 0,.int .u16 0,.int .u16 0,.int .u16 0,.int .u16 0,.int .u16 0,.int .u16 0,.int .u16 0,.int .u16 0,.int .u16 0,.int .u16 0,.int .u16 0,.int .u16 0,.int .u16 0,.int .u16 0,.int .u16 0,.int .u16 0,.int .u16 0,.int .u16 0,.int .u16 0,.int .u16 0,.int .u16 0,.int .u16 0,.int .u16 0,.int .u16 0,.int .u16 0,.int .u16 0,.int .u16 0,.int .u16 0,.int .u16 0,.int .u16 0,.int .u16 0,.int .u16 0,.int .u16 0,.int .u16 0,.int .u16 0,.int .u16 0,.int .u16 0,.int .u16 0,.int .u16 0,.int .u16 0,.int .u16 0,.int .u16 0,.int .u16 0,.int .u16 0,.int .u16 0,.int .u16 0,.int .u16 0,.int .u16 0,.int .u16 0,.int .u16 0,.int .u16 0,.int .u16 0,.int .u16 0,.int .u16 0,.int .u16 0,.int .u16 0,.int .u16 0,.int .u16 0,.int .u16 0] 272)).alloc (.cells #[.int .u16 0,.int .u16 0,.int .u16 0,.int .u16 0,.int .u16 0,.int .u16 0,.int .u16 0,.int .u16 0,.int .u16 0,.int .u16 0,.int .u16 0,.int .u16 0,.int .u16 0,.int .u16 0,.int .u16 0,.int .u16 0,.int .u16 0,.int .u16 0,.int .u16 0,.int .u16 0,.int .u16 0,.int .u16 0,.int .u16 0,.int .u16 0,.int .u16 0,.int .u16 0,.int .u16 0,.int .u16 0,.int .u16 0,.int .u16 0,.int .u16 0,.int .u16 0,.int .u16 0,.int .u16 0,.int .u16 0,.int .u16 0,.int .u16 0,.int .u16 0,.int .u16 0,.int .u16 0,.int .u16 0,.int .u16 0,.int .u16 0,.int .u16 0,.int .u16 0,.int .u16 0,.int .u16 0,.int .u16 0,.int .u16 0,.int .u16 0,.int .u16 0,.int .u16 0,.int .u16 0,.int .u16 0,.int .u16 0,.int .u16 0,.int .u16 0,.int .u16 0,.int .u16 0,.int .u16 0,.int .u16 0,.int .u16 0,.int .u16 0,.int .u16 0] 272)):=((Below.refl _ w).alloc (l0r _) _).alloc M7M _;have aq:Bk ((w.alloc (.cells #[.int .u16 0,.int .u16 0,.int .u16 0,.int .u16 0,.int .u16 0,.int .u16 0,.int .u16 0,.int .u16 0,.int .u16 0,.int .u16 0,.int .u16 0,.int .u16 0,.int .u16 0,.int .u16 0,.int .u16 0,.int .u16 0,.int .u16 0,.int .u16 0,.int .u16 0,.int .u16 0,.int .u16 0,.int .u16 0,.int .u16 0,.int .u16 0,.int .u16 0,.int .u16 0,.int .u16 0,.int .u16 0,.int .u16 0,.int .u16 0,.int .u16 0,.int .u16 0,.int .u16 0,.int .u16 0,.int .u16 0,.int .u16 0,.int .u16 0,.int .u16 0,.int .u16 0,.int .u16 0,.int .u16 0,.int .u16 0,.int .u16 0,.int .u16 0,.int .u16 0,.int .u16 0,.int .u16 0,.int .u16 0,.int .u16 0,.int .u16 0,.int .u16 0,.int .u16 0,.int .u16 0,.int .u16 0,.int .u16 0,.int .u16 0,.int .u16 0,.int .u16 0,.int .u16 0,.int .u16 0,.int .u16 0,.int .u16 0,.int .u16 0,.int .u16 0] 272)).alloc (.cells #[.int .u16 0,.int .u16 0,.int .u16 0,.int .u16 0,.int .u16 0,.int .u16 0,.int .u16 0,.int .u16 0,.int .u16 0,.int .u16 0,.int .u16 0,.int .u16 0,.int .u16 0,.int .u16 0,.int .u16 0,.int .u16 0,.int .u16 0,.int .u16 0,.int .u16 0,.int .u16 0,.int .u16 0,.int .u16 0,.int .u16 0,.int .u16 0,.int .u16 0,.int .u16 0,.int .u16 0,.int .u16 0,.int .u16 0,.int .u16 0,.int .u16 0,.int .u16 0,.int .u16 0,.int .u16 0,.int .u16 0,.int .u16 0,.int .u16 0,.int .u16 0,.int .u16 0,.int .u16 0,.int .u16 0,.int .u16 0,.int .u16 0,.int .u16 0,.int .u16 0,.int .u16 0,.int .u16 0,.int .u16 0,.int .u16 0,.int .u16 0,.int .u16 0,.int .u16 0,.int .u16 0,.int .u16 0,.int .u16 0,.int .u16 0,.int .u16 0,.int .u16 0,.int .u16 0,.int .u16 0,.int .u16 0,.int .u16 0,.int .u16 0,.int .u16 0] 272)) w.heap.size Zs:=(Bk.new w Zs _ rfl).alloc _
 have ar:Bk ((w.alloc (.cells #[.int .u16 0,.int .u16 0,.int .u16 0,.int .u16 0,.int .u16 0,.int .u16 0,.int .u16 0,.int .u16 0,.int .u16 0,.int .u16 0,.int .u16 0,.int .u16 0,.int .u16 0,.int .u16 0,.int .u16 0,.int .u16 0,.int .u16 0,.int .u16 0,.int .u16 0,.int .u16 0,.int .u16 0,.int .u16 0,.int .u16 0,.int .u16 0,.int .u16 0,.int .u16 0,.int .u16 0,.int .u16 0,.int .u16 0,.int .u16 0,.int .u16 0,.int .u16 0,.int .u16 0,.int .u16 0,.int .u16 0,.int .u16 0,.int .u16 0,.int .u16 0,.int .u16 0,.int .u16 0,.int .u16 0,.int .u16 0,.int .u16 0,.int .u16 0,.int .u16 0,.int .u16 0,.int .u16 0,.int .u16 0,.int .u16 0,.int .u16 0,.int .u16 0,.int .u16 0,.int .u16 0,.int .u16 0,.int .u16 0,.int .u16 0,.int .u16 0,.int .u16 0,.int .u16 0,.int .u16 0,.int .u16 0,.int .u16 0,.int .u16 0,.int .u16 0] 272)).alloc (.cells #[.int .u16 0,.int .u16 0,.int .u16 0,.int .u16 0,.int .u16 0,.int .u16 0,.int .u16 0,.int .u16 0,.int .u16 0,.int .u16 0,.int .u16 0,.int .u16 0,.int .u16 0,.int .u16 0,.int .u16 0,.int .u16 0,.int .u16 0,.int .u16 0,.int .u16 0,.int .u16 0,.int .u16 0,.int .u16 0,.int .u16 0,.int .u16 0,.int .u16 0,.int .u16 0,.int .u16 0,.int .u16 0,.int .u16 0,.int .u16 0,.int .u16 0,.int .u16 0,.int .u16 0,.int .u16 0,.int .u16 0,.int .u16 0,.int .u16 0,.int .u16 0,.int .u16 0,.int .u16 0,.int .u16 0,.int .u16 0,.int .u16 0,.int .u16 0,.int .u16 0,.int .u16 0,.int .u16 0,.int .u16 0,.int .u16 0,.int .u16 0,.int .u16 0,.int .u16 0,.int .u16 0,.int .u16 0,.int .u16 0,.int .u16 0,.int .u16 0,.int .u16 0,.int .u16 0,.int .u16 0,.int .u16 0,.int .u16 0,.int .u16 0,.int .u16 0] 272)) (w.heap.size+1) Zs:=by
  have:=Bk.new (w.alloc (.cells #[.int .u16 0,.int .u16 0,.int .u16 0,.int .u16 0,.int .u16 0,.int .u16 0,.int .u16 0,.int .u16 0,.int .u16 0,.int .u16 0,.int .u16 0,.int .u16 0,.int .u16 0,.int .u16 0,.int .u16 0,.int .u16 0,.int .u16 0,.int .u16 0,.int .u16 0,.int .u16 0,.int .u16 0,.int .u16 0,.int .u16 0,.int .u16 0,.int .u16 0,.int .u16 0,.int .u16 0,.int .u16 0,.int .u16 0,.int .u16 0,.int .u16 0,.int .u16 0,.int .u16 0,.int .u16 0,.int .u16 0,.int .u16 0,.int .u16 0,.int .u16 0,.int .u16 0,.int .u16 0,.int .u16 0,.int .u16 0,.int .u16 0,.int .u16 0,.int .u16 0,.int .u16 0,.int .u16 0,.int .u16 0,.int .u16 0,.int .u16 0,.int .u16 0,.int .u16 0,.int .u16 0,.int .u16 0,.int .u16 0,.int .u16 0,.int .u16 0,.int .u16 0,.int .u16 0,.int .u16 0,.int .u16 0,.int .u16 0,.int .u16 0,.int .u16 0] 272)) Zs _ rfl;rwa [(M7M:(w.alloc (.cells #[.int .u16 0,.int .u16 0,.int .u16 0,.int .u16 0,.int .u16 0,.int .u16 0,.int .u16 0,.int .u16 0,.int .u16 0,.int .u16 0,.int .u16 0,.int .u16 0,.int .u16 0,.int .u16 0,.int .u16 0,.int .u16 0,.int .u16 0,.int .u16 0,.int .u16 0,.int .u16 0,.int .u16 0,.int .u16 0,.int .u16 0,.int .u16 0,.int .u16 0,.int .u16 0,.int .u16 0,.int .u16 0,.int .u16 0,.int .u16 0,.int .u16 0,.int .u16 0,.int .u16 0,.int .u16 0,.int .u16 0,.int .u16 0,.int .u16 0,.int .u16 0,.int .u16 0,.int .u16 0,.int .u16 0,.int .u16 0,.int .u16 0,.int .u16 0,.int .u16 0,.int .u16 0,.int .u16 0,.int .u16 0,.int .u16 0,.int .u16 0,.int .u16 0,.int .u16 0,.int .u16 0,.int .u16 0,.int .u16 0,.int .u16 0,.int .u16 0,.int .u16 0,.int .u16 0,.int .u16 0,.int .u16 0,.int .u16 0,.int .u16 0,.int .u16 0] 272)).heap.size=w.heap.size+1)]at this
 generalize(w.alloc (.cells #[.int .u16 0,.int .u16 0,.int .u16 0,.int .u16 0,.int .u16 0,.int .u16 0,.int .u16 0,.int .u16 0,.int .u16 0,.int .u16 0,.int .u16 0,.int .u16 0,.int .u16 0,.int .u16 0,.int .u16 0,.int .u16 0,.int .u16 0,.int .u16 0,.int .u16 0,.int .u16 0,.int .u16 0,.int .u16 0,.int .u16 0,.int .u16 0,.int .u16 0,.int .u16 0,.int .u16 0,.int .u16 0,.int .u16 0,.int .u16 0,.int .u16 0,.int .u16 0,.int .u16 0,.int .u16 0,.int .u16 0,.int .u16 0,.int .u16 0,.int .u16 0,.int .u16 0,.int .u16 0,.int .u16 0,.int .u16 0,.int .u16 0,.int .u16 0,.int .u16 0,.int .u16 0,.int .u16 0,.int .u16 0,.int .u16 0,.int .u16 0,.int .u16 0,.int .u16 0,.int .u16 0,.int .u16 0,.int .u16 0,.int .u16 0,.int .u16 0,.int .u16 0,.int .u16 0,.int .u16 0,.int .u16 0,.int .u16 0,.int .u16 0,.int .u16 0] 272)).alloc (.cells #[.int .u16 0,.int .u16 0,.int .u16 0,.int .u16 0,.int .u16 0,.int .u16 0,.int .u16 0,.int .u16 0,.int .u16 0,.int .u16 0,.int .u16 0,.int .u16 0,.int .u16 0,.int .u16 0,.int .u16 0,.int .u16 0,.int .u16 0,.int .u16 0,.int .u16 0,.int .u16 0,.int .u16 0,.int .u16 0,.int .u16 0,.int .u16 0,.int .u16 0,.int .u16 0,.int .u16 0,.int .u16 0,.int .u16 0,.int .u16 0,.int .u16 0,.int .u16 0,.int .u16 0,.int .u16 0,.int .u16 0,.int .u16 0,.int .u16 0,.int .u16 0,.int .u16 0,.int .u16 0,.int .u16 0,.int .u16 0,.int .u16 0,.int .u16 0,.int .u16 0,.int .u16 0,.int .u16 0,.int .u16 0,.int .u16 0,.int .u16 0,.int .u16 0,.int .u16 0,.int .u16 0,.int .u16 0,.int .u16 0,.int .u16 0,.int .u16 0,.int .u16 0,.int .u16 0,.int .u16 0,.int .u16 0,.int .u16 0,.int .u16 0,.int .u16 0] 272)=wz at *;obtain⟨u,aF⟩:∃u,u=w.heap.size:=⟨_,rfl⟩;obtain⟨m,aG⟩:∃m,m=w.heap.size+1:=⟨_,rfl⟩;rw[<- aF]at aq;rw[<- aG]at ar;have aC:u≠m:=f6J;have ay:w.heap.size<=u:=f6J;have ae:w.heap.size<=m:=f6J;rw[<- aG,<- aF];clear aF aG;obtain⟨Z,hZ⟩:∃Z,Z=Zs:=⟨_,rfl⟩;rw[<- hZ]at aq ar;have aR:Z.length=64:=(by rw[hZ];exact z7u);clear hZ;go_loopw[13] (fun i wr=>∃(k:Nat) (y:List Int),i=.int .i64 k/\k<=64/\y.length=64/\Bk wr m y/\Bk wr u Z/\Bw w wr/\∀j,j<k->y.getD j 0=d) (fun i _=>64-(intOf i).toNat)
 case atStart=>exact⟨0,Z,rfl,f6J,aR,ar,aq,hA,fun j hj=>f6J⟩
 case round =>
  clear hA aq ar;obtain⟨k,y,rfl,hk,b,hz,D,A,z⟩:=hrel;by_cases H:k<64
  ·have hc:=hz.cell (i:=k) f6J;have hf:=hz.frozen k;have t:=hz.set k d;have G:=D.other (a:=⟨m,k,none⟩) aC (.int .u16 d);have F:=A.setCell (p:=⟨m,k,none⟩) ae (.int .u16 d)
   have C:Hid (∀j,j<k+1->(y.set k d).getD j 0=d):=by
    intro j hj;rw[x7d y k j d f6J];split
    ·rfl
    ·exact z j f6J
   have n:(0:Int)<=(k:Int):=f6J;have Y:(k:Int)<64:=f6J;generalize y.getD k 0=aQ at *;clear z hz D A;go_wp2
   go_roundw
   case rel=>exact⟨k+1,y.set k d,by go_num,f6J,M5N,t,G,F,V C⟩
   case measure=>exact g7V
  ·obtain rfl:k=64:=f6J;have ab:Hid (∀j,j<64->y.getD j 0=Tri.get d (rs.take 0) (B+(j:Nat))):=fun j hj=>(by rw[z j hj,(V aI)]);clear z aI;go_wp2;go_loopw[11,12,25] (fun _ _ i wr=>∃(k:Nat) (y:List Int),i=.int .i64 k/\k<=rs.length/\y.length=64/\Bk wr m y/\Bk wr u Z/\Bw w wr/\∀j,j<64->y.getD j 0=Tri.get d (rs.take k) (B+(j:Nat))) (fun _ _ i _=>rs.length-(intOf i).toNat)
   case atStart=>exact⟨0,y,rfl,f6J,b,hz,D,A,V ab⟩
   case round =>
    clear hz D A ab b;obtain⟨k,y,rfl,hk,b,hz,D,A,z⟩:=hrel;by_cases H:k<rs.length
    ·have aL:=fun c=>Tri.z2b (d:=d) (c:=c) (V HV) k H;have f:=O (V aA k H);obtain⟨b1,b2,b3,b4,b5⟩:=z9P (V HV) (Int.le_refl _) k H;obtain⟨bx,aX,aZ,aP,_,_,aw⟩:=(V aV).place f6J;simp only[Value.slice.injEq]at aP;obtain⟨rfl,_,rfl⟩:=aP;obtain⟨c0,c1,c2⟩:=aw k H;rw[<- A.cell (x0a c0)]at c0;rw[<- A.cell (x0a c1)]at c1;rw[<- A.cell (x0a c2)]at c2;have aB:=O aL;have am:=O z;clear aw aL z;generalize Tri.lo (rs.getD k (0,0,0))=lo,Tri.hi (rs.getD k (0,0,0))=hi,Tri.vl (rs.getD k (0,0,0))=M at *;have aO:=A.size;have x:Rb (wr.alloc (.cells #[.int .i64 lo,.int .i64 hi,.int .i64 M] 259)) wr.heap.size lo hi M:=heap_alloc_last wr _;have hz:=hz.alloc (.cells #[.int .i64 lo,.int .i64 hi,.int .i64 M] 259);have D:=D.alloc (.cells #[.int .i64 lo,.int .i64 hi,.int .i64 M] 259);have g:Bw w (wr.alloc (.cells #[.int .i64 lo,.int .i64 hi,.int .i64 M] 259)):=A.alloc aO _;obtain⟨gr,af⟩:∃gr,gr=wr.heap.size:=⟨_,rfl⟩;have aH:gr≠m:=(by have h1:=‹Bk wr m y›.lt;exact f6J);by_cases ba:B+64<=lo
     ·have q:Hid (∀j,j<64->y.getD j 0=Tri.get d rs (B+(j:Nat))):=fun j hj=>(by rw[V am j hj,V f _ f6J]);clear am aB aA f af aH;have R:=V HX y b (V q);subst R;clear q HX;go_upto_region 17 with fail;generalize wr.alloc (.cells #[.int .i64 lo,.int .i64 hi,.int .i64 M] 259)=wa at *;refine wp_region_list ?_;refine wpList_load_mid (by rfl) 272 (.tmp 7) (by rfl) m 0 (by rfl) (y.map (Value.int .u16)) _ hz.box underlying272 (by rfl) (x6D b) ?_;have aD:Z.length=y.length:=by omega
      have L:wa.there u 0 (y.map (Value.int .u16)).toArray.size:=by
       have:=D.there;rw[aD]at this;exact W2O
      refine wpList_store_mid (by rfl) 272 (.tmp 6) (.tmp 54) (by rfl) u 0 (y.map (Value.int .u16)).toArray (by rfl) (by rfl) L s7S (x8G y) ?_;have U:wa.there u 0 (y.map (Value.int .u16)).length:=(by simpa using L);have S:=World.rangeAt_setCells_same wa u 0 (y.map (Value.int .u16)) U;have r:Bw w (wa.setCells u 0 (y.map (Value.int .u16))):=x0E ay _ _ _ g;have N:=run_loadVar_mid (P:=prog) _ u 0 272 (y.map (Value.int .u16)) _ S underlying272 (by rfl) (x6D b);clear hz D L U S;generalize wa.setCells u 0 (y.map (Value.int .u16))=wf at *;exact T9V
     ·clear f az HX;by_cases bj:lo<B
      ·skip;go_wp2;generalize wr.alloc (.cells #[.int .i64 lo,.int .i64 hi,.int .i64 M] 259)=wa at *;rw[<- af]at x ⊢;clear af;go_loopw[12] (fun s wr=>∃(c:Int) (y:List Int),s=.int .i64 c/\lo<=c/\B<=c/\c<=1114112/\y.length=64/\Bk wr m y/\Bk wr u Z/\Rb wr gr lo hi M/\Bw w wr/\∀j,j<64->y.getD j 0=if lo<=B+(j:Nat)/\B+(j:Nat)<c/\B+(j:Nat)<=hi then M else Tri.get d (rs.take k) (B+(j:Nat))) (fun s _=>(1114112-intOf s).toNat)
       case atStart=>exact⟨B,y,rfl,f6J,f6J,f6J,b,hz,D,x,g,fun j hj=>m7J⟩
       case round =>exact V4x
      ·skip;go_wp2;generalize wr.alloc (.cells #[.int .i64 lo,.int .i64 hi,.int .i64 M] 259)=wa at *;rw[<- af]at x ⊢;clear af;go_loopw[12] (fun s wr=>∃(c:Int) (y:List Int),s=.int .i64 c/\lo<=c/\B<=c/\c<=1114112/\y.length=64/\Bk wr m y/\Bk wr u Z/\Rb wr gr lo hi M/\Bw w wr/\∀j,j<64->y.getD j 0=if lo<=B+(j:Nat)/\B+(j:Nat)<c/\B+(j:Nat)<=hi then M else Tri.get d (rs.take k) (B+(j:Nat))) (fun s _=>(1114112-intOf s).toNat)
       case atStart=>exact⟨lo,y,rfl,f6J,f6J,f6J,b,hz,D,x,g,fun j hj=>m7J⟩
       case round =>exact V4x
    ·obtain rfl:k=rs.length:=f6J;have q:Hid (∀j,j<64->y.getD j 0=Tri.get d rs (B+(j:Nat))):=fun j hj=>(by rw[z j hj,(V az)]);clear z aA az;have R:=V HX y b (V q);subst R;clear q HX;go_upto_region 17 with fail;refine wp_region_list ?_;refine wpList_load_mid (by rfl) 272 (.tmp 7) (by rfl) m 0 (by rfl) (y.map (Value.int .u16)) _ hz.box underlying272 (by rfl) (x6D b) ?_;have aD:Z.length=y.length:=by omega
     have L:wr.there u 0 (y.map (Value.int .u16)).toArray.size:=by
      have:=D.there;rw[aD]at this;exact W2O
     refine wpList_store_mid (by rfl) 272 (.tmp 6) (.tmp 54) (by rfl) u 0 (y.map (Value.int .u16)).toArray (by rfl) (by rfl) L s7S (x8G y) ?_;have U:wr.there u 0 (y.map (Value.int .u16)).length:=(by simpa using L);have S:=World.rangeAt_setCells_same wr u 0 (y.map (Value.int .u16)) U;have r:Bw w (wr.setCells u 0 (y.map (Value.int .u16))):=x0E ay _ _ _ A;have N:=run_loadVar_mid (P:=prog) _ u 0 272 (y.map (Value.int .u16)) _ S underlying272 (by rfl) (x6D b);clear hz D L U S;generalize wr.setCells u 0 (y.map (Value.int .u16))=wf at *;exact T9V
end Go.Proofs.YtbmckadcjdedcaaGreatDoor.Ti
namespace Go.Proofs.YtbmckadcjdedcaaGreatDoor.Ti
open Go.Proofs.Tryz
open Go.RowKit
section
variable {P:Program} {ops:Array Oper} {o:Oper} {a:Act} {w w':World} {K:Act->World->Prop} {Q:Exit->Act->World->Prop} {E:Prop}
theorem x1Z(T:o.guard=none) ty(x:Operand)(y:o.op=.load ty x) pv v(J:a.eval x=pv)(H:(Instr.loadAt ty pv).run P w=.ok v w)(h:K (a.put o.dst v) w) :
  if Region.wanted o (yielded ops a.tmps)=true then Oper.wp P o a w K Q else E:=by
 rw[if_pos I8A];unfold Oper.wp execOp;simp only[y,J,Sem.run_bind,H,Result.andThen_ok];exact h
theorem x5i(T:o.guard=none) ty(x y:Operand)(A:o.op=.store ty x y) pv v(J:a.eval x=pv)(hy:a.eval y=v)(H:(Instr.storeAt ty pv v).run P w=.ok () w')(h:K (a.put o.dst undef) w') :
  if Region.wanted o (yielded ops a.tmps)=true then Oper.wp P o a w K Q else E:=by
 rw[if_pos I8A];unfold Oper.wp execOp;simp only[A,J,hy,Sem.run_bind,H,Result.andThen_ok];exact h
theorem x2u(T:o.guard=none) t(x:Operand)(y:o.op=.buildSlice t 1 #[(0,x)]) u v(J:a.eval x=u)(H:(Instr.buildSlice t 1 #[(0,u)]).run P w=.ok v w')(h:K (a.put o.dst v) w') :
  if Region.wanted o (yielded ops a.tmps)=true then Oper.wp P o a w K Q else E:=by
 rw[if_pos I8A];unfold Oper.wp execOp;have e:(#[((0:Nat),x)].map fun(i,x)=>(i,a.eval x))=#[(0,u)]:=G8c;simp only[y,e,Sem.run_bind,H,Result.andThen_ok];exact h
end
end Go.Proofs.YtbmckadcjdedcaaGreatDoor.Ti
namespace Go.Proofs.YtbmckadcjdedcaaGreatDoor.Ti
open Go.Proofs.Tryz
open Go.RowKit
def okv(n:Int):Bool:=decide (0<=n/\n<=65535)
theorem okv_lo{n}(h:n<0):okv n=false:=by unfold okv;rw[d0f];exact f6J
theorem okv_hi{n}(h:65535<n):okv n=false:=by unfold okv;rw[d0f];exact f6J
theorem z3Z{n}(h:¬n<0)(D:¬65535<n):okv n=true:=by unfold okv;rw[d0t];exact f6J
theorem y3R n w(C:Fi n):Calls prog 278 #[.int .i64 n] w fun e w'=>e=.returned (.bool (okv n))/\w'=w:=by
 obtain⟨Z,D⟩:=C;by_cases L:n<0
 ·rw[okv_lo L];exact m0W
 ·by_cases B:65535<n
  ·rw[okv_hi B];have t:¬n<=65535:=f6J;exact m0W
  ·rw[z3Z L B];have t:n<=65535:=f6J;exact m0W
theorem z8d l h x b w(S:Fi l)(N:Fi h)(J:Fi x)(Y:Fi b):Calls prog 277 #[.agg #[.int .i64 l,.int .i64 h,.int .i64 x],.int .i64 b] w (z4v w (Tri.bad (some b) (l,h,x))):=by
 have B:=O (fun w'=>y3R x w' J);obtain⟨i,X⟩:=S;obtain⟨Z,D⟩:=N;obtain⟨u,R⟩:=J;obtain⟨b1,m⟩:=Y;have c:Bw w (w.alloc (.cells #[.int .i64 l,.int .i64 h,.int .i64 x] 259)):=(b0r).alloc (l0r _) _;by_cases L:l<0
 ·rw[x6l (r:=(l,h,x)) (.inl L)];exact F7u
 ·by_cases I:1114111<h
  ·rw[x6l (r:=(l,h,x)) (.inr (.inl I))];exact F7u
  ·by_cases t:h<l
   ·rw[x6l (r:=(l,h,x)) (.inr (.inr t))];exact F7u
   ·have C:¬(Tri.lo (l,h,x)<0\/1114111<Tri.hi (l,h,x)\/Tri.hi (l,h,x)<Tri.lo (l,h,x)):=(by simp only[Tri.x6I,Tri.x8Y];exact f6J);by_cases M:x<0\/65535<x
    ·rw[y6X C M];have G:okv x=false:=(by rcases M with h|h;exact okv_lo h;exact okv_hi h);rw[G]at B;exact w2f
    ·have G:okv x=true:=z3Z f6J f6J;rw[G]at B;by_cases F:l<=b
     ·rw[y6W C M F];exact w2f
     ·rw[z1k C M F];exact w2f
def prz(rs:List Tri.Rg):Nat->Int
 | 0=>-1
 | k+1=>Tri.hi (rs.getD k (0,0,0))
theorem z4G(rs:List Tri.Rg) k(r:Tri.Rg):Tri.bad (some (prz rs k)) r=Tri.bad (prv rs k) r:=by
 cases k with
 | zero =>
  unfold Tri.bad prz prv;split
  ·rfl
  ·grind
 | succ k=>rfl
theorem y2j v(rs:List Tri.Rg) d w(N:Sr w v rs)(hd:Fi d) :
  Calls prog 238 #[v,.int .i64 d] w (x2A w (Tri.check d rs)):=by
 have S:=N.len;have HV:=O (fun w'=>y3R d w' hd);obtain⟨F,n⟩:=hd
 have af:Hid (∀r,r=Tri.x1B d rs.length (prv rs rs.length) (rs.drop rs.length)->∀wr,Bw w wr->(okv d=false->x2A w r (.returned (.tuple #[.int .i64 (rs.length:Int),.int .i64 42])) wr)/\(okv d=true->x2A w r (.returned (.tuple #[.int .i64 0,.int .i64 0])) wr)):=by
  intro r u wr Y;rw[List.drop_length]at u;simp only[Tri.x1B]at u;refine⟨fun h=>x2A.mk (by rw[u,if_pos (by unfold okv at h;have:=of_decide_eq_false h;exact f6J)]) Y,fun h=>x2A.mk (by rw[u,if_neg (by unfold okv at h;have:=o0d h;exact f6J)]) Y⟩
 have W:Hid (Tri.x1B d 0 (prv rs 0) (rs.drop 0)=Tri.check d rs):=R6P;have ab:=O N.1;have s:=O N;obtain⟨R,M,rfl,ar,aw⟩:=N.shape;generalize Tri.check d rs=B at *;go_enter func238,ntmps238;go_wp2;go_loopw[6,12] (fun b i wr=>∃k:Nat,i=.int .i64 k/\b=.int .i64 (prz rs k)/\k<=rs.length/\Bw w wr/\B=Tri.x1B d k (prv rs k) (rs.drop k)) (fun _ i _=>rs.length-(intOf i).toNat)
 case atStart=>exact⟨0,rfl,rfl,f6J,b0r,(V W).symm⟩
 case round =>
  obtain⟨k,rfl,rfl,hk,A,D⟩:=hrel;by_cases H:k<rs.length
  ·obtain⟨bx,G,aq,ai,_,_,t⟩:=(V s).place f6J;simp only[Value.slice.injEq]at ai;obtain⟨rfl,_,rfl⟩:=ai;obtain⟨c0,j,c2⟩:=t k H;rw[<- A.cell (x0a c0)]at c0;rw[<- A.cell (x0a j)]at j;rw[<- A.cell (x0a c2)]at c2;have u:=(V ab).at k
   have C:Fi (prz rs k):=by
    cases k with
    | zero=>simp[prz,Fi]
    | succ k=>exact((V ab).at k).2.1
   have T:=O (fun w'=>z8d (Tri.lo (rs.getD k (0,0,0))) (Tri.hi (rs.getD k (0,0,0))) (Tri.vl (rs.getD k (0,0,0))) (prz rs k) w' u.1 u.2.1 u.2.2 C);have am:(Tri.lo (rs.getD k (0,0,0)),Tri.hi (rs.getD k (0,0,0)),Tri.vl (rs.getD k (0,0,0)))=rs.getD k (0,0,0):=rfl;have U:prz rs (k+1)=Tri.hi (rs.getD k (0,0,0)):=rfl;rw[y4T H,<- z4G]at D;rw[am]at T;have c:=O D;have f:=O U;obtain⟨p1,p2⟩:=C;obtain⟨⟨y,z⟩,⟨f3,X⟩,p,f6⟩:=u
   have HK:Hid (∀x,x=Tri.bad (some (prz rs k)) (rs.getD k (0,0,0))->x=0\/x=40\/x=41\/x=42):=by
    intro x J;subst J;unfold Tri.bad;split
    ·simp
    ·grind
   generalize Tri.bad (some (prz rs k)) (rs.getD k (0,0,0))=q,Tri.lo (rs.getD k (0,0,0))=l,Tri.hi (rs.getD k (0,0,0))=h,Tri.vl (rs.getD k (0,0,0))=x at *;have ag:=A.size;have g:Bw w (wr.alloc (.cells #[.int .i64 l,.int .i64 h,.int .i64 x] 259)):=A.alloc ag _;have Z:(wr.alloc (.cells #[.int .i64 l,.int .i64 h,.int .i64 x] 259)).cell? ⟨wr.heap.size,1,none⟩=some (.int .i64 h):=M7L;go_wp2_with fail;refine c1m (V T _) fun w1 ae=>?_;have I:Bw w w1:=g.trans (ae.mono g.size);rw[<- ae.cell (x0a Z)]at Z;by_cases m:q=0
   ·subst m;have aj:=O ((V c).trans (if_pos rfl));go_wp2
    go_roundw
    case rel=>exact⟨k+1,g2B,by rw[V f],f6J,I,V aj⟩
    case measure=>exact g7U
   ·have HR:x2A w B (.returned (.tuple #[.int .i64 (k:Int),.int .i64 q])) w1:=x2A.mk ((V c).trans (if_neg m)) I;have ay:(q != 0)=true:=(by simp[m]);go_wp2;go_ret2;exact HR
  ·obtain rfl:k=rs.length:=f6J;have L:=V af _ D _ A
   cases ho:okv d with
   | false =>
    rw[ho]at HV L;have T:=L.1 rfl;exact w8q
   | true =>
    rw[ho]at HV L;have T:=L.2 rfl;exact w8q
end Go.Proofs.YtbmckadcjdedcaaGreatDoor.Ti
