/- TiTrD4 TiTrV4 TiTrS4 TiTrC4 -/
import Derived.Test.YtbmckadcjdedcaaGreatDoorD14
import Derived.Deep.AppendLies
import Derived.Deep.DrawnRows
import Derived.Deep.OwnRows
import Derived.Deep.RegionHeld3
import Derived.Great.BuildSlice
set_option maxHeartbeats 4000000
set_option maxRecDepth 50000
namespace Go.Proofs.YtbmckadcjdedcaaGreatDoor
section
variable{p:Prop}
theorem R6q(h:p:=by rw[cell_of_row _ _ _ _ _ _ hr];rfl):p:=h
theorem P4U(h:p:=by
 clear hz D x M b Y c1 z;obtain⟨c,L,rfl,aK,aL,aT,b,hz,D,x,A,S⟩:=hrel;obtain⟨Y,c1,z⟩:=x.cells;by_cases X:c<=hi/\c<B+64
 ·obtain⟨q1,q2⟩:=X;obtain⟨i,aU⟩:∃i:Nat,c-B=(i:Int):=⟨(c-B).toNat,f6J⟩;have aN:i<64:=f6J;have y:=hz.cell (i:=i) f6J;have aV:=hz.frozen i;have f:=hz.set i U;have G:=D.other (a:=⟨g7,i,none⟩) aC (.int .u16 U);have N:=x.other (a:=⟨g7,i,none⟩) aI (.int .u16 U);have F:=A.setCell (p:=⟨g7,i,none⟩) C (.int .u16 U)
  have ab:Hid (∀j,j<64->(L.set i U).getD j 0=if lo<=B+(j:Nat)/\B+(j:Nat)<c+1/\B+(j:Nat)<=hi then U else Tri.get d (rs.take k) (B+(j:Nat))):=by
   intro j hj;rw[x6W L i j U f6J,S j hj];by_cases am:j=i
   ·rw[if_pos am,if_pos f6J]
   ·rw[if_neg am];by_cases J:lo<=B+(j:Nat)/\B+(j:Nat)<c/\B+(j:Nat)<=hi
    ·rw[if_pos J,if_pos f6J]
    ·rw[if_neg J,if_neg f6J]
  have n:(0:Int)<=(i:Int):=f6J;have r:(i:Int)<64:=f6J;generalize L.getD i 0=aR at *;clear S hz D x;by_cases g:B+64<hi+1
  ·exact U0i
  ·have aO:c<hi+1:=f6J;exact U0i
 ·have ab:Hid (∀j,j<64->L.getD j 0=Tri.get d (rs.take (k+1)) (B+(j:Nat))):=by
   intro j hj;rw[S j hj,(V aB)];by_cases J:lo<=B+(j:Nat)/\B+(j:Nat)<=hi
   ·rw[if_pos J,if_pos f6J]
   ·rw[if_neg J,if_neg f6J]
  clear S;by_cases g:B+64<hi+1
  ·have aj:¬(c<B+64):=f6J;exact E0E
  ·have aj:¬(c<hi+1):=f6J;exact E0E):p:=h
theorem N7M(h:p:=by go_enter func277,ntmps277;go_wp2_with fail;refine(V j _).mono ?_;rintro e I ⟨rfl,rfl⟩;go_wp2;go_ret;exact⟨rfl,X⟩):p:=h
theorem I3E(h:p:=by obtain⟨i,hi,D⟩:=Option.map_eq_some_iff.1 h;simp only[Prod.mk.injEq]at D;obtain⟨D,Z,R⟩:=D;obtain⟨z,o,k⟩:=Option.map_eq_some_iff.1 R;exact⟨i,z,hi,o,D,Z,k⟩):p:=h
theorem u7B(h:p:=by rw[List.length_append];exact f6J):p:=h
theorem v0A(h:p:=by simpa using I):p:=h
theorem s8n(h:p:=by go_enter func277,ntmps277;go_wp2;go_ret;exact⟨rfl,X⟩):p:=h
theorem m0W(h:p:=by go_enter func278,ntmps278;go_wp2;go_ret;exact g9T):p:=h
theorem n2M(h:p:=by rw[D];exact e8M):p:=h
theorem g2B(h:p:=by go_num):p:=h
theorem E0E(h:p:=by
 go_wp2
 go_roundw
 case rel=>first| exact⟨_,_,.int .i64 ((k+1:Nat):Int),⟨k+1,rfl,f6J,L,b,hz,G2U⟩,rfl,rfl,g2B⟩ | exact⟨k+1,L,g2B,f6J,b,hz,D,A,V ab⟩ | exact⟨k+1,g2B,f6J,L,b,hz,G2U⟩ | exact⟨k+1,g2B,f6J,L,b,hz,D,G2U⟩
 case measure=>exact g7U):p:=h
theorem T3W(h:p:=by rw[show(L.map (Value.int .u16)).toArray.size=64 by simp[b]];exact y8g):p:=h
theorem i9D(h:p:=by go_wp2_with fail;refine(V j _).mono ?_;rintro e w1 ⟨rfl,rfl⟩;go_wp2;go_ret2;exact T):p:=h
theorem U0i(h:p:=by
 go_wp2
 go_roundw
 case rel=>exact⟨c+1,L.set i U,g2B,f6J,f6J,f6J,by simp[b],f,G,N,F,V ab⟩
 case measure=>exact g7U):p:=h
theorem W3K(h:p:=by go_wp2;exact bodyPost_ret (v:=.agg (arrA L)) (x2C rfl _ _ _ q _ (by rfl) I) rfl ⟨rfl,aF⟩):p:=h
theorem G2U(h:p:=by simpa using V ab):p:=h
theorem N3J(h:p:=by simp[List.getD,H]):p:=h
theorem U3B(h:p:=by simpa using u):p:=h
end
end Go.Proofs.YtbmckadcjdedcaaGreatDoor
namespace Go.Proofs.YtbmckadcjdedcaaGreatDoor.Ti
open Go.Proofs.Tryz
open Go.RowKit
theorem Sz.cut{B len l h m:Nat}{w:World}{ao:Option Addr}{cap:Nat}{us:List Value}(X:Sz B w (.slice ao len cap) len us)(D:l<=h)(Z:h<=len)(R:h<=m)(H:m<=cap) :
  Sz B w (sliced ao l h m B) (h-l) ((us.drop (l*B)).take ((h-l)*B)):=by
 obtain⟨b1,L,G⟩:=X;have M:(h-l)*B+l*B=h*B:=(by rw[<- Nat.add_mul];congr 1;exact f6J);have f:h*B<=len*B:=Nat.mul_le_mul_right _ Z;refine⟨P8P,f6J,?_⟩;rcases G with⟨rfl,A,J,N,U,t⟩ | ⟨b,C,J,N,S,U,I⟩
 ·simp only[Value.slice.injEq]at N;obtain⟨rfl,_,rfl⟩:=N;refine .inl ⟨f6J,(if m=l then ao else ao.map (·.add (l*B))),m-l,?_,f6J,fun F=>?_⟩
  ·exact w4F
  ·split at F
   ·omega
   ·simp_all
 ·simp only[Value.slice.injEq]at N;obtain⟨rfl,_,rfl⟩:=N;by_cases q:h=l
  ·refine .inl ⟨f6J,(if m=l then some ⟨b,C,none⟩else(some ⟨b,C,none⟩:Option Addr).map (·.add (l*B))),m-l,?_,f6J,fun F=>?_⟩
   ·exact w4F
   ·split at F<;>simp at F
  ·refine .inr ⟨b,C+l*B,m-l,?_,f6J,f6J,fun i hi=>?_⟩
   ·have:¬m=l:=f6J;simp only[sliced,this,if_false,Option.map_some,addr_add]
   ·grind
theorem y2p(rs:List Tri.Rg)(k:Nat):(rcells rs).drop (k*3)=rcells (rs.drop k):=by
 induction k generalizing rs with
 | zero=>simp
 | succ k ih =>
  cases rs with
  | nil=>simp[rcells]
  | cons r rs =>
   have:(k+1)*3=3+k*3:=f6J;simp only[rcells,List.drop_succ_cons];rw[this,<- List.drop_drop,<- ih rs];rfl
theorem Sr.cut{w:World}{ao:Option Addr}{len cap l h m:Nat}{rs:List Tri.Rg}(X:Sr w (.slice ao len cap) rs)(S:len=rs.length)(D:l<=h)(Z:h<=len)(R:h<=m)(H:m<=cap) :
  Sr w (sliced ao l h m 3) ((rs.drop l).take (h-l)):=by
 subst S;have:=X.2.cut D Z R H;rw[y2p,y2q]at this;have e:((rs.drop l).take (h-l)).length=h-l:=P8P;refine⟨fun r u=>X.1 r (List.mem_of_mem_drop (List.mem_of_mem_take u)),?_⟩;rw[e];exact this
namespace Tri
theorem z1x{d c:Int}{rs:List Rg}(k:Nat)(h:∀j,j<k->j<rs.length->hi (rs.getD j (0,0,0))<c):get d (rs.drop k) c=get d rs c:=by
 induction k generalizing rs with
 | zero=>exact s4M
 | succ k ih =>
  cases rs with
  | nil=>rfl
  | cons r rs =>
   have T:=h 0 f6J M7L;simp only[List.getD_cons_zero]at T;rw[List.drop_succ_cons,x1t,if_neg f6J];refine ih fun j A S=>?_;have:=h (j+1) f6J t2Y;simpa using this
theorem z2L{b:Int}{rs:List Rg}(h:Val b rs)(k:Nat):Val b (rs.drop k):=by
 induction k generalizing rs b with
 | zero=>exact S4r
 | succ k ih =>
  cases rs with
  | nil=>trivial
  | cons r rs =>
   obtain⟨D,Z,R,H,p,F⟩:=h;rw[List.drop_succ_cons];exact(ih F).mono f6J
end Tri
def x9L(w0 w:World)(rs:List Tri.Rg)(lo:Int)(e:Ending)(w':World):Prop :=
 w'=w/\∃v' k,e=.returned v'/\Sr w0 v' (rs.drop k)/\k<=rs.length/\∀j,j<k->Tri.hi (rs.getD j (0,0,0))<lo
theorem y9u(v:Value)(rs:List Tri.Rg)(lo:Int)(U w:World)(r:Sr U v rs)(D:Bw U w)(c:Fi lo) :
  Calls prog 279 #[v,.int .i64 lo] w (x9L U w rs lo):=by
 obtain⟨l1,l2⟩:=c;have d:=r.len;have B:=O D;have i:Hid (∀u k,Sr U u (rs.drop k)->k<=rs.length->(∀j,j<k->Tri.hi (rs.getD j (0,0,0))<lo)->x9L U w rs lo (.returned u) w):=fun u k t Z R=>⟨rfl,u,k,rfl,t,Z,R⟩;go_enter func279,ntmps279;go_wp2;go_loop [0] (fun u=>∃k:Nat,Sr U u (rs.drop k)/\k<=rs.length/\∀j,j<k->Tri.hi (rs.getD j (0,0,0))<lo) (fun u=>match u with | .slice _ n _=>n | _=>0)
 case atStart=>exact⟨0,by simpa using r,f6J,fun j hj=>f6J⟩
 case round =>
  obtain⟨k,X,G,S⟩:=hrel;have g:=O (V i _ k X G S);have T:(rs.drop k).length=rs.length-k:=List.length_drop;rcases Nat.eq_zero_or_pos (rs.drop k).length with h0 | h0
  ·obtain⟨s,M,rfl,q,z⟩:=X.shape;rw[h0]at g q ⊢;go_wp2;go_ret;exact V g
  ·have I:=X.1.at 0;have L:=O X;obtain⟨b,ae,M,rfl,q,z,y⟩:=X.place h0;obtain⟨x,W,p⟩:=y 0 h0;rw[<- (V B).cell (x0a W)]at W;simp only[Nat.zero_mul,Nat.add_zero]at x W p;have hcut:=(V L).cut rfl (l:=1) (h:=(rs.drop k).length) (m:=M) f6J f6J f6J f6J
   have N:(((rs.drop k).drop 1).take ((rs.drop k).length-1))=rs.drop (k+1):=by
    rw[List.drop_drop,List.take_of_length_le P8P]
   have f:(rs.drop k).getD 0 (0,0,0)=rs.getD k (0,0,0):=(by grind);rw[N]at hcut;rw[f]at W I
   have C:Hid (Tri.hi (rs.getD k (0,0,0))<lo->∀j,j<k+1->Tri.hi (rs.getD j (0,0,0))<lo):=by
    intro J j hj;by_cases h:j=k
    ·subst h;exact J
    ·exact S j f6J
   obtain⟨_,⟨f1,f2⟩,_⟩:=I;have ab:1<=(rs.drop k).length:=h0;have H:k<rs.length:=f6J;have Y:=O hcut;clear X L y S hcut x p N f T;generalize Tri.hi (rs.getD k (0,0,0))=h,(rs.drop k).length=n at *;by_cases a:h<lo
   ·have A:=O (V C a);go_wp2;go_round
    case rel=>exact⟨k+1,V Y,f6J,V A⟩
    case measure=>exact f4S
   ·clear C i;go_wp2;go_ret;exact V g
end Go.Proofs.YtbmckadcjdedcaaGreatDoor.Ti
namespace Go.Proofs.YtbmckadcjdedcaaGreatDoor.Ti
open Go.Proofs.Tryz
open Go.RowKit
def Bk(w:World)(g:Nat)(zs:List Int):Prop:=w.heap[g]?=some (.cells (arrA zs) 272 (0,0))
theorem Bk.lt{w:World}{g:Nat}{zs:List Int}(h:Bk w g zs):g<w.heap.size:=(Array.getElem?_eq_some_iff.1 h).1
theorem Bk.cell{w:World}{g:Nat}{zs:List Int}(h:Bk w g zs){i:Nat}(hi:i<zs.length):w.cell? ⟨g,i,none⟩=some (.int .u16 (zs.getD i 0)):=by
 unfold Bk at h;exact E2f
theorem Bk.frozen{w:World}{g:Nat}{zs:List Int}(h:Bk w g zs)(i:Nat):w.frozen? ⟨g,i,none⟩=false:=by
 unfold Bk at h;simp[World.frozen?,h]
theorem Bk.set{w:World}{g:Nat}{zs:List Int}(h:Bk w g zs)(i:Nat)(v:Int):Bk (w.setCell ⟨g,i,none⟩ (.int .u16 v)) g (zs.set i v):=by
 unfold Bk at h ⊢;exact N9T
theorem Bk.other{w:World}{g:Nat}{zs:List Int}(h:Bk w g zs){a:Addr}(F:g≠a.block)(v:Value):Bk (w.setCell a v) g zs:=by
 unfold Bk at h ⊢;exact r7O
theorem Bk.box{w:World}{g:Nat}{zs:List Int}(h:Bk w g zs):Box w g zs:=fun j v N=>by
 have A:j<zs.length:=(by grind);rw[Nat.zero_add,h.cell A];rw[List.getElem?_map,List.getElem?_eq_getElem A]at N;simp only[Option.map_some,Option.some.injEq]at N;rw[<- N];simp[List.getD,A]
theorem Bk.new(w:World)(zs:List Int)(C:Array Value)(N:C=arrA zs):Bk (w.alloc (.cells C 272)) w.heap.size zs:=e4q
theorem Bk.alloc{w:World}{g:Nat}{zs:List Int}(h:Bk w g zs)(o:Obj):Bk (w.alloc o) g zs:=by
 have S:=h.lt;unfold Bk at h ⊢;rw[Below.heap_alloc w o g S];exact h
theorem Bk.there{w:World}{g:Nat}{zs:List Int}(h:Bk w g zs):w.there g 0 zs.length:=fun j A=>by
 rw[Nat.zero_add];exact⟨by rw[h.cell A];rfl,h.frozen j⟩
theorem y8g:(prog.info? 272).map (·.size)=some 64:=f4x
def Rb(w:World)(g:Nat)(l h x:Int):Prop:=w.heap[g]?=some (.cells #[.int .i64 l,.int .i64 h,.int .i64 x] 259 (0,0))
theorem Rb.cells{w:World}{g:Nat}{l h x:Int}(hr:Rb w g l h x):w.cell? ⟨g,0,none⟩=some (.int .i64 l)/\w.cell? ⟨g,1,none⟩=some (.int .i64 h)/\w.cell? ⟨g,2,none⟩=some (.int .i64 x) :=
 ⟨R6q,R6q,R6q⟩
theorem Rb.other{w:World}{g:Nat}{l h x:Int}(hr:Rb w g l h x){a:Addr}(F:g≠a.block)(v:Value):Rb (w.setCell a v) g l h x:=by
 unfold Rb at hr ⊢;rw[heap_setCell_other w a g v F];exact hr
namespace Tri
theorem y7V{b d c:Int}{rs:List Rg}(N:Val b rs)(k:Nat)(G:k<rs.length)(I:c<lo (rs.getD k (0,0,0))):get d rs c=get d (rs.take k) c:=by
 induction rs generalizing b k with
 | nil=>simp at G
 | cons r rs ih =>
  obtain⟨D,Z,R,H,p,F⟩:=N
  cases k with
  | zero =>
   simp only[List.getD_cons_zero]at I;have x:Val (lo r) (r::rs):=⟨Int.le_refl _,Z,R,H,p,F⟩;rw[x6u x I];rfl
  | succ k =>
   simp only[List.take_succ_cons,x1t];rw[ih F k E9n (by simpa using I)]
end Tri
theorem z0Q(f:Int->Int)(p:Nat)(B:Int)(T:B=(p:Int)*64)(zs:List Int)(S:zs.length=64)(h:∀j:Nat,j<64->zs.getD j 0=f (B+(j:Int))):zs=Tri.blk f p :=
 z4e f p zs S fun j A=>by rw[h j A,(f6J:B+(j:Int)=((64*p+j:Nat):Int))]
theorem z6o(v:Value)(rs:List Tri.Rg)(d:Int)(p:Nat)(w:World)(hv:Sr w v rs)(t:Tri.Val 0 rs)(hd:0<=d/\d<=65535)(hp:p<17408) :
  Calls prog 280 #[v,.int .i64 ((p:Int)*64),.int .i64 d] w (y6e w (Tri.blk (Tri.get d rs) p)):=by
 obtain⟨bh,bj⟩:=hd;obtain⟨B,aq⟩:∃l:Int,l=(p:Int)*64:=⟨_,rfl⟩;have HX:=O (z0Q (Tri.get d rs) p B aq);have z1:0<=B:=f6J;have z2:B<=1114048:=f6J;rw[<- aq];clear aq;have HV:=O t;have aW:=O hv;have aX:=hv.len;obtain⟨ao,aZ,rfl,aK,aL⟩:=hv.shape;have aJ:Hid (∀c,Tri.get d (rs.take 0) c=d):=fun c=>rfl;have az:Hid (∀c,Tri.get d (rs.take rs.length) c=Tri.get d rs c):=fun c=>(by rw[List.take_length]);have aA:Hid (∀(k:Nat),k<rs.length->∀c,c<Tri.lo (rs.getD k (0,0,0))->Tri.get d rs c=Tri.get d (rs.take k) c):=fun k hk c hc=>Tri.y7V t k hk hc;clear hv t;generalize Tri.blk (Tri.get d rs) p=bn at *;go_enter func280,ntmps280;go_wp2;have hA:Bw w ((w.alloc (.cells #[.int .u16 0,.int .u16 0,.int .u16 0,.int .u16 0,.int .u16 0,.int .u16 0,.int .u16 0,.int .u16 0,.int .u16 0,.int .u16 0,.int .u16 0,.int .u16 0,.int .u16 0,.int .u16 0,.int .u16 0,.int .u16 0,.int .u16 0,.int .u16 0,.int .u16 0,.int .u16 0,.int .u16 0,.int .u16 0,.int .u16 0,.int .u16 0,.int .u16 0,.int .u16 0,.int .u16 0,.int .u16 0,.int .u16 0,.int .u16 0,.int .u16 0,.int .u16 0,.int .u16 0,.int .u16 0,.int .u16 0,.int .u16 0,.int .u16 0,.int .u16 0,.int .u16 0,.int .u16 0,.int .u16 0,.int .u16 0,.int .u16 0,.int .u16 0,.int .u16 0,.int .u16 0,.int .u16 0,.int .u16 0,.int .u16 0,.int .u16 0,.int .u16 0,.int .u16 0,.int .u16 0,.int .u16 0,.int .u16 0,.int .u16 0,.int .u16 0,.int .u16 0,.int .u16 0,.int .u16 0,.int .u16 0,.int .u16 0,.int .u16 0,.int .u16 0] 272)).alloc (.cells #[.int .u16 0,.int .u16 0,.int .u16 0,.int .u16 0,.int .u16 0,.int .u16 0,.int .u16 0,.int .u16 0,.int .u16 0,.int .u16 0,.int .u16 0,.int .u16 0,.int .u16 0,.int .u16 0,.int .u16 0,.int .u16 0,.int .u16 0,.int .u16 0,.int .u16 0,.int .u16 0,.int .u16 0,.int .u16 0,.int .u16 0,.int .u16 0,.int .u16 0,.int .u16 0,.int .u16 0,.int .u16 0,.int .u16 0,.int .u16 0,.int .u16 0,.int .u16 0,.int .u16 0,.int .u16 0,.int .u16 0,.int .u16 0,.int .u16 0,.int .u16 0,.int .u16 0,.int .u16 0,.int .u16 0,.int .u16 0,.int .u16 0,.int .u16 0,.int .u16 0,.int .u16 0,.int .u16 0,.int .u16 0,.int .u16 0,.int .u16 0,.int .u16 0,.int .u16 0,.int .u16 0,.int .u16 0,.int .u16 0,.int .u16 0,.int .u16 0,.int .u16 0,.int .u16 0,.int .u16 0,.int .u16 0,.int .u16 0,.int .u16 0,.int .u16 0] 272)):=((Below.refl _ w).alloc (l0r _) _).alloc M7N _;have ar:Bk ((w.alloc (.cells #[.int .u16 0,.int .u16 0,.int .u16 0,.int .u16 0,.int .u16 0,.int .u16 0,.int .u16 0,.int .u16 0,.int .u16 0,.int .u16 0,.int .u16 0,.int .u16 0,.int .u16 0,.int .u16 0,.int .u16 0,.int .u16 0,.int .u16 0,.int .u16 0,.int .u16 0,.int .u16 0,.int .u16 0,.int .u16 0,.int .u16 0,.int .u16 0,.int .u16 0,.int .u16 0,.int .u16 0,.int .u16 0,.int .u16 0,.int .u16 0,.int .u16 0,.int .u16 0,.int .u16 0,.int .u16 0,.int .u16 0,.int .u16 0,.int .u16 0,.int .u16 0,.int .u16 0,.int .u16 0,.int .u16 0,.int .u16 0,.int .u16 0,.int .u16 0,.int .u16 0,.int .u16 0,.int .u16 0,.int .u16 0,.int .u16 0,.int .u16 0,.int .u16 0,.int .u16 0,.int .u16 0,.int .u16 0,.int .u16 0,.int .u16 0,.int .u16 0,.int .u16 0,.int .u16 0,.int .u16 0,.int .u16 0,.int .u16 0,.int .u16 0,.int .u16 0] 272)).alloc (.cells #[.int .u16 0,.int .u16 0,.int .u16 0,.int .u16 0,.int .u16 0,.int .u16 0,.int .u16 0,.int .u16 0,.int .u16 0,.int .u16 0,.int .u16 0,.int .u16 0,.int .u16 0,.int .u16 0,.int .u16 0,.int .u16 0,.int .u16 0,.int .u16 0,.int .u16 0,.int .u16 0,.int .u16 0,.int .u16 0,.int .u16 0,.int .u16 0,.int .u16 0,.int .u16 0,.int .u16 0,.int .u16 0,.int .u16 0,.int .u16 0,.int .u16 0,.int .u16 0,.int .u16 0,.int .u16 0,.int .u16 0,.int .u16 0,.int .u16 0,.int .u16 0,.int .u16 0,.int .u16 0,.int .u16 0,.int .u16 0,.int .u16 0,.int .u16 0,.int .u16 0,.int .u16 0,.int .u16 0,.int .u16 0,.int .u16 0,.int .u16 0,.int .u16 0,.int .u16 0,.int .u16 0,.int .u16 0,.int .u16 0,.int .u16 0,.int .u16 0,.int .u16 0,.int .u16 0,.int .u16 0,.int .u16 0,.int .u16 0,.int .u16 0,.int .u16 0] 272)) w.heap.size Zs:=(Bk.new w Zs _ rfl).alloc _
 have aw:Bk ((w.alloc (.cells #[.int .u16 0,.int .u16 0,.int .u16 0,.int .u16 0,.int .u16 0,.int .u16 0,.int .u16 0,.int .u16 0,.int .u16 0,.int .u16 0,.int .u16 0,.int .u16 0,.int .u16 0,.int .u16 0,.int .u16 0,.int .u16 0,.int .u16 0,.int .u16 0,.int .u16 0,.int .u16 0,.int .u16 0,.int .u16 0,.int .u16 0,.int .u16 0,.int .u16 0,.int .u16 0,.int .u16 0,.int .u16 0,.int .u16 0,.int .u16 0,.int .u16 0,.int .u16 0,.int .u16 0,.int .u16 0,.int .u16 0,.int .u16 0,.int .u16 0,.int .u16 0,.int .u16 0,.int .u16 0,.int .u16 0,.int .u16 0,.int .u16 0,.int .u16 0,.int .u16 0,.int .u16 0,.int .u16 0,.int .u16 0,.int .u16 0,.int .u16 0,.int .u16 0,.int .u16 0,.int .u16 0,.int .u16 0,.int .u16 0,.int .u16 0,.int .u16 0,.int .u16 0,.int .u16 0,.int .u16 0,.int .u16 0,.int .u16 0,.int .u16 0,.int .u16 0] 272)).alloc (.cells #[.int .u16 0,.int .u16 0,.int .u16 0,.int .u16 0,.int .u16 0,.int .u16 0,.int .u16 0,.int .u16 0,.int .u16 0,.int .u16 0,.int .u16 0,.int .u16 0,.int .u16 0,.int .u16 0,.int .u16 0,.int .u16 0,.int .u16 0,.int .u16 0,.int .u16 0,.int .u16 0,.int .u16 0,.int .u16 0,.int .u16 0,.int .u16 0,.int .u16 0,.int .u16 0,.int .u16 0,.int .u16 0,.int .u16 0,.int .u16 0,.int .u16 0,.int .u16 0,.int .u16 0,.int .u16 0,.int .u16 0,.int .u16 0,.int .u16 0,.int .u16 0,.int .u16 0,.int .u16 0,.int .u16 0,.int .u16 0,.int .u16 0,.int .u16 0,.int .u16 0,.int .u16 0,.int .u16 0,.int .u16 0,.int .u16 0,.int .u16 0,.int .u16 0,.int .u16 0,.int .u16 0,.int .u16 0,.int .u16 0,.int .u16 0,.int .u16 0,.int .u16 0,.int .u16 0,.int .u16 0,.int .u16 0,.int .u16 0,.int .u16 0,.int .u16 0] 272)) (w.heap.size+1) Zs:=by
  have:=Bk.new (w.alloc (.cells #[.int .u16 0,.int .u16 0,.int .u16 0,.int .u16 0,.int .u16 0,.int .u16 0,.int .u16 0,.int .u16 0,.int .u16 0,.int .u16 0,.int .u16 0,.int .u16 0,.int .u16 0,.int .u16 0,.int .u16 0,.int .u16 0,.int .u16 0,.int .u16 0,.int .u16 0,.int .u16 0,.int .u16 0,.int .u16 0,.int .u16 0,.int .u16 0,.int .u16 0,.int .u16 0,.int .u16 0,.int .u16 0,.int .u16 0,.int .u16 0,.int .u16 0,.int .u16 0,.int .u16 0,.int .u16 0,.int .u16 0,.int .u16 0,.int .u16 0,.int .u16 0,.int .u16 0,.int .u16 0,.int .u16 0,.int .u16 0,.int .u16 0,.int .u16 0,.int .u16 0,.int .u16 0,.int .u16 0,.int .u16 0,.int .u16 0,.int .u16 0,.int .u16 0,.int .u16 0,.int .u16 0,.int .u16 0,.int .u16 0,.int .u16 0,.int .u16 0,.int .u16 0,.int .u16 0,.int .u16 0,.int .u16 0,.int .u16 0,.int .u16 0,.int .u16 0] 272)) Zs _ rfl;rwa [(M7N:(w.alloc (.cells #[.int .u16 0,.int .u16 0,.int .u16 0,.int .u16 0,.int .u16 0,.int .u16 0,.int .u16 0,.int .u16 0,.int .u16 0,.int .u16 0,.int .u16 0,.int .u16 0,.int .u16 0,.int .u16 0,.int .u16 0,.int .u16 0,.int .u16 0,.int .u16 0,.int .u16 0,.int .u16 0,.int .u16 0,.int .u16 0,.int .u16 0,.int .u16 0,.int .u16 0,.int .u16 0,.int .u16 0,.int .u16 0,.int .u16 0,.int .u16 0,.int .u16 0,.int .u16 0,.int .u16 0,.int .u16 0,.int .u16 0,.int .u16 0,.int .u16 0,.int .u16 0,.int .u16 0,.int .u16 0,.int .u16 0,.int .u16 0,.int .u16 0,.int .u16 0,.int .u16 0,.int .u16 0,.int .u16 0,.int .u16 0,.int .u16 0,.int .u16 0,.int .u16 0,.int .u16 0,.int .u16 0,.int .u16 0,.int .u16 0,.int .u16 0,.int .u16 0,.int .u16 0,.int .u16 0,.int .u16 0,.int .u16 0,.int .u16 0,.int .u16 0,.int .u16 0] 272)).heap.size=w.heap.size+1)]at this
 generalize(w.alloc (.cells #[.int .u16 0,.int .u16 0,.int .u16 0,.int .u16 0,.int .u16 0,.int .u16 0,.int .u16 0,.int .u16 0,.int .u16 0,.int .u16 0,.int .u16 0,.int .u16 0,.int .u16 0,.int .u16 0,.int .u16 0,.int .u16 0,.int .u16 0,.int .u16 0,.int .u16 0,.int .u16 0,.int .u16 0,.int .u16 0,.int .u16 0,.int .u16 0,.int .u16 0,.int .u16 0,.int .u16 0,.int .u16 0,.int .u16 0,.int .u16 0,.int .u16 0,.int .u16 0,.int .u16 0,.int .u16 0,.int .u16 0,.int .u16 0,.int .u16 0,.int .u16 0,.int .u16 0,.int .u16 0,.int .u16 0,.int .u16 0,.int .u16 0,.int .u16 0,.int .u16 0,.int .u16 0,.int .u16 0,.int .u16 0,.int .u16 0,.int .u16 0,.int .u16 0,.int .u16 0,.int .u16 0,.int .u16 0,.int .u16 0,.int .u16 0,.int .u16 0,.int .u16 0,.int .u16 0,.int .u16 0,.int .u16 0,.int .u16 0,.int .u16 0,.int .u16 0] 272)).alloc (.cells #[.int .u16 0,.int .u16 0,.int .u16 0,.int .u16 0,.int .u16 0,.int .u16 0,.int .u16 0,.int .u16 0,.int .u16 0,.int .u16 0,.int .u16 0,.int .u16 0,.int .u16 0,.int .u16 0,.int .u16 0,.int .u16 0,.int .u16 0,.int .u16 0,.int .u16 0,.int .u16 0,.int .u16 0,.int .u16 0,.int .u16 0,.int .u16 0,.int .u16 0,.int .u16 0,.int .u16 0,.int .u16 0,.int .u16 0,.int .u16 0,.int .u16 0,.int .u16 0,.int .u16 0,.int .u16 0,.int .u16 0,.int .u16 0,.int .u16 0,.int .u16 0,.int .u16 0,.int .u16 0,.int .u16 0,.int .u16 0,.int .u16 0,.int .u16 0,.int .u16 0,.int .u16 0,.int .u16 0,.int .u16 0,.int .u16 0,.int .u16 0,.int .u16 0,.int .u16 0,.int .u16 0,.int .u16 0,.int .u16 0,.int .u16 0,.int .u16 0,.int .u16 0,.int .u16 0,.int .u16 0,.int .u16 0,.int .u16 0,.int .u16 0,.int .u16 0] 272)=wz at *;obtain⟨q,aG⟩:∃q,q=w.heap.size:=⟨_,rfl⟩;obtain⟨g7,aH⟩:∃g7,g7=w.heap.size+1:=⟨_,rfl⟩;rw[<- aG]at ar;rw[<- aH]at aw;have aC:q≠g7:=f6J;have ay:w.heap.size<=q:=f6J;have C:w.heap.size<=g7:=f6J;rw[<- aH,<- aG];clear aG aH;obtain⟨Z,hZ⟩:∃Z,Z=Zs:=⟨_,rfl⟩;rw[<- hZ]at ar aw;have aS:Z.length=64:=(by rw[hZ];exact z6L);clear hZ;go_loopw[13] (fun i wr=>∃(k:Nat) (L:List Int),i=.int .i64 k/\k<=64/\L.length=64/\Bk wr g7 L/\Bk wr q Z/\Bw w wr/\∀j,j<k->L.getD j 0=d) (fun i _=>64-(intOf i).toNat)
 case atStart=>exact⟨0,Z,rfl,f6J,aS,aw,ar,hA,fun j hj=>f6J⟩
 case round =>
  clear hA ar aw;obtain⟨k,L,rfl,hk,b,hz,D,A,S⟩:=hrel;by_cases H:k<64
  ·have hc:=hz.cell (i:=k) f6J;have hf:=hz.frozen k;have f:=hz.set k d;have G:=D.other (a:=⟨g7,k,none⟩) aC (.int .u16 d);have F:=A.setCell (p:=⟨g7,k,none⟩) C (.int .u16 d)
   have ab:Hid (∀j,j<k+1->(L.set k d).getD j 0=d):=by
    intro j hj;rw[x6W L k j d f6J];split
    ·rfl
    ·exact S j f6J
   have n:(0:Int)<=(k:Int):=f6J;have r:(k:Int)<64:=f6J;generalize L.getD k 0=aR at *;clear S hz D A;go_wp2
   go_roundw
   case rel=>exact⟨k+1,L.set k d,by go_num,f6J,by simp[b],f,G,F,V ab⟩
   case measure=>exact g7V
  ·obtain rfl:k=64:=f6J;have ag:Hid (∀j,j<64->L.getD j 0=Tri.get d (rs.take 0) (B+(j:Nat))):=fun j hj=>(by rw[S j hj,(V aJ)]);clear S aJ;go_wp2;go_loopw[11,12,25] (fun _ _ i wr=>∃(k:Nat) (L:List Int),i=.int .i64 k/\k<=rs.length/\L.length=64/\Bk wr g7 L/\Bk wr q Z/\Bw w wr/\∀j,j<64->L.getD j 0=Tri.get d (rs.take k) (B+(j:Nat))) (fun _ _ i _=>rs.length-(intOf i).toNat)
   case atStart=>exact⟨0,L,rfl,f6J,b,hz,D,A,V ag⟩
   case round =>
    clear hz D A ag b;obtain⟨k,L,rfl,hk,b,hz,D,A,S⟩:=hrel;by_cases H:k<rs.length
    ·have aM:=fun c=>Tri.z1y (d:=d) (c:=c) (V HV) k H;have af:=O (V aA k H);obtain⟨b1,b2,b3,b4,b5⟩:=z9f (V HV) (Int.le_refl _) k H;obtain⟨bx,aY,ba,aQ,_,_,y⟩:=(V aW).place f6J;simp only[Value.slice.injEq]at aQ;obtain⟨rfl,_,rfl⟩:=aQ;obtain⟨Y,c1,z⟩:=y k H;rw[<- A.cell (x0a Y)]at Y;rw[<- A.cell (x0a c1)]at c1;rw[<- A.cell (x0a z)]at z;have aB:=O aM;have m:=O S;clear y aM S;generalize Tri.lo (rs.getD k (0,0,0))=lo,Tri.hi (rs.getD k (0,0,0))=hi,Tri.vl (rs.getD k (0,0,0))=U at *;have aP:=A.size;have x:Rb (wr.alloc (.cells #[.int .i64 lo,.int .i64 hi,.int .i64 U] 259)) wr.heap.size lo hi U:=heap_alloc_last wr _;have hz:=hz.alloc (.cells #[.int .i64 lo,.int .i64 hi,.int .i64 U] 259);have D:=D.alloc (.cells #[.int .i64 lo,.int .i64 hi,.int .i64 U] 259);have M:Bw w (wr.alloc (.cells #[.int .i64 lo,.int .i64 hi,.int .i64 U] 259)):=A.alloc aP _;obtain⟨s,ai⟩:∃s,s=wr.heap.size:=⟨_,rfl⟩;have aI:s≠g7:=(by have h1:=‹Bk wr g7 L›.lt;exact f6J);by_cases be:B+64<=lo
     ·have ae:Hid (∀j,j<64->L.getD j 0=Tri.get d rs (B+(j:Nat))):=fun j hj=>(by rw[V m j hj,V af _ f6J]);clear m aB aA af ai aI;have R:=V HX L b (V ae);subst R;clear ae HX;go_upto_region 17 with fail;generalize wr.alloc (.cells #[.int .i64 lo,.int .i64 hi,.int .i64 U] 259)=wa at *;refine wp_region_list ?_;refine wpList_load_mid (by rfl) 272 (.tmp 7) (by rfl) g7 0 (by rfl) (L.map (Value.int .u16)) _ hz.box underlying272 (by rfl) (x6y b) ?_;have aD:Z.length=L.length:=by omega
      have u:wa.there q 0 (L.map (Value.int .u16)).toArray.size:=by
       have:=D.there;rw[aD]at this;exact W2O
      refine wpList_store_mid (by rfl) 272 (.tmp 6) (.tmp 54) (by rfl) q 0 (L.map (Value.int .u16)).toArray (by rfl) (by rfl) u T3W (x8z L) ?_;have W:wa.there q 0 (L.map (Value.int .u16)).length:=U3B;have T:=World.rangeAt_setCells_same wa q 0 (L.map (Value.int .u16)) W;have aF:Bw w (wa.setCells q 0 (L.map (Value.int .u16))):=x0E ay _ _ _ M;have I:=run_loadVar_mid (P:=prog) _ q 0 272 (L.map (Value.int .u16)) _ T underlying272 (by rfl) (x6y b);clear hz D u W T;generalize wa.setCells q 0 (L.map (Value.int .u16))=wf at *;exact W3K
     ·clear af az HX;by_cases bm:lo<B
      ·skip;go_wp2;generalize wr.alloc (.cells #[.int .i64 lo,.int .i64 hi,.int .i64 U] 259)=wa at *;rw[<- ai]at x ⊢;clear ai;go_loopw[12] (fun vc wr=>∃(c:Int) (L:List Int),vc=.int .i64 c/\lo<=c/\B<=c/\c<=1114112/\L.length=64/\Bk wr g7 L/\Bk wr q Z/\Rb wr s lo hi U/\Bw w wr/\∀j,j<64->L.getD j 0=if lo<=B+(j:Nat)/\B+(j:Nat)<c/\B+(j:Nat)<=hi then U else Tri.get d (rs.take k) (B+(j:Nat))) (fun vc _=>(1114112-intOf vc).toNat)
       case atStart=>exact⟨B,L,rfl,f6J,f6J,f6J,b,hz,D,x,M,fun j hj=>by rw[if_neg f6J];exact V m j hj⟩
       case round =>exact P4U
      ·skip;go_wp2;generalize wr.alloc (.cells #[.int .i64 lo,.int .i64 hi,.int .i64 U] 259)=wa at *;rw[<- ai]at x ⊢;clear ai;go_loopw[12] (fun vc wr=>∃(c:Int) (L:List Int),vc=.int .i64 c/\lo<=c/\B<=c/\c<=1114112/\L.length=64/\Bk wr g7 L/\Bk wr q Z/\Rb wr s lo hi U/\Bw w wr/\∀j,j<64->L.getD j 0=if lo<=B+(j:Nat)/\B+(j:Nat)<c/\B+(j:Nat)<=hi then U else Tri.get d (rs.take k) (B+(j:Nat))) (fun vc _=>(1114112-intOf vc).toNat)
       case atStart=>exact⟨lo,L,rfl,f6J,f6J,f6J,b,hz,D,x,M,fun j hj=>by rw[if_neg f6J];exact V m j hj⟩
       case round =>exact P4U
    ·obtain rfl:k=rs.length:=f6J;have ae:Hid (∀j,j<64->L.getD j 0=Tri.get d rs (B+(j:Nat))):=fun j hj=>(by rw[S j hj,(V az)]);clear S aA az;have R:=V HX L b (V ae);subst R;clear ae HX;go_upto_region 17 with fail;refine wp_region_list ?_;refine wpList_load_mid (by rfl) 272 (.tmp 7) (by rfl) g7 0 (by rfl) (L.map (Value.int .u16)) _ hz.box underlying272 (by rfl) (x6y b) ?_;have aD:Z.length=L.length:=by omega
     have u:wr.there q 0 (L.map (Value.int .u16)).toArray.size:=by
      have:=D.there;rw[aD]at this;exact W2O
     refine wpList_store_mid (by rfl) 272 (.tmp 6) (.tmp 54) (by rfl) q 0 (L.map (Value.int .u16)).toArray (by rfl) (by rfl) u T3W (x8z L) ?_;have W:wr.there q 0 (L.map (Value.int .u16)).length:=U3B;have T:=World.rangeAt_setCells_same wr q 0 (L.map (Value.int .u16)) W;have aF:Bw w (wr.setCells q 0 (L.map (Value.int .u16))):=x0E ay _ _ _ A;have I:=run_loadVar_mid (P:=prog) _ q 0 272 (L.map (Value.int .u16)) _ T underlying272 (by rfl) (x6y b);clear hz D u W T;generalize wr.setCells q 0 (L.map (Value.int .u16))=wf at *;exact W3K
end Go.Proofs.YtbmckadcjdedcaaGreatDoor.Ti
namespace Go.Proofs.YtbmckadcjdedcaaGreatDoor.Ti
open Go.Proofs.Tryz
open Go.RowKit
section
variable {P:Program} {ops:Array Oper} {o:Oper} {a:Act} {w w':World} {K:Act->World->Prop} {Q:Exit->Act->World->Prop} {E:Prop}
theorem x1W(C:o.guard=none)(N:TypeId)(x:Operand)(y:o.op=.load N x)(A v:Value)(J:a.eval x=A)(H:(Instr.loadAt N A).run P w=.ok v w)(h:K (a.put o.dst v) w) :
  if Region.wanted o (yielded ops a.tmps)=true then Oper.wp P o a w K Q else E:=by
 rw[if_pos f7d];unfold Oper.wp execOp;simp only[y,J,Sem.run_bind,H,Result.andThen_ok];exact h
theorem x5c(C:o.guard=none)(N:TypeId)(x y:Operand)(B:o.op=.store N x y)(A v:Value)(J:a.eval x=A)(hy:a.eval y=v)(H:(Instr.storeAt N A v).run P w=.ok () w')(h:K (a.put o.dst undef) w') :
  if Region.wanted o (yielded ops a.tmps)=true then Oper.wp P o a w K Q else E:=by
 rw[if_pos f7d];unfold Oper.wp execOp;simp only[B,J,hy,Sem.run_bind,H,Result.andThen_ok];exact h
theorem x2n(C:o.guard=none)(t:TypeId)(x:Operand)(y:o.op=.buildSlice t 1 #[(0,x)])(u v:Value)(J:a.eval x=u)(H:(Instr.buildSlice t 1 #[(0,u)]).run P w=.ok v w')(h:K (a.put o.dst v) w') :
  if Region.wanted o (yielded ops a.tmps)=true then Oper.wp P o a w K Q else E:=by
 rw[if_pos f7d];unfold Oper.wp execOp;have e:(#[((0:Nat),x)].map fun(i,x)=>(i,a.eval x))=#[(0,u)]:=(by simp[J]);simp only[y,e,Sem.run_bind,H,Result.andThen_ok];exact h
end
end Go.Proofs.YtbmckadcjdedcaaGreatDoor.Ti
namespace Go.Proofs.YtbmckadcjdedcaaGreatDoor.Ti
open Go.Proofs.Tryz
open Go.RowKit
def okv(n:Int):Bool:=decide (0<=n/\n<=65535)
theorem okv_lo{n:Int}(h:n<0):okv n=false:=by unfold okv;rw[d0f];exact f6J
theorem okv_hi{n:Int}(h:65535<n):okv n=false:=by unfold okv;rw[d0f];exact f6J
theorem z3s{n:Int}(h:¬n<0)(Z:¬65535<n):okv n=true:=by unfold okv;rw[d0t];exact f6J
theorem y3s(n:Int)(w:World)(C:Fi n):Calls prog 278 #[.int .i64 n] w fun e w'=>e=.returned (.bool (okv n))/\w'=w:=by
 obtain⟨D,Z⟩:=C;by_cases A:n<0
 ·rw[okv_lo A];exact m0W
 ·by_cases J:65535<n
  ·rw[okv_hi J];have d:¬n<=65535:=f6J;exact m0W
  ·rw[z3s A J];have d:n<=65535:=f6J;exact m0W
theorem z7t(l h x b:Int)(w:World)(S:Fi l)(t:Fi h)(J:Fi x)(C:Fi b):Calls prog 277 #[.agg #[.int .i64 l,.int .i64 h,.int .i64 x],.int .i64 b] w (z3M w (Tri.bad (some b) (l,h,x))):=by
 have j:=O (fun w'=>y3s x w' J);obtain⟨v,n⟩:=S;obtain⟨D,Z⟩:=t;obtain⟨u,p⟩:=J;obtain⟨b1,m⟩:=C;have X:Bw w (w.alloc (.cells #[.int .i64 l,.int .i64 h,.int .i64 x] 259)):=(b0r).alloc (l0r _) _;by_cases A:l<0
 ·rw[x6g (r:=(l,h,x)) (.inl A)];exact s8n
 ·by_cases L:1114111<h
  ·rw[x6g (r:=(l,h,x)) (.inr (.inl L))];exact s8n
  ·by_cases d:h<l
   ·rw[x6g (r:=(l,h,x)) (.inr (.inr d))];exact s8n
   ·have F:¬(Tri.lo (l,h,x)<0\/1114111<Tri.hi (l,h,x)\/Tri.hi (l,h,x)<Tri.lo (l,h,x)):=(by simp only[Tri.x6D,Tri.x8R];exact f6J);by_cases M:x<0\/65535<x
    ·rw[y6v F M];have G:okv x=false:=(by rcases M with h | h;exact okv_lo h;exact okv_hi h);rw[G]at j;exact N7M
    ·have G:okv x=true:=z3s f6J f6J;rw[G]at j;by_cases H:l<=b
     ·rw[y6u F M H];exact N7M
     ·rw[z0J F M H];exact N7M
def prz(rs:List Tri.Rg):Nat->Int
 | 0=>-1
 | k+1=>Tri.hi (rs.getD k (0,0,0))
theorem z3X(rs:List Tri.Rg)(k:Nat)(r:Tri.Rg):Tri.bad (some (prz rs k)) r=Tri.bad (prv rs k) r:=by
 cases k with
 | zero =>
  unfold Tri.bad prz prv;split
  ·rfl
  ·grind
 | succ k=>rfl
theorem y1S(v:Value)(rs:List Tri.Rg)(d:Int)(w:World)(N:Sr w v rs)(hd:Fi d) :
  Calls prog 238 #[v,.int .i64 d] w (x2s w (Tri.check d rs)):=by
 have hl:=N.len;have j:=O (fun w'=>y3s d w' hd);obtain⟨R,aw⟩:=hd
 have B:Hid (∀r,r=Tri.x1A d rs.length (prv rs rs.length) (rs.drop rs.length)->∀wr,Bw w wr->(okv d=false->x2s w r (.returned (.tuple #[.int .i64 (rs.length:Int),.int .i64 42])) wr)/\(okv d=true->x2s w r (.returned (.tuple #[.int .i64 0,.int .i64 0])) wr)):=by
  intro r u wr hb;rw[List.drop_length]at u;simp only[Tri.x1A]at u;refine⟨fun h=>x2s.mk (by rw[u,if_pos (by unfold okv at h;have:=of_decide_eq_false h;exact f6J)]) hb,fun h=>x2s.mk (by rw[u,if_neg (by unfold okv at h;have:=o0d h;exact f6J)]) hb⟩
 have W:Hid (Tri.x1A d 0 (prv rs 0) (rs.drop 0)=Tri.check d rs):=R6O;have ab:=O N.1;have Z:=O N;obtain⟨s,aq,rfl,f,ar⟩:=N.shape;generalize Tri.check d rs=t at *;go_enter func238,ntmps238;go_wp2;go_loopw[6,12] (fun b i wr=>∃k:Nat,i=.int .i64 k/\b=.int .i64 (prz rs k)/\k<=rs.length/\Bw w wr/\t=Tri.x1A d k (prv rs k) (rs.drop k)) (fun _ i _=>rs.length-(intOf i).toNat)
 case atStart=>exact⟨0,rfl,rfl,f6J,b0r,(V W).symm⟩
 case round =>
  obtain⟨k,rfl,rfl,hk,A,ae⟩:=hrel;by_cases H:k<rs.length
  ·obtain⟨p,am,G,ai,_,_,y⟩:=(V Z).place f6J;simp only[Value.slice.injEq]at ai;obtain⟨rfl,_,rfl⟩:=ai;obtain⟨Y,c1,z⟩:=y k H;rw[<- A.cell (x0a Y)]at Y;rw[<- A.cell (x0a c1)]at c1;rw[<- A.cell (x0a z)]at z;have u:=(V ab).at k
   have C:Fi (prz rs k):=by
    cases k with
    | zero=>simp[prz,Fi]
    | succ k=>exact((V ab).at k).2.1
   have T:=O (fun w'=>z7t (Tri.lo (rs.getD k (0,0,0))) (Tri.hi (rs.getD k (0,0,0))) (Tri.vl (rs.getD k (0,0,0))) (prz rs k) w' u.1 u.2.1 u.2.2 C);have X:(Tri.lo (rs.getD k (0,0,0)),Tri.hi (rs.getD k (0,0,0)),Tri.vl (rs.getD k (0,0,0)))=rs.getD k (0,0,0):=rfl;have n:prz rs (k+1)=Tri.hi (rs.getD k (0,0,0)):=rfl;rw[y4s H,<- z3X]at ae;rw[X]at T;have c:=O ae;have HN:=O n;obtain⟨p1,p2⟩:=C;obtain⟨⟨m,S⟩,⟨f3,U⟩,I,f6⟩:=u
   have HK:Hid (∀x,x=Tri.bad (some (prz rs k)) (rs.getD k (0,0,0))->x=0\/x=40\/x=41\/x=42):=by
    intro x J;subst J;unfold Tri.bad;split
    ·simp
    ·grind
   generalize Tri.bad (some (prz rs k)) (rs.getD k (0,0,0))=q,Tri.lo (rs.getD k (0,0,0))=l,Tri.hi (rs.getD k (0,0,0))=h,Tri.vl (rs.getD k (0,0,0))=x at *;have F:=A.size;have M:Bw w (wr.alloc (.cells #[.int .i64 l,.int .i64 h,.int .i64 x] 259)):=A.alloc F _;have ag:(wr.alloc (.cells #[.int .i64 l,.int .i64 h,.int .i64 x] 259)).cell? ⟨wr.heap.size,1,none⟩=some (.int .i64 h):=M7L;go_wp2_with fail;refine c1m (V T _) fun w1 af=>?_;have D:Bw w w1:=M.trans (af.mono M.size);rw[<- af.cell (x0a ag)]at ag;by_cases L:q=0
   ·subst L;have aj:=O ((V c).trans (if_pos rfl));go_wp2
    go_roundw
    case rel=>exact⟨k+1,g2B,by rw[V HN],f6J,D,V aj⟩
    case measure=>exact g7U
   ·have g:x2s w t (.returned (.tuple #[.int .i64 (k:Int),.int .i64 q])) w1:=x2s.mk ((V c).trans (if_neg L)) D;have ay:(q != 0)=true:=(by simp[L]);go_wp2;go_ret2;exact g
  ·obtain rfl:k=rs.length:=f6J;have HE:=V B _ ae _ A
   cases ho:okv d with
   | false =>
    rw[ho]at j HE;have T:=HE.1 rfl;exact i9D
   | true =>
    rw[ho]at j HE;have T:=HE.2 rfl;exact i9D
end Go.Proofs.YtbmckadcjdedcaaGreatDoor.Ti
