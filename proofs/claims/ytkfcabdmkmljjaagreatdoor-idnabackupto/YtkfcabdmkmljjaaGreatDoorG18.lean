/- Lemmas. -/
import Derived.Test.YtkfcabdmkmljjaaGreatDoorG14
import Derived.Deep.AppendLies
import Derived.Deep.DrawnRows
import Derived.Deep.OwnRows
import Derived.Deep.RegionHeld3
import Derived.Great.BuildSlice
import Derived.Deep.RegionLaw
set_option maxHeartbeats 4000000
set_option maxRecDepth 50000
namespace Go.Proofs.YtkfcabdmkmljjaaGreatDoor
section
variable{p:Prop}
theorem R6q(h:p:=by rw[cell_of_row _ _ _ _ _ _ hr];rfl):p:=h
theorem S9z(h:p:=by rw[cell_of_row _ _ _ _ _ _ h];rfl):p:=h
theorem T5W(h:p:=by rw[List.length_map]at b;exact b):p:=h
theorem v9b(h:p:=by
 refine hK _ _ ?_;clear hK K;simp only[Act.put,sa9,sb9,sc9];refine wpAny_ready (rs:=[7]) f4B M7O ?_;refine AllReady.cons (o:=⟨some 53,_,_,_,_,_⟩) rfl (fun K hK=>?_) AllReady.nil;refine step_append_lies _ (by rfl) _ _ _ (by rfl) (gM+1) 147 i0 z0 64 128 underlying142 bP bV bX bY bZ f6J (.slice ao bs.length D) bs.length (x2a bs) (by rfl) z ⟨w4.heap.size,0,none⟩ 1 1 (zs.map (Value.int .u16)) (by rfl) bS y bT f6J T7X f6J I (w4.heap.size+1) bG ?_;intro s M R ab G X t;refine hK _ _ ?_;clear hK K;simp only[Act.put,sa9,sb9,sc9];refine wpAny_take (i:=8) (oi:=⟨some 54,_,_,_,_,_⟩) (v:=.pointer (some ⟨A,0,none⟩)) rfl f4B f4B f4B (fun _ _ _ h=>h) (Or.inl ⟨by rfl,?_⟩) ?_
 ·exact M9h
 simp only[Act.put,sa9,sb9,sc9];refine wpAny_take (i:=9) (oi:=⟨some 55,_,_,_,_,_⟩) (v:=.pointer (some ⟨A,1,none⟩)) rfl f4B f4B f4B (fun _ _ _ h=>h) (Or.inl ⟨by rfl,?_⟩) ?_
 ·exact M9h
 simp only[Act.put,sa9,sb9,sc9];refine wpAny_ready (rs:=[10]) f4B M7O ?_;refine AllReady.cons (o:=⟨none,_,_,_,_,_⟩) rfl (fun K hK=>?_) AllReady.nil;have ae:=am.keep (V aF _ _ (.cells (zs.map (Value.int .u16)).toArray 147) (by rfl) G) (V bD);refine x5l (by rfl) 142 (.tmp 55) (.tmp 53) (by rfl) (.pointer (some ⟨A,1,none⟩)) (.slice (some ⟨s,0,none⟩) (bs.length+1) M) (by rfl) (by rfl) (V aN R _ ae s M rfl) ?_;refine hK _ _ ?_;clear hK K;simp only[Act.put];refine wpAny_done f4B ?_ _;have C:=V aF _ _ (.cells (zs.map (Value.int .u16)).toArray 147) (by rfl) G;have N:=V aD R _ ab;have Z:Bw w R:=(aq.drew.alloc aS _).grown G aT (fun k hk=>Nat.le_trans aW (Y k hk).1);have U:=V r R _ ae (aG.keep C (V bB)) (x1r q C (V bC)) N Z;generalize R.setCell ⟨A,1,none⟩ (.slice (some ⟨s,0,none⟩) (bs.length+1) M)=w9 at *;obtain⟨⟨y0,y1,y2⟩,bh,bj,L⟩:=U;have HL:=O L;clear L ab G X t ae C N Z aq aG am aQ q ay Y bn aX aB aY af z y aD r x0 x1 x2 aU K4;generalize xs.getD p 0=cO at *;go_wp2
 go_roundw
 case rel=>exact⟨p+1,kk,_,xs.set p (bs.length:Int),by go_num,f6J,aA,aI,V ba,(V HL).1,V aP,(V HL).2.1,by rw[V E1];exact(V HL).2.2.1,by rw[V E1];exact(V HL).2.2.2.1,(V HL).2.2.2.2⟩
 case measure=>exact g7W):p:=h
theorem T6F(h:p:=by go_enter func282,ntmps282;go_wp2_with fail;refine(V L _).mono ?_;rintro e J ⟨rfl,rfl⟩;go_wp2;go_ret;exact⟨rfl,q⟩):p:=h
theorem f7U(h:p:=by obtain⟨i,hi,Z⟩:=Option.map_eq_some_iff.1 h;simp only[Prod.mk.injEq]at Z;obtain⟨Z,D,J⟩:=Z;obtain⟨z,T,k⟩:=Option.map_eq_some_iff.1 J;exact⟨i,z,hi,T,Z,D,k⟩):p:=h
theorem u7B(h:p:=by rw[List.length_append];exact f6J):p:=h
theorem I4A(h:p:=by
 go_wp2
 go_roundw
 case rel=>first| exact⟨_,_,.int .i64 ((k+1:Nat):Int),⟨k+1,rfl,f6J,A,R,hz,by simpa using V C⟩,rfl,rfl,g2C⟩ | exact⟨k+1,A,g2C,f6J,R,hz,D,T,V C⟩ | exact⟨k+1,g2C,f6J,A,R,hz,by simpa using V C⟩ | exact⟨k+1,g2C,f6J,A,R,hz,D,by simpa using V C⟩
 case measure=>exact g7T):p:=h
theorem I4O(h:p:=by go_enter func282,ntmps282;go_wp2;go_ret;exact⟨rfl,q⟩):p:=h
theorem m8X(h:p:=by go_enter func283,ntmps283;go_wp2;go_ret;exact g9T):p:=h
theorem f0R(h:p:=by rw[Z];exact e8M):p:=h
theorem v0B(h:p:=by simpa using I):p:=h
theorem g2C(h:p:=by go_num):p:=h
theorem f4B(h:p:=by kernel_rfl):p:=h
theorem v6t(h:p:=by go_wp2;go_ret2;exact U):p:=h
theorem r4I(h:p:=by
 go_wp2
 go_roundw
 case rel=>exact⟨c+1,A.set i q,g2C,f6J,f6J,f6J,W9W,m,ab,aq,H,V C⟩
 case measure=>exact g7T):p:=h
theorem i7f(h:p:=by refine hK _ _ ?_;clear hK K;simp only[Act.put,sa9,sb9,sc9];refine wpAny_ready (rs:=[6]) f4B (by simp) ?_;refine AllReady.cons (o:=⟨some 52,_,_,_,_,_⟩) rfl (fun K hK=>?_) AllReady.nil;refine x2k (by rfl) 142 (.tmp 51) (by rfl) _ _ (by rfl) af ?_;exact v9b):p:=h
theorem W9W(h:p:=by simp[R]):p:=h
theorem T5V(h:p:=by go_wp2;exact bodyPost_ret (v:=.agg (arrA A)) (x2u rfl _ _ _ L _ (by rfl) aC) rfl ⟨rfl,r⟩):p:=h
theorem M0j(h:p:=by go_wp2_with fail;refine(V L _).mono ?_;rintro e w1 ⟨rfl,rfl⟩;exact v6t):p:=h
theorem i6U(h:p:=by have:=(Y _ e.symm).1;exact f6J):p:=h
theorem g8a(h:p:=by rw[(W9W:(A.map (Value.int .u16)).toArray.size=64)];exact y9A):p:=h
theorem E0V(h:p:=by cases h;exact P8U):p:=h
end
end Go.Proofs.YtkfcabdmkmljjaaGreatDoor
namespace Go.Proofs.YtkfcabdmkmljjaaGreatDoor.Ti
open Go.Proofs.Tryz
open Go.RowKit
theorem Sz.cut{sz len l h m w ao cap}{us}(L:Sz sz w (.slice ao len cap) len us)(Z:l<=h)(D:h<=len)(J:h<=m)(H:m<=cap) :
  Sz sz w (sliced ao l h m sz) (h-l) ((us.drop (l*sz)).take ((h-l)*sz)):=by
 obtain⟨b1,B,G⟩:=L;have C:(h-l)*sz+l*sz=h*sz:=(by rw[<- Nat.add_mul];congr 1;exact f6J);have M:h*sz<=len*sz:=Nat.mul_le_mul_right _ D;refine⟨P8P,f6J,?_⟩;rcases G with⟨rfl,W,t,N,z,A⟩ | ⟨b,R,t,N,S,z,I⟩
 ·simp only[Value.slice.injEq]at N;obtain⟨rfl,_,rfl⟩:=N;refine .inl ⟨f6J,(if m=l then ao else ao.map (·.add (l*sz))),m-l,?_,f6J,fun F=>?_⟩
  ·exact w4F
  ·split at F
   ·omega
   ·simp_all
 ·simp only[Value.slice.injEq]at N;obtain⟨rfl,_,rfl⟩:=N;by_cases T:h=l
  ·refine .inl ⟨f6J,(if m=l then some ⟨b,R,none⟩else(some ⟨b,R,none⟩:Option Addr).map (·.add (l*sz))),m-l,?_,f6J,fun F=>?_⟩
   ·exact w4F
   ·split at F<;>simp at F
  ·refine .inr ⟨b,R+l*sz,m-l,?_,f6J,f6J,fun i hi=>?_⟩
   ·have:¬m=l:=f6J;simp only[sliced,this,if_false,Option.map_some,addr_add]
   ·grind
theorem y3m(rs:List Tri.Rg) k:(rcells rs).drop (k*3)=rcells (rs.drop k):=by
 induction k generalizing rs with
 | zero=>simp
 | succ k ih =>
  cases rs with
  | nil=>simp[rcells]
  | cons r rs =>
   have:(k+1)*3=3+k*3:=f6J;simp only[rcells,List.drop_succ_cons];rw[this,<- List.drop_drop,<- ih rs];rfl
theorem Sr.cut{w ao len cap l h m}{rs:List Tri.Rg}(L:Sr w (.slice ao len cap) rs)(S:len=rs.length)(Z:l<=h)(D:h<=len)(J:h<=m)(H:m<=cap) :
  Sr w (sliced ao l h m 3) ((rs.drop l).take (h-l)):=by
 subst S;have:=L.2.cut Z D J H;rw[y3m,y3n]at this;have e:((rs.drop l).take (h-l)).length=h-l:=P8P;refine⟨fun r u=>L.1 r (List.mem_of_mem_drop (List.mem_of_mem_take u)),?_⟩;rw[e];exact this
namespace Tri
theorem z3s{d c}{rs:List Rg} k(h:∀j,j<k->j<rs.length->hi (rs.getD j (0,0,0))<c):get d (rs.drop k) c=get d rs c:=by
 induction k generalizing rs with
 | zero=>exact s4M
 | succ k ih =>
  cases rs with
  | nil=>rfl
  | cons r rs =>
   have R:=h 0 f6J M7L;simp only[List.getD_cons_zero]at R;rw[List.drop_succ_cons,x1q,if_neg f6J];refine ih fun j X S=>?_;have:=h (j+1) f6J t2Y;simpa using this
theorem z4P{b}{rs:List Rg}(h:Val b rs) k:Val b (rs.drop k):=by
 induction k generalizing rs b with
 | zero=>exact S4r
 | succ k ih =>
  cases rs with
  | nil=>trivial
  | cons r rs =>
   obtain⟨Z,D,J,H,A,q⟩:=h;rw[List.drop_succ_cons];exact(ih q).mono f6J
end Tri
def y0x(w0 w:World)(rs:List Tri.Rg)(lo:Int)(e:Ending)(w':World):Prop :=
 w'=w/\∃v' k,e=.returned v'/\Sr w0 v' (rs.drop k)/\k<=rs.length/\∀j,j<k->Tri.hi (rs.getD j (0,0,0))<lo
theorem z0S v(rs:List Tri.Rg) lo w0 w(N:Sr w0 v rs)(I:Bw w0 w)(y:Fi lo) :
  Calls prog 284 #[v,.int .i64 lo] w (y0x w0 w rs lo):=by
 obtain⟨l1,l2⟩:=y;have B:=N.len;have g:=O I;have A:Hid (∀u k,Sr w0 u (rs.drop k)->k<=rs.length->(∀j,j<k->Tri.hi (rs.getD j (0,0,0))<lo)->y0x w0 w rs lo (.returned u) w):=fun u k Z D J=>⟨rfl,u,k,rfl,Z,D,J⟩;go_enter func284,ntmps284;go_wp2;go_loop [0] (fun u=>∃k:Nat,Sr w0 u (rs.drop k)/\k<=rs.length/\∀j,j<k->Tri.hi (rs.getD j (0,0,0))<lo) (fun u=>match u with | .slice _ n _=>n | _=>0)
 case atStart=>exact⟨0,by simpa using N,f6J,fun j q=>f6J⟩
 case round =>
  obtain⟨k,L,G,z⟩:=hrel;have Y:=O (V A _ k L G z);have x:(rs.drop k).length=rs.length-k:=List.length_drop;rcases Nat.eq_zero_or_pos (rs.drop k).length with h0 | h0
  ·obtain⟨ao,M,rfl,X,p⟩:=L.shape;rw[h0]at Y X ⊢;go_wp2;go_ret;exact V Y
  ·have s:=L.1.at 0;have i:=O L;obtain⟨b,R,M,rfl,X,p,F⟩:=L.place h0;obtain⟨d,W,S⟩:=F 0 h0;rw[<- (V g).cell (x0a W)]at W;simp only[Nat.zero_mul,Nat.add_zero]at d W S;have hcut:=(V i).cut rfl (l:=1) (h:=(rs.drop k).length) (m:=M) f6J f6J f6J f6J
   have t:(((rs.drop k).drop 1).take ((rs.drop k).length-1))=rs.drop (k+1):=by
    rw[List.drop_drop,List.take_of_length_le P8P]
   have f:(rs.drop k).getD 0 (0,0,0)=rs.getD k (0,0,0):=(by grind);rw[t]at hcut;rw[f]at W s
   have c:Hid (Tri.hi (rs.getD k (0,0,0))<lo->∀j,j<k+1->Tri.hi (rs.getD j (0,0,0))<lo):=by
    intro hx j q;by_cases h:j=k
    ·subst h;exact hx
    ·exact z j f6J
   obtain⟨_,⟨f1,f2⟩,_⟩:=s;have r:1<=(rs.drop k).length:=h0;have T:k<rs.length:=f6J;have C:=O hcut;clear L i F z hcut d S t f x;generalize Tri.hi (rs.getD k (0,0,0))=h,(rs.drop k).length=n at *;by_cases a:h<lo
   ·have H:=O (V c a);go_wp2;go_round
    case rel=>exact⟨k+1,V C,f6J,V H⟩
    case measure=>simp;omega
   ·clear c A;go_wp2;go_ret;exact V Y
end Go.Proofs.YtkfcabdmkmljjaaGreatDoor.Ti
namespace Go.Proofs.YtkfcabdmkmljjaaGreatDoor.Ti
open Go.Proofs.Tryz
open Go.RowKit
def Bk(w:World)(g:Nat)(zs:List Int):Prop:=w.heap[g]?=some (.cells (arrA zs) 147 (0,0))
theorem Bk.lt{w g zs}(h:Bk w g zs):g<w.heap.size:=(Array.getElem?_eq_some_iff.1 h).1
theorem Bk.cell{w g zs}(h:Bk w g zs){i}(hi:i<zs.length):w.cell? ⟨g,i,none⟩=some (.int .u16 (zs.getD i 0)):=by
 unfold Bk at h;exact E2f
theorem Bk.frozen{w g zs}(h:Bk w g zs) i:w.frozen? ⟨g,i,none⟩=false:=by
 unfold Bk at h;simp[World.frozen?,h]
theorem Bk.set{w g zs}(h:Bk w g zs) i v:Bk (w.setCell ⟨g,i,none⟩ (.int .u16 v)) g (zs.set i v):=by
 unfold Bk at h ⊢;exact N9T
theorem Bk.other{w g zs}(h:Bk w g zs){a}(y:g≠a.block) v:Bk (w.setCell a v) g zs:=by
 unfold Bk at h ⊢;exact i7e
theorem Bk.box{w g zs}(h:Bk w g zs):Box w g zs:=fun j v N=>by
 have X:j<zs.length:=(by grind);rw[Nat.zero_add,h.cell X];rw[List.getElem?_map,List.getElem?_eq_getElem X]at N;simp only[Option.map_some,Option.some.injEq]at N;rw[<- N];exact S8d
theorem Bk.new(w:World) zs C(H:C=arrA zs):Bk (w.alloc (.cells C 147)) w.heap.size zs:=I1X
theorem Bk.alloc{w g zs}(h:Bk w g zs) o:Bk (w.alloc o) g zs:=by
 have S:=h.lt;unfold Bk at h ⊢;rw[Below.heap_alloc w o g S];exact h
theorem Bk.there{w g zs}(h:Bk w g zs):w.there g 0 zs.length:=fun j X=>e9U
theorem y9A:(prog.info? 147).map (·.size)=some 64:=f4x
def Rb(w:World)(g:Nat)(l h x:Int):Prop:=w.heap[g]?=some (.cells #[.int .i64 l,.int .i64 h,.int .i64 x] 272 (0,0))
theorem Rb.cells{w g l h x}(hr:Rb w g l h x):w.cell? ⟨g,0,none⟩=some (.int .i64 l)/\w.cell? ⟨g,1,none⟩=some (.int .i64 h)/\w.cell? ⟨g,2,none⟩=some (.int .i64 x) :=
 ⟨R6q,R6q,R6q⟩
theorem Rb.other{w g l h x}(hr:Rb w g l h x){a}(y:g≠a.block) v:Rb (w.setCell a v) g l h x:=by
 unfold Rb at hr ⊢;rw[heap_setCell_other w a g v y];exact hr
namespace Tri
theorem y9m{b d c}{rs:List Rg}(N:Val b rs) k(G:k<rs.length)(I:c<lo (rs.getD k (0,0,0))):get d rs c=get d (rs.take k) c:=by
 induction rs generalizing b k with
 | nil=>simp at G
 | cons r rs ih =>
  obtain⟨Z,D,J,H,A,q⟩:=N
  cases k with
  | zero =>
   simp only[List.getD_cons_zero]at I;have y:Val (lo r) (r::rs):=⟨Int.le_refl _,D,J,H,A,q⟩;rw[x6O y I];rfl
  | succ k =>
   simp only[List.take_succ_cons,x1q];rw[ih q k E9n v0B]
end Tri
theorem z2z f(p:Nat) lo0(R:lo0=(p:Int)*64) zs(S:zs.length=64)(h:∀j:Nat,j<64->zs.getD j 0=f (lo0+(j:Int))):zs=Tri.blk f p :=
 z6l f p zs S fun j X=>by rw[h j X,(f6J:lo0+(j:Int)=((64*p+j:Nat):Int))]
abbrev z64:Array Value:=#[.int .u16 0,.int .u16 0,.int .u16 0,.int .u16 0,.int .u16 0,.int .u16 0,.int .u16 0,.int .u16 0,.int .u16 0,.int .u16 0,.int .u16 0,.int .u16 0,.int .u16 0,.int .u16 0,.int .u16 0,.int .u16 0,.int .u16 0,.int .u16 0,.int .u16 0,.int .u16 0,.int .u16 0,.int .u16 0,.int .u16 0,.int .u16 0,.int .u16 0,.int .u16 0,.int .u16 0,.int .u16 0,.int .u16 0,.int .u16 0,.int .u16 0,.int .u16 0,.int .u16 0,.int .u16 0,.int .u16 0,.int .u16 0,.int .u16 0,.int .u16 0,.int .u16 0,.int .u16 0,.int .u16 0,.int .u16 0,.int .u16 0,.int .u16 0,.int .u16 0,.int .u16 0,.int .u16 0,.int .u16 0,.int .u16 0,.int .u16 0,.int .u16 0,.int .u16 0,.int .u16 0,.int .u16 0,.int .u16 0,.int .u16 0,.int .u16 0,.int .u16 0,.int .u16 0,.int .u16 0,.int .u16 0,.int .u16 0,.int .u16 0,.int .u16 0]
theorem z8H(w:World):∃A,(w.alloc (.cells z64 147)).alloc (.cells z64 147)=A/\Bw w A/\Bk A w.heap.size Zs/\Bk A (w.heap.size+1) Zs :=
 ⟨_,rfl,((Below.refl _ w).alloc (l0r _) _).alloc M7K _,(Bk.new w Zs _ rfl).alloc _,by simpa using Bk.new (w.alloc (.cells z64 147)) Zs z64 rfl⟩
theorem z8L v(rs:List Tri.Rg) d(p:Nat) w(hv:Sr w v rs)(ag:Tri.Val 0 rs)(hd:0<=d/\d<=65535)(hp:p<17408) :
  Calls prog 285 #[v,.int .i64 ((p:Int)*64),.int .i64 d] w (y7u w (Tri.blk (Tri.get d rs) p)):=by
 obtain⟨ba,be⟩:=hd;obtain⟨B,y⟩:∃l:Int,l=(p:Int)*64:=⟨_,rfl⟩;have HX:=O (z2z (Tri.get d rs) p B y);have z1:0<=B:=f6J;have z2:B<=1114048:=f6J;rw[<- y];clear y;have HV:=O ag;have aP:=O hv;have aS:=hv.len;obtain⟨ao,aV,rfl,aL,aM⟩:=hv.shape;have aD:Hid (∀c,Tri.get d (rs.take 0) c=d):=fun c=>rfl;have ar:Hid (∀c,Tri.get d (rs.take rs.length) c=Tri.get d rs c):=fun c=>(by rw[List.take_length]);have aw:Hid (∀(k:Nat),k<rs.length->∀c,c<Tri.lo (rs.getD k (0,0,0))->Tri.get d rs c=Tri.get d (rs.take k) c):=fun k hk c hc=>Tri.y9m ag k hk hc;clear hv ag;generalize Tri.blk (Tri.get d rs) p=bm at *;go_enter func285,ntmps285;go_wp2;obtain⟨wz,hz,hA,ai,aj⟩:=z8H w;rw[hz];clear hz;obtain⟨L,az⟩:∃L,L=w.heap.size:=⟨_,rfl⟩;obtain⟨I,aA⟩:∃I,I=w.heap.size+1:=⟨_,rfl⟩;rw[<- az]at ai;rw[<- aA]at aj;have aG:L≠I:=f6J;have F:w.heap.size<=L:=f6J;have am:w.heap.size<=I:=f6J;rw[<- aA,<- az];clear az aA;obtain⟨Z,hZ⟩:∃Z,Z=Zs:=⟨_,rfl⟩;rw[<- hZ]at ai aj;have aK:Z.length=64:=(by rw[hZ];exact z9k);clear hZ;go_loopw[13] (fun i wr=>∃(k:Nat) (A:List Int),i=.int .i64 k/\k<=64/\A.length=64/\Bk wr I A/\Bk wr L Z/\Bw w wr/\∀j,j<k->A.getD j 0=d) (fun i _=>64-(intOf i).toNat)
 case atStart=>exact⟨0,Z,rfl,f6J,aK,aj,ai,hA,fun j X=>f6J⟩
 case round =>
  clear hA ai aj;obtain⟨k,A,rfl,hk,R,hz,D,T,z⟩:=hrel;by_cases ae:k<64
  ·have hc:=hz.cell (i:=k) f6J;have hf:=hz.frozen k;have m:=hz.set k d;have ab:=D.other (a:=⟨I,k,none⟩) aG (.int .u16 d);have H:=T.setCell (p:=⟨I,k,none⟩) am (.int .u16 d)
   have C:Hid (∀j,j<k+1->(A.set k d).getD j 0=d):=by
    intro j X;rw[x8V A k j d f6J];split
    ·rfl
    ·exact z j f6J
   have f:(0:Int)<=(k:Int):=f6J;have u:(k:Int)<64:=f6J;generalize A.getD k 0=aQ at *;clear z hz D T;go_wp2
   go_roundw
   case rel=>exact⟨k+1,A.set k d,g2C,f6J,W9W,m,ab,H,V C⟩
   case measure=>exact g7T
  ·obtain rfl:k=64:=f6J;have s:Hid (∀j,j<64->A.getD j 0=Tri.get d (rs.take 0) (B+(j:Nat))):=fun j X=>(by rw[z j X,(V aD)]);clear z aD;go_wp2;go_loopw[11,12,25] (fun _ _ i wr=>∃(k:Nat) (A:List Int),i=.int .i64 k/\k<=rs.length/\A.length=64/\Bk wr I A/\Bk wr L Z/\Bw w wr/\∀j,j<64->A.getD j 0=Tri.get d (rs.take k) (B+(j:Nat))) (fun _ _ i _=>rs.length-(intOf i).toNat)
   case atStart=>exact⟨0,A,rfl,f6J,R,hz,D,T,V s⟩
   case round =>
    clear hz D T s R;obtain⟨k,A,rfl,hk,R,hz,D,T,z⟩:=hrel;by_cases ae:k<rs.length
    ·have x:=fun c=>Tri.z3t (d:=d) (c:=c) (V HV) k ae;have g:=O (V aw k ae);obtain⟨b1,b2,b3,b4,b5⟩:=q1E (V HV) (Int.le_refl _) k ae;obtain⟨bx,aU,aW,aJ,_,_,ay⟩:=(V aP).place f6J;simp only[Value.slice.injEq]at aJ;obtain⟨rfl,_,rfl⟩:=aJ;obtain⟨c0,c1,c2⟩:=ay k ae;rw[<- T.cell (x0a c0)]at c0;rw[<- T.cell (x0a c1)]at c1;rw[<- T.cell (x0a c2)]at c2;have aF:=O x;have N:=O z;clear ay x z;generalize Tri.lo (rs.getD k (0,0,0))=lo,Tri.hi (rs.getD k (0,0,0))=hi,Tri.vl (rs.getD k (0,0,0))=q at *;have n:=T.size;have b:Rb (wr.alloc (.cells #[.int .i64 lo,.int .i64 hi,.int .i64 q] 272)) wr.heap.size lo hi q:=heap_alloc_last wr _;have hz:=hz.alloc (.cells #[.int .i64 lo,.int .i64 hi,.int .i64 q] 272);have D:=D.alloc (.cells #[.int .i64 lo,.int .i64 hi,.int .i64 q] 272);have W:Bw w (wr.alloc (.cells #[.int .i64 lo,.int .i64 hi,.int .i64 q] 272)):=T.alloc n _;obtain⟨t,aB⟩:∃t,t=wr.heap.size:=⟨_,rfl⟩;have aI:t≠I:=(by have h1:=‹Bk wr I A›.lt;exact f6J);by_cases aX:B+64<=lo
     ·have U:Hid (∀j,j<64->A.getD j 0=Tri.get d rs (B+(j:Nat))):=fun j X=>(by rw[V N j X,V g _ f6J]);clear N aF aw g aB aI;have S:=V HX A R (V U);subst S;clear U HX;go_upto_region 17 with fail;generalize wr.alloc (.cells #[.int .i64 lo,.int .i64 hi,.int .i64 q] 272)=wa at *;refine wp_region_list ?_;refine wpList_load_mid (by rfl) 147 (.tmp 7) (by rfl) I 0 (by rfl) (A.map (Value.int .u16)) _ hz.box underlying147 (by rfl) (x6T R) ?_;have M:Z.length=A.length:=by omega
      have J:wa.there L 0 (A.map (Value.int .u16)).toArray.size:=by
       have:=D.there;rw[M]at this;simpa using this
      refine wpList_store_mid (by rfl) 147 (.tmp 6) (.tmp 54) (by rfl) L 0 (A.map (Value.int .u16)).toArray (by rfl) (by rfl) J g8a (x9f A) ?_;have G:wa.there L 0 (A.map (Value.int .u16)).length:=(by simpa using J);have af:=World.rangeAt_setCells_same wa L 0 (A.map (Value.int .u16)) G;have r:Bw w (wa.setCells L 0 (A.map (Value.int .u16))):=x0E F _ _ _ W;have aC:=run_loadVar_mid (P:=prog) _ L 0 147 (A.map (Value.int .u16)) _ af underlying147 (by rfl) (x6T R);clear hz D J G af;generalize wa.setCells L 0 (A.map (Value.int .u16))=wf at *;exact T5V
     ·clear g ar HX;by_cases bj:lo<B
      all_goals
       go_wp2;generalize wr.alloc (.cells #[.int .i64 lo,.int .i64 hi,.int .i64 q] 272)=wa at *;rw[<- aB]at b ⊢;clear aB;go_loopw[12] (fun vc wr=>∃(c:Int) (A:List Int),vc=.int .i64 c/\lo<=c/\B<=c/\c<=1114112/\A.length=64/\Bk wr I A/\Bk wr L Z/\Rb wr t lo hi q/\Bw w wr/\∀j,j<64->A.getD j 0=if lo<=B+(j:Nat)/\B+(j:Nat)<c/\B+(j:Nat)<=hi then q else Tri.get d (rs.take k) (B+(j:Nat))) (fun vc _=>(1114112-intOf vc).toNat)
       case atStart=>first| exact⟨B,A,rfl,f6J,f6J,f6J,R,hz,D,b,W,fun j X=>by rw[if_neg f6J];exact V N j X⟩ | exact⟨lo,A,rfl,f6J,f6J,f6J,R,hz,D,b,W,fun j X=>by rw[if_neg f6J];exact V N j X⟩
       case round =>
        clear hz D b W R c0 c1 c2;obtain⟨c,A,rfl,aL,aM,aY,R,hz,D,b,T,z⟩:=hrel;obtain⟨c0,c1,c2⟩:=b.cells;by_cases aN:c<=hi/\c<B+64
        ·obtain⟨q1,q2⟩:=aN;obtain⟨i,aZ⟩:∃i:Nat,c-B=(i:Int):=⟨(c-B).toNat,f6J⟩;have aR:i<64:=f6J;have ay:=hz.cell (i:=i) f6J;have bh:=hz.frozen i;have m:=hz.set i q;have ab:=D.other (a:=⟨I,i,none⟩) aG (.int .u16 q);have aq:=b.other (a:=⟨I,i,none⟩) aI (.int .u16 q);have H:=T.setCell (p:=⟨I,i,none⟩) am (.int .u16 q)
         have C:Hid (∀j,j<64->(A.set i q).getD j 0=if lo<=B+(j:Nat)/\B+(j:Nat)<c+1/\B+(j:Nat)<=hi then q else Tri.get d (rs.take k) (B+(j:Nat))):=by
          intro j X;rw[x8V A i j q f6J,z j X];by_cases Y:j=i
          ·rw[if_pos Y,if_pos f6J]
          ·rw[if_neg Y];by_cases hx:lo<=B+(j:Nat)/\B+(j:Nat)<c/\B+(j:Nat)<=hi
           ·rw[if_pos hx,if_pos f6J]
           ·rw[if_neg hx,if_neg f6J]
         have f:(0:Int)<=(i:Int):=f6J;have u:(i:Int)<64:=f6J;generalize A.getD i 0=aQ at *;clear z hz D b;by_cases aO:B+64<hi+1
         ·exact r4I
         ·have aT:c<hi+1:=f6J;exact r4I
        ·have C:Hid (∀j,j<64->A.getD j 0=Tri.get d (rs.take (k+1)) (B+(j:Nat))):=by
          intro j X;rw[z j X,(V aF)];by_cases hx:lo<=B+(j:Nat)/\B+(j:Nat)<=hi
          ·rw[if_pos hx,if_pos f6J]
          ·rw[if_neg hx,if_neg f6J]
         clear z;by_cases aO:B+64<hi+1
         ·have aH:¬(c<B+64):=f6J;exact I4A
         ·have aH:¬(c<hi+1):=f6J;exact I4A
    ·obtain rfl:k=rs.length:=f6J;have U:Hid (∀j,j<64->A.getD j 0=Tri.get d rs (B+(j:Nat))):=fun j X=>(by rw[z j X,(V ar)]);clear z aw ar;have S:=V HX A R (V U);subst S;clear U HX;go_upto_region 17 with fail;refine wp_region_list ?_;refine wpList_load_mid (by rfl) 147 (.tmp 7) (by rfl) I 0 (by rfl) (A.map (Value.int .u16)) _ hz.box underlying147 (by rfl) (x6T R) ?_;have M:Z.length=A.length:=by omega
     have J:wr.there L 0 (A.map (Value.int .u16)).toArray.size:=by
      have:=D.there;rw[M]at this;simpa using this
     refine wpList_store_mid (by rfl) 147 (.tmp 6) (.tmp 54) (by rfl) L 0 (A.map (Value.int .u16)).toArray (by rfl) (by rfl) J g8a (x9f A) ?_;have G:wr.there L 0 (A.map (Value.int .u16)).length:=(by simpa using J);have af:=World.rangeAt_setCells_same wr L 0 (A.map (Value.int .u16)) G;have r:Bw w (wr.setCells L 0 (A.map (Value.int .u16))):=x0E F _ _ _ T;have aC:=run_loadVar_mid (P:=prog) _ L 0 147 (A.map (Value.int .u16)) _ af underlying147 (by rfl) (x6T R);clear hz D J G af;generalize wr.setCells L 0 (A.map (Value.int .u16))=wf at *;exact T5V
end Go.Proofs.YtkfcabdmkmljjaaGreatDoor.Ti
namespace Go.Proofs.YtkfcabdmkmljjaaGreatDoor.Ti
open Go.Proofs.Tryz
open Go.RowKit
section
variable {P:Program} {ops:Array Oper} {o:Oper} {a:Act} {w w':World} {K:Act->World->Prop} {Q:Exit->Act->World->Prop} {E:Prop}
theorem x1P(J:o.guard=none) ty(x:Operand)(j:o.op=.load ty x) pv v(A:a.eval x=pv)(M:(Instr.loadAt ty pv).run P w=.ok v w)(h:K (a.put o.dst v) w) :
  if Region.wanted o (yielded ops a.tmps)=true then Oper.wp P o a w K Q else E:=by
 rw[if_pos E8c];unfold Oper.wp execOp;simp only[j,A,Sem.run_bind,M,Result.andThen_ok];exact h
theorem x5l(J:o.guard=none) ty(x y:Operand)(j:o.op=.store ty x y) pv v(A:a.eval x=pv)(hy:a.eval y=v)(M:(Instr.storeAt ty pv v).run P w=.ok () w')(h:K (a.put o.dst undef) w') :
  if Region.wanted o (yielded ops a.tmps)=true then Oper.wp P o a w K Q else E:=by
 rw[if_pos E8c];unfold Oper.wp execOp;simp only[j,A,hy,Sem.run_bind,M,Result.andThen_ok];exact h
theorem x2k(J:o.guard=none) t(x:Operand)(j:o.op=.buildSlice t 1 #[(0,x)]) u v(A:a.eval x=u)(M:(Instr.buildSlice t 1 #[(0,u)]).run P w=.ok v w')(h:K (a.put o.dst v) w') :
  if Region.wanted o (yielded ops a.tmps)=true then Oper.wp P o a w K Q else E:=by
 rw[if_pos E8c];unfold Oper.wp execOp;have e:(#[((0:Nat),x)].map fun(i,x)=>(i,a.eval x))=#[(0,u)]:=f9x;simp only[j,e,Sem.run_bind,M,Result.andThen_ok];exact h
end
end Go.Proofs.YtkfcabdmkmljjaaGreatDoor.Ti
namespace Go.Proofs.YtkfcabdmkmljjaaGreatDoor.Ti
open Go.Proofs.Tryz
open Go.RowKit Go.Maps
set_option linter.unusedSimpArgs false
theorem z8U w:(zeroValue 145).run prog w=.ok (.int .u16 0) w:=(zero_of_info (n:=1) f4x).1 w
theorem y7i(w:World) zs(h:zs.length=64):(storeCells ⟨w.heap.size,0,none⟩ (zs.map (Value.int .u16)) 0).run prog (w.alloc (.cells z64 147))=.ok () (w.alloc (.cells (arrA zs) 147)):=by
 have Z:=run_storeCells_new (P:=prog) w 147 z64 (arrA zs) (by rw[x1K,h];exact y9A) (by rw[x1K,h];rfl) (x9f zs);simpa[arrA]using Z
theorem y6V t e(d:prog.underlying t=some (.slice e))(hi:(prog.info? e).map (fun i=>(i.size,i.zero.map (·.cells.size)))=some (64,some 64)) w(zs:List Int)(h:zs.length=64) :
  (Instr.buildSlice t 1 #[(0,.agg (zs.map (Value.int .u16)).toArray)]).run prog w=.ok (.slice (some ⟨w.heap.size,0,none⟩) 1 1) (w.alloc (.cells (zs.map (Value.int .u16)).toArray e)):=by
 obtain⟨A,I,Z⟩:=Option.map_eq_some_iff.1 hi;simp only[Prod.mk.injEq]at Z;obtain⟨Z,D⟩:=Z;obtain⟨z,T,k⟩:=Option.map_eq_some_iff.1 D;refine run_buildSlice w t e 1 _ _ A z d I T f0R f0R ?_;rw[Z];have:=Great.fill_whole (s:=64) e8M [Value.agg (zs.map (Value.int .u16)).toArray] ((Array.range (1*64)).map (z.cells[·%z.cells.size]!)) (fun v N=>by simp at N;subst N;simp[Value.cells,h]) M7L;simpa[Value.cells]using this
theorem y5Z C(H:C.size=64)(zs:List Int)(h:zs.length=64):List.foldl (fun(cs:Array Value) (x:Value×Nat)=>cs.setIfInBounds x.2 x.1) C ((zs.map (Value.int .u16)).zipIdx)=(zs.map (Value.int .u16)).toArray:=by
 have Z:=Great.foldl_set 0 (zs.map (Value.int .u16)) 0 C;simp only[Nat.zero_add]at Z;apply Array.ext_getElem?;intro k;rw[Z.2 k];by_cases G:k<64
 ·rw[if_pos P8P];simp
 ·grind
theorem q0m:(prog.info? 147).map (fun i=>(i.size,i.zero.map (·.cells.size)))=some (64,some 64):=f4x
theorem q0n:∃i z,prog.info? 147=some i/\i.zero=some z/\i.size=64/\i.bytes=128/\z.cells.size=64:=by
 have h:(prog.info? 147).map (fun i=>(i.size,i.bytes,i.zero.map (·.cells.size)))=some (64,128,some 64):=f4x;exact f7U
def Ix(w:World)(g:Nat)(xs:List Int):Prop:=xs.length=17408/\w.heap[g]?=some (.cells (arrA xs) 145 (0,0))
theorem Ix.lt{w g xs}(h:Ix w g xs):g<w.heap.size:=(Array.getElem?_eq_some_iff.1 h.2).1
theorem Ix.cell{w g xs}(h:Ix w g xs){i}(hi:i<17408):w.cell? ⟨g,i,none⟩=some (.int .u16 (xs.getD i 0)):=by
 have S:=h.1;rw[cell_of_row _ _ _ _ _ _ h.2];simp[arrA,List.getD,(f6J:i<xs.length)]
theorem Ix.frozen{w g xs}(h:Ix w g xs) i:w.frozen? ⟨g,i,none⟩=false:=frozen_of_row _ _ _ _ _ h.2
theorem Ix.set{w g xs}(h:Ix w g xs) i v:Ix (w.setCell ⟨g,i,none⟩ (.int .u16 v)) g (xs.set i v):=by
 refine⟨by simp[h.1],?_⟩;rw[heap_setCell_same w g i _ _ _ h.2];simp[arrA,List.map_set]
def Tb(w:World)(g gi:Nat)(bv:Value)(d:Int):Prop:=w.heap[g]?=some (.cells #[.slice (some ⟨gi,0,none⟩) 17408 17408,bv,.int .i64 d] 144 (0,0))
theorem Tb.lt{w g gi bv d}(h:Tb w g gi bv d):g<w.heap.size:=(Array.getElem?_eq_some_iff.1 h).1
theorem Tb.cells{w g gi bv d}(h:Tb w g gi bv d):w.cell? ⟨g,0,none⟩=some (.slice (some ⟨gi,0,none⟩) 17408 17408)/\w.cell? ⟨g,1,none⟩=some bv/\w.cell? ⟨g,2,none⟩=some (.int .i64 d) :=
 ⟨S9z,S9z,S9z⟩
theorem Tb.frozen{w g gi bv d}(h:Tb w g gi bv d) i:w.frozen? ⟨g,i,none⟩=false:=frozen_of_row _ _ _ _ _ h
theorem Tb.set{w g gi bv d}(h:Tb w g gi bv d) bv':Tb (w.setCell ⟨g,1,none⟩ bv') g gi bv' d:=by
 unfold Tb at h ⊢;rw[heap_setCell_same w g 1 _ _ _ h];rfl
structure Keeps(w w':World)(row:Option Nat):Prop where
 block:∀k,k<w.heap.size->some k≠row->w'.heap[k]?=w.heap[k]?
theorem Keeps.of_below{w w'}(h:Bw w w') row:Keeps w w' row:=⟨fun k G _=>h.block k G⟩
theorem Keeps.of_grown{w w' row}(h:w.grownBy w' row):Keeps w w' row:=⟨h.block⟩
theorem Keeps.of_set w a v:Keeps w (w.setCell a v) (some a.block):=⟨fun k _ y=>heap_setCell_other w a k v (fun e=>y n5N)⟩
theorem Ix.keep{w w' g xs row}(h:Ix w g xs)(G:Keeps w w' row)(y:some g≠row):Ix w' g xs:=⟨h.1,by rw[G.block g h.lt y];exact h.2⟩
theorem Tb.keep{w w' g gi bv d}{row}(h:Tb w g gi bv d)(G:Keeps w w' row)(y:some g≠row):Tb w' g gi bv d:=by
 have S:=h.lt;unfold Tb at h ⊢;rw[G.block g S y];exact h
theorem Bk.keep{w w' g zs row}(h:Bk w g zs)(G:Keeps w w' row)(y:some g≠row):Bk w' g zs:=by
 have S:=h.lt;unfold Bk at h ⊢;rw[G.block g S y];exact h
theorem Ob.keep{e w w' B v}{bs row}(h:Ob e w B v bs)(G:Keeps w w' row)(y:∀k,row=some k->k<B):Ob e w' B v bs:=by
 refine⟨h.1,?_⟩;obtain⟨Z,D | ⟨g,M,A,N,C,H,r⟩⟩:=h.2
 ·exact⟨Z,.inl D⟩
 ·refine⟨Z,.inr ⟨g,M,A,N,C,?_,r⟩⟩;rw[G.block g (Array.getElem?_eq_some_iff.1 H).1 ?_]
  ·exact H
  ·grind
theorem x1r{w w' b n}{D:DataW Unit}{row}(h:w.ownsMap prog 147 (plainElem prog 145) b n D)(G:Keeps w w' row)(y:some b≠row):w'.ownsMap prog 147 (plainElem prog 145) b n D:=by
 have S:=h.lt;obtain⟨U,clock,Y,r⟩:=h;exact⟨U,clock,by rw[G.block b S y];exact Y,r⟩
theorem below_grown{B w w1 w2 row}(h:Below B w w1)(C:w1.grownBy w2 row)(l:B<=w1.heap.size)(hr:∀k,row=some k->B<=k):Below B w w2:=h.grown C l hr
def x5X(w:World)(rs:List Tri.Rg)(d:Int)(e:Ending)(w':World):Prop:=∃a,e=.returned (.pointer (some a))/\T4 w' w.heap.size (.pointer (some a)) rs d/\Below w.heap.size w w'
def bsAt(f:Int->Int)(p:Nat):List (List Int):=Tri.blkA [] ((Tri.pcs f).take p)
theorem z5D f p(s:p<17408):(Tri.pcs f).getD p []=Tri.blk f p:=by
 simp[Tri.pcs,List.getD,s]
theorem z2B f:bsAt f 17408=Tri.bls f:=by
 unfold bsAt Tri.bls;rw[List.take_of_length_le (by rw[Tri.x4W];exact f6J)]
theorem y0D f p(s:p<17408):bsAt f (p+1)=Tri.push (bsAt f p) (Tri.blk f p):=by
 unfold bsAt;rw[Tri.y0C _ _ _ (by rw[Tri.x4W];exact s),z5D f p s]
theorem z5r f p(s:p<17408):(Tri.idx f).getD p 0=(bsAt f p).idxOf (Tri.blk f p):=by
 rw[Tri.idx,Tri.y9v _ _ _ (by rw[Tri.x4W];exact s),z5D f p s];rfl
theorem z2C f p:(bsAt f p).length<=p:=by
 have:=(Tri.y3Y [] ((Tri.pcs f).take p)).2;rw[List.length_take]at this;unfold bsAt;simp only[List.length_nil]at this;omega
theorem y5v f p:(bsAt f p).Nodup:=Tri.y5u List.nodup_nil
theorem y8b{f}(h:∀c,0<=f c/\f c<=65535) p:x6r (bsAt f p):=by
 intro b Y;rcases Tri.blkA_sub Y with h1 | h1
 ·cases h1
 ·have D:=List.mem_of_mem_take h1;rw[Tri.pcs,List.mem_map]at D;obtain⟨q,_,rfl⟩:=D;exact y3Z h q
theorem z8t{f p}(s:p<17408)(z:Tri.blk f p∈bsAt f p):bsAt f (p+1)=bsAt f p/\(Tri.idx f).getD p 0=(bsAt f p).idxOf (Tri.blk f p)/\(bsAt f p).idxOf (Tri.blk f p)<(bsAt f p).length :=
 ⟨by rw[y0D f p s,Tri.z0J z],z5r f p s,List.idxOf_lt_length_iff.2 z⟩
theorem z4F{f p}(s:p<17408)(z:Tri.blk f p ∉ bsAt f p):bsAt f (p+1)=bsAt f p++[Tri.blk f p]/\(Tri.idx f).getD p 0=(bsAt f p).length:=by
 refine⟨by rw[y0D f p s];unfold Tri.push;rw[if_neg z],?_⟩;rw[z5r f p s];have Z:¬(bsAt f p).idxOf (Tri.blk f p)<(bsAt f p).length:=fun D=>z (List.idxOf_lt_length_iff.1 D);have D:(bsAt f p).idxOf (Tri.blk f p)<=(bsAt f p).length:=List.idxOf_le_length;omega
theorem z7G n:madeCells #[.int .u16 0] n=arrA (List.replicate n 0):=by
 apply Array.ext';rw[toList_madeCells_one];simp[arrA]
theorem q1j w d w3(h:w3=((w.alloc (.cells (madeCells #[.int .u16 0] 17408) 145)).alloc (.cells #[.slice (some ⟨w.heap.size,0,none⟩) 17408 17408,.slice none 0 0,.int .i64 d] 144)).alloc (.map #[] 0)) :
  Bw w w3/\Ix w3 w.heap.size (List.replicate 17408 0)/\Tb w3 (w.heap.size+1) w.heap.size (.slice none 0 0) d/\w3.ownsMap prog 147 (plainElem prog 145) (w.heap.size+1+1) 0 (dat []):=by
 subst h;refine⟨(((Below.refl _ w).alloc (l0r _) _).alloc M7N _).alloc P8P _,⟨List.length_replicate,?_⟩,?_,?_⟩
 ·rw[Below.heap_alloc _ _ _ P8P,Below.heap_alloc _ _ _ M7N,heap_alloc_last,z7G]
 ·unfold Tb;rw[Below.heap_alloc _ _ _ M7N];have:=heap_alloc_last (w.alloc (.cells (madeCells #[.int .u16 0] 17408) 145)) (.cells #[.slice (some ⟨w.heap.size,0,none⟩) 17408 17408,.slice none 0 0,.int .i64 d] 144);rwa [(M7N:(w.alloc (.cells (madeCells #[.int .u16 0] 17408) 145)).heap.size=w.heap.size+1)]at this
 ·have:=World.ownsMap_made (H:=Unit) ((w.alloc (.cells (madeCells #[.int .u16 0] 17408) 145)).alloc (.cells #[.slice (some ⟨w.heap.size,0,none⟩) 17408 17408,.slice none 0 0,.int .i64 d] 144)) prog 147 (plainElem prog 145);rwa [(M7N:((w.alloc (.cells (madeCells #[.int .u16 0] 17408) 145)).alloc (.cells #[.slice (some ⟨w.heap.size,0,none⟩) 17408 17408,.slice none 0 0,.int .i64 d] 144)).heap.size=w.heap.size+1+1)]at this
theorem z6O xs(l:List Nat)(h:xs.length=l.length)(A:∀j,j<l.length->xs.getD j 0=((l.getD j 0:Nat):Int)):xs=l.map fun n:Nat=>(n:Int):=by
 apply List.ext_getElem (by rw[h,List.length_map]);intro j a b;have:=A j T5W;rw[List.getElem_map];simp only[List.getD,List.getElem?_eq_getElem a,Option.getD_some]at this;rw[this,List.getElem?_eq_getElem T5W];rfl
theorem z7d(l:List Nat)(h:∀j,j<l.length->l.getD j 0<=65535):Fit .u16 (l.map fun n:Nat=>(n:Int)):=by
 intro z T;obtain⟨n,F,rfl⟩:=List.mem_map.1 T;obtain⟨j,X,rfl⟩:=List.getElem_of_mem F;have q:=h j X;simp only[List.getD,List.getElem?_eq_getElem X,Option.getD_some]at q;simp[IntKind.min,IntKind.max,IntKind.signed,IntKind.bits];omega
theorem ix_ok n(F:n<=100000){wr B gI} zs(l:B<=gI)(S:zs.length=n)(A:Fit .u16 zs)(H:wr.heap[gI]?=some (.cells (arrA zs) 145 (0,0))):Ok .u16 145 wr B (.slice (some ⟨gI,0,none⟩) n n) zs:=by
 refine⟨A,by rw[List.length_map];exact f6J,?_⟩;rw[List.length_map,S];refine⟨by rw[List.length_map,Nat.mul_one,S],.inr ⟨gI,n,arrA zs,rfl,l,H,l0r _,T7W,by rw[x1K,Nat.mul_one,S],?_⟩⟩;rw[Nat.mul_one,List.take_of_length_le (by rw[Array.length_toList,x1K,S];exact f6J)];simp[arrA]
theorem Ob.lower{e w B B' v}{bs}(h:Ob e w B v bs)(Y:B'<=B):Ob e w B' v bs:=by
 refine⟨h.1,h.2.1,?_⟩;rcases h.2.2 with h | ⟨g,M,A,N,C,r⟩
 ·exact .inl h
 ·exact .inr ⟨g,M,A,N,f6J,r⟩
theorem y9x f j(X:j<(Tri.idx f).length):(Tri.idx f).getD j 0<=65535:=by
 have Z:=Tri.idx_len f;have D:=Tri.y8a f;have J:=(Tri.y7Z f j f6J).2;omega
theorem fin4{w wr}{rs:List Tri.Rg}{d gI gT gM bv xs}(I:Tri.Val 0 rs)(hd:0<=d/\d<=65535)(Z:w.heap.size<=gI)(D:w.heap.size<=gT)(J:w.heap.size<=gM)
  (C:Ix wr gI xs) (A:∀j,j<17408->xs.getD j 0=(((Tri.idx (Tri.get d rs)).getD j 0:Nat):Int)) (b:Tb wr gT gI bv d) (F:Ob 147 wr (gM+1) bv (bsAt (Tri.get d rs) 17408)) (Y:Bw w wr) :
  x5X w rs d (.returned (.pointer (some ⟨gT,0,none⟩))) wr:=by
 have B:=Tri.idx_len (Tri.get d rs);have n:=z6O xs (Tri.idx (Tri.get d rs)) (C.1.trans B.symm) (fun j X=>A j (by rw[B]at X;exact X));have s:=z7d (Tri.idx (Tri.get d rs)) (y9x (Tri.get d rs));have l:=ix_ok 17408 f6J xs Z C.1 (by rw[n];exact s) C.2;rw[n]at l;rw[z2B]at F;exact⟨_,rfl,⟨I,hd,gT,_,bv,rfl,D,b,l,F.lower f6J⟩,Y⟩
theorem y8t v(rs:List Tri.Rg) d w(hv:Sr w v rs)(aC:Tri.Val 0 rs)(hd:0<=d/\d<=65535) :
  Calls prog 248 #[v,.int .i64 d] w (x5X w rs d):=by
 have HV:=O aC;have cL:=O hv;have S:Hid (∀c,0<=Tri.get d rs c/\Tri.get d rs c<=65535):=fun c=>Tri.y1g hd aC;have cf:Hid (∀wr m A gM bv xs,w.heap.size<=m->w.heap.size<=A->w.heap.size<=gM->Ix wr m xs->(∀j,j<17408->xs.getD j 0=(((Tri.idx (Tri.get d rs)).getD j 0:Nat):Int))->Tb wr A m bv d->Ob 147 wr (gM+1) bv (bsAt (Tri.get d rs) 17408)->Bw w wr->x5X w rs d (.returned (.pointer (some ⟨A,0,none⟩))) wr):=fun wr m A gM bv xs a1 a2 a3 a4 a5 a6 a7 a8=>fin4 aC hd a1 a2 a3 a4 a5 a6 a7 a8
 have ce:Hid (∀(k p:Nat),(∀j,j<k->Tri.hi (rs.getD j (0,0,0))<64*(p:Int))->Tri.blk (Tri.get d (rs.drop k)) p=Tri.blk (Tri.get d rs) p):=by
  intro k p h;unfold Tri.blk;refine List.map_congr_left fun i _=>?_;exact Tri.z3s k fun j hj _=>by have:=h j hj;exact f6J
 have bF:Hid (∀(u:Value) (k p:Nat) (w':World),Sr w' u (rs.drop k)->p<17408->Calls prog 285 #[u,.int .i64 ((p:Int)*64),.int .i64 d] w' (y7u w' (Tri.blk (Tri.get d (rs.drop k)) p))):=fun u k p w' h1 h2=>z8L u _ d p w' h1 (Tri.z4P aC k) hd h2;obtain⟨d1,d2⟩:=hd;have dz:=@run_makeMap prog;have dy:∀w,(Instr.makeSlice 141 (.int .i64 17408) (.int .i64 17408)).run prog w=.ok (.slice (some ⟨w.heap.size,0,none⟩) 17408 17408) (w.alloc (.cells (madeCells #[.int .u16 0] 17408) 145)):=run_make_row' (P:=prog) 141 145 (.int .u16 0) 2 underlying141 Tryz.info145 rfl .i64 .i64 17408 f6J f6J;have cS:=O (q1j w d);generalize Tri.get d rs=f at *;go_enter func248,ntmps248;go_wp2;have cM:=V cS _ rfl;generalize((w.alloc (.cells (madeCells #[.int .u16 0] 17408) 145)).alloc (.cells #[.slice (some ⟨w.heap.size,0,none⟩) 17408 17408,.slice none 0 0,.int .i64 d] 144)).alloc (.map #[] 0)=wz at *;obtain⟨m,bm⟩:∃g,g=w.heap.size:=⟨_,rfl⟩;obtain⟨A,bM⟩:∃g,g=w.heap.size+1:=⟨_,rfl⟩;obtain⟨gM,bL⟩:∃g,g=w.heap.size+1+1:=⟨_,rfl⟩;obtain⟨cI,bH,bJ,bI⟩:=cM;rw[<- bL]at bI;rw[<- bM,<- bm]at bJ;rw[<- bm]at bH;have dl:m<A:=f6J;have dr:A<gM:=f6J;have aV:w.heap.size<=m:=f6J;rw[<- bL,<- bM,<- bm];clear bm bM bL;go_loopw[0,17] (fun l i wr=>∃(p k:Nat) (bv:Value) (xs:List Int),i=.int .i64 p/\p<=17408/\Sr w l (rs.drop k)/\k<=rs.length/\(∀j,j<k->Tri.hi (rs.getD j (0,0,0))<64*(p:Int))/\Ix wr m xs/\(∀j,j<p->xs.getD j 0=(((Tri.idx f).getD j 0:Nat):Int))/\Tb wr A m bv d/\Ob 147 wr (gM+1) bv (bsAt f p)/\wr.ownsMap prog 147 (plainElem prog 145) gM p (dat (bsAt f p))/\Bw w wr) (fun _ i _=>17408-(intOf i).toNat)
 case atStart=>exact⟨0,0,_,_,rfl,f6J,by simpa using V cL,f6J,fun j hj=>f6J,bH,fun j hj=>f6J,bJ,⟨fun b hb=>(by cases hb),World.ownsRow_nil _ _ _ _⟩,bI,cI⟩
 case round =>
  clear cI bH bJ bI cL;obtain⟨p,k,bv,xs,rfl,hp,hs,hk,bO,hI,bp,hT,hB,hM,T⟩:=hrel;by_cases aJ:p<17408
  ·have cE:Fi ((p:Int)*64):=(by constructor<;>omega);have dt:(0:Int)<=(p:Int):=f6J;have du:(p:Int)<17408:=f6J;have cz:=O (z0S _ (rs.drop k) ((p:Int)*64) w wr hs T cE);have cU:=O bp;have HI:=O hI;have HT:=O hT;have HB:=O hB;have HM:=O hM;have cj:=O bO;clear cE hs bp hI hT hB hM bO;go_wp2_with fail;refine(V cz).mono ?_;rintro e w1 ⟨rfl,v1,k1,rfl,aA,aI,cK⟩;clear cz;have aA:Sr w v1 (rs.drop (k+k1)):=(by rw[<- List.drop_drop];exact aA);have aI:k+k1<=rs.length:=by rw[List.length_drop]at aI;omega
   have bN:∀j,j<k+k1->Tri.hi (rs.getD j (0,0,0))<64*(p:Int):=by
    intro j hj;by_cases cY:j<k
    ·exact V cj j cY
    ·have:=cK (j-k) f6J;rw[show(rs.drop k).getD (j-k) (0,0,0)=rs.getD j (0,0,0)by simp[List.getD,List.getElem?_drop,(f6J:k+(j-k)=j)]]at this;omega
   have aO:=V bF v1 (k+k1) p w1 (aA.below T) aJ;rw[V ce _ _ bN]at aO;have aO:=O aO;have ci:=O bN;clear cj cK bN;generalize k+k1=kk at *;go_wp2_with fail;refine c0m aO fun w2 aH=>?_;clear aO;have J:Good (Tri.blk f p):=y3Z (V S) p;have bK:=y8b (V S) p;have ar:=O (z9N (bsAt f p) bK (y5v f p) (Tri.blk f p) J);have cX:=z2C f p;have bA:=O (fun hm=>z8t (f:=f) aJ hm);have aM:=O (fun hm=>z4F (f:=f) aJ hm);have ag:=y4C J;have az:=J.1;have dv:=T.size;have cJ:Bw w (w2.alloc (.cells (arrA (Tri.blk f p)) 147)):=(T.trans (aH.mono T.size)).alloc (Nat.le_trans T.size aH.size) _;have K3:Keeps w1 (w2.alloc (.cells (arrA (Tri.blk f p)) 147)) none:=Keeps.of_below (aH.alloc aH.size _) none;have F:=O ((V HI).keep K3 (by simp));have aj:=O ((V HT).keep K3 (by simp));have ai:=O ((V HB).keep K3 (fun k h=>by cases h));have H:=x1r (V HM) K3 (by simp);have aR:Bk (w2.alloc (.cells (arrA (Tri.blk f p)) 147)) w2.heap.size (Tri.blk f p):=Bk.new w2 _ _ rfl;have B:=aR.box;have de:=fun w=>y7i w (Tri.blk f p) az;have dq:gM<w1.heap.size:=(V HM).lt;have dh:=aH.size;clear HI HT HB HM K3 aH T;generalize Tri.blk f p=zs,bsAt f p=bs at *;have cV:((arrA zs).toList:List Value)=zs.map (Value.int .u16):=(by simp[arrA]);have bU:(arrA zs).size=64:=(by rw[x1K,az]);have aK:=O B;have aL:=O ag;have bE:=O H;have aZ:=O cJ;have bu:=O aR;clear B ag H cJ aR
   set_option maxRecDepth 100000 in
   go_upto_region 9 with fail;clear de cV bU;have H:=V bE;have ag:=V aL;have B:=V aK;generalize w2.alloc (.cells (arrA zs) 147)=w3 at *;go_wp2_with(first| refine wpList_load_mid rfl 147 (.tmp 9) rfl w2.heap.size 0 rfl (zs.map (Value.int .u16)) _ B underlying147 rfl (x6T az) ?_|(at_lookup;refine wpList_lookup_own_ok_int _ rfl _ _ 362 rfl 147 145 .u16 y3S underlying362 underlying145 (z8U _) gM p (dat bs) rfl H _ (keyL zs) rfl ag ?_));intro c X cN;have F:=V F;have aj:=V aj;have bt:=ai;have bh:=F.cell (i:=p) aJ;have bj:=F.frozen p;have bw:∀j,j<kk->Tri.hi (rs.getD j (0,0,0))<64*((p+1:Nat):Int):=fun j hj=>(by have:=V ci j hj;exact f6J);have ba:=O bw
   have be:Hid (∀n:Int,n=(((Tri.idx f).getD p 0:Nat):Int)->∀j,j<p+1->(xs.set p n).getD j 0=(((Tri.idx f).getD j 0:Nat):Int)):=by
    intro n hn j hj;rw[x8V xs p j n (by rw[F.1];exact aJ)];by_cases bQ:j=p
    ·rw[if_pos bQ,hn,bQ]
    ·rw[if_neg bQ];exact V cU j f6J
   clear bw ci;by_cases hm:zs∈bs
   ·obtain⟨e1,e2,e3⟩:=V bA hm;have aw:Maps.has (dat bs) (keyL zs)=true:=by rw[(V ar).1,d0t hm]
    have hc:c=(bs.idxOf zs:Int):=by
     rw[(V ar).2 hm]at X;simpa using X.symm
    subst hc;rw[aw];have aP:=O (V be (bs.idxOf zs:Int) (by rw[e2]));have cF:=F.set p (bs.idxOf zs:Int);have K5:=Keeps.of_set w3 ⟨m,p,none⟩ (.int .u16 (bs.idxOf zs:Int));have cH:=aj.keep K5 P8U;have cD:=(V ai).keep K5 (fun k h=>E0V);have cG:=(x1r H K5 P8U).mono (Nat.le_succ p);have cW:=(V aZ).setCell (p:=⟨m,p,none⟩) aV (.int .u16 (bs.idxOf zs:Int));obtain⟨y0,y1,y2⟩:=aj.cells;have cQ:=O cF;have cT:=O cH;have cP:=O cD;have cR:=O cG;have E1:=O e1;have dw:=O F;clear X cN aw ar bA aM be cF K5 cH cD cG e1 e2 bE H aj F B aK aZ ai bt bu ag aL hm cX bK;generalize(bs.idxOf zs:Int)=n at *;go_wp2
    go_roundw
    case rel=>exact⟨p+1,kk,bv,xs.set p n,by go_num,f6J,aA,aI,V ba,V cQ,V aP,V cT,by rw[V E1];exact V cP,by rw[V E1];exact V cR,cW⟩
    case measure=>exact g7W
   ·obtain⟨e1,e2⟩:=V aM hm;have aw:Maps.has (dat bs) (keyL zs)=false:=(by rw[(V ar).1,d0f hm]);rw[aw];have aP:=O (V be (bs.length:Int) (by rw[e2]));have E1:=O e1;have ai:=V ai;obtain⟨ao,D,rfl,dj,dk⟩:=ai.sb.shape;obtain⟨y0,y1,y2⟩:=aj.cells;have cZ:(0:Int)<=(bs.length:Int):=f6J;have da:(bs.length:Int)<=65535:=f6J;have di:(Lit.int .u16 (bs.length:Int)).wf=true:=z5J ⟨cZ,da⟩;have cd:=O ai;have cB:=O aj;have cw:=O F;clear X cN aw ar bA aM be e1 e2 bE aj F aK ai bt aL bK bh bj;go_wp2_with(first| refine wpList_load_mid rfl 147 (.tmp 9) rfl w2.heap.size 0 rfl (zs.map (Value.int .u16)) _ B underlying147 rfl (x6T az) ?_|(at_mapUpdate;refine wpList_mapUpdate_own _ rfl _ _ _ 362 rfl 147 145 y3S underlying362 (plainElem prog 145) gM p (dat bs) rfl H T7X _ _ (keyL zs) rfl rfl ag (.lit (.int .u16 (bs.length:Int))) [] (plainElem_int underlying145 di) ?_));intro w4 q aU;have K4:=Keeps.of_grown aU;have am:=(V cB).keep K4 P8U;have aG:=(V cw).keep K4 P8U;have aQ:=(V cd).keep K4 (fun k h=>by cases h;exact f6J);have bn:=(V bu).keep K4 P8U;have aq:=below_grown (V aZ) aU (V aZ).size (fun k h=>by cases h;exact f6J);rw[<- y4i]at q;have ay:=aQ.2;have Y:=ay.lt;obtain⟨i0,z0,bP,bV,bX,bY,bZ⟩:=q0n;obtain⟨x0,x1,x2⟩:=am.cells;have dx:=am.frozen 1;have af:=y5Z z64 rfl zs az;have dp:=q.lt;have bT:∀v∈zs.map (Value.int .u16),v.oneCell'=true:=x0R .u16 zs;have bR:some A≠(Value.slice ao bs.length D).ownBlock:=fun e=>i6U;have bR:some A≠(Value.slice ao bs.length D).ownBlock:=fun e=>by have:=(Y _ e.symm).1;omega
    have cC:∀(W R:World) (o:Obj),W.heap=(w4.alloc o).heap->W.grownBy R (Value.slice ao bs.length D).ownBlock->Keeps w4 R (Value.slice ao bs.length D).ownBlock:=by
     intro W R o hW hg
     exact⟨fun k hk db=>by
      rw[hg.block k (by rw[hW];exact P8U) db,hW]
      exact Below.heap_alloc w4 o k hk⟩
    have aF:=O cC;have bD:=O bR
    have aN:Hid (∀(R:World) (x:Value),Tb R A m (.slice ao bs.length D) d->∀s M,x=.slice (some ⟨s,0,none⟩) (bs.length+1) M->(Instr.storeAt 142 (.pointer (some ⟨A,1,none⟩)) x).run prog R=.ok () (R.setCell ⟨A,1,none⟩ x)):=by
     intro R x ae s M hx;subst hx;obtain⟨_,q1,_⟩:=ae.cells;have q2:=ae.frozen 1;go_simp
    have aX:(Instr.loadAt 142 (.pointer (some ⟨A,1,none⟩))).run prog w4.drew=.ok (.slice ao bs.length D) w4.drew:=by
     have q1:w4.drew.cell? ⟨A,1,none⟩=some (.slice ao bs.length D):=x1;go_simp
    have aB:(Instr.loadAt 142 (.pointer (some ⟨A,1,none⟩))).run prog (w4.drew.alloc (.cells (zs.map (Value.int .u16)).toArray 147))=.ok (.slice ao bs.length D) (w4.drew.alloc (.cells (zs.map (Value.int .u16)).toArray 147)):=by
     have q1:(w4.drew.alloc (.cells (zs.map (Value.int .u16)).toArray 147)).cell? ⟨A,1,none⟩=some (.slice ao bs.length D):=by
      rw[((Below.refl _ w4.drew).alloc (l0r _) _).cell (x0a (w:=w4) x1)];exact x1
     generalize w4.drew.alloc (.cells (zs.map (Value.int .u16)).toArray 147)=wq at *;go_simp
    have aY:=run_loadAt_mid (P:=prog) w4.drew w2.heap.size 0 147 (zs.map (Value.int .u16)) _ bn.box underlying147 rfl (x6T az);have af:=y6V 142 147 underlying142 q0m w4.drew zs az;have z:(w4.drew.alloc (.cells (zs.map (Value.int .u16)).toArray 147)).ownsRow (gM+1) 147 64 (.slice ao bs.length D) bs.length (x2a bs):=World.ownsRow.alloc (w:=w4.drew) ay _
    have y:∀j u,(zs.map (Value.int .u16))[j]?=some u->(w4.drew.alloc (.cells (zs.map (Value.int .u16)).toArray 147)).cell? ((⟨w4.heap.size,0,none⟩:Addr).add j)=some u:=by
     intro j u hj;have h9:=heap_alloc_last w4.drew (.cells (zs.map (Value.int .u16)).toArray 147);rw[addr_add,Nat.zero_add,cell_of_row _ w4.heap.size j _ _ _ h9];simpa using hj
    have bS:(zs.map (Value.int .u16)).length=1*64:=P8U;have I:gM+1<=(w4.drew.alloc (.cells (zs.map (Value.int .u16)).toArray 147)).heap.size:=(by have h9:w4.drew.heap.size=w4.heap.size:=rfl;exact P8U);have bG:(w4.drew.alloc (.cells (zs.map (Value.int .u16)).toArray 147)).heap.size=w4.heap.size+1:=(by have h9:w4.drew.heap.size=w4.heap.size:=rfl;simp);have bB:Hid (some m≠(Value.slice ao bs.length D).ownBlock):=fun e=>i6U;have bC:Hid (some gM≠(Value.slice ao bs.length D).ownBlock):=fun e=>i6U
    have aD:Hid (∀(R:World) (x:Value),R.ownsRow (gM+1) 147 64 x (bs.length+1) (x2a bs++zs.map (Value.int .u16))->Ob 147 R (gM+1) x (bs++[zs])):=by
     intro R x h;refine⟨fun b hb=>?_,?_⟩
     ·rcases List.mem_append.1 hb with h1 | h1
      ·exact aQ.1 b h1
      ·simp at h1;subst h1;exact J
     ·rw[y5r,x9i,List.length_append];exact h
    have r:Hid (∀(R:World) (x:Value),Tb R A m (.slice ao bs.length D) d->Ix R m xs->R.ownsMap prog 147 (plainElem prog 145) gM (p+1) (dat (bs++[zs]))->Ob 147 R (gM+1) x (bs++[zs])->Bw w R ->
      ((R.setCell ⟨A,1,none⟩ x).cell? ⟨A,0,none⟩=some (.slice (some ⟨m,0,none⟩) 17408 17408)/\(R.setCell ⟨A,1,none⟩ x).cell? ⟨A,1,none⟩=some x/\(R.setCell ⟨A,1,none⟩ x).cell? ⟨A,2,none⟩=some (.int .i64 d))/\(R.setCell ⟨A,1,none⟩ x).cell? ⟨m,p,none⟩=some (.int .u16 (xs.getD p 0))/\(R.setCell ⟨A,1,none⟩ x).frozen? ⟨m,p,none⟩=false /\
      (Ix ((R.setCell ⟨A,1,none⟩ x).setCell ⟨m,p,none⟩ (.int .u16 (bs.length:Int))) m (xs.set p (bs.length:Int))/\Tb ((R.setCell ⟨A,1,none⟩ x).setCell ⟨m,p,none⟩ (.int .u16 (bs.length:Int))) A m x d/\Ob 147 ((R.setCell ⟨A,1,none⟩ x).setCell ⟨m,p,none⟩ (.int .u16 (bs.length:Int))) (gM+1) x (bs++[zs]) /\
       ((R.setCell ⟨A,1,none⟩ x).setCell ⟨m,p,none⟩ (.int .u16 (bs.length:Int))).ownsMap prog 147 (plainElem prog 145) gM (p+1) (dat (bs++[zs]))/\Bw w ((R.setCell ⟨A,1,none⟩ x).setCell ⟨m,p,none⟩ (.int .u16 (bs.length:Int))))):=by
     intro R x a1 a2 a3 a4 a5;have b1:=a1.set x;have k1:=Keeps.of_set R ⟨A,1,none⟩ x;have b2:=a2.keep k1 P8U;have b3:=x1r a3 k1 P8U;have b4:=a4.keep k1 (fun k h=>E0V);have b5:=a5.setCell (p:=⟨A,1,none⟩) (f6J:w.heap.size<=A) x;have k2:=Keeps.of_set (R.setCell ⟨A,1,none⟩ x) ⟨m,p,none⟩ (.int .u16 (bs.length:Int));exact⟨b1.cells,b2.cell aJ,b2.frozen p,b2.set p _,b1.keep k2 P8U,b4.keep k2 (fun k h=>E0V),x1r b3 k2 P8U,b5.setCell (p:=⟨m,p,none⟩) aV _⟩
    have aS:w.heap.size<=w4.drew.heap.size:=aq.size;have aW:w.heap.size<=gM+1:=f6J;have aT:w.heap.size<=(w4.drew.alloc (.cells (zs.map (Value.int .u16)).toArray 147)).heap.size:=(by have h9:w4.drew.heap.size=w4.heap.size:=rfl;have:=aq.size;exact P8U);clear B cC bR;go_wp2;refine wp_region_any f4B ?_;change wpAny _ _ _ _ _ _ _ (World.drew _);refine wpAny_take (i:=0) (oi:=⟨some 46,_,_,_,_,_⟩) (v:=.pointer (some ⟨A,0,none⟩)) rfl f4B f4B f4B (fun _ _ _ h=>h) (Or.inl ⟨by rfl,?_⟩) ?_
    ·intro w;go_simp
    simp only[Act.put,sa9,sb9,sc9];refine wpAny_take (i:=1) (oi:=⟨some 47,_,_,_,_,_⟩) (v:=.pointer (some ⟨A,0,none⟩)) rfl f4B f4B f4B (fun _ _ _ h=>h) (Or.inl ⟨by rfl,?_⟩) ?_
    ·intro w;go_simp
    simp only[Act.put,sa9,sb9,sc9];refine wpAny_take (i:=2) (oi:=⟨some 48,_,_,_,_,_⟩) (v:=.pointer (some ⟨A,0,none⟩)) rfl f4B f4B f4B (fun _ _ _ h=>h) (Or.inl ⟨by rfl,?_⟩) ?_
    ·intro w;go_simp
    simp only[Act.put,sa9,sb9,sc9];refine wpAny_take (i:=3) (oi:=⟨some 49,_,_,_,_,_⟩) (v:=.pointer (some ⟨A,1,none⟩)) rfl f4B f4B f4B (fun _ _ _ h=>h) (Or.inl ⟨by rfl,?_⟩) ?_
    ·intro w;go_simp
    simp only[Act.put,sa9,sb9,sc9];refine wpAny_ready (rs:=[4,5]) f4B (by simp) ?_;refine AllReady.cons (o:=⟨some 50,_,_,_,_,_⟩) rfl (fun K hK=>?_) (AllReady.cons (o:=⟨some 51,_,_,_,_,_⟩) rfl (fun K hK=>?_) AllReady.nil)
    ·refine x1P (by rfl) 142 (.tmp 49) (by rfl) _ _ (by rfl) aX ?_;refine hK _ _ ?_;clear hK K;simp only[Act.put,sa9,sb9,sc9];refine wpAny_ready (rs:=[5]) f4B (by simp) ?_;refine AllReady.cons (o:=⟨some 51,_,_,_,_,_⟩) rfl (fun K hK=>?_) AllReady.nil;refine x1P (by rfl) 147 (.tmp 9) (by rfl) _ _ (by rfl) aY ?_;exact i7f
    ·refine x1P (by rfl) 147 (.tmp 9) (by rfl) _ _ (by rfl) aY ?_;refine hK _ _ ?_;clear hK K;simp only[Act.put,sa9,sb9,sc9];refine wpAny_ready (rs:=[4,6]) f4B (by simp) ?_;refine AllReady.cons (o:=⟨some 50,_,_,_,_,_⟩) rfl (fun K hK=>?_) (AllReady.cons (o:=⟨some 52,_,_,_,_,_⟩) rfl (fun K hK=>?_) AllReady.nil)
     ·refine x1P (by rfl) 142 (.tmp 49) (by rfl) _ _ (by rfl) aX ?_;exact i7f
     ·refine x2k (by rfl) 142 (.tmp 51) (by rfl) _ _ (by rfl) af ?_;refine hK _ _ ?_;clear hK K;simp only[Act.put,sa9,sb9,sc9];refine wpAny_ready (rs:=[4]) f4B (by simp) ?_;refine AllReady.cons (o:=⟨some 50,_,_,_,_,_⟩) rfl (fun K hK=>?_) AllReady.nil;refine x1P (by rfl) 142 (.tmp 49) (by rfl) _ _ (by rfl) aB ?_;exact v9b
  ·obtain rfl:p=17408:=f6J;have HR:=V cf wr m A gM bv xs aV f6J f6J hI bp hT hB T;clear hI bp hT hB hM T hs bO;go_wp2;go_ret;exact HR
end Go.Proofs.YtkfcabdmkmljjaaGreatDoor.Ti
namespace Go.Proofs.YtkfcabdmkmljjaaGreatDoor.Ti
open Go.Proofs.Tryz
open Go.RowKit
def okv(n:Int):Bool:=decide (0<=n/\n<=65535)
theorem okv_lo{n}(h:n<0):okv n=false:=by unfold okv;rw[d0f];exact f6J
theorem okv_hi{n}(h:65535<n):okv n=false:=by unfold okv;rw[d0f];exact f6J
theorem z5B{n}(h:¬n<0)(D:¬65535<n):okv n=true:=by unfold okv;rw[d0t];exact f6J
theorem y4A n w(F:Fi n):Calls prog 283 #[.int .i64 n] w fun e w'=>e=.returned (.bool (okv n))/\w'=w:=by
 obtain⟨Z,D⟩:=F;by_cases t:n<0
 ·rw[okv_lo t];exact m8X
 ·by_cases f:65535<n
  ·rw[okv_hi f];have T:¬n<=65535:=f6J;exact m8X
  ·rw[z5B t f];have T:n<=65535:=f6J;exact m8X
theorem z9U l h x b w(S:Fi l)(H:Fi h)(A:Fi x)(Y:Fi b):Calls prog 282 #[.agg #[.int .i64 l,.int .i64 h,.int .i64 x],.int .i64 b] w (z5O w (Tri.bad (some b) (l,h,x))):=by
 have L:=O (fun w'=>y4A x w' A);obtain⟨M,v⟩:=S;obtain⟨Z,D⟩:=H;obtain⟨u,N⟩:=A;obtain⟨b1,m⟩:=Y;have q:Bw w (w.alloc (.cells #[.int .i64 l,.int .i64 h,.int .i64 x] 272)):=(b0r).alloc (l0r _) _;by_cases t:l<0
 ·rw[x6y (r:=(l,h,x)) (.inl t)];exact I4O
 ·by_cases f:1114111<h
  ·rw[x6y (r:=(l,h,x)) (.inr (.inl f))];exact I4O
  ·by_cases T:h<l
   ·rw[x6y (r:=(l,h,x)) (.inr (.inr T))];exact I4O
   ·have F:¬(Tri.lo (l,h,x)<0\/1114111<Tri.hi (l,h,x)\/Tri.hi (l,h,x)<Tri.lo (l,h,x)):=(by simp only[Tri.x7a,Tri.x9y];exact f6J);by_cases C:x<0\/65535<x
    ·rw[y7R F C];have G:okv x=false:=(by rcases C with h | h;exact okv_lo h;exact okv_hi h);rw[G]at L;exact T6F
    ·have G:okv x=true:=z5B f6J f6J;rw[G]at L;by_cases I:l<=b
     ·rw[y7Q F C I];exact T6F
     ·rw[z2r F C I];exact T6F
def prz(rs:List Tri.Rg):Nat->Int
 | 0=>-1
 | k+1=>Tri.hi (rs.getD k (0,0,0))
theorem z6e(rs:List Tri.Rg) k(r:Tri.Rg):Tri.bad (some (prz rs k)) r=Tri.bad (prv rs k) r:=by
 cases k with
 | zero =>
  unfold Tri.bad prz prv;split
  ·rfl
  ·grind
 | succ k=>rfl
theorem y2M v(rs:List Tri.Rg) d w(N:Sr w v rs)(hd:Fi d) :
  Calls prog 247 #[v,.int .i64 d] w (x2o w (Tri.check d rs)):=by
 have S:=N.len;have L:=O (fun w'=>y4A d w' hd);obtain⟨aj,y⟩:=hd
 have ab:Hid (∀r,r=Tri.x1y d rs.length (prv rs rs.length) (rs.drop rs.length)->∀wr,Bw w wr->(okv d=false->x2o w r (.returned (.tuple #[.int .i64 (rs.length:Int),.int .i64 42])) wr)/\(okv d=true->x2o w r (.returned (.tuple #[.int .i64 0,.int .i64 0])) wr)):=by
  intro r u wr Y;rw[List.drop_length]at u;simp only[Tri.x1y]at u;refine⟨fun h=>x2o.mk (by rw[u,if_pos (by unfold okv at h;have:=of_decide_eq_false h;exact f6J)]) Y,fun h=>x2o.mk (by rw[u,if_neg (by unfold okv at h;have:=o0d h;exact f6J)]) Y⟩
 have z:Hid (Tri.x1y d 0 (prv rs 0) (rs.drop 0)=Tri.check d rs):=R6P;have s:=O N.1;have Z:=O N;obtain⟨ao,M,rfl,H,g⟩:=N.shape;generalize Tri.check d rs=A at *;go_enter func247,ntmps247;go_wp2;go_loopw[6,12] (fun b i wr=>∃k:Nat,i=.int .i64 k/\b=.int .i64 (prz rs k)/\k<=rs.length/\Bw w wr/\A=Tri.x1y d k (prv rs k) (rs.drop k)) (fun _ i _=>rs.length-(intOf i).toNat)
 case atStart=>exact⟨0,rfl,rfl,f6J,b0r,(V z).symm⟩
 case round =>
  obtain⟨k,rfl,rfl,G,T,B⟩:=hrel;by_cases ae:k<rs.length
  ·obtain⟨bx,ai,J,C,_,_,ag⟩:=(V Z).place f6J;simp only[Value.slice.injEq]at C;obtain⟨rfl,_,rfl⟩:=C;obtain⟨p,X,c2⟩:=ag k ae;rw[<- T.cell (x0a p)]at p;rw[<- T.cell (x0a X)]at X;rw[<- T.cell (x0a c2)]at c2;have u:=(V s).at k
   have af:Fi (prz rs k):=by
    cases k with
    | zero=>simp[prz,Fi]
    | succ k=>exact((V s).at k).2.1
   have U:=O (fun w'=>z9U (Tri.lo (rs.getD k (0,0,0))) (Tri.hi (rs.getD k (0,0,0))) (Tri.vl (rs.getD k (0,0,0))) (prz rs k) w' u.1 u.2.1 u.2.2 af);have j:(Tri.lo (rs.getD k (0,0,0)),Tri.hi (rs.getD k (0,0,0)),Tri.vl (rs.getD k (0,0,0)))=rs.getD k (0,0,0):=rfl;have m:prz rs (k+1)=Tri.hi (rs.getD k (0,0,0)):=rfl;rw[y5C ae,<- z6e]at B;rw[j]at U;have HS:=O B;have f:=O m;obtain⟨p1,p2⟩:=af;obtain⟨⟨f1,f2⟩,⟨f3,f4⟩,c,f6⟩:=u
   have HK:Hid (∀x,x=Tri.bad (some (prz rs k)) (rs.getD k (0,0,0))->x=0\/x=40\/x=41\/x=42):=by
    intro x hx;subst hx;unfold Tri.bad;split
    ·simp
    ·grind
   generalize Tri.bad (some (prz rs k)) (rs.getD k (0,0,0))=q,Tri.lo (rs.getD k (0,0,0))=l,Tri.hi (rs.getD k (0,0,0))=h,Tri.vl (rs.getD k (0,0,0))=x at *;have n:=T.size;have W:Bw w (wr.alloc (.cells #[.int .i64 l,.int .i64 h,.int .i64 x] 272)):=T.alloc n _;have D:(wr.alloc (.cells #[.int .i64 l,.int .i64 h,.int .i64 x] 272)).cell? ⟨wr.heap.size,1,none⟩=some (.int .i64 h):=M7N;go_wp2_with fail;refine c1m (V U _) fun w1 F=>?_;have I:Bw w w1:=W.trans (F.mono W.size);rw[<- F.cell (x0a D)]at D;by_cases hq:q=0
   ·subst hq;have R:=O ((V HS).trans (if_pos rfl));go_wp2
    go_roundw
    case rel=>exact⟨k+1,g2C,by rw[V f],f6J,I,V R⟩
    case measure=>exact g7T
   ·have HR:x2o w A (.returned (.tuple #[.int .i64 (k:Int),.int .i64 q])) w1:=x2o.mk ((V HS).trans (if_neg hq)) I;have t:(q != 0)=true:=(by simp[hq]);go_wp2;go_ret2;exact HR
  ·obtain rfl:k=rs.length:=f6J;have HE:=V ab _ B _ T
   cases ho:okv d with
   | false =>
    rw[ho]at L HE;have U:=HE.1 rfl;exact M0j
   | true =>
    rw[ho]at L HE;have U:=HE.2 rfl;exact M0j
end Go.Proofs.YtkfcabdmkmljjaaGreatDoor.Ti
namespace Go.Proofs.YtkfcabdmkmljjaaGreatDoor.Ti
open Go.Proofs.Tryz
open Go.RowKit
theorem T4.lower{w B B' t}{rs:List Tri.Rg}{d}(h:T4 w B t rs d)(Y:B'<=B):T4 w B' t rs d:=by
 obtain⟨Z,D,g,C,N,J,H,A,q,y⟩:=h;exact⟨Z,D,g,C,N,J,f6J,A,q.lower Y,y.lower Y⟩
theorem z5h v(rs:List Tri.Rg) d w(N:Sr w v rs)(hd:Fi d):Calls prog 198 #[v,.int .i64 d] w (x6s (fun w' t rs d=>T4 w' w.heap.size t rs d) w rs d):=by
 have Z:=O (y2M v rs d w N hd)
 have M:Hid (∀I,Bw w I->(Tri.check d rs).2=0->Calls prog 248 #[v,.int .i64 d] I (x5X I rs d)):=by
  intro I Y R;obtain⟨S,D⟩:=Tri.x3W.1 R;exact y8t v rs d I (N.below Y) S D
 have T:Hid ((Tri.check d rs).2=0->(Tri.check d rs).1=0):=Tri.x4I 0 none rs;have G:Hid (∀w',Bw w w'->(Tri.check d rs).2≠0->x6s (fun w' t rs d=>T4 w' w.heap.size t rs d) w rs d (.returned (.tuple #[.pointer none,.int .i64 (Tri.check d rs).1,.int .i64 (Tri.check d rs).2])) w'):=fun w' Y L=>⟨Y,.inr ⟨L,rfl⟩⟩;have J:Hid (∀w' a,Bw w w'->(Tri.check d rs).2=0->T4 w' w.heap.size (.pointer (some a)) rs d->x6s (fun w' t rs d=>T4 w' w.heap.size t rs d) w rs d (.returned (.tuple #[.pointer (some a),.int .i64 0,.int .i64 0])) w'):=fun w' a Y L b=>⟨Y,.inl ⟨L,a,rfl,b⟩⟩;generalize Tri.check d rs=q at *;obtain⟨U,s⟩:=q;go_enter func198,ntmps198;go_wp2_with fail;refine c0m Z fun I F=>?_;by_cases R:s=0
 ·subst R;have C:=O (V M I F rfl);go_wp2_with fail;refine(V C).mono ?_;rintro e W ⟨a,rfl,b,H⟩;go_wp2;go_ret3;exact V J _ a (F.trans (H.mono F.size)) f5W (b.lower F.size)
 ·have A:(s != 0)=true:=W9W;go_wp2;go_ret3;exact V G _ F R
end Go.Proofs.YtkfcabdmkmljjaaGreatDoor.Ti
