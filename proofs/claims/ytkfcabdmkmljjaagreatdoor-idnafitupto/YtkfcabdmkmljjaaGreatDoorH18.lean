/- Lemmas. -/
import Derived.Test.YtkfcabdmkmljjaaGreatDoorH14
import Derived.Deep.AppendLies
import Derived.Deep.DrawnRows
import Derived.Deep.OwnRows
import Derived.Deep.RegionHeld3
import Derived.Great.BuildSlice
import Derived.Deep.RegionLaw
set_option maxHeartbeats 4000000
set_option maxRecDepth 50000
namespace Go.Proofs.YtkfcabdmkmljjaaGreatDoor
section
variable{p:Prop}
theorem R6q(h:p:=by rw[cell_of_row _ _ _ _ _ _ hr];rfl):p:=h
theorem S9z(h:p:=by rw[cell_of_row _ _ _ _ _ _ h];rfl):p:=h
theorem T5W(h:p:=by rw[List.length_map]at b;exact b):p:=h
theorem u5M(h:p:=by
 refine hK _ _ ?_;clear hK K;simp only[Act.put,sa9,sb9,sc9];refine wpAny_ready (rs:=[7]) f4B M7N ?_;refine AllReady.cons (o:=⟨some 53,_,_,_,_,_⟩) rfl (fun K hK=>?_) AllReady.nil;refine step_append_lies _ (by rfl) _ _ _ (by rfl) (gM+1) 147 i0 z0 64 128 underlying142 bR bY bZ cd ce f6J (.slice ao bs.length L) bs.length (x1Y bs) (by rfl) ab ⟨D.heap.size,0,none⟩ 1 1 (zs.map (Value.int .u16)) (by rfl) bU C bV f6J T7X f6J ag (D.heap.size+1) bI ?_;intro gg M A Z G af aB;refine hK _ _ ?_;clear hK K;simp only[Act.put,sa9,sb9,sc9];refine wpAny_take (i:=8) (oi:=⟨some 54,_,_,_,_,_⟩) (v:=.pointer (some ⟨F,0,none⟩)) rfl f4B f4B f4B (fun _ _ _ h=>h) (Or.inl ⟨by rfl,?_⟩) ?_
 ·exact M9h
 simp only[Act.put,sa9,sb9,sc9];refine wpAny_take (i:=9) (oi:=⟨some 55,_,_,_,_,_⟩) (v:=.pointer (some ⟨F,1,none⟩)) rfl f4B f4B f4B (fun _ _ _ h=>h) (Or.inl ⟨by rfl,?_⟩) ?_
 ·exact M9h
 simp only[Act.put,sa9,sb9,sc9];refine wpAny_ready (rs:=[10]) f4B M7N ?_;refine AllReady.cons (o:=⟨none,_,_,_,_,_⟩) rfl (fun K hK=>?_) AllReady.nil;have y:=am.keep (V aJ _ _ (.cells (zs.map (Value.int .u16)).toArray 147) (by rfl) G) (V bF);refine x5j (by rfl) 142 (.tmp 55) (.tmp 53) (by rfl) (.pointer (some ⟨F,1,none⟩)) (.slice (some ⟨gg,0,none⟩) (bs.length+1) M) (by rfl) (by rfl) (V aQ A _ y gg M rfl) ?_;refine hK _ _ ?_;clear hK K;simp only[Act.put];refine wpAny_done f4B ?_ _;have ae:=V aJ _ _ (.cells (zs.map (Value.int .u16)).toArray 147) (by rfl) G;have N:=V aI A _ Z;have ar:Bw w A:=(aq.drew.alloc aU _).grown G aV (fun k hk=>Nat.le_trans aY (r k hk).1);have az:=V B A _ y (aK.keep ae (V bD)) (x2q U ae (V bE)) N ar;generalize A.setCell ⟨F,1,none⟩ (.slice (some ⟨gg,0,none⟩) (bs.length+1) M)=w9 at *;obtain⟨⟨y0,y1,y2⟩,bm,bn,S⟩:=az;have q:=O S;clear S Z G af aB y ae N ar aq aK am m U aC r bt aZ aH ba H ab C aI B x0 x1 x2 aW K4;generalize X.getD p 0=cQ at *;go_wp2
 go_roundw
 case rel=>exact⟨p+1,kk,_,X.set p (bs.length:Int),by go_num,f6J,aF,t,V bh,(V q).1,V aS,(V q).2.1,by rw[V E1];exact(V q).2.2.1,by rw[V E1];exact(V q).2.2.2.1,(V q).2.2.2.2⟩
 case measure=>exact g7W):p:=h
theorem i1u(h:p:=by go_enter func282,ntmps282;go_wp2_with fail;refine(V R _).mono ?_;rintro e C ⟨rfl,rfl⟩;go_wp2;go_ret;exact⟨rfl,Y⟩):p:=h
theorem u7B(h:p:=by rw[List.length_append];exact f6J):p:=h
theorem S6O(h:p:=by
 go_wp2
 go_roundw
 case rel=>first| exact⟨_,_,.int .i64 ((k+1:Nat):Int),⟨k+1,rfl,f6J,m,ab,hz,by simpa using V S⟩,rfl,rfl,g2B⟩ | exact⟨k+1,m,g2B,f6J,ab,hz,D,T,V S⟩ | exact⟨k+1,g2B,f6J,m,ab,hz,by simpa using V S⟩ | exact⟨k+1,g2B,f6J,m,ab,hz,D,by simpa using V S⟩
 case measure=>exact g7T):p:=h
theorem w9d(h:p:=by go_enter func282,ntmps282;go_wp2;go_ret;exact⟨rfl,Y⟩):p:=h
theorem m8X(h:p:=by go_enter func283,ntmps283;go_wp2;go_ret;exact g9T):p:=h
theorem f0R(h:p:=by rw[Z];exact e8M):p:=h
theorem v0B(h:p:=by simpa using I):p:=h
theorem g2B(h:p:=by go_num):p:=h
theorem f4B(h:p:=by kernel_rfl):p:=h
theorem v6t(h:p:=by go_wp2;go_ret2;exact U):p:=h
theorem N3M(h:p:=by
 go_wp2
 go_roundw
 case rel=>exact⟨c+1,m.set i I,g2B,f6J,f6J,f6J,f9c,R,W,ar,H,V S⟩
 case measure=>exact g7T):p:=h
theorem p9F(h:p:=by refine hK _ _ ?_;clear hK K;simp only[Act.put,sa9,sb9,sc9];refine wpAny_ready (rs:=[6]) f4B M7N ?_;refine AllReady.cons (o:=⟨some 52,_,_,_,_,_⟩) rfl (fun K hK=>?_) AllReady.nil;refine x2h (by rfl) 142 (.tmp 51) (by rfl) _ _ (by rfl) H ?_;exact u5M):p:=h
theorem w4t(h:p:=by rw[(f9c:(m.map (Value.int .u16)).toArray.size=64)];exact y9p):p:=h
theorem T7Y(h:p:=by go_wp2;exact bodyPost_ret (v:=.agg (arrA m)) (x2t rfl _ _ _ L _ (by rfl) f) rfl ⟨rfl,aA⟩):p:=h
theorem f1u(h:p:=by go_wp2_with fail;refine(V HV _).mono ?_;rintro e w1 ⟨rfl,rfl⟩;exact v6t):p:=h
theorem M0v(h:p:=by have:=(r _ e.symm).1;exact f6J):p:=h
theorem E0V(h:p:=by cases h;exact P8U):p:=h
theorem I2B(h:p:=by simpa using r):p:=h
end
end Go.Proofs.YtkfcabdmkmljjaaGreatDoor
namespace Go.Proofs.YtkfcabdmkmljjaaGreatDoor.Ti
open Go.Proofs.Tryz
open Go.RowKit
theorem Sz.cut{sz len l h m w ao cap}{us}(L:Sz sz w (.slice ao len cap) len us)(Z:l<=h)(D:h<=len)(J:h<=m)(H:m<=cap) :
  Sz sz w (sliced ao l h m sz) (h-l) ((us.drop (l*sz)).take ((h-l)*sz)):=by
 obtain⟨b1,u,z⟩:=L;have R:(h-l)*sz+l*sz=h*sz:=(by rw[<- Nat.add_mul];congr 1;exact f6J);have T:h*sz<=len*sz:=Nat.mul_le_mul_right _ D;refine⟨P8P,f6J,?_⟩;rcases z with⟨rfl,G,A,N,M,C⟩ | ⟨b,B,A,N,S,M,I⟩
 ·simp only[Value.slice.injEq]at N;obtain⟨rfl,_,rfl⟩:=N;refine .inl ⟨f6J,(if m=l then ao else ao.map (·.add (l*sz))),m-l,?_,f6J,fun F=>?_⟩
  ·exact w4F
  ·split at F
   ·omega
   ·simp_all
 ·simp only[Value.slice.injEq]at N;obtain⟨rfl,_,rfl⟩:=N;by_cases q:h=l
  ·refine .inl ⟨f6J,(if m=l then some ⟨b,B,none⟩else(some ⟨b,B,none⟩:Option Addr).map (·.add (l*sz))),m-l,?_,f6J,fun F=>?_⟩
   ·exact w4F
   ·split at F<;>simp at F
  ·refine .inr ⟨b,B+l*sz,m-l,?_,f6J,f6J,fun i hi=>?_⟩
   ·have:¬m=l:=f6J;simp only[sliced,this,if_false,Option.map_some,addr_add]
   ·grind
theorem y2Y(rs:List Tri.Rg) k:(rcells rs).drop (k*3)=rcells (rs.drop k):=by
 induction k generalizing rs with
 | zero=>simp
 | succ k ih =>
  cases rs with
  | nil=>simp[rcells]
  | cons r rs =>
   have:(k+1)*3=3+k*3:=f6J;simp only[rcells,List.drop_succ_cons];rw[this,<- List.drop_drop,<- ih rs];rfl
theorem Sr.cut{w ao len cap l h m}{rs:List Tri.Rg}(L:Sr w (.slice ao len cap) rs)(S:len=rs.length)(Z:l<=h)(D:h<=len)(J:h<=m)(H:m<=cap) :
  Sr w (sliced ao l h m 3) ((rs.drop l).take (h-l)):=by
 subst S;have:=L.2.cut Z D J H;rw[y2Y,y2Z]at this;have e:((rs.drop l).take (h-l)).length=h-l:=P8P;refine⟨fun r u=>L.1 r (List.mem_of_mem_drop (List.mem_of_mem_take u)),?_⟩;rw[e];exact this
namespace Tri
theorem z3f{d c}{rs:List Rg} k(h:∀j,j<k->j<rs.length->hi (rs.getD j (0,0,0))<c):get d (rs.drop k) c=get d rs c:=by
 induction k generalizing rs with
 | zero=>exact s4M
 | succ k ih =>
  cases rs with
  | nil=>rfl
  | cons r rs =>
   have R:=h 0 f6J M7L;simp only[List.getD_cons_zero]at R;rw[List.drop_succ_cons,x1q,if_neg f6J];refine ih fun j X S=>?_;have:=h (j+1) f6J t2Y;simpa using this
theorem z4A{b}{rs:List Rg}(h:Val b rs) k:Val b (rs.drop k):=by
 induction k generalizing rs b with
 | zero=>exact S4r
 | succ k ih =>
  cases rs with
  | nil=>trivial
  | cons r rs =>
   obtain⟨Z,D,J,H,A,y⟩:=h;rw[List.drop_succ_cons];exact(ih y).mono f6J
end Tri
def y0n(w0 w:World)(rs:List Tri.Rg)(lo:Int)(e:Ending)(w':World):Prop :=
 w'=w/\∃v' k,e=.returned v'/\Sr w0 v' (rs.drop k)/\k<=rs.length/\∀j,j<k->Tri.hi (rs.getD j (0,0,0))<lo
theorem z0H v(rs:List Tri.Rg) lo w0 w(z:Sr w0 v rs)(I:Bw w0 w)(N:Fi lo) :
  Calls prog 284 #[v,.int .i64 lo] w (y0n w0 w rs lo):=by
 obtain⟨l1,T⟩:=N;have d:=z.len;have x:=O I;have i:Hid (∀u k,Sr w0 u (rs.drop k)->k<=rs.length->(∀j,j<k->Tri.hi (rs.getD j (0,0,0))<lo)->y0n w0 w rs lo (.returned u) w):=fun u k Z D J=>⟨rfl,u,k,rfl,Z,D,J⟩;go_enter func284,ntmps284;go_wp2;go_loop [0] (fun u=>∃k:Nat,Sr w0 u (rs.drop k)/\k<=rs.length/\∀j,j<k->Tri.hi (rs.getD j (0,0,0))<lo) (fun u=>match u with | .slice _ n _=>n | _=>0)
 case atStart=>exact⟨0,by simpa using z,f6J,fun j X=>f6J⟩
 case round =>
  obtain⟨k,L,G,U⟩:=hrel;have Y:=O (V i _ k L G U);have c:(rs.drop k).length=rs.length-k:=List.length_drop;rcases Nat.eq_zero_or_pos (rs.drop k).length with h0 | h0
  ·obtain⟨B,M,rfl,y,q⟩:=L.shape;rw[h0]at Y y ⊢;go_wp2;go_ret;exact V Y
  ·have s:=L.1.at 0;have W:=O L;obtain⟨b,af,M,rfl,y,q,F⟩:=L.place h0;obtain⟨g,S,p⟩:=F 0 h0;rw[<- (V x).cell (x0a S)]at S;simp only[Nat.zero_mul,Nat.add_zero]at g S p;have hcut:=(V W).cut rfl (l:=1) (h:=(rs.drop k).length) (m:=M) f6J f6J f6J f6J
   have r:(((rs.drop k).drop 1).take ((rs.drop k).length-1))=rs.drop (k+1):=by
    rw[List.drop_drop,List.take_of_length_le P8P]
   have t:(rs.drop k).getD 0 (0,0,0)=rs.getD k (0,0,0):=(by grind);rw[r]at hcut;rw[t]at S s
   have f:Hid (Tri.hi (rs.getD k (0,0,0))<lo->∀j,j<k+1->Tri.hi (rs.getD j (0,0,0))<lo):=by
    intro A j X;by_cases h:j=k
    ·subst h;exact A
    ·exact U j f6J
   obtain⟨_,⟨f1,f2⟩,_⟩:=s;have ae:1<=(rs.drop k).length:=h0;have ab:k<rs.length:=f6J;have C:=O hcut;clear L W F U hcut g p r t c;generalize Tri.hi (rs.getD k (0,0,0))=h,(rs.drop k).length=n at *;by_cases a:h<lo
   ·have H:=O (V f a);go_wp2;go_round
    case rel=>exact⟨k+1,V C,f6J,V H⟩
    case measure=>simp;omega
   ·clear f i;go_wp2;go_ret;exact V Y
end Go.Proofs.YtkfcabdmkmljjaaGreatDoor.Ti
namespace Go.Proofs.YtkfcabdmkmljjaaGreatDoor.Ti
open Go.Proofs.Tryz
open Go.RowKit
def Bk(w:World)(g:Nat)(zs:List Int):Prop:=w.heap[g]?=some (.cells (arrA zs) 147 (0,0))
theorem Bk.lt{w g zs}(h:Bk w g zs):g<w.heap.size:=(Array.getElem?_eq_some_iff.1 h).1
theorem Bk.cell{w g zs}(h:Bk w g zs){i}(hi:i<zs.length):w.cell? ⟨g,i,none⟩=some (.int .u16 (zs.getD i 0)):=by
 unfold Bk at h;exact E2f
theorem Bk.frozen{w g zs}(h:Bk w g zs) i:w.frozen? ⟨g,i,none⟩=false:=by
 unfold Bk at h;simp[World.frozen?,h]
theorem Bk.set{w g zs}(h:Bk w g zs) i v:Bk (w.setCell ⟨g,i,none⟩ (.int .u16 v)) g (zs.set i v):=by
 unfold Bk at h ⊢;exact N9T
theorem Bk.other{w g zs}(h:Bk w g zs){a}(t:g≠a.block) v:Bk (w.setCell a v) g zs:=by
 unfold Bk at h ⊢;rw[heap_setCell_other w a g v t];exact h
theorem Bk.box{w g zs}(h:Bk w g zs):Box w g zs:=fun j v N=>by
 have X:j<zs.length:=(by grind);rw[Nat.zero_add,h.cell X];rw[List.getElem?_map,List.getElem?_eq_getElem X]at N;simp only[Option.map_some,Option.some.injEq]at N;rw[<- N];exact S8d
theorem Bk.new(w:World) zs C(A:C=arrA zs):Bk (w.alloc (.cells C 147)) w.heap.size zs:=by
 subst A;exact heap_alloc_last w _
theorem Bk.alloc{w g zs}(h:Bk w g zs) o:Bk (w.alloc o) g zs:=by
 have S:=h.lt;unfold Bk at h ⊢;rw[Below.heap_alloc w o g S];exact h
theorem Bk.there{w g zs}(h:Bk w g zs):w.there g 0 zs.length:=fun j X=>e9U
theorem y9p:(prog.info? 147).map (·.size)=some 64:=f4x
def Rb(w:World)(g:Nat)(l h x:Int):Prop:=w.heap[g]?=some (.cells #[.int .i64 l,.int .i64 h,.int .i64 x] 272 (0,0))
theorem Rb.cells{w g l h x}(hr:Rb w g l h x):w.cell? ⟨g,0,none⟩=some (.int .i64 l)/\w.cell? ⟨g,1,none⟩=some (.int .i64 h)/\w.cell? ⟨g,2,none⟩=some (.int .i64 x) :=
 ⟨R6q,R6q,R6q⟩
theorem Rb.other{w g l h x}(hr:Rb w g l h x){a}(t:g≠a.block) v:Rb (w.setCell a v) g l h x:=by
 unfold Rb at hr ⊢;rw[heap_setCell_other w a g v t];exact hr
namespace Tri
theorem y9b{b d c}{rs:List Rg}(N:Val b rs) k(G:k<rs.length)(I:c<lo (rs.getD k (0,0,0))):get d rs c=get d (rs.take k) c:=by
 induction rs generalizing b k with
 | nil=>simp at G
 | cons r rs ih =>
  obtain⟨Z,D,J,H,A,y⟩:=N
  cases k with
  | zero =>
   simp only[List.getD_cons_zero]at I;have x:Val (lo r) (r::rs):=⟨Int.le_refl _,D,J,H,A,y⟩;rw[x6J x I];rfl
  | succ k =>
   simp only[List.take_succ_cons,x1q];rw[ih y k E9n v0B]
end Tri
theorem z2n f(p:Nat) lo0(R:lo0=(p:Int)*64) zs(S:zs.length=64)(h:∀j:Nat,j<64->zs.getD j 0=f (lo0+(j:Int))):zs=Tri.blk f p :=
 z5V f p zs S fun j X=>by rw[h j X,(f6J:lo0+(j:Int)=((64*p+j:Nat):Int))]
abbrev z64:Array Value:=#[.int .u16 0,.int .u16 0,.int .u16 0,.int .u16 0,.int .u16 0,.int .u16 0,.int .u16 0,.int .u16 0,.int .u16 0,.int .u16 0,.int .u16 0,.int .u16 0,.int .u16 0,.int .u16 0,.int .u16 0,.int .u16 0,.int .u16 0,.int .u16 0,.int .u16 0,.int .u16 0,.int .u16 0,.int .u16 0,.int .u16 0,.int .u16 0,.int .u16 0,.int .u16 0,.int .u16 0,.int .u16 0,.int .u16 0,.int .u16 0,.int .u16 0,.int .u16 0,.int .u16 0,.int .u16 0,.int .u16 0,.int .u16 0,.int .u16 0,.int .u16 0,.int .u16 0,.int .u16 0,.int .u16 0,.int .u16 0,.int .u16 0,.int .u16 0,.int .u16 0,.int .u16 0,.int .u16 0,.int .u16 0,.int .u16 0,.int .u16 0,.int .u16 0,.int .u16 0,.int .u16 0,.int .u16 0,.int .u16 0,.int .u16 0,.int .u16 0,.int .u16 0,.int .u16 0,.int .u16 0,.int .u16 0,.int .u16 0,.int .u16 0,.int .u16 0]
theorem z8l(w:World):∃A,(w.alloc (.cells z64 147)).alloc (.cells z64 147)=A/\Bw w A/\Bk A w.heap.size Zs/\Bk A (w.heap.size+1) Zs :=
 ⟨_,rfl,((Below.refl _ w).alloc (l0r _) _).alloc M7K _,(Bk.new w Zs _ rfl).alloc _,by simpa using Bk.new (w.alloc (.cells z64 147)) Zs z64 rfl⟩
theorem z8o v(rs:List Tri.Rg) d(p:Nat) w(hv:Sr w v rs)(z:Tri.Val 0 rs)(hd:0<=d/\d<=65535)(hp:p<17408) :
  Calls prog 285 #[v,.int .i64 ((p:Int)*64),.int .i64 d] w (y7g w (Tri.blk (Tri.get d rs) p)):=by
 obtain⟨bj,bm⟩:=hd;obtain⟨B,af⟩:∃l:Int,l=(p:Int)*64:=⟨_,rfl⟩;have HX:=O (z2n (Tri.get d rs) p B af);have z1:0<=B:=f6J;have z2:B<=1114048:=f6J;rw[<- af];clear af;have HV:=O z;have aS:=O hv;have aV:=hv.len;obtain⟨ao,aY,rfl,aO,aP⟩:=hv.shape;have aF:Hid (∀c,Tri.get d (rs.take 0) c=d):=fun c=>rfl;have aw:Hid (∀c,Tri.get d (rs.take rs.length) c=Tri.get d rs c):=fun c=>(by rw[List.take_length]);have az:Hid (∀(k:Nat),k<rs.length->∀c,c<Tri.lo (rs.getD k (0,0,0))->Tri.get d rs c=Tri.get d (rs.take k) c):=fun k hk c hc=>Tri.y9b z k hk hc;clear hv z;generalize Tri.blk (Tri.get d rs) p=bt at *;go_enter func285,ntmps285;go_wp2;obtain⟨wz,hz,hA,aj,am⟩:=z8l w;rw[hz];clear hz;obtain⟨L,N⟩:∃L,L=w.heap.size:=⟨_,rfl⟩;obtain⟨Y,aC⟩:∃Y,Y=w.heap.size+1:=⟨_,rfl⟩;rw[<- N]at aj;rw[<- aC]at am;have aH:L≠Y:=f6J;have F:w.heap.size<=L:=f6J;have aq:w.heap.size<=Y:=f6J;rw[<- aC,<- N];clear N aC;obtain⟨Z,hZ⟩:∃Z,Z=Zs:=⟨_,rfl⟩;rw[<- hZ]at aj am;have aN:Z.length=64:=(by rw[hZ];exact z8N);clear hZ;go_loopw[13] (fun i wr=>∃(k:Nat) (m:List Int),i=.int .i64 k/\k<=64/\m.length=64/\Bk wr Y m/\Bk wr L Z/\Bw w wr/\∀j,j<k->m.getD j 0=d) (fun i _=>64-(intOf i).toNat)
 case atStart=>exact⟨0,Z,rfl,f6J,aN,am,aj,hA,fun j X=>f6J⟩
 case round =>
  clear hA aj am;obtain⟨k,m,rfl,hk,ab,hz,D,T,ae⟩:=hrel;by_cases ag:k<64
  ·have hc:=hz.cell (i:=k) f6J;have hf:=hz.frozen k;have R:=hz.set k d;have W:=D.other (a:=⟨Y,k,none⟩) aH (.int .u16 d);have H:=T.setCell (p:=⟨Y,k,none⟩) aq (.int .u16 d)
   have S:Hid (∀j,j<k+1->(m.set k d).getD j 0=d):=by
    intro j X;rw[x8P m k j d f6J];split
    ·rfl
    ·exact ae j f6J
   have t:(0:Int)<=(k:Int):=f6J;have aK:(k:Int)<64:=f6J;generalize m.getD k 0=aT at *;clear ae hz D T;go_wp2
   go_roundw
   case rel=>exact⟨k+1,m.set k d,g2B,f6J,f9c,R,W,H,V S⟩
   case measure=>exact g7T
  ·obtain rfl:k=64:=f6J;have A:Hid (∀j,j<64->m.getD j 0=Tri.get d (rs.take 0) (B+(j:Nat))):=fun j X=>(by rw[ae j X,(V aF)]);clear ae aF;go_wp2;go_loopw[11,12,25] (fun _ _ i wr=>∃(k:Nat) (m:List Int),i=.int .i64 k/\k<=rs.length/\m.length=64/\Bk wr Y m/\Bk wr L Z/\Bw w wr/\∀j,j<64->m.getD j 0=Tri.get d (rs.take k) (B+(j:Nat))) (fun _ _ i _=>rs.length-(intOf i).toNat)
   case atStart=>exact⟨0,m,rfl,f6J,ab,hz,D,T,V A⟩
   case round =>
    clear hz D T A ab;obtain⟨k,m,rfl,hk,ab,hz,D,T,ae⟩:=hrel;by_cases ag:k<rs.length
    ·have aI:=fun c=>Tri.z3g (d:=d) (c:=c) (V HV) k ag;have u:=O (V az k ag);obtain⟨b1,b2,b3,b4,b5⟩:=q1m (V HV) (Int.le_refl _) k ag;obtain⟨bx,aX,aZ,aM,_,_,aB⟩:=(V aS).place f6J;simp only[Value.slice.injEq]at aM;obtain⟨rfl,_,rfl⟩:=aM;obtain⟨c0,y,q⟩:=aB k ag;rw[<- T.cell (x0a c0)]at c0;rw[<- T.cell (x0a y)]at y;rw[<- T.cell (x0a q)]at q;have aG:=O aI;have ai:=O ae;clear aB aI ae;generalize Tri.lo (rs.getD k (0,0,0))=lo,Tri.hi (rs.getD k (0,0,0))=hi,Tri.vl (rs.getD k (0,0,0))=I at *;have n:=T.size;have x:Rb (wr.alloc (.cells #[.int .i64 lo,.int .i64 hi,.int .i64 I] 272)) wr.heap.size lo hi I:=heap_alloc_last wr _;have hz:=hz.alloc (.cells #[.int .i64 lo,.int .i64 hi,.int .i64 I] 272);have D:=D.alloc (.cells #[.int .i64 lo,.int .i64 hi,.int .i64 I] 272);have g:Bw w (wr.alloc (.cells #[.int .i64 lo,.int .i64 hi,.int .i64 I] 272)):=T.alloc n _;obtain⟨b,aD⟩:∃b,b=wr.heap.size:=⟨_,rfl⟩;have aL:b≠Y:=(by have h1:=‹Bk wr Y m›.lt;exact f6J);by_cases ba:B+64<=lo
     ·have C:Hid (∀j,j<64->m.getD j 0=Tri.get d rs (B+(j:Nat))):=fun j X=>(by rw[V ai j X,V u _ f6J]);clear ai aG az u aD aL;have J:=V HX m ab (V C);subst J;clear C HX;go_upto_region 17 with fail;generalize wr.alloc (.cells #[.int .i64 lo,.int .i64 hi,.int .i64 I] 272)=wa at *;refine wp_region_list ?_;refine wpList_load_mid (by rfl) 147 (.tmp 7) (by rfl) Y 0 (by rfl) (m.map (Value.int .u16)) _ hz.box underlying147 (by rfl) (x6O ab) ?_;have M:Z.length=m.length:=by omega
      have r:wa.there L 0 (m.map (Value.int .u16)).toArray.size:=by
       have:=D.there;rw[M]at this;simpa using this
      refine wpList_store_mid (by rfl) 147 (.tmp 6) (.tmp 54) (by rfl) L 0 (m.map (Value.int .u16)).toArray (by rfl) (by rfl) r w4t (x8Y m) ?_;have G:wa.there L 0 (m.map (Value.int .u16)).length:=I2B;have U:=World.rangeAt_setCells_same wa L 0 (m.map (Value.int .u16)) G;have aA:Bw w (wa.setCells L 0 (m.map (Value.int .u16))):=x0E F _ _ _ g;have f:=run_loadVar_mid (P:=prog) _ L 0 147 (m.map (Value.int .u16)) _ U underlying147 (by rfl) (x6O ab);clear hz D r G U;generalize wa.setCells L 0 (m.map (Value.int .u16))=wf at *;exact T7Y
     ·clear u aw HX;by_cases bp:lo<B
      all_goals
       go_wp2;generalize wr.alloc (.cells #[.int .i64 lo,.int .i64 hi,.int .i64 I] 272)=wa at *;rw[<- aD]at x ⊢;clear aD;go_loopw[12] (fun vc wr=>∃(c:Int) (m:List Int),vc=.int .i64 c/\lo<=c/\B<=c/\c<=1114112/\m.length=64/\Bk wr Y m/\Bk wr L Z/\Rb wr b lo hi I/\Bw w wr/\∀j,j<64->m.getD j 0=if lo<=B+(j:Nat)/\B+(j:Nat)<c/\B+(j:Nat)<=hi then I else Tri.get d (rs.take k) (B+(j:Nat))) (fun vc _=>(1114112-intOf vc).toNat)
       case atStart=>first| exact⟨B,m,rfl,f6J,f6J,f6J,ab,hz,D,x,g,fun j X=>by rw[if_neg f6J];exact V ai j X⟩ | exact⟨lo,m,rfl,f6J,f6J,f6J,ab,hz,D,x,g,fun j X=>by rw[if_neg f6J];exact V ai j X⟩
       case round =>
        clear hz D x g ab c0 y q;obtain⟨c,m,rfl,aO,aP,be,ab,hz,D,x,T,ae⟩:=hrel;obtain⟨c0,y,q⟩:=x.cells;by_cases aQ:c<=hi/\c<B+64
        ·obtain⟨q1,q2⟩:=aQ;obtain⟨i,bh⟩:∃i:Nat,c-B=(i:Int):=⟨(c-B).toNat,f6J⟩;have aU:i<64:=f6J;have aB:=hz.cell (i:=i) f6J;have bn:=hz.frozen i;have R:=hz.set i I;have W:=D.other (a:=⟨Y,i,none⟩) aH (.int .u16 I);have ar:=x.other (a:=⟨Y,i,none⟩) aL (.int .u16 I);have H:=T.setCell (p:=⟨Y,i,none⟩) aq (.int .u16 I)
         have S:Hid (∀j,j<64->(m.set i I).getD j 0=if lo<=B+(j:Nat)/\B+(j:Nat)<c+1/\B+(j:Nat)<=hi then I else Tri.get d (rs.take k) (B+(j:Nat))):=by
          intro j X;rw[x8P m i j I f6J,ae j X];by_cases s:j=i
          ·rw[if_pos s,if_pos f6J]
          ·rw[if_neg s];by_cases hx:lo<=B+(j:Nat)/\B+(j:Nat)<c/\B+(j:Nat)<=hi
           ·rw[if_pos hx,if_pos f6J]
           ·rw[if_neg hx,if_neg f6J]
         have t:(0:Int)<=(i:Int):=f6J;have aK:(i:Int)<64:=f6J;generalize m.getD i 0=aT at *;clear ae hz D x;by_cases aR:B+64<hi+1
         ·exact N3M
         ·have aW:c<hi+1:=f6J;exact N3M
        ·have S:Hid (∀j,j<64->m.getD j 0=Tri.get d (rs.take (k+1)) (B+(j:Nat))):=by
          intro j X;rw[ae j X,(V aG)];by_cases hx:lo<=B+(j:Nat)/\B+(j:Nat)<=hi
          ·rw[if_pos hx,if_pos f6J]
          ·rw[if_neg hx,if_neg f6J]
         clear ae;by_cases aR:B+64<hi+1
         ·have aJ:¬(c<B+64):=f6J;exact S6O
         ·have aJ:¬(c<hi+1):=f6J;exact S6O
    ·obtain rfl:k=rs.length:=f6J;have C:Hid (∀j,j<64->m.getD j 0=Tri.get d rs (B+(j:Nat))):=fun j X=>(by rw[ae j X,(V aw)]);clear ae az aw;have J:=V HX m ab (V C);subst J;clear C HX;go_upto_region 17 with fail;refine wp_region_list ?_;refine wpList_load_mid (by rfl) 147 (.tmp 7) (by rfl) Y 0 (by rfl) (m.map (Value.int .u16)) _ hz.box underlying147 (by rfl) (x6O ab) ?_;have M:Z.length=m.length:=by omega
     have r:wr.there L 0 (m.map (Value.int .u16)).toArray.size:=by
      have:=D.there;rw[M]at this;simpa using this
     refine wpList_store_mid (by rfl) 147 (.tmp 6) (.tmp 54) (by rfl) L 0 (m.map (Value.int .u16)).toArray (by rfl) (by rfl) r w4t (x8Y m) ?_;have G:wr.there L 0 (m.map (Value.int .u16)).length:=I2B;have U:=World.rangeAt_setCells_same wr L 0 (m.map (Value.int .u16)) G;have aA:Bw w (wr.setCells L 0 (m.map (Value.int .u16))):=x0E F _ _ _ T;have f:=run_loadVar_mid (P:=prog) _ L 0 147 (m.map (Value.int .u16)) _ U underlying147 (by rfl) (x6O ab);clear hz D r G U;generalize wr.setCells L 0 (m.map (Value.int .u16))=wf at *;exact T7Y
end Go.Proofs.YtkfcabdmkmljjaaGreatDoor.Ti
namespace Go.Proofs.YtkfcabdmkmljjaaGreatDoor.Ti
open Go.Proofs.Tryz
open Go.RowKit
section
variable {P:Program} {ops:Array Oper} {o:Oper} {a:Act} {w w':World} {K:Act->World->Prop} {Q:Exit->Act->World->Prop} {E:Prop}
theorem x1P(T:o.guard=none) ty(x:Operand)(X:o.op=.load ty x) pv v(A:a.eval x=pv)(B:(Instr.loadAt ty pv).run P w=.ok v w)(h:K (a.put o.dst v) w) :
  if Region.wanted o (yielded ops a.tmps)=true then Oper.wp P o a w K Q else E:=by
 rw[if_pos I8A];unfold Oper.wp execOp;simp only[X,A,Sem.run_bind,B,Result.andThen_ok];exact h
theorem x5j(T:o.guard=none) ty(x y:Operand)(X:o.op=.store ty x y) pv v(A:a.eval x=pv)(hy:a.eval y=v)(B:(Instr.storeAt ty pv v).run P w=.ok () w')(h:K (a.put o.dst undef) w') :
  if Region.wanted o (yielded ops a.tmps)=true then Oper.wp P o a w K Q else E:=by
 rw[if_pos I8A];unfold Oper.wp execOp;simp only[X,A,hy,Sem.run_bind,B,Result.andThen_ok];exact h
theorem x2h(T:o.guard=none) t(x:Operand)(X:o.op=.buildSlice t 1 #[(0,x)]) u v(A:a.eval x=u)(B:(Instr.buildSlice t 1 #[(0,u)]).run P w=.ok v w')(h:K (a.put o.dst v) w') :
  if Region.wanted o (yielded ops a.tmps)=true then Oper.wp P o a w K Q else E:=by
 rw[if_pos I8A];unfold Oper.wp execOp;have e:(#[((0:Nat),x)].map fun(i,x)=>(i,a.eval x))=#[(0,u)]:=f9w;simp only[X,e,Sem.run_bind,B,Result.andThen_ok];exact h
end
end Go.Proofs.YtkfcabdmkmljjaaGreatDoor.Ti
namespace Go.Proofs.YtkfcabdmkmljjaaGreatDoor.Ti
open Go.Proofs.Tryz
open Go.RowKit Go.Maps
set_option linter.unusedSimpArgs false
theorem z8x w:(zeroValue 145).run prog w=.ok (.int .u16 0) w:=(zero_of_info (n:=1) f4x).1 w
theorem y6V(w:World) zs(h:zs.length=64):(storeCells ⟨w.heap.size,0,none⟩ (zs.map (Value.int .u16)) 0).run prog (w.alloc (.cells z64 147))=.ok () (w.alloc (.cells (arrA zs) 147)):=by
 have Z:=run_storeCells_new (P:=prog) w 147 z64 (arrA zs) (by rw[x1L,h];exact y9p) (by rw[x1L,h];rfl) (x8Y zs);simpa[arrA]using Z
theorem y6I t e(W:prog.underlying t=some (.slice e))(hi:(prog.info? e).map (fun i=>(i.size,i.zero.map (·.cells.size)))=some (64,some 64)) w(zs:List Int)(h:zs.length=64) :
  (Instr.buildSlice t 1 #[(0,.agg (zs.map (Value.int .u16)).toArray)]).run prog w=.ok (.slice (some ⟨w.heap.size,0,none⟩) 1 1) (w.alloc (.cells (zs.map (Value.int .u16)).toArray e)):=by
 obtain⟨A,B,Z⟩:=Option.map_eq_some_iff.1 hi;simp only[Prod.mk.injEq]at Z;obtain⟨Z,D⟩:=Z;obtain⟨z,T,C⟩:=Option.map_eq_some_iff.1 D;refine run_buildSlice w t e 1 _ _ A z W B T f0R f0R ?_;rw[Z];have:=Great.fill_whole (s:=64) e8M [Value.agg (zs.map (Value.int .u16)).toArray] ((Array.range (1*64)).map (z.cells[·%z.cells.size]!)) (fun v N=>by simp at N;subst N;simp[Value.cells,h]) M7L;simpa[Value.cells]using this
theorem y5L C(A:C.size=64)(zs:List Int)(h:zs.length=64):List.foldl (fun(cs:Array Value) (x:Value×Nat)=>cs.setIfInBounds x.2 x.1) C ((zs.map (Value.int .u16)).zipIdx)=(zs.map (Value.int .u16)).toArray:=by
 have Z:=Great.foldl_set 0 (zs.map (Value.int .u16)) 0 C;simp only[Nat.zero_add]at Z;apply Array.ext_getElem?;intro k;rw[Z.2 k];by_cases G:k<64
 ·rw[if_pos P8P];simp
 ·grind
theorem z9P:(prog.info? 147).map (fun i=>(i.size,i.zero.map (·.cells.size)))=some (64,some 64):=f4x
theorem z9Q:∃i z,prog.info? 147=some i/\i.zero=some z/\i.size=64/\i.bytes=128/\z.cells.size=64:=by
 have h:(prog.info? 147).map (fun i=>(i.size,i.bytes,i.zero.map (·.cells.size)))=some (64,128,some 64):=f4x;obtain⟨i,hi,Z⟩:=Option.map_eq_some_iff.1 h;simp only[Prod.mk.injEq]at Z;obtain⟨Z,D,J⟩:=Z;obtain⟨z,T,A⟩:=Option.map_eq_some_iff.1 J;exact⟨i,z,hi,T,Z,D,A⟩
def Ix(w:World)(g:Nat)(xs:List Int):Prop:=xs.length=17408/\w.heap[g]?=some (.cells (arrA xs) 145 (0,0))
theorem Ix.lt{w g xs}(h:Ix w g xs):g<w.heap.size:=(Array.getElem?_eq_some_iff.1 h.2).1
theorem Ix.cell{w g xs}(h:Ix w g xs){i}(hi:i<17408):w.cell? ⟨g,i,none⟩=some (.int .u16 (xs.getD i 0)):=by
 have S:=h.1;rw[cell_of_row _ _ _ _ _ _ h.2];simp[arrA,List.getD,(f6J:i<xs.length)]
theorem Ix.frozen{w g xs}(h:Ix w g xs) i:w.frozen? ⟨g,i,none⟩=false:=frozen_of_row _ _ _ _ _ h.2
theorem Ix.set{w g xs}(h:Ix w g xs) i v:Ix (w.setCell ⟨g,i,none⟩ (.int .u16 v)) g (xs.set i v):=by
 refine⟨by simp[h.1],?_⟩;rw[heap_setCell_same w g i _ _ _ h.2];simp[arrA,List.map_set]
def Tb(w:World)(g gi:Nat)(bv:Value)(d:Int):Prop:=w.heap[g]?=some (.cells #[.slice (some ⟨gi,0,none⟩) 17408 17408,bv,.int .i64 d] 144 (0,0))
theorem Tb.lt{w g gi bv d}(h:Tb w g gi bv d):g<w.heap.size:=(Array.getElem?_eq_some_iff.1 h).1
theorem Tb.cells{w g gi bv d}(h:Tb w g gi bv d):w.cell? ⟨g,0,none⟩=some (.slice (some ⟨gi,0,none⟩) 17408 17408)/\w.cell? ⟨g,1,none⟩=some bv/\w.cell? ⟨g,2,none⟩=some (.int .i64 d) :=
 ⟨S9z,S9z,S9z⟩
theorem Tb.frozen{w g gi bv d}(h:Tb w g gi bv d) i:w.frozen? ⟨g,i,none⟩=false:=frozen_of_row _ _ _ _ _ h
theorem Tb.set{w g gi bv d}(h:Tb w g gi bv d) bv':Tb (w.setCell ⟨g,1,none⟩ bv') g gi bv' d:=by
 unfold Tb at h ⊢;rw[heap_setCell_same w g 1 _ _ _ h];rfl
structure Keeps(w w':World)(row:Option Nat):Prop where
 block:∀k,k<w.heap.size->some k≠row->w'.heap[k]?=w.heap[k]?
theorem Keeps.of_below{w w'}(h:Bw w w') row:Keeps w w' row:=⟨fun k G _=>h.block k G⟩
theorem Keeps.of_grown{w w' row}(h:w.grownBy w' row):Keeps w w' row:=⟨h.block⟩
theorem Keeps.of_set w a v:Keeps w (w.setCell a v) (some a.block):=⟨fun k _ t=>heap_setCell_other w a k v (fun e=>t n5N)⟩
theorem Ix.keep{w w' g xs row}(h:Ix w g xs)(G:Keeps w w' row)(t:some g≠row):Ix w' g xs:=⟨h.1,by rw[G.block g h.lt t];exact h.2⟩
theorem Tb.keep{w w' g gi bv d}{row}(h:Tb w g gi bv d)(G:Keeps w w' row)(t:some g≠row):Tb w' g gi bv d:=by
 have S:=h.lt;unfold Tb at h ⊢;rw[G.block g S t];exact h
theorem Bk.keep{w w' g zs row}(h:Bk w g zs)(G:Keeps w w' row)(t:some g≠row):Bk w' g zs:=by
 have S:=h.lt;unfold Bk at h ⊢;rw[G.block g S t];exact h
theorem Ob.keep{e w w' B v}{bs row}(h:Ob e w B v bs)(G:Keeps w w' row)(t:∀k,row=some k->k<B):Ob e w' B v bs:=by
 refine⟨h.1,?_⟩;obtain⟨Z,D | ⟨g,M,A,N,C,H,r⟩⟩:=h.2
 ·exact⟨Z,.inl D⟩
 ·refine⟨Z,.inr ⟨g,M,A,N,C,?_,r⟩⟩;rw[G.block g (Array.getElem?_eq_some_iff.1 H).1 ?_]
  ·exact H
  ·grind
theorem x2q{w w' b n}{D:DataW Unit}{row}(h:w.ownsMap prog 147 (plainElem prog 145) b n D)(G:Keeps w w' row)(t:some b≠row):w'.ownsMap prog 147 (plainElem prog 145) b n D:=by
 have S:=h.lt;obtain⟨d,clock,Y,r⟩:=h;exact⟨d,clock,by rw[G.block b S t];exact Y,r⟩
theorem below_grown{B w w1 w2 row}(h:Below B w w1)(C:w1.grownBy w2 row)(m:B<=w1.heap.size)(hr:∀k,row=some k->B<=k):Below B w w2:=h.grown C m hr
def x5W(w:World)(rs:List Tri.Rg)(d:Int)(e:Ending)(w':World):Prop:=∃a,e=.returned (.pointer (some a))/\T4 w' w.heap.size (.pointer (some a)) rs d/\Below w.heap.size w w'
def bsAt(f:Int->Int)(p:Nat):List (List Int):=Tri.blkA [] ((Tri.pcs f).take p)
theorem z5o f p(s:p<17408):(Tri.pcs f).getD p []=Tri.blk f p:=by
 simp[Tri.pcs,List.getD,s]
theorem z2p f:bsAt f 17408=Tri.bls f:=by
 unfold bsAt Tri.bls;rw[List.take_of_length_le (by rw[Tri.x4U];exact f6J)]
theorem y0t f p(s:p<17408):bsAt f (p+1)=Tri.push (bsAt f p) (Tri.blk f p):=by
 unfold bsAt;rw[Tri.y0s _ _ _ (by rw[Tri.x4U];exact s),z5o f p s]
theorem z5c f p(s:p<17408):(Tri.idx f).getD p 0=(bsAt f p).idxOf (Tri.blk f p):=by
 rw[Tri.idx,Tri.y9k _ _ _ (by rw[Tri.x4U];exact s),z5o f p s];rfl
theorem z2q f p:(bsAt f p).length<=p:=by
 have:=(Tri.y3L [] ((Tri.pcs f).take p)).2;rw[List.length_take]at this;unfold bsAt;simp only[List.length_nil]at this;omega
theorem y5h f p:(bsAt f p).Nodup:=Tri.y5g List.nodup_nil
theorem y7L{f}(h:∀c,0<=f c/\f c<=65535) p:x6o (bsAt f p):=by
 intro b Y;rcases Tri.blkA_sub Y with h1 | h1
 ·cases h1
 ·have D:=List.mem_of_mem_take h1;rw[Tri.pcs,List.mem_map]at D;obtain⟨q,_,rfl⟩:=D;exact y3M h q
theorem z7Z{f p}(s:p<17408)(A:Tri.blk f p∈bsAt f p):bsAt f (p+1)=bsAt f p/\(Tri.idx f).getD p 0=(bsAt f p).idxOf (Tri.blk f p)/\(bsAt f p).idxOf (Tri.blk f p)<(bsAt f p).length :=
 ⟨by rw[y0t f p s,Tri.z0z A],z5c f p s,List.idxOf_lt_length_iff.2 A⟩
theorem z4q{f p}(s:p<17408)(A:Tri.blk f p ∉ bsAt f p):bsAt f (p+1)=bsAt f p++[Tri.blk f p]/\(Tri.idx f).getD p 0=(bsAt f p).length:=by
 refine⟨by rw[y0t f p s];unfold Tri.push;rw[if_neg A],?_⟩;rw[z5c f p s];have Z:¬(bsAt f p).idxOf (Tri.blk f p)<(bsAt f p).length:=fun D=>A (List.idxOf_lt_length_iff.1 D);have D:(bsAt f p).idxOf (Tri.blk f p)<=(bsAt f p).length:=List.idxOf_le_length;omega
theorem z7m n:madeCells #[.int .u16 0] n=arrA (List.replicate n 0):=by
 apply Array.ext';rw[toList_madeCells_one];simp[arrA]
theorem q0Q w d w3(h:w3=((w.alloc (.cells (madeCells #[.int .u16 0] 17408) 145)).alloc (.cells #[.slice (some ⟨w.heap.size,0,none⟩) 17408 17408,.slice none 0 0,.int .i64 d] 144)).alloc (.map #[] 0)) :
  Bw w w3/\Ix w3 w.heap.size (List.replicate 17408 0)/\Tb w3 (w.heap.size+1) w.heap.size (.slice none 0 0) d/\w3.ownsMap prog 147 (plainElem prog 145) (w.heap.size+1+1) 0 (dat []):=by
 subst h;refine⟨(((Below.refl _ w).alloc (l0r _) _).alloc M7M _).alloc P8P _,⟨List.length_replicate,?_⟩,?_,?_⟩
 ·rw[Below.heap_alloc _ _ _ P8P,Below.heap_alloc _ _ _ M7M,heap_alloc_last,z7m]
 ·unfold Tb;rw[Below.heap_alloc _ _ _ M7M];have:=heap_alloc_last (w.alloc (.cells (madeCells #[.int .u16 0] 17408) 145)) (.cells #[.slice (some ⟨w.heap.size,0,none⟩) 17408 17408,.slice none 0 0,.int .i64 d] 144);rwa [(M7M:(w.alloc (.cells (madeCells #[.int .u16 0] 17408) 145)).heap.size=w.heap.size+1)]at this
 ·have:=World.ownsMap_made (H:=Unit) ((w.alloc (.cells (madeCells #[.int .u16 0] 17408) 145)).alloc (.cells #[.slice (some ⟨w.heap.size,0,none⟩) 17408 17408,.slice none 0 0,.int .i64 d] 144)) prog 147 (plainElem prog 145);rwa [(M7M:((w.alloc (.cells (madeCells #[.int .u16 0] 17408) 145)).alloc (.cells #[.slice (some ⟨w.heap.size,0,none⟩) 17408 17408,.slice none 0 0,.int .i64 d] 144)).heap.size=w.heap.size+1+1)]at this
theorem z6v xs(l:List Nat)(h:xs.length=l.length)(A:∀j,j<l.length->xs.getD j 0=((l.getD j 0:Nat):Int)):xs=l.map fun n:Nat=>(n:Int):=by
 apply List.ext_getElem (by rw[h,List.length_map]);intro j a b;have:=A j T5W;rw[List.getElem_map];simp only[List.getD,List.getElem?_eq_getElem a,Option.getD_some]at this;rw[this,List.getElem?_eq_getElem T5W];rfl
theorem z6K(l:List Nat)(h:∀j,j<l.length->l.getD j 0<=65535):Fit .u16 (l.map fun n:Nat=>(n:Int)):=by
 intro z T;obtain⟨n,F,rfl⟩:=List.mem_map.1 T;obtain⟨j,X,rfl⟩:=List.getElem_of_mem F;have y:=h j X;simp only[List.getD,List.getElem?_eq_getElem X,Option.getD_some]at y;simp[IntKind.min,IntKind.max,IntKind.signed,IntKind.bits];omega
theorem ix_ok n(F:n<=100000){wr B gI} zs(m:B<=gI)(S:zs.length=n)(z:Fit .u16 zs)(H:wr.heap[gI]?=some (.cells (arrA zs) 145 (0,0))):Ok .u16 145 wr B (.slice (some ⟨gI,0,none⟩) n n) zs:=by
 refine⟨z,by rw[List.length_map];exact f6J,?_⟩;rw[List.length_map,S];refine⟨by rw[List.length_map,Nat.mul_one,S],.inr ⟨gI,n,arrA zs,rfl,m,H,l0r _,T7W,by rw[x1L,Nat.mul_one,S],?_⟩⟩;rw[Nat.mul_one,List.take_of_length_le (by rw[Array.length_toList,x1L,S];exact f6J)];simp[arrA]
theorem Ob.lower{e w B B' v}{bs}(h:Ob e w B v bs)(Y:B'<=B):Ob e w B' v bs:=by
 refine⟨h.1,h.2.1,?_⟩;rcases h.2.2 with h | ⟨g,M,A,N,C,r⟩
 ·exact .inl h
 ·exact .inr ⟨g,M,A,N,f6J,r⟩
theorem y9m f j(X:j<(Tri.idx f).length):(Tri.idx f).getD j 0<=65535:=by
 have Z:=Tri.idx_len f;have D:=Tri.y7K f;have J:=(Tri.y7J f j f6J).2;omega
theorem fin4{w wr}{rs:List Tri.Rg}{d gI gT gM bv xs}(z:Tri.Val 0 rs)(hd:0<=d/\d<=65535)(Z:w.heap.size<=gI)(D:w.heap.size<=gT)(J:w.heap.size<=gM)
  (L:Ix wr gI xs) (A:∀j,j<17408->xs.getD j 0=(((Tri.idx (Tri.get d rs)).getD j 0:Nat):Int)) (u:Tb wr gT gI bv d) (m:Ob 147 wr (gM+1) bv (bsAt (Tri.get d rs) 17408)) (Y:Bw w wr) :
  x5W w rs d (.returned (.pointer (some ⟨gT,0,none⟩))) wr:=by
 have B:=Tri.idx_len (Tri.get d rs);have C:=z6v xs (Tri.idx (Tri.get d rs)) (L.1.trans B.symm) (fun j X=>A j (by rw[B]at X;exact X));have s:=z6K (Tri.idx (Tri.get d rs)) (y9m (Tri.get d rs));have F:=ix_ok 17408 f6J xs Z L.1 (by rw[C];exact s) L.2;rw[C]at F;rw[z2p]at m;exact⟨_,rfl,⟨z,hd,gT,_,bv,rfl,D,u,F,m.lower f6J⟩,Y⟩
theorem y8f v(rs:List Tri.Rg) d w(hv:Sr w v rs)(z:Tri.Val 0 rs)(hd:0<=d/\d<=65535) :
  Calls prog 248 #[v,.int .i64 d] w (x5W w rs d):=by
 have HV:=O z;have cN:=O hv;have aG:Hid (∀c,0<=Tri.get d rs c/\Tri.get d rs c<=65535):=fun c=>Tri.y0U hd z;have cj:Hid (∀wr gI F gM bv X,w.heap.size<=gI->w.heap.size<=F->w.heap.size<=gM->Ix wr gI X->(∀j,j<17408->X.getD j 0=(((Tri.idx (Tri.get d rs)).getD j 0:Nat):Int))->Tb wr F gI bv d->Ob 147 wr (gM+1) bv (bsAt (Tri.get d rs) 17408)->Bw w wr->x5W w rs d (.returned (.pointer (some ⟨F,0,none⟩))) wr):=fun wr gI F gM bv X a1 a2 a3 a4 a5 a6 a7 a8=>fin4 z hd a1 a2 a3 a4 a5 a6 a7 a8
 have ci:Hid (∀(k p:Nat),(∀j,j<k->Tri.hi (rs.getD j (0,0,0))<64*(p:Int))->Tri.blk (Tri.get d (rs.drop k)) p=Tri.blk (Tri.get d rs) p):=by
  intro k p h;unfold Tri.blk;refine List.map_congr_left fun i _=>?_;exact Tri.z3f k fun j hj _=>by have:=h j hj;exact f6J
 have bH:Hid (∀(u:Value) (k p:Nat) (w':World),Sr w' u (rs.drop k)->p<17408->Calls prog 285 #[u,.int .i64 ((p:Int)*64),.int .i64 d] w' (y7g w' (Tri.blk (Tri.get d (rs.drop k)) p))):=fun u k p w' h1 h2=>z8o u _ d p w' h1 (Tri.z4A z k) hd h2;obtain⟨d1,d2⟩:=hd;have dB:=@run_makeMap prog;have dA:∀w,(Instr.makeSlice 141 (.int .i64 17408) (.int .i64 17408)).run prog w=.ok (.slice (some ⟨w.heap.size,0,none⟩) 17408 17408) (w.alloc (.cells (madeCells #[.int .u16 0] 17408) 145)):=run_make_row' (P:=prog) 141 145 (.int .u16 0) 2 underlying141 Tryz.info145 rfl .i64 .i64 17408 f6J f6J;have cU:=O (q0Q w d);generalize Tri.get d rs=f at *;go_enter func248,ntmps248;go_wp2;have cO:=V cU _ rfl;generalize((w.alloc (.cells (madeCells #[.int .u16 0] 17408) 145)).alloc (.cells #[.slice (some ⟨w.heap.size,0,none⟩) 17408 17408,.slice none 0 0,.int .i64 d] 144)).alloc (.map #[] 0)=wz at *;obtain⟨gI,bp⟩:∃g,g=w.heap.size:=⟨_,rfl⟩;obtain⟨F,bO⟩:∃g,g=w.heap.size+1:=⟨_,rfl⟩;obtain⟨gM,bN⟩:∃g,g=w.heap.size+1+1:=⟨_,rfl⟩;obtain⟨cK,bJ,bL,bK⟩:=cO;rw[<- bN]at bK;rw[<- bO,<- bp]at bL;rw[<- bp]at bJ;have dq:gI<F:=f6J;have du:F<gM:=f6J;have aX:w.heap.size<=gI:=f6J;rw[<- bN,<- bO,<- bp];clear bp bO bN;go_loopw[0,17] (fun l i wr=>∃(p k:Nat) (bv:Value) (X:List Int),i=.int .i64 p/\p<=17408/\Sr w l (rs.drop k)/\k<=rs.length/\(∀j,j<k->Tri.hi (rs.getD j (0,0,0))<64*(p:Int))/\Ix wr gI X/\(∀j,j<p->X.getD j 0=(((Tri.idx f).getD j 0:Nat):Int))/\Tb wr F gI bv d/\Ob 147 wr (gM+1) bv (bsAt f p)/\wr.ownsMap prog 147 (plainElem prog 145) gM p (dat (bsAt f p))/\Bw w wr) (fun _ i _=>17408-(intOf i).toNat)
 case atStart=>exact⟨0,0,_,_,rfl,f6J,by simpa using V cN,f6J,fun j hj=>f6J,bJ,fun j hj=>f6J,bL,⟨fun b hb=>(by cases hb),World.ownsRow_nil _ _ _ _⟩,bK,cK⟩
 case round =>
  clear cK bJ bL bK cN;obtain⟨p,k,bv,X,rfl,hp,hs,hk,bQ,hI,bu,hT,hB,hM,T⟩:=hrel;by_cases aM:p<17408
  ·have cG:Fi ((p:Int)*64):=(by constructor<;>omega);have dv:(0:Int)<=(p:Int):=f6J;have dw:(p:Int)<17408:=f6J;have cC:=O (z0H _ (rs.drop k) ((p:Int)*64) w wr hs T cG);have cW:=O bu;have HI:=O hI;have HT:=O hT;have HB:=O hB;have HM:=O hM;have cz:=O bQ;clear cG hs bu hI hT hB hM bQ;go_wp2_with fail;refine(V cC).mono ?_;rintro e w1 ⟨rfl,v1,k1,rfl,aF,t,cM⟩;clear cC;have aF:Sr w v1 (rs.drop (k+k1)):=(by rw[<- List.drop_drop];exact aF);have t:k+k1<=rs.length:=by rw[List.length_drop]at t;omega
   have bP:∀j,j<k+k1->Tri.hi (rs.getD j (0,0,0))<64*(p:Int):=by
    intro j hj;by_cases da:j<k
    ·exact V cz j da
    ·have:=cM (j-k) f6J;rw[show(rs.drop k).getD (j-k) (0,0,0)=rs.getD j (0,0,0)by simp[List.getD,List.getElem?_drop,(f6J:k+(j-k)=j)]]at this;omega
   have aR:=V bH v1 (k+k1) p w1 (aF.below T) aM;rw[V ci _ _ bP]at aR;have aR:=O aR;have cw:=O bP;clear cz cM bP;generalize k+k1=kk at *;go_wp2_with fail;refine c0m aR fun w2 aL=>?_;clear aR;have ai:Good (Tri.blk f p):=y3M (V aG) p;have bM:=y7L (V aG) p;have aw:=O (z9q (bsAt f p) bM (y5h f p) (Tri.blk f p) ai);have cZ:=z2q f p;have bC:=O (fun hm=>z7Z (f:=f) aM hm);have aP:=O (fun hm=>z4q (f:=f) aM hm);have J:=y4n ai;have aD:=ai.1;have dx:=T.size;have cL:Bw w (w2.alloc (.cells (arrA (Tri.blk f p)) 147)):=(T.trans (aL.mono T.size)).alloc (Nat.le_trans T.size aL.size) _;have K3:Keeps w1 (w2.alloc (.cells (arrA (Tri.blk f p)) 147)) none:=Keeps.of_below (aL.alloc aL.size _) none;have I:=O ((V HI).keep K3 M7N);have Y:=O ((V HT).keep K3 M7N);have aj:=O ((V HB).keep K3 (fun k h=>by cases h));have s:=x2q (V HM) K3 M7N;have aT:Bk (w2.alloc (.cells (arrA (Tri.blk f p)) 147)) w2.heap.size (Tri.blk f p):=Bk.new w2 _ _ rfl;have R:=aT.box;have di:=fun w=>y6V w (Tri.blk f p) aD;have dt:gM<w1.heap.size:=(V HM).lt;have dj:=aL.size;clear HI HT HB HM K3 aL T;generalize Tri.blk f p=zs,bsAt f p=bs at *;have cX:((arrA zs).toList:List Value)=zs.map (Value.int .u16):=(by simp[arrA]);have bX:(arrA zs).size=64:=(by rw[x1L,aD]);have aN:=O R;have aO:=O J;have bG:=O s;have be:=O cL;have bA:=O aT;clear R J s cL aT
   set_option maxRecDepth 100000 in
   go_upto_region 9 with fail;clear di cX bX;have s:=V bG;have J:=V aO;have R:=V aN;generalize w2.alloc (.cells (arrA zs) 147)=w3 at *;go_wp2_with(first| refine wpList_load_mid rfl 147 (.tmp 9) rfl w2.heap.size 0 rfl (zs.map (Value.int .u16)) _ R underlying147 rfl (x6O aD) ?_|(at_lookup;refine wpList_lookup_own_ok_int _ rfl _ _ 362 rfl 147 145 .u16 y3G underlying362 underlying145 (z8x _) gM p (dat bs) rfl s _ (keyL zs) rfl J ?_));intro c af cP;have I:=V I;have Y:=V Y;have bw:=aj;have bm:=I.cell (i:=p) aM;have bn:=I.frozen p;have bB:∀j,j<kk->Tri.hi (rs.getD j (0,0,0))<64*((p+1:Nat):Int):=fun j hj=>(by have:=V cw j hj;exact f6J);have bh:=O bB
   have bj:Hid (∀n:Int,n=(((Tri.idx f).getD p 0:Nat):Int)->∀j,j<p+1->(X.set p n).getD j 0=(((Tri.idx f).getD j 0:Nat):Int)):=by
    intro n hn j hj;rw[x8P X p j n (by rw[I.1];exact aM)];by_cases bS:j=p
    ·rw[if_pos bS,hn,bS]
    ·rw[if_neg bS];exact V cW j f6J
   clear bB cw;by_cases hm:zs∈bs
   ·obtain⟨e1,e2,e3⟩:=V bC hm;have aA:Maps.has (dat bs) (keyL zs)=true:=by rw[(V aw).1,d0t hm]
    have hc:c=(bs.idxOf zs:Int):=by
     rw[(V aw).2 hm]at af;simpa using af.symm
    subst hc;rw[aA];have aS:=O (V bj (bs.idxOf zs:Int) (by rw[e2]));have cH:=I.set p (bs.idxOf zs:Int);have K5:=Keeps.of_set w3 ⟨gI,p,none⟩ (.int .u16 (bs.idxOf zs:Int));have cJ:=Y.keep K5 P8U;have cF:=(V aj).keep K5 (fun k h=>E0V);have cI:=(x2q s K5 P8U).mono (Nat.le_succ p);have cY:=(V be).setCell (p:=⟨gI,p,none⟩) aX (.int .u16 (bs.idxOf zs:Int));obtain⟨y0,y1,y2⟩:=Y.cells;have cS:=O cH;have cV:=O cJ;have cR:=O cF;have cT:=O cI;have E1:=O e1;have dy:=O I;clear af cP aA aw bC aP bj cH K5 cJ cF cI e1 e2 bG s Y I R aN be aj bw bA J aO hm cZ bM;generalize(bs.idxOf zs:Int)=n at *;go_wp2
    go_roundw
    case rel=>exact⟨p+1,kk,bv,X.set p n,by go_num,f6J,aF,t,V bh,V cS,V aS,V cV,by rw[V E1];exact V cR,by rw[V E1];exact V cT,cY⟩
    case measure=>exact g7W
   ·obtain⟨e1,e2⟩:=V aP hm;have aA:Maps.has (dat bs) (keyL zs)=false:=(by rw[(V aw).1,d0f hm]);rw[aA];have aS:=O (V bj (bs.length:Int) (by rw[e2]));have E1:=O e1;have aj:=V aj;obtain⟨ao,L,rfl,dl,dp⟩:=aj.sb.shape;obtain⟨y0,y1,y2⟩:=Y.cells;have db:(0:Int)<=(bs.length:Int):=f6J;have de:(bs.length:Int)<=65535:=f6J;have dk:(Lit.int .u16 (bs.length:Int)).wf=true:=z5v ⟨db,de⟩;have cf:=O aj;have cD:=O Y;have cB:=O I;clear af cP aA aw bC aP bj e1 e2 bG Y I aN aj bw aO bM bm bn;go_wp2_with(first| refine wpList_load_mid rfl 147 (.tmp 9) rfl w2.heap.size 0 rfl (zs.map (Value.int .u16)) _ R underlying147 rfl (x6O aD) ?_|(at_mapUpdate;refine wpList_mapUpdate_own _ rfl _ _ _ 362 rfl 147 145 y3G underlying362 (plainElem prog 145) gM p (dat bs) rfl s T7X _ _ (keyL zs) rfl rfl J (.lit (.int .u16 (bs.length:Int))) [] (plainElem_int underlying145 dk) ?_));intro D U aW;have K4:=Keeps.of_grown aW;have am:=(V cD).keep K4 P8U;have aK:=(V cB).keep K4 P8U;have m:=(V cf).keep K4 (fun k h=>by cases h;exact f6J);have bt:=(V bA).keep K4 P8U;have aq:=below_grown (V be) aW (V be).size (fun k h=>by cases h;exact f6J);rw[<- y3T]at U;have aC:=m.2;have r:=aC.lt;obtain⟨i0,z0,bR,bY,bZ,cd,ce⟩:=z9Q;obtain⟨x0,x1,x2⟩:=am.cells;have dz:=am.frozen 1;have H:=y5L z64 rfl zs aD;have dr:=U.lt;have bV:∀v∈zs.map (Value.int .u16),v.oneCell'=true:=x0O .u16 zs;have bT:some F≠(Value.slice ao bs.length L).ownBlock:=fun e=>M0v;have bT:some F≠(Value.slice ao bs.length L).ownBlock:=fun e=>by have:=(r _ e.symm).1;omega
    have cE:∀(W A:World) (o:Obj),W.heap=(D.alloc o).heap->W.grownBy A (Value.slice ao bs.length L).ownBlock->Keeps D A (Value.slice ao bs.length L).ownBlock:=by
     intro W A o hW hg
     exact⟨fun k hk dh=>by
      rw[hg.block k (by rw[hW];exact P8U) dh,hW]
      exact Below.heap_alloc D o k hk⟩
    have aJ:=O cE;have bF:=O bT
    have aQ:Hid (∀(A:World) (x:Value),Tb A F gI (.slice ao bs.length L) d->∀gg M,x=.slice (some ⟨gg,0,none⟩) (bs.length+1) M->(Instr.storeAt 142 (.pointer (some ⟨F,1,none⟩)) x).run prog A=.ok () (A.setCell ⟨F,1,none⟩ x)):=by
     intro A x y gg M hx;subst hx;obtain⟨_,q1,_⟩:=y.cells;have q2:=y.frozen 1;go_simp
    have aZ:(Instr.loadAt 142 (.pointer (some ⟨F,1,none⟩))).run prog D.drew=.ok (.slice ao bs.length L) D.drew:=by
     have q1:D.drew.cell? ⟨F,1,none⟩=some (.slice ao bs.length L):=x1;go_simp
    have aH:(Instr.loadAt 142 (.pointer (some ⟨F,1,none⟩))).run prog (D.drew.alloc (.cells (zs.map (Value.int .u16)).toArray 147))=.ok (.slice ao bs.length L) (D.drew.alloc (.cells (zs.map (Value.int .u16)).toArray 147)):=by
     have q1:(D.drew.alloc (.cells (zs.map (Value.int .u16)).toArray 147)).cell? ⟨F,1,none⟩=some (.slice ao bs.length L):=by
      rw[((Below.refl _ D.drew).alloc (l0r _) _).cell (x0a (w:=D) x1)];exact x1
     generalize D.drew.alloc (.cells (zs.map (Value.int .u16)).toArray 147)=wq at *;go_simp
    have ba:=run_loadAt_mid (P:=prog) D.drew w2.heap.size 0 147 (zs.map (Value.int .u16)) _ bt.box underlying147 rfl (x6O aD);have H:=y6I 142 147 underlying142 z9P D.drew zs aD;have ab:(D.drew.alloc (.cells (zs.map (Value.int .u16)).toArray 147)).ownsRow (gM+1) 147 64 (.slice ao bs.length L) bs.length (x1Y bs):=World.ownsRow.alloc (w:=D.drew) aC _
    have C:∀j u,(zs.map (Value.int .u16))[j]?=some u->(D.drew.alloc (.cells (zs.map (Value.int .u16)).toArray 147)).cell? ((⟨D.heap.size,0,none⟩:Addr).add j)=some u:=by
     intro j u hj;have h9:=heap_alloc_last D.drew (.cells (zs.map (Value.int .u16)).toArray 147);rw[addr_add,Nat.zero_add,cell_of_row _ D.heap.size j _ _ _ h9];simpa using hj
    have bU:(zs.map (Value.int .u16)).length=1*64:=P8U;have ag:gM+1<=(D.drew.alloc (.cells (zs.map (Value.int .u16)).toArray 147)).heap.size:=(by have h9:D.drew.heap.size=D.heap.size:=rfl;exact P8U);have bI:(D.drew.alloc (.cells (zs.map (Value.int .u16)).toArray 147)).heap.size=D.heap.size+1:=(by have h9:D.drew.heap.size=D.heap.size:=rfl;exact M7N);have bD:Hid (some gI≠(Value.slice ao bs.length L).ownBlock):=fun e=>M0v;have bE:Hid (some gM≠(Value.slice ao bs.length L).ownBlock):=fun e=>M0v
    have aI:Hid (∀(A:World) (x:Value),A.ownsRow (gM+1) 147 64 x (bs.length+1) (x1Y bs++zs.map (Value.int .u16))->Ob 147 A (gM+1) x (bs++[zs])):=by
     intro A x h;refine⟨fun b hb=>?_,?_⟩
     ·rcases List.mem_append.1 hb with h1 | h1
      ·exact m.1 b h1
      ·simp at h1;subst h1;exact ai
     ·rw[y5d,x9a,List.length_append];exact h
    have B:Hid (∀(A:World) (x:Value),Tb A F gI (.slice ao bs.length L) d->Ix A gI X->A.ownsMap prog 147 (plainElem prog 145) gM (p+1) (dat (bs++[zs]))->Ob 147 A (gM+1) x (bs++[zs])->Bw w A ->
      ((A.setCell ⟨F,1,none⟩ x).cell? ⟨F,0,none⟩=some (.slice (some ⟨gI,0,none⟩) 17408 17408)/\(A.setCell ⟨F,1,none⟩ x).cell? ⟨F,1,none⟩=some x/\(A.setCell ⟨F,1,none⟩ x).cell? ⟨F,2,none⟩=some (.int .i64 d))/\(A.setCell ⟨F,1,none⟩ x).cell? ⟨gI,p,none⟩=some (.int .u16 (X.getD p 0))/\(A.setCell ⟨F,1,none⟩ x).frozen? ⟨gI,p,none⟩=false /\
      (Ix ((A.setCell ⟨F,1,none⟩ x).setCell ⟨gI,p,none⟩ (.int .u16 (bs.length:Int))) gI (X.set p (bs.length:Int))/\Tb ((A.setCell ⟨F,1,none⟩ x).setCell ⟨gI,p,none⟩ (.int .u16 (bs.length:Int))) F gI x d/\Ob 147 ((A.setCell ⟨F,1,none⟩ x).setCell ⟨gI,p,none⟩ (.int .u16 (bs.length:Int))) (gM+1) x (bs++[zs]) /\
       ((A.setCell ⟨F,1,none⟩ x).setCell ⟨gI,p,none⟩ (.int .u16 (bs.length:Int))).ownsMap prog 147 (plainElem prog 145) gM (p+1) (dat (bs++[zs]))/\Bw w ((A.setCell ⟨F,1,none⟩ x).setCell ⟨gI,p,none⟩ (.int .u16 (bs.length:Int))))):=by
     intro A x a1 a2 a3 a4 a5;have b1:=a1.set x;have k1:=Keeps.of_set A ⟨F,1,none⟩ x;have b2:=a2.keep k1 P8U;have b3:=x2q a3 k1 P8U;have b4:=a4.keep k1 (fun k h=>E0V);have b5:=a5.setCell (p:=⟨F,1,none⟩) (f6J:w.heap.size<=F) x;have k2:=Keeps.of_set (A.setCell ⟨F,1,none⟩ x) ⟨gI,p,none⟩ (.int .u16 (bs.length:Int));exact⟨b1.cells,b2.cell aM,b2.frozen p,b2.set p _,b1.keep k2 P8U,b4.keep k2 (fun k h=>E0V),x2q b3 k2 P8U,b5.setCell (p:=⟨gI,p,none⟩) aX _⟩
    have aU:w.heap.size<=D.drew.heap.size:=aq.size;have aY:w.heap.size<=gM+1:=f6J;have aV:w.heap.size<=(D.drew.alloc (.cells (zs.map (Value.int .u16)).toArray 147)).heap.size:=(by have h9:D.drew.heap.size=D.heap.size:=rfl;have:=aq.size;exact P8U);clear R cE bT;go_wp2;refine wp_region_any f4B ?_;change wpAny _ _ _ _ _ _ _ (World.drew _);refine wpAny_take (i:=0) (oi:=⟨some 46,_,_,_,_,_⟩) (v:=.pointer (some ⟨F,0,none⟩)) rfl f4B f4B f4B (fun _ _ _ h=>h) (Or.inl ⟨by rfl,?_⟩) ?_
    ·intro w;go_simp
    simp only[Act.put,sa9,sb9,sc9];refine wpAny_take (i:=1) (oi:=⟨some 47,_,_,_,_,_⟩) (v:=.pointer (some ⟨F,0,none⟩)) rfl f4B f4B f4B (fun _ _ _ h=>h) (Or.inl ⟨by rfl,?_⟩) ?_
    ·intro w;go_simp
    simp only[Act.put,sa9,sb9,sc9];refine wpAny_take (i:=2) (oi:=⟨some 48,_,_,_,_,_⟩) (v:=.pointer (some ⟨F,0,none⟩)) rfl f4B f4B f4B (fun _ _ _ h=>h) (Or.inl ⟨by rfl,?_⟩) ?_
    ·intro w;go_simp
    simp only[Act.put,sa9,sb9,sc9];refine wpAny_take (i:=3) (oi:=⟨some 49,_,_,_,_,_⟩) (v:=.pointer (some ⟨F,1,none⟩)) rfl f4B f4B f4B (fun _ _ _ h=>h) (Or.inl ⟨by rfl,?_⟩) ?_
    ·intro w;go_simp
    simp only[Act.put,sa9,sb9,sc9];refine wpAny_ready (rs:=[4,5]) f4B M7N ?_;refine AllReady.cons (o:=⟨some 50,_,_,_,_,_⟩) rfl (fun K hK=>?_) (AllReady.cons (o:=⟨some 51,_,_,_,_,_⟩) rfl (fun K hK=>?_) AllReady.nil)
    ·refine x1P (by rfl) 142 (.tmp 49) (by rfl) _ _ (by rfl) aZ ?_;refine hK _ _ ?_;clear hK K;simp only[Act.put,sa9,sb9,sc9];refine wpAny_ready (rs:=[5]) f4B M7N ?_;refine AllReady.cons (o:=⟨some 51,_,_,_,_,_⟩) rfl (fun K hK=>?_) AllReady.nil;refine x1P (by rfl) 147 (.tmp 9) (by rfl) _ _ (by rfl) ba ?_;exact p9F
    ·refine x1P (by rfl) 147 (.tmp 9) (by rfl) _ _ (by rfl) ba ?_;refine hK _ _ ?_;clear hK K;simp only[Act.put,sa9,sb9,sc9];refine wpAny_ready (rs:=[4,6]) f4B M7N ?_;refine AllReady.cons (o:=⟨some 50,_,_,_,_,_⟩) rfl (fun K hK=>?_) (AllReady.cons (o:=⟨some 52,_,_,_,_,_⟩) rfl (fun K hK=>?_) AllReady.nil)
     ·refine x1P (by rfl) 142 (.tmp 49) (by rfl) _ _ (by rfl) aZ ?_;exact p9F
     ·refine x2h (by rfl) 142 (.tmp 51) (by rfl) _ _ (by rfl) H ?_;refine hK _ _ ?_;clear hK K;simp only[Act.put,sa9,sb9,sc9];refine wpAny_ready (rs:=[4]) f4B M7N ?_;refine AllReady.cons (o:=⟨some 50,_,_,_,_,_⟩) rfl (fun K hK=>?_) AllReady.nil;refine x1P (by rfl) 142 (.tmp 49) (by rfl) _ _ (by rfl) aH ?_;exact u5M
  ·obtain rfl:p=17408:=f6J;have HR:=V cj wr gI F gM bv X aX f6J f6J hI bu hT hB T;clear hI bu hT hB hM T hs bQ;go_wp2;go_ret;exact HR
end Go.Proofs.YtkfcabdmkmljjaaGreatDoor.Ti
namespace Go.Proofs.YtkfcabdmkmljjaaGreatDoor.Ti
open Go.Proofs.Tryz
open Go.RowKit
def okv(n:Int):Bool:=decide (0<=n/\n<=65535)
theorem okv_lo{n}(h:n<0):okv n=false:=by unfold okv;rw[d0f];exact f6J
theorem okv_hi{n}(h:65535<n):okv n=false:=by unfold okv;rw[d0f];exact f6J
theorem z5m{n}(h:¬n<0)(D:¬65535<n):okv n=true:=by unfold okv;rw[d0t];exact f6J
theorem y4l n w(F:Fi n):Calls prog 283 #[.int .i64 n] w fun e w'=>e=.returned (.bool (okv n))/\w'=w:=by
 obtain⟨Z,D⟩:=F;by_cases d:n<0
 ·rw[okv_lo d];exact m8X
 ·by_cases B:65535<n
  ·rw[okv_hi B];have f:¬n<=65535:=f6J;exact m8X
  ·rw[z5m d B];have f:n<=65535:=f6J;exact m8X
theorem z9x l h x b w(S:Fi l)(H:Fi h)(A:Fi x)(J:Fi b):Calls prog 282 #[.agg #[.int .i64 l,.int .i64 h,.int .i64 x],.int .i64 b] w (z5z w (Tri.bad (some b) (l,h,x))):=by
 have R:=O (fun w'=>y4l x w' A);obtain⟨v,T⟩:=S;obtain⟨Z,D⟩:=H;obtain⟨L,p⟩:=A;obtain⟨b1,u⟩:=J;have Y:Bw w (w.alloc (.cells #[.int .i64 l,.int .i64 h,.int .i64 x] 272)):=(b0r).alloc (l0r _) _;by_cases d:l<0
 ·rw[x6u (r:=(l,h,x)) (.inl d)];exact w9d
 ·by_cases I:1114111<h
  ·rw[x6u (r:=(l,h,x)) (.inr (.inl I))];exact w9d
  ·by_cases f:h<l
   ·rw[x6u (r:=(l,h,x)) (.inr (.inr f))];exact w9d
   ·have F:¬(Tri.lo (l,h,x)<0\/1114111<Tri.hi (l,h,x)\/Tri.hi (l,h,x)<Tri.lo (l,h,x)):=(by simp only[Tri.x6V,Tri.x9q];exact f6J);by_cases X:x<0\/65535<x
    ·rw[y7C F X];have G:okv x=false:=(by rcases X with h | h;exact okv_lo h;exact okv_hi h);rw[G]at R;exact i1u
    ·have G:okv x=true:=z5m f6J f6J;rw[G]at R;by_cases t:l<=b
     ·rw[y7B F X t];exact i1u
     ·rw[z2f F X t];exact i1u
def prz(rs:List Tri.Rg):Nat->Int
 | 0=>-1
 | k+1=>Tri.hi (rs.getD k (0,0,0))
theorem z5O(rs:List Tri.Rg) k(r:Tri.Rg):Tri.bad (some (prz rs k)) r=Tri.bad (prv rs k) r:=by
 cases k with
 | zero =>
  unfold Tri.bad prz prv;split
  ·rfl
  ·grind
 | succ k=>rfl
theorem y2z v(rs:List Tri.Rg) d w(N:Sr w v rs)(hd:Fi d) :
  Calls prog 247 #[v,.int .i64 d] w (x2l w (Tri.check d rs)):=by
 have S:=N.len;have HV:=O (fun w'=>y4l d w' hd);obtain⟨aq,j⟩:=hd
 have ab:Hid (∀r,r=Tri.x1w d rs.length (prv rs rs.length) (rs.drop rs.length)->∀wr,Bw w wr->(okv d=false->x2l w r (.returned (.tuple #[.int .i64 (rs.length:Int),.int .i64 42])) wr)/\(okv d=true->x2l w r (.returned (.tuple #[.int .i64 0,.int .i64 0])) wr)):=by
  intro r u wr Y;rw[List.drop_length]at u;simp only[Tri.x1w]at u;refine⟨fun h=>x2l.mk (by rw[u,if_pos (by unfold okv at h;have:=of_decide_eq_false h;exact f6J)]) Y,fun h=>x2l.mk (by rw[u,if_neg (by unfold okv at h;have:=o0d h;exact f6J)]) Y⟩
 have W:Hid (Tri.x1w d 0 (prv rs 0) (rs.drop 0)=Tri.check d rs):=R6O;have s:=O N.1;have Z:=O N;obtain⟨ao,M,rfl,am,H⟩:=N.shape;generalize Tri.check d rs=R at *;go_enter func247,ntmps247;go_wp2;go_loopw[6,12] (fun b i wr=>∃k:Nat,i=.int .i64 k/\b=.int .i64 (prz rs k)/\k<=rs.length/\Bw w wr/\R=Tri.x1w d k (prv rs k) (rs.drop k)) (fun _ i _=>rs.length-(intOf i).toNat)
 case atStart=>exact⟨0,rfl,rfl,f6J,b0r,(V W).symm⟩
 case round =>
  obtain⟨k,rfl,rfl,G,T,A⟩:=hrel;by_cases ae:k<rs.length
  ·obtain⟨p,C,aj,z,_,_,ag⟩:=(V Z).place f6J;simp only[Value.slice.injEq]at z;obtain⟨rfl,_,rfl⟩:=z;obtain⟨X,c1,c2⟩:=ag k ae;rw[<- T.cell (x0a X)]at X;rw[<- T.cell (x0a c1)]at c1;rw[<- T.cell (x0a c2)]at c2;have u:=(V s).at k
   have B:Fi (prz rs k):=by
    cases k with
    | zero=>simp[prz,Fi]
    | succ k=>exact((V s).at k).2.1
   have U:=O (fun w'=>z9x (Tri.lo (rs.getD k (0,0,0))) (Tri.hi (rs.getD k (0,0,0))) (Tri.vl (rs.getD k (0,0,0))) (prz rs k) w' u.1 u.2.1 u.2.2 B);have m:(Tri.lo (rs.getD k (0,0,0)),Tri.hi (rs.getD k (0,0,0)),Tri.vl (rs.getD k (0,0,0)))=rs.getD k (0,0,0):=rfl;have ai:prz rs (k+1)=Tri.hi (rs.getD k (0,0,0)):=rfl;rw[y5o ae,<- z5O]at A;rw[m]at U;have HS:=O A;have f:=O ai;obtain⟨J,p2⟩:=B;obtain⟨⟨f1,f2⟩,⟨t,f4⟩,c,f6⟩:=u
   have HK:Hid (∀x,x=Tri.bad (some (prz rs k)) (rs.getD k (0,0,0))->x=0\/x=40\/x=41\/x=42):=by
    intro x hx;subst hx;unfold Tri.bad;split
    ·simp
    ·grind
   generalize Tri.bad (some (prz rs k)) (rs.getD k (0,0,0))=q,Tri.lo (rs.getD k (0,0,0))=l,Tri.hi (rs.getD k (0,0,0))=h,Tri.vl (rs.getD k (0,0,0))=x at *;have n:=T.size;have g:Bw w (wr.alloc (.cells #[.int .i64 l,.int .i64 h,.int .i64 x] 272)):=T.alloc n _;have D:(wr.alloc (.cells #[.int .i64 l,.int .i64 h,.int .i64 x] 272)).cell? ⟨wr.heap.size,1,none⟩=some (.int .i64 h):=M7M;go_wp2_with fail;refine c1m (V U _) fun w1 F=>?_;have I:Bw w w1:=g.trans (F.mono g.size);rw[<- F.cell (x0a D)]at D;by_cases y:q=0
   ·subst y;have af:=O ((V HS).trans (if_pos rfl));go_wp2
    go_roundw
    case rel=>exact⟨k+1,g2B,by rw[V f],f6J,I,V af⟩
    case measure=>exact g7T
   ·have L:x2l w R (.returned (.tuple #[.int .i64 (k:Int),.int .i64 q])) w1:=x2l.mk ((V HS).trans (if_neg y)) I;have ar:(q != 0)=true:=(by simp[y]);go_wp2;go_ret2;exact L
  ·obtain rfl:k=rs.length:=f6J;have HE:=V ab _ A _ T
   cases ho:okv d with
   | false =>
    rw[ho]at HV HE;have U:=HE.1 rfl;exact f1u
   | true =>
    rw[ho]at HV HE;have U:=HE.2 rfl;exact f1u
end Go.Proofs.YtkfcabdmkmljjaaGreatDoor.Ti
namespace Go.Proofs.YtkfcabdmkmljjaaGreatDoor.Ti
open Go.Proofs.Tryz
open Go.RowKit
theorem T4.lower{w B B' t}{rs:List Tri.Rg}{d}(h:T4 w B t rs d)(Y:B'<=B):T4 w B' t rs d:=by
 obtain⟨Z,D,g,F,A,J,H,C,y,x⟩:=h;exact⟨Z,D,g,F,A,J,f6J,C,y.lower Y,x.lower Y⟩
theorem z4R v(rs:List Tri.Rg) d w(N:Sr w v rs)(hd:Fi d):Calls prog 198 #[v,.int .i64 d] w (x6p (fun w' t rs d=>T4 w' w.heap.size t rs d) w rs d):=by
 have Z:=O (y2z v rs d w N hd)
 have L:Hid (∀I,Bw w I->(Tri.check d rs).2=0->Calls prog 248 #[v,.int .i64 d] I (x5W I rs d)):=by
  intro I Y R;obtain⟨M,D⟩:=Tri.x3X.1 R;exact y8f v rs d I (N.below Y) M D
 have T:Hid ((Tri.check d rs).2=0->(Tri.check d rs).1=0):=Tri.x4I 0 none rs;have G:Hid (∀w',Bw w w'->(Tri.check d rs).2≠0->x6p (fun w' t rs d=>T4 w' w.heap.size t rs d) w rs d (.returned (.tuple #[.pointer none,.int .i64 (Tri.check d rs).1,.int .i64 (Tri.check d rs).2])) w'):=fun w' Y J=>⟨Y,.inr ⟨J,rfl⟩⟩;have W:Hid (∀w' a,Bw w w'->(Tri.check d rs).2=0->T4 w' w.heap.size (.pointer (some a)) rs d->x6p (fun w' t rs d=>T4 w' w.heap.size t rs d) w rs d (.returned (.tuple #[.pointer (some a),.int .i64 0,.int .i64 0])) w'):=fun w' a Y J u=>⟨Y,.inl ⟨J,a,rfl,u⟩⟩;generalize Tri.check d rs=q at *;obtain⟨S,s⟩:=q;go_enter func198,ntmps198;go_wp2_with fail;refine c0m Z fun I F=>?_;by_cases R:s=0
 ·subst R;have C:=O (V L I F rfl);go_wp2_with fail;refine(V C).mono ?_;rintro e U ⟨a,rfl,u,H⟩;go_wp2;go_ret3;exact V W _ a (F.trans (H.mono F.size)) f5W (u.lower F.size)
 ·have A:(s != 0)=true:=(by simp[R]);go_wp2;go_ret3;exact V G _ F R
end Go.Proofs.YtkfcabdmkmljjaaGreatDoor.Ti
