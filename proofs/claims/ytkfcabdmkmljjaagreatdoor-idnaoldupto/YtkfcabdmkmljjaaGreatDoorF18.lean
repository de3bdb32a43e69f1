/- Lemmas. -/
import Derived.Test.YtkfcabdmkmljjaaGreatDoorF14
import Derived.Deep.AppendLies
import Derived.Deep.DrawnRows
import Derived.Deep.OwnRows
import Derived.Deep.RegionHeld3
import Derived.Great.BuildSlice
import Derived.Deep.RegionLaw
set_option maxHeartbeats 4000000
set_option maxRecDepth 50000
namespace Go.Proofs.YtkfcabdmkmljjaaGreatDoor
section
variable{p:Prop}
theorem R6q(h:p:=by rw[cell_of_row _ _ _ _ _ _ hr];rfl):p:=h
theorem S9z(h:p:=by rw[cell_of_row _ _ _ _ _ _ h];rfl):p:=h
theorem T5W(h:p:=by rw[List.length_map]at b;exact b):p:=h
theorem n0C(h:p:=by
 refine hK _ _ ?_;clear hK K;simp only[Act.put,sa9,sb9,sc9];refine wpAny_ready (rs:=[7]) f4B M7P ?_;refine AllReady.cons (o:=⟨some 53,_,_,_,_,_⟩) rfl (fun K hK=>?_) AllReady.nil;refine step_append_lies _ (by rfl) _ _ _ (by rfl) (D+1) 147 i0 z0 64 128 underlying142 bV cf cj cw cB f6J (.slice ao bs.length I) bs.length (x1X bs) (by rfl) aj ⟨C.heap.size,0,none⟩ 1 1 (zs.map (Value.int .u16)) (by rfl) bZ ae cd f6J T7X f6J aw (C.heap.size+1) bM ?_;intro s M R B G U aF;refine hK _ _ ?_;clear hK K;simp only[Act.put,sa9,sb9,sc9];refine wpAny_take (i:=8) (oi:=⟨some 54,_,_,_,_,_⟩) (v:=.pointer (some ⟨A,0,none⟩)) rfl f4B f4B f4B (fun _ _ _ h=>h) (Or.inl ⟨by rfl,?_⟩) ?_
 ·exact M9h
 simp only[Act.put,sa9,sb9,sc9];refine wpAny_take (i:=9) (oi:=⟨some 55,_,_,_,_,_⟩) (v:=.pointer (some ⟨A,1,none⟩)) rfl f4B f4B f4B (fun _ _ _ h=>h) (Or.inl ⟨by rfl,?_⟩) ?_
 ·exact M9h
 simp only[Act.put,sa9,sb9,sc9];refine wpAny_ready (rs:=[10]) f4B M7P ?_;refine AllReady.cons (o:=⟨none,_,_,_,_,_⟩) rfl (fun K hK=>?_) AllReady.nil;have X:=aB.keep (V aM _ _ (.cells (zs.map (Value.int .u16)).toArray 147) (by rfl) G) (V bJ);refine x5g (by rfl) 142 (.tmp 55) (.tmp 53) (by rfl) (.pointer (some ⟨A,1,none⟩)) (.slice (some ⟨s,0,none⟩) (bs.length+1) M) (by rfl) (by rfl) (V aT R _ X s M rfl) ?_;refine hK _ _ ?_;clear hK K;simp only[Act.put];refine wpAny_done f4B ?_ _;have am:=V aM _ _ (.cells (zs.map (Value.int .u16)).toArray 147) (by rfl) G;have aA:=V aL R _ B;have Z:Bw w R:=(S.drew.alloc aY _).grown G aZ (fun k hk=>Nat.le_trans bh (T k hk).1);have Y:=V y R _ X (aN.keep am (V bH)) (x2t r am (V bI)) aA Z;generalize R.setCell ⟨A,1,none⟩ (.slice (some ⟨s,0,none⟩) (bs.length+1) M)=w9 at *;obtain⟨⟨y0,y1,y2⟩,bu,bw,L⟩:=Y;have HL:=O L;clear L B G U aF X am aA Z S aN aB aW r aG T bB bj aK bm aq aj ae aL y x0 x1 x2 ba K4;generalize xs.getD p 0=cW at *;go_wp2
 go_roundw
 case rel=>exact⟨p+1,kk,_,xs.set p (bs.length:Int),by go_num,f6J,aI,aO,V bp,(V HL).1,V aV,(V HL).2.1,by rw[V E1];exact(V HL).2.2.1,by rw[V E1];exact(V HL).2.2.2.1,(V HL).2.2.2.2⟩
 case measure=>exact g7W):p:=h
theorem n3E(h:p:=by go_enter func282,ntmps282;go_wp2_with fail;refine(V R _).mono ?_;rintro e I ⟨rfl,rfl⟩;go_wp2;go_ret;exact⟨rfl,c⟩):p:=h
theorem u7B(h:p:=by rw[List.length_append];exact f6J):p:=h
theorem s9w(h:p:=by
 go_wp2
 go_roundw
 case rel=>first| exact⟨_,_,.int .i64 ((k+1:Nat):Int),⟨k+1,rfl,f6J,m,b,u,by simpa using V H⟩,rfl,rfl,g2B⟩ | exact⟨k+1,m,g2B,f6J,b,u,D,C,V H⟩ | exact⟨k+1,g2B,f6J,m,b,u,by simpa using V H⟩ | exact⟨k+1,g2B,f6J,m,b,u,D,by simpa using V H⟩
 case measure=>exact g7T):p:=h
theorem E8X(h:p:=by go_enter func282,ntmps282;go_wp2;go_ret;exact⟨rfl,c⟩):p:=h
theorem m8X(h:p:=by go_enter func283,ntmps283;go_wp2;go_ret;exact g9T):p:=h
theorem f0R(h:p:=by rw[Z];exact e8M):p:=h
theorem v0B(h:p:=by simpa using I):p:=h
theorem g2B(h:p:=by go_num):p:=h
theorem f4B(h:p:=by kernel_rfl):p:=h
theorem w6B(h:p:=by go_wp2;go_ret2;exact T):p:=h
theorem N3W(h:p:=by
 go_wp2
 go_roundw
 case rel=>exact⟨c+1,m.set i G,g2B,f6J,f6J,f6J,by simp[b],U,W,ay,t,V H⟩
 case measure=>exact g7T):p:=h
theorem U0t(h:p:=by refine hK _ _ ?_;clear hK K;simp only[Act.put,sa9,sb9,sc9];refine wpAny_ready (rs:=[6]) f4B M7P ?_;refine AllReady.cons (o:=⟨some 52,_,_,_,_,_⟩) rfl (fun K hK=>?_) AllReady.nil;refine x2j (by rfl) 142 (.tmp 51) (by rfl) _ _ (by rfl) aq ?_;exact n0C):p:=h
theorem T7i(h:p:=by rw[show(m.map (Value.int .u16)).toArray.size=64 by simp[b]];exact y9r):p:=h
theorem R2o(h:p:=by go_wp2_with fail;refine(V HV _).mono ?_;rintro e w1 ⟨rfl,rfl⟩;exact w6B):p:=h
theorem p5U(h:p:=by go_wp2;exact bodyPost_ret (v:=.agg (arrA m)) (x2w rfl _ _ _ X _ (by rfl) y) rfl ⟨rfl,aD⟩):p:=h
theorem M3n(h:p:=by have:=(T _ e.symm).1;exact f6J):p:=h
theorem u3W(h:p:=by have:=C.size;exact f6J):p:=h
theorem E0V(h:p:=by cases h;exact P8U):p:=h
end
end Go.Proofs.YtkfcabdmkmljjaaGreatDoor
namespace Go.Proofs.YtkfcabdmkmljjaaGreatDoor.Ti
open Go.Proofs.Tryz
open Go.RowKit
theorem Sz.cut{sz len l h m w ao cap}{us}(L:Sz sz w (.slice ao len cap) len us)(Z:l<=h)(D:h<=len)(J:h<=m)(R:m<=cap) :
  Sz sz w (sliced ao l h m sz) (h-l) ((us.drop (l*sz)).take ((h-l)*sz)):=by
 obtain⟨b1,H,G⟩:=L;have M:(h-l)*sz+l*sz=h*sz:=(by rw[<- Nat.add_mul];congr 1;exact f6J);have z:h*sz<=len*sz:=Nat.mul_le_mul_right _ D;refine⟨P8P,f6J,?_⟩;rcases G with⟨rfl,X,A,N,C,y⟩ | ⟨b,B,A,N,S,C,I⟩
 ·simp only[Value.slice.injEq]at N;obtain⟨rfl,_,rfl⟩:=N;refine .inl ⟨f6J,(if m=l then ao else ao.map (·.add (l*sz))),m-l,?_,f6J,fun F=>?_⟩
  ·exact w4F
  ·split at F
   ·omega
   ·simp_all
 ·simp only[Value.slice.injEq]at N;obtain⟨rfl,_,rfl⟩:=N;by_cases s:h=l
  ·refine .inl ⟨f6J,(if m=l then some ⟨b,B,none⟩else(some ⟨b,B,none⟩:Option Addr).map (·.add (l*sz))),m-l,?_,f6J,fun F=>?_⟩
   ·exact w4F
   ·split at F<;>simp at F
  ·refine .inr ⟨b,B+l*sz,m-l,?_,f6J,f6J,fun i hi=>?_⟩
   ·have:¬m=l:=f6J;simp only[sliced,this,if_false,Option.map_some,addr_add]
   ·grind
theorem y2Y(rs:List Tri.Rg) k:(rcells rs).drop (k*3)=rcells (rs.drop k):=by
 induction k generalizing rs with
 | zero=>simp
 | succ k ih =>
  cases rs with
  | nil=>simp[rcells]
  | cons r rs =>
   have:(k+1)*3=3+k*3:=f6J;simp only[rcells,List.drop_succ_cons];rw[this,<- List.drop_drop,<- ih rs];rfl
theorem Sr.cut{w ao len cap l h m}{rs:List Tri.Rg}(L:Sr w (.slice ao len cap) rs)(S:len=rs.length)(Z:l<=h)(D:h<=len)(J:h<=m)(F:m<=cap) :
  Sr w (sliced ao l h m 3) ((rs.drop l).take (h-l)):=by
 subst S;have:=L.2.cut Z D J F;rw[y2Y,y2Z]at this;have e:((rs.drop l).take (h-l)).length=h-l:=P8P;refine⟨fun r X=>L.1 r (List.mem_of_mem_drop (List.mem_of_mem_take X)),?_⟩;rw[e];exact this
namespace Tri
theorem z3c{d c}{rs:List Rg} k(h:∀j,j<k->j<rs.length->hi (rs.getD j (0,0,0))<c):get d (rs.drop k) c=get d rs c:=by
 induction k generalizing rs with
 | zero=>exact s4L
 | succ k ih =>
  cases rs with
  | nil=>rfl
  | cons r rs =>
   have U:=h 0 f6J M7L;simp only[List.getD_cons_zero]at U;rw[List.drop_succ_cons,x1s,if_neg f6J];refine ih fun j R S=>?_;have:=h (j+1) f6J t2Y;simpa using this
theorem z4C{b}{rs:List Rg}(h:Val b rs) k:Val b (rs.drop k):=by
 induction k generalizing rs b with
 | zero=>exact S4r
 | succ k ih =>
  cases rs with
  | nil=>trivial
  | cons r rs =>
   obtain⟨Z,D,J,F,A,q⟩:=h;rw[List.drop_succ_cons];exact(ih q).mono f6J
end Tri
def y0n(w0 w:World)(rs:List Tri.Rg)(lo:Int)(e:Ending)(w':World):Prop :=
 w'=w/\∃v' k,e=.returned v'/\Sr w0 v' (rs.drop k)/\k<=rs.length/\∀j,j<k->Tri.hi (rs.getD j (0,0,0))<lo
theorem z0H v(rs:List Tri.Rg) lo w0 w(r:Sr w0 v rs)(I:Bw w0 w)(N:Fi lo) :
  Calls prog 284 #[v,.int .i64 lo] w (y0n w0 w rs lo):=by
 obtain⟨l1,C⟩:=N;have B:=r.len;have x:=O I;have Z:Hid (∀u k,Sr w0 u (rs.drop k)->k<=rs.length->(∀j,j<k->Tri.hi (rs.getD j (0,0,0))<lo)->y0n w0 w rs lo (.returned u) w):=fun u k h1 D J=>⟨rfl,u,k,rfl,h1,D,J⟩;go_enter func284,ntmps284;go_wp2;go_loop [0] (fun u=>∃k:Nat,Sr w0 u (rs.drop k)/\k<=rs.length/\∀j,j<k->Tri.hi (rs.getD j (0,0,0))<lo) (fun u=>match u with | .slice _ n _=>n | _=>0)
 case atStart=>exact⟨0,by simpa using r,f6J,fun j R=>f6J⟩
 case round =>
  obtain⟨k,L,G,U⟩:=hrel;have Y:=O (V Z _ k L G U);have f:(rs.drop k).length=rs.length-k:=List.length_drop;rcases Nat.eq_zero_or_pos (rs.drop k).length with h0 | h0
  ·obtain⟨ao,M,rfl,g,y⟩:=L.shape;rw[h0]at Y g ⊢;go_wp2;go_ret;exact V Y
  ·have W:=L.1.at 0;have i:=O L;obtain⟨b,ae,M,rfl,g,y,X⟩:=L.place h0;obtain⟨p,d,S⟩:=X 0 h0;rw[<- (V x).cell (x0a d)]at d;simp only[Nat.zero_mul,Nat.add_zero]at p d S;have hcut:=(V i).cut rfl (l:=1) (h:=(rs.drop k).length) (m:=M) f6J f6J f6J f6J
   have q:(((rs.drop k).drop 1).take ((rs.drop k).length-1))=rs.drop (k+1):=by
    rw[List.drop_drop,List.take_of_length_le P8P]
   have z:(rs.drop k).getD 0 (0,0,0)=rs.getD k (0,0,0):=(by grind);rw[q]at hcut;rw[z]at d W
   have c:Hid (Tri.hi (rs.getD k (0,0,0))<lo->∀j,j<k+1->Tri.hi (rs.getD j (0,0,0))<lo):=by
    intro A j R;by_cases h:j=k
    ·subst h;exact A
    ·exact U j f6J
   obtain⟨_,⟨s,f2⟩,_⟩:=W;have t:1<=(rs.drop k).length:=h0;have ab:k<rs.length:=f6J;have H:=O hcut;clear L i X U hcut p S q z f;generalize Tri.hi (rs.getD k (0,0,0))=h,(rs.drop k).length=n at *;by_cases a:h<lo
   ·have F:=O (V c a);go_wp2;go_round
    case rel=>exact⟨k+1,V H,f6J,V F⟩
    case measure=>simp;omega
   ·clear c Z;go_wp2;go_ret;exact V Y
end Go.Proofs.YtkfcabdmkmljjaaGreatDoor.Ti
namespace Go.Proofs.YtkfcabdmkmljjaaGreatDoor.Ti
open Go.Proofs.Tryz
open Go.RowKit
def Bk(w:World)(g:Nat)(zs:List Int):Prop:=w.heap[g]?=some (.cells (arrA zs) 147 (0,0))
theorem Bk.lt{w g zs}(h:Bk w g zs):g<w.heap.size:=(Array.getElem?_eq_some_iff.1 h).1
theorem Bk.cell{w g zs}(h:Bk w g zs){i}(hi:i<zs.length):w.cell? ⟨g,i,none⟩=some (.int .u16 (zs.getD i 0)):=by
 unfold Bk at h;exact E2f
theorem Bk.frozen{w g zs}(h:Bk w g zs) i:w.frozen? ⟨g,i,none⟩=false:=by
 unfold Bk at h;simp[World.frozen?,h]
theorem Bk.set{w g zs}(h:Bk w g zs) i v:Bk (w.setCell ⟨g,i,none⟩ (.int .u16 v)) g (zs.set i v):=by
 unfold Bk at h ⊢;exact N9T
theorem Bk.other{w g zs}(h:Bk w g zs){a}(y:g≠a.block) v:Bk (w.setCell a v) g zs:=by
 unfold Bk at h ⊢;exact i7e
theorem Bk.box{w g zs}(h:Bk w g zs):Box w g zs:=fun j v N=>by
 have R:j<zs.length:=(by grind);rw[Nat.zero_add,h.cell R];rw[List.getElem?_map,List.getElem?_eq_getElem R]at N;simp only[Option.map_some,Option.some.injEq]at N;rw[<- N];exact t7U
theorem Bk.new(w:World) zs C(l:C=arrA zs):Bk (w.alloc (.cells C 147)) w.heap.size zs:=s7C
theorem Bk.alloc{w g zs}(h:Bk w g zs) o:Bk (w.alloc o) g zs:=by
 have S:=h.lt;unfold Bk at h ⊢;rw[Below.heap_alloc w o g S];exact h
theorem Bk.there{w g zs}(h:Bk w g zs):w.there g 0 zs.length:=fun j R=>u3m
theorem y9r:(prog.info? 147).map (·.size)=some 64:=f4x
def Rb(w:World)(g:Nat)(l h x:Int):Prop:=w.heap[g]?=some (.cells #[.int .i64 l,.int .i64 h,.int .i64 x] 272 (0,0))
theorem Rb.cells{w g l h x}(hr:Rb w g l h x):w.cell? ⟨g,0,none⟩=some (.int .i64 l)/\w.cell? ⟨g,1,none⟩=some (.int .i64 h)/\w.cell? ⟨g,2,none⟩=some (.int .i64 x) :=
 ⟨R6q,R6q,R6q⟩
theorem Rb.other{w g l h x}(hr:Rb w g l h x){a}(y:g≠a.block) v:Rb (w.setCell a v) g l h x:=by
 unfold Rb at hr ⊢;rw[heap_setCell_other w a g v y];exact hr
namespace Tri
theorem y8Z{b d c}{rs:List Rg}(N:Val b rs) k(G:k<rs.length)(I:c<lo (rs.getD k (0,0,0))):get d rs c=get d (rs.take k) c:=by
 induction rs generalizing b k with
 | nil=>simp at G
 | cons r rs ih =>
  obtain⟨Z,D,J,F,A,q⟩:=N
  cases k with
  | zero =>
   simp only[List.getD_cons_zero]at I;have y:Val (lo r) (r::rs):=⟨Int.le_refl _,D,J,F,A,q⟩;rw[x6K y I];rfl
  | succ k =>
   simp only[List.take_succ_cons,x1s];rw[ih q k E9n v0B]
end Tri
theorem z2l f(p:Nat) lo0(U:lo0=(p:Int)*64) zs(S:zs.length=64)(h:∀j:Nat,j<64->zs.getD j 0=f (lo0+(j:Int))):zs=Tri.blk f p :=
 z5W f p zs S fun j R=>by rw[h j R,(f6J:lo0+(j:Int)=((64*p+j:Nat):Int))]
abbrev z64:Array Value:=#[.int .u16 0,.int .u16 0,.int .u16 0,.int .u16 0,.int .u16 0,.int .u16 0,.int .u16 0,.int .u16 0,.int .u16 0,.int .u16 0,.int .u16 0,.int .u16 0,.int .u16 0,.int .u16 0,.int .u16 0,.int .u16 0,.int .u16 0,.int .u16 0,.int .u16 0,.int .u16 0,.int .u16 0,.int .u16 0,.int .u16 0,.int .u16 0,.int .u16 0,.int .u16 0,.int .u16 0,.int .u16 0,.int .u16 0,.int .u16 0,.int .u16 0,.int .u16 0,.int .u16 0,.int .u16 0,.int .u16 0,.int .u16 0,.int .u16 0,.int .u16 0,.int .u16 0,.int .u16 0,.int .u16 0,.int .u16 0,.int .u16 0,.int .u16 0,.int .u16 0,.int .u16 0,.int .u16 0,.int .u16 0,.int .u16 0,.int .u16 0,.int .u16 0,.int .u16 0,.int .u16 0,.int .u16 0,.int .u16 0,.int .u16 0,.int .u16 0,.int .u16 0,.int .u16 0,.int .u16 0,.int .u16 0,.int .u16 0,.int .u16 0,.int .u16 0]
theorem z8q(w:World):∃A,(w.alloc (.cells z64 147)).alloc (.cells z64 147)=A/\Bw w A/\Bk A w.heap.size Zs/\Bk A (w.heap.size+1) Zs :=
 ⟨_,rfl,((Below.refl _ w).alloc (l0r _) _).alloc M7K _,(Bk.new w Zs _ rfl).alloc _,by simpa using Bk.new (w.alloc (.cells z64 147)) Zs z64 rfl⟩
theorem z8t v(rs:List Tri.Rg) d(p:Nat) w(hv:Sr w v rs)(q:Tri.Val 0 rs)(hd:0<=d/\d<=65535)(hp:p<17408) :
  Calls prog 285 #[v,.int .i64 ((p:Int)*64),.int .i64 d] w (y7d w (Tri.blk (Tri.get d rs) p)):=by
 obtain⟨bn,bp⟩:=hd;obtain⟨B,ae⟩:∃l:Int,l=(p:Int)*64:=⟨_,rfl⟩;have HX:=O (z2l (Tri.get d rs) p B ae);have z1:0<=B:=f6J;have z2:B<=1114048:=f6J;rw[<- ae];clear ae;have HV:=O q;have aU:=O hv;have aX:=hv.len;obtain⟨ao,ba,rfl,aQ,aR⟩:=hv.shape;have aI:Hid (∀c,Tri.get d (rs.take 0) c=d):=fun c=>rfl;have aA:Hid (∀c,Tri.get d (rs.take rs.length) c=Tri.get d rs c):=fun c=>(by rw[List.take_length]);have aB:Hid (∀(k:Nat),k<rs.length->∀c,c<Tri.lo (rs.getD k (0,0,0))->Tri.get d rs c=Tri.get d (rs.take k) c):=fun k hk c hc=>Tri.y8Z q k hk hc;clear hv q;generalize Tri.blk (Tri.get d rs) p=bw at *;go_enter func285,ntmps285;go_wp2;obtain⟨wz,u,hA,aq,ar⟩:=z8q w;rw[u];clear u;obtain⟨X,aF⟩:∃X,X=w.heap.size:=⟨_,rfl⟩;obtain⟨I,aG⟩:∃I,I=w.heap.size+1:=⟨_,rfl⟩;rw[<- aF]at aq;rw[<- aG]at ar;have aJ:X≠I:=f6J;have F:w.heap.size<=X:=f6J;have aw:w.heap.size<=I:=f6J;rw[<- aG,<- aF];clear aF aG;obtain⟨Z,hZ⟩:∃Z,Z=Zs:=⟨_,rfl⟩;rw[<- hZ]at aq ar;have aP:Z.length=64:=(by rw[hZ];exact z8S);clear hZ;go_loopw[13] (fun i wr=>∃(k:Nat) (m:List Int),i=.int .i64 k/\k<=64/\m.length=64/\Bk wr I m/\Bk wr X Z/\Bw w wr/\∀j,j<k->m.getD j 0=d) (fun i _=>64-(intOf i).toNat)
 case atStart=>exact⟨0,Z,rfl,f6J,aP,ar,aq,hA,fun j R=>f6J⟩
 case round =>
  clear hA aq ar;obtain⟨k,m,rfl,hk,b,u,D,C,ab⟩:=hrel;by_cases aj:k<64
  ·have hc:=u.cell (i:=k) f6J;have hf:=u.frozen k;have U:=u.set k d;have W:=D.other (a:=⟨I,k,none⟩) aJ (.int .u16 d);have t:=C.setCell (p:=⟨I,k,none⟩) aw (.int .u16 d)
   have H:Hid (∀j,j<k+1->(m.set k d).getD j 0=d):=by
    intro j R;rw[x8L m k j d f6J];split
    ·rfl
    ·exact ab j f6J
   have r:(0:Int)<=(k:Int):=f6J;have aM:(k:Int)<64:=f6J;generalize m.getD k 0=aV at *;clear ab u D C;go_wp2
   go_roundw
   case rel=>exact⟨k+1,m.set k d,g2B,f6J,by simp[b],U,W,t,V H⟩
   case measure=>exact g7T
  ·obtain rfl:k=64:=f6J;have A:Hid (∀j,j<64->m.getD j 0=Tri.get d (rs.take 0) (B+(j:Nat))):=fun j R=>(by rw[ab j R,(V aI)]);clear ab aI;go_wp2;go_loopw[11,12,25] (fun _ _ i wr=>∃(k:Nat) (m:List Int),i=.int .i64 k/\k<=rs.length/\m.length=64/\Bk wr I m/\Bk wr X Z/\Bw w wr/\∀j,j<64->m.getD j 0=Tri.get d (rs.take k) (B+(j:Nat))) (fun _ _ i _=>rs.length-(intOf i).toNat)
   case atStart=>exact⟨0,m,rfl,f6J,b,u,D,C,V A⟩
   case round =>
    clear u D C A b;obtain⟨k,m,rfl,hk,b,u,D,C,ab⟩:=hrel;by_cases aj:k<rs.length
    ·have aK:=fun c=>Tri.z3d (d:=d) (c:=c) (V HV) k aj;have z:=O (V aB k aj);obtain⟨b1,b2,b3,b4,b5⟩:=q1m (V HV) (Int.le_refl _) k aj;obtain⟨bx,aZ,be,aO,_,_,L⟩:=(V aU).place f6J;simp only[Value.slice.injEq]at aO;obtain⟨rfl,_,rfl⟩:=aO;obtain⟨c0,g,c2⟩:=L k aj;rw[<- C.cell (x0a c0)]at c0;rw[<- C.cell (x0a g)]at g;rw[<- C.cell (x0a c2)]at c2;have S:=O aK;have am:=O ab;clear L aK ab;generalize Tri.lo (rs.getD k (0,0,0))=lo,Tri.hi (rs.getD k (0,0,0))=hi,Tri.vl (rs.getD k (0,0,0))=G at *;have n:=C.size;have f:Rb (wr.alloc (.cells #[.int .i64 lo,.int .i64 hi,.int .i64 G] 272)) wr.heap.size lo hi G:=heap_alloc_last wr _;have u:=u.alloc (.cells #[.int .i64 lo,.int .i64 hi,.int .i64 G] 272);have D:=D.alloc (.cells #[.int .i64 lo,.int .i64 hi,.int .i64 G] 272);have N:Bw w (wr.alloc (.cells #[.int .i64 lo,.int .i64 hi,.int .i64 G] 272)):=C.alloc n _;obtain⟨gr,aH⟩:∃gr,gr=wr.heap.size:=⟨_,rfl⟩;have aN:gr≠I:=(by have h1:=‹Bk wr I m›.lt;exact f6J);by_cases bh:B+64<=lo
     ·have Y:Hid (∀j,j<64->m.getD j 0=Tri.get d rs (B+(j:Nat))):=fun j R=>(by rw[V am j R,V z _ f6J]);clear am S aB z aH aN;have x:=V HX m b (V Y);subst x;clear Y HX;go_upto_region 17 with fail;generalize wr.alloc (.cells #[.int .i64 lo,.int .i64 hi,.int .i64 G] 272)=wa at *;refine wp_region_list ?_;refine wpList_load_mid (by rfl) 147 (.tmp 7) (by rfl) I 0 (by rfl) (m.map (Value.int .u16)) _ u.box underlying147 (by rfl) (x6P b) ?_;have aC:Z.length=m.length:=by omega
      have J:wa.there X 0 (m.map (Value.int .u16)).toArray.size:=by
       have:=D.there;rw[aC]at this;exact W2O
      refine wpList_store_mid (by rfl) 147 (.tmp 6) (.tmp 54) (by rfl) X 0 (m.map (Value.int .u16)).toArray (by rfl) (by rfl) J T7i (x8V m) ?_;have M:wa.there X 0 (m.map (Value.int .u16)).length:=I8X;have T:=World.rangeAt_setCells_same wa X 0 (m.map (Value.int .u16)) M;have aD:Bw w (wa.setCells X 0 (m.map (Value.int .u16))):=x0H F _ _ _ N;have y:=run_loadVar_mid (P:=prog) _ X 0 147 (m.map (Value.int .u16)) _ T underlying147 (by rfl) (x6P b);clear u D J M T;generalize wa.setCells X 0 (m.map (Value.int .u16))=wf at *;exact p5U
     ·clear z aA HX;by_cases bu:lo<B
      all_goals
       go_wp2;generalize wr.alloc (.cells #[.int .i64 lo,.int .i64 hi,.int .i64 G] 272)=wa at *;rw[<- aH]at f ⊢;clear aH;go_loopw[12] (fun vc wr=>∃(c:Int) (m:List Int),vc=.int .i64 c/\lo<=c/\B<=c/\c<=1114112/\m.length=64/\Bk wr I m/\Bk wr X Z/\Rb wr gr lo hi G/\Bw w wr/\∀j,j<64->m.getD j 0=if lo<=B+(j:Nat)/\B+(j:Nat)<c/\B+(j:Nat)<=hi then G else Tri.get d (rs.take k) (B+(j:Nat))) (fun vc _=>(1114112-intOf vc).toNat)
       case atStart=>first| exact⟨B,m,rfl,f6J,f6J,f6J,b,u,D,f,N,fun j R=>by rw[if_neg f6J];exact V am j R⟩ | exact⟨lo,m,rfl,f6J,f6J,f6J,b,u,D,f,N,fun j R=>by rw[if_neg f6J];exact V am j R⟩
       case round =>
        clear u D f N b c0 g c2;obtain⟨c,m,rfl,aQ,aR,bj,b,u,D,f,C,ab⟩:=hrel;obtain⟨c0,g,c2⟩:=f.cells;by_cases aS:c<=hi/\c<B+64
        ·obtain⟨q1,q2⟩:=aS;obtain⟨i,bm⟩:∃i:Nat,c-B=(i:Int):=⟨(c-B).toNat,f6J⟩;have aW:i<64:=f6J;have L:=u.cell (i:=i) f6J;have bt:=u.frozen i;have U:=u.set i G;have W:=D.other (a:=⟨I,i,none⟩) aJ (.int .u16 G);have ay:=f.other (a:=⟨I,i,none⟩) aN (.int .u16 G);have t:=C.setCell (p:=⟨I,i,none⟩) aw (.int .u16 G)
         have H:Hid (∀j,j<64->(m.set i G).getD j 0=if lo<=B+(j:Nat)/\B+(j:Nat)<c+1/\B+(j:Nat)<=hi then G else Tri.get d (rs.take k) (B+(j:Nat))):=by
          intro j R;rw[x8L m i j G f6J,ab j R];by_cases s:j=i
          ·rw[if_pos s,if_pos f6J]
          ·rw[if_neg s];by_cases hx:lo<=B+(j:Nat)/\B+(j:Nat)<c/\B+(j:Nat)<=hi
           ·rw[if_pos hx,if_pos f6J]
           ·rw[if_neg hx,if_neg f6J]
         have r:(0:Int)<=(i:Int):=f6J;have aM:(i:Int)<64:=f6J;generalize m.getD i 0=aV at *;clear ab u D f;by_cases aT:B+64<hi+1
         ·exact N3W
         ·have aY:c<hi+1:=f6J;exact N3W
        ·have H:Hid (∀j,j<64->m.getD j 0=Tri.get d (rs.take (k+1)) (B+(j:Nat))):=by
          intro j R;rw[ab j R,(V S)];by_cases hx:lo<=B+(j:Nat)/\B+(j:Nat)<=hi
          ·rw[if_pos hx,if_pos f6J]
          ·rw[if_neg hx,if_neg f6J]
         clear ab;by_cases aT:B+64<hi+1
         ·have aL:¬(c<B+64):=f6J;exact s9w
         ·have aL:¬(c<hi+1):=f6J;exact s9w
    ·obtain rfl:k=rs.length:=f6J;have Y:Hid (∀j,j<64->m.getD j 0=Tri.get d rs (B+(j:Nat))):=fun j R=>(by rw[ab j R,(V aA)]);clear ab aB aA;have x:=V HX m b (V Y);subst x;clear Y HX;go_upto_region 17 with fail;refine wp_region_list ?_;refine wpList_load_mid (by rfl) 147 (.tmp 7) (by rfl) I 0 (by rfl) (m.map (Value.int .u16)) _ u.box underlying147 (by rfl) (x6P b) ?_;have aC:Z.length=m.length:=by omega
     have J:wr.there X 0 (m.map (Value.int .u16)).toArray.size:=by
      have:=D.there;rw[aC]at this;exact W2O
     refine wpList_store_mid (by rfl) 147 (.tmp 6) (.tmp 54) (by rfl) X 0 (m.map (Value.int .u16)).toArray (by rfl) (by rfl) J T7i (x8V m) ?_;have M:wr.there X 0 (m.map (Value.int .u16)).length:=I8X;have T:=World.rangeAt_setCells_same wr X 0 (m.map (Value.int .u16)) M;have aD:Bw w (wr.setCells X 0 (m.map (Value.int .u16))):=x0H F _ _ _ C;have y:=run_loadVar_mid (P:=prog) _ X 0 147 (m.map (Value.int .u16)) _ T underlying147 (by rfl) (x6P b);clear u D J M T;generalize wr.setCells X 0 (m.map (Value.int .u16))=wf at *;exact p5U
end Go.Proofs.YtkfcabdmkmljjaaGreatDoor.Ti
namespace Go.Proofs.YtkfcabdmkmljjaaGreatDoor.Ti
open Go.Proofs.Tryz
open Go.RowKit
section
variable {P:Program} {ops:Array Oper} {o:Oper} {a:Act} {w w':World} {K:Act->World->Prop} {Q:Exit->Act->World->Prop} {E:Prop}
theorem x1P(C:o.guard=none) ty(x:Operand)(R:o.op=.load ty x) pv v(A:a.eval x=pv)(G:(Instr.loadAt ty pv).run P w=.ok v w)(h:K (a.put o.dst v) w) :
  if Region.wanted o (yielded ops a.tmps)=true then Oper.wp P o a w K Q else E:=by
 rw[if_pos f7d];unfold Oper.wp execOp;simp only[R,A,Sem.run_bind,G,Result.andThen_ok];exact h
theorem x5g(C:o.guard=none) ty(x y:Operand)(R:o.op=.store ty x y) pv v(A:a.eval x=pv)(hy:a.eval y=v)(G:(Instr.storeAt ty pv v).run P w=.ok () w')(h:K (a.put o.dst undef) w') :
  if Region.wanted o (yielded ops a.tmps)=true then Oper.wp P o a w K Q else E:=by
 rw[if_pos f7d];unfold Oper.wp execOp;simp only[R,A,hy,Sem.run_bind,G,Result.andThen_ok];exact h
theorem x2j(C:o.guard=none) t(x:Operand)(R:o.op=.buildSlice t 1 #[(0,x)]) u v(A:a.eval x=u)(G:(Instr.buildSlice t 1 #[(0,u)]).run P w=.ok v w')(h:K (a.put o.dst v) w') :
  if Region.wanted o (yielded ops a.tmps)=true then Oper.wp P o a w K Q else E:=by
 rw[if_pos f7d];unfold Oper.wp execOp;have e:(#[((0:Nat),x)].map fun(i,x)=>(i,a.eval x))=#[(0,u)]:=f9v;simp only[R,e,Sem.run_bind,G,Result.andThen_ok];exact h
end
end Go.Proofs.YtkfcabdmkmljjaaGreatDoor.Ti
namespace Go.Proofs.YtkfcabdmkmljjaaGreatDoor.Ti
open Go.Proofs.Tryz
open Go.RowKit Go.Maps
set_option linter.unusedSimpArgs false
theorem z8C w:(zeroValue 145).run prog w=.ok (.int .u16 0) w:=(zero_of_info (n:=1) f4x).1 w
theorem y6S(w:World) zs(h:zs.length=64):(storeCells ⟨w.heap.size,0,none⟩ (zs.map (Value.int .u16)) 0).run prog (w.alloc (.cells z64 147))=.ok () (w.alloc (.cells (arrA zs) 147)):=by
 have Z:=run_storeCells_new (P:=prog) w 147 z64 (arrA zs) (by rw[x1K,h];exact y9r) (by rw[x1K,h];rfl) (x8V zs);simpa[arrA]using Z
theorem y6E t e(d:prog.underlying t=some (.slice e))(hi:(prog.info? e).map (fun i=>(i.size,i.zero.map (·.cells.size)))=some (64,some 64)) w(zs:List Int)(h:zs.length=64) :
  (Instr.buildSlice t 1 #[(0,.agg (zs.map (Value.int .u16)).toArray)]).run prog w=.ok (.slice (some ⟨w.heap.size,0,none⟩) 1 1) (w.alloc (.cells (zs.map (Value.int .u16)).toArray e)):=by
 obtain⟨A,B,Z⟩:=Option.map_eq_some_iff.1 hi;simp only[Prod.mk.injEq]at Z;obtain⟨Z,D⟩:=Z;obtain⟨z,u,C⟩:=Option.map_eq_some_iff.1 D;refine run_buildSlice w t e 1 _ _ A z d B u f0R f0R ?_;rw[Z];have:=Great.fill_whole (s:=64) e8M [Value.agg (zs.map (Value.int .u16)).toArray] ((Array.range (1*64)).map (z.cells[·%z.cells.size]!)) (fun v N=>by simp at N;subst N;simp[Value.cells,h]) M7L;simpa[Value.cells]using this
theorem y5G C(l:C.size=64)(zs:List Int)(h:zs.length=64):List.foldl (fun(cs:Array Value) (x:Value×Nat)=>cs.setIfInBounds x.2 x.1) C ((zs.map (Value.int .u16)).zipIdx)=(zs.map (Value.int .u16)).toArray:=by
 have Z:=Great.foldl_set 0 (zs.map (Value.int .u16)) 0 C;simp only[Nat.zero_add]at Z;apply Array.ext_getElem?;intro k;rw[Z.2 k];by_cases G:k<64
 ·rw[if_pos P8P];simp
 ·grind
theorem z9W:(prog.info? 147).map (fun i=>(i.size,i.zero.map (·.cells.size)))=some (64,some 64):=f4x
theorem z9X:∃i z,prog.info? 147=some i/\i.zero=some z/\i.size=64/\i.bytes=128/\z.cells.size=64:=by
 have h:(prog.info? 147).map (fun i=>(i.size,i.bytes,i.zero.map (·.cells.size)))=some (64,128,some 64):=f4x;obtain⟨i,hi,Z⟩:=Option.map_eq_some_iff.1 h;simp only[Prod.mk.injEq]at Z;obtain⟨Z,D,J⟩:=Z;obtain⟨z,u,A⟩:=Option.map_eq_some_iff.1 J;exact⟨i,z,hi,u,Z,D,A⟩
def Ix(w:World)(g:Nat)(xs:List Int):Prop:=xs.length=17408/\w.heap[g]?=some (.cells (arrA xs) 145 (0,0))
theorem Ix.lt{w g xs}(h:Ix w g xs):g<w.heap.size:=(Array.getElem?_eq_some_iff.1 h.2).1
theorem Ix.cell{w g xs}(h:Ix w g xs){i}(hi:i<17408):w.cell? ⟨g,i,none⟩=some (.int .u16 (xs.getD i 0)):=by
 have S:=h.1;rw[cell_of_row _ _ _ _ _ _ h.2];simp[arrA,List.getD,(f6J:i<xs.length)]
theorem Ix.frozen{w g xs}(h:Ix w g xs) i:w.frozen? ⟨g,i,none⟩=false:=frozen_of_row _ _ _ _ _ h.2
theorem Ix.set{w g xs}(h:Ix w g xs) i v:Ix (w.setCell ⟨g,i,none⟩ (.int .u16 v)) g (xs.set i v):=by
 refine⟨by simp[h.1],?_⟩;rw[heap_setCell_same w g i _ _ _ h.2];simp[arrA,List.map_set]
def Tb(w:World)(g gi:Nat)(bv:Value)(d:Int):Prop:=w.heap[g]?=some (.cells #[.slice (some ⟨gi,0,none⟩) 17408 17408,bv,.int .i64 d] 144 (0,0))
theorem Tb.lt{w g gi bv d}(h:Tb w g gi bv d):g<w.heap.size:=(Array.getElem?_eq_some_iff.1 h).1
theorem Tb.cells{w g gi bv d}(h:Tb w g gi bv d):w.cell? ⟨g,0,none⟩=some (.slice (some ⟨gi,0,none⟩) 17408 17408)/\w.cell? ⟨g,1,none⟩=some bv/\w.cell? ⟨g,2,none⟩=some (.int .i64 d) :=
 ⟨S9z,S9z,S9z⟩
theorem Tb.frozen{w g gi bv d}(h:Tb w g gi bv d) i:w.frozen? ⟨g,i,none⟩=false:=frozen_of_row _ _ _ _ _ h
theorem Tb.set{w g gi bv d}(h:Tb w g gi bv d) bv':Tb (w.setCell ⟨g,1,none⟩ bv') g gi bv' d:=by
 unfold Tb at h ⊢;rw[heap_setCell_same w g 1 _ _ _ h];rfl
structure Keeps(w w':World)(row:Option Nat):Prop where
 block:∀k,k<w.heap.size->some k≠row->w'.heap[k]?=w.heap[k]?
theorem Keeps.of_below{w w'}(h:Bw w w') row:Keeps w w' row:=⟨fun k G _=>h.block k G⟩
theorem Keeps.of_grown{w w' row}(h:w.grownBy w' row):Keeps w w' row:=⟨h.block⟩
theorem Keeps.of_set w a v:Keeps w (w.setCell a v) (some a.block):=⟨fun k _ y=>heap_setCell_other w a k v (fun e=>y n5N)⟩
theorem Ix.keep{w w' g xs row}(h:Ix w g xs)(G:Keeps w w' row)(y:some g≠row):Ix w' g xs:=⟨h.1,by rw[G.block g h.lt y];exact h.2⟩
theorem Tb.keep{w w' g gi bv d}{row}(h:Tb w g gi bv d)(G:Keeps w w' row)(y:some g≠row):Tb w' g gi bv d:=by
 have S:=h.lt;unfold Tb at h ⊢;rw[G.block g S y];exact h
theorem Bk.keep{w w' g zs row}(h:Bk w g zs)(G:Keeps w w' row)(y:some g≠row):Bk w' g zs:=by
 have S:=h.lt;unfold Bk at h ⊢;rw[G.block g S y];exact h
theorem Ob.keep{e w w' B v}{bs row}(h:Ob e w B v bs)(G:Keeps w w' row)(y:∀k,row=some k->k<B):Ob e w' B v bs:=by
 refine⟨h.1,?_⟩;obtain⟨Z,D | ⟨g,M,t,N,H,X,r⟩⟩:=h.2
 ·exact⟨Z,.inl D⟩
 ·refine⟨Z,.inr ⟨g,M,t,N,H,?_,r⟩⟩;rw[G.block g (Array.getElem?_eq_some_iff.1 X).1 ?_]
  ·exact X
  ·grind
theorem x2t{w w' b n}{D:DataW Unit}{row}(h:w.ownsMap prog 147 (plainElem prog 145) b n D)(G:Keeps w w' row)(y:some b≠row):w'.ownsMap prog 147 (plainElem prog 145) b n D:=by
 have S:=h.lt;obtain⟨p,clock,Y,r⟩:=h;exact⟨p,clock,by rw[G.block b S y];exact Y,r⟩
theorem below_grown{B w w1 w2 row}(h:Below B w w1)(H:w1.grownBy w2 row)(m:B<=w1.heap.size)(hr:∀k,row=some k->B<=k):Below B w w2:=h.grown H m hr
def x5U(w:World)(rs:List Tri.Rg)(d:Int)(e:Ending)(w':World):Prop:=∃a,e=.returned (.pointer (some a))/\T4 w' w.heap.size (.pointer (some a)) rs d/\Below w.heap.size w w'
def bsAt(f:Int->Int)(p:Nat):List (List Int):=Tri.blkA [] ((Tri.pcs f).take p)
theorem z5n f p(s:p<17408):(Tri.pcs f).getD p []=Tri.blk f p:=by
 simp[Tri.pcs,List.getD,s]
theorem z2n f:bsAt f 17408=Tri.bls f:=by
 unfold bsAt Tri.bls;rw[List.take_of_length_le (by rw[Tri.x4R];exact f6J)]
theorem y0t f p(s:p<17408):bsAt f (p+1)=Tri.push (bsAt f p) (Tri.blk f p):=by
 unfold bsAt;rw[Tri.y0s _ _ _ (by rw[Tri.x4R];exact s),z5n f p s]
theorem z5b f p(s:p<17408):(Tri.idx f).getD p 0=(bsAt f p).idxOf (Tri.blk f p):=by
 rw[Tri.idx,Tri.y9j _ _ _ (by rw[Tri.x4R];exact s),z5n f p s];rfl
theorem z2o f p:(bsAt f p).length<=p:=by
 have:=(Tri.y3J [] ((Tri.pcs f).take p)).2;rw[List.length_take]at this;unfold bsAt;simp only[List.length_nil]at this;omega
theorem y5c f p:(bsAt f p).Nodup:=Tri.y5b List.nodup_nil
theorem y7H{f}(h:∀c,0<=f c/\f c<=65535) p:x6n (bsAt f p):=by
 intro b Y;rcases Tri.blkA_sub Y with h1 | h1
 ·cases h1
 ·have D:=List.mem_of_mem_take h1;rw[Tri.pcs,List.mem_map]at D;obtain⟨q,_,rfl⟩:=D;exact y3K h q
theorem z8c{f p}(s:p<17408)(A:Tri.blk f p∈bsAt f p):bsAt f (p+1)=bsAt f p/\(Tri.idx f).getD p 0=(bsAt f p).idxOf (Tri.blk f p)/\(bsAt f p).idxOf (Tri.blk f p)<(bsAt f p).length :=
 ⟨by rw[y0t f p s,Tri.z0A A],z5b f p s,List.idxOf_lt_length_iff.2 A⟩
theorem z4s{f p}(s:p<17408)(A:Tri.blk f p ∉ bsAt f p):bsAt f (p+1)=bsAt f p++[Tri.blk f p]/\(Tri.idx f).getD p 0=(bsAt f p).length:=by
 refine⟨by rw[y0t f p s];unfold Tri.push;rw[if_neg A],?_⟩;rw[z5b f p s];have Z:¬(bsAt f p).idxOf (Tri.blk f p)<(bsAt f p).length:=fun D=>A (List.idxOf_lt_length_iff.1 D);have D:(bsAt f p).idxOf (Tri.blk f p)<=(bsAt f p).length:=List.idxOf_le_length;omega
theorem z7n n:madeCells #[.int .u16 0] n=arrA (List.replicate n 0):=by
 apply Array.ext';rw[toList_madeCells_one];simp[arrA]
theorem q0S w d w3(h:w3=((w.alloc (.cells (madeCells #[.int .u16 0] 17408) 145)).alloc (.cells #[.slice (some ⟨w.heap.size,0,none⟩) 17408 17408,.slice none 0 0,.int .i64 d] 144)).alloc (.map #[] 0)) :
  Bw w w3/\Ix w3 w.heap.size (List.replicate 17408 0)/\Tb w3 (w.heap.size+1) w.heap.size (.slice none 0 0) d/\w3.ownsMap prog 147 (plainElem prog 145) (w.heap.size+1+1) 0 (dat []):=by
 subst h;refine⟨(((Below.refl _ w).alloc (l0r _) _).alloc M7M _).alloc P8P _,⟨List.length_replicate,?_⟩,?_,?_⟩
 ·rw[Below.heap_alloc _ _ _ P8P,Below.heap_alloc _ _ _ M7M,heap_alloc_last,z7n]
 ·unfold Tb;rw[Below.heap_alloc _ _ _ M7M];have:=heap_alloc_last (w.alloc (.cells (madeCells #[.int .u16 0] 17408) 145)) (.cells #[.slice (some ⟨w.heap.size,0,none⟩) 17408 17408,.slice none 0 0,.int .i64 d] 144);rwa [(M7M:(w.alloc (.cells (madeCells #[.int .u16 0] 17408) 145)).heap.size=w.heap.size+1)]at this
 ·have:=World.ownsMap_made (H:=Unit) ((w.alloc (.cells (madeCells #[.int .u16 0] 17408) 145)).alloc (.cells #[.slice (some ⟨w.heap.size,0,none⟩) 17408 17408,.slice none 0 0,.int .i64 d] 144)) prog 147 (plainElem prog 145);rwa [(M7M:((w.alloc (.cells (madeCells #[.int .u16 0] 17408) 145)).alloc (.cells #[.slice (some ⟨w.heap.size,0,none⟩) 17408 17408,.slice none 0 0,.int .i64 d] 144)).heap.size=w.heap.size+1+1)]at this
theorem z6v xs(l:List Nat)(h:xs.length=l.length)(A:∀j,j<l.length->xs.getD j 0=((l.getD j 0:Nat):Int)):xs=l.map fun n:Nat=>(n:Int):=by
 apply List.ext_getElem (by rw[h,List.length_map]);intro j a b;have:=A j T5W;rw[List.getElem_map];simp only[List.getD,List.getElem?_eq_getElem a,Option.getD_some]at this;rw[this,List.getElem?_eq_getElem T5W];rfl
theorem z6K(l:List Nat)(h:∀j,j<l.length->l.getD j 0<=65535):Fit .u16 (l.map fun n:Nat=>(n:Int)):=by
 intro z u;obtain⟨n,F,rfl⟩:=List.mem_map.1 u;obtain⟨j,R,rfl⟩:=List.getElem_of_mem F;have q:=h j R;simp only[List.getD,List.getElem?_eq_getElem R,Option.getD_some]at q;simp[IntKind.min,IntKind.max,IntKind.signed,IntKind.bits];omega
theorem ix_ok n(F:n<=100000){wr B gI} zs(m:B<=gI)(S:zs.length=n)(C:Fit .u16 zs)(X:wr.heap[gI]?=some (.cells (arrA zs) 145 (0,0))):Ok .u16 145 wr B (.slice (some ⟨gI,0,none⟩) n n) zs:=by
 refine⟨C,by rw[List.length_map];exact f6J,?_⟩;rw[List.length_map,S];refine⟨by rw[List.length_map,Nat.mul_one,S],.inr ⟨gI,n,arrA zs,rfl,m,X,l0r _,T7W,by rw[x1K,Nat.mul_one,S],?_⟩⟩;rw[Nat.mul_one,List.take_of_length_le (by rw[Array.length_toList,x1K,S];exact f6J)];simp[arrA]
theorem Ob.lower{e w B B' v}{bs}(h:Ob e w B v bs)(Y:B'<=B):Ob e w B' v bs:=by
 refine⟨h.1,h.2.1,?_⟩;rcases h.2.2 with h | ⟨g,M,t,N,H,r⟩
 ·exact .inl h
 ·exact .inr ⟨g,M,t,N,f6J,r⟩
theorem y9m f j(R:j<(Tri.idx f).length):(Tri.idx f).getD j 0<=65535:=by
 have Z:=Tri.idx_len f;have D:=Tri.y7G f;have J:=(Tri.y7F f j f6J).2;omega
theorem fin4{w wr}{rs:List Tri.Rg}{d gI gT gM bv xs}(q:Tri.Val 0 rs)(hd:0<=d/\d<=65535)(Z:w.heap.size<=gI)(D:w.heap.size<=gT)(J:w.heap.size<=gM)
  (S:Ix wr gI xs) (A:∀j,j<17408->xs.getD j 0=(((Tri.idx (Tri.get d rs)).getD j 0:Nat):Int)) (I:Tb wr gT gI bv d) (m:Ob 147 wr (gM+1) bv (bsAt (Tri.get d rs) 17408)) (Y:Bw w wr) :
  x5U w rs d (.returned (.pointer (some ⟨gT,0,none⟩))) wr:=by
 have B:=Tri.idx_len (Tri.get d rs);have c:=z6v xs (Tri.idx (Tri.get d rs)) (S.1.trans B.symm) (fun j R=>A j (by rw[B]at R;exact R));have C:=z6K (Tri.idx (Tri.get d rs)) (y9m (Tri.get d rs));have F:=ix_ok 17408 f6J xs Z S.1 (by rw[c];exact C) S.2;rw[c]at F;rw[z2n]at m;exact⟨_,rfl,⟨q,hd,gT,_,bv,rfl,D,I,F,m.lower f6J⟩,Y⟩
theorem y8b v(rs:List Tri.Rg) d w(hv:Sr w v rs)(q:Tri.Val 0 rs)(hd:0<=d/\d<=65535) :
  Calls prog 248 #[v,.int .i64 d] w (x5U w rs d):=by
 have HV:=O q;have cT:=O hv;have aJ:Hid (∀c,0<=Tri.get d rs c/\Tri.get d rs c<=65535):=fun c=>Tri.y0T hd q;have cE:Hid (∀wr m A D bv xs,w.heap.size<=m->w.heap.size<=A->w.heap.size<=D->Ix wr m xs->(∀j,j<17408->xs.getD j 0=(((Tri.idx (Tri.get d rs)).getD j 0:Nat):Int))->Tb wr A m bv d->Ob 147 wr (D+1) bv (bsAt (Tri.get d rs) 17408)->Bw w wr->x5U w rs d (.returned (.pointer (some ⟨A,0,none⟩))) wr):=fun wr m A D bv xs a1 a2 a3 a4 a5 a6 a7 a8=>fin4 q hd a1 a2 a3 a4 a5 a6 a7 a8
 have cD:Hid (∀(k p:Nat),(∀j,j<k->Tri.hi (rs.getD j (0,0,0))<64*(p:Int))->Tri.blk (Tri.get d (rs.drop k)) p=Tri.blk (Tri.get d rs) p):=by
  intro k p h;unfold Tri.blk;refine List.map_congr_left fun i _=>?_;exact Tri.z3c k fun j hj _=>by have:=h j hj;exact f6J
 have bL:Hid (∀(u:Value) (k p:Nat) (w':World),Sr w' u (rs.drop k)->p<17408->Calls prog 285 #[u,.int .i64 ((p:Int)*64),.int .i64 d] w' (y7d w' (Tri.blk (Tri.get d (rs.drop k)) p))):=fun u k p w' h1 h2=>z8t u _ d p w' h1 (Tri.z4C q k) hd h2;obtain⟨d1,d2⟩:=hd;have dH:=@run_makeMap prog;have dG:∀w,(Instr.makeSlice 141 (.int .i64 17408) (.int .i64 17408)).run prog w=.ok (.slice (some ⟨w.heap.size,0,none⟩) 17408 17408) (w.alloc (.cells (madeCells #[.int .u16 0] 17408) 145)):=run_make_row' (P:=prog) 141 145 (.int .u16 0) 2 underlying141 Tryz.info145 rfl .i64 .i64 17408 f6J f6J;have da:=O (q0S w d);generalize Tri.get d rs=f at *;go_enter func248,ntmps248;go_wp2;have cU:=V da _ rfl;generalize((w.alloc (.cells (madeCells #[.int .u16 0] 17408) 145)).alloc (.cells #[.slice (some ⟨w.heap.size,0,none⟩) 17408 17408,.slice none 0 0,.int .i64 d] 144)).alloc (.map #[] 0)=wz at *;obtain⟨m,bA⟩:∃g,g=w.heap.size:=⟨_,rfl⟩;obtain⟨A,bS⟩:∃g,g=w.heap.size+1:=⟨_,rfl⟩;obtain⟨D,bR⟩:∃g,g=w.heap.size+1+1:=⟨_,rfl⟩;obtain⟨cQ,bN,bP,bO⟩:=cU;rw[<- bR]at bO;rw[<- bS,<- bA]at bP;rw[<- bA]at bN;have dx:m<A:=f6J;have dA:A<D:=f6J;have be:w.heap.size<=m:=f6J;rw[<- bR,<- bS,<- bA];clear bA bS bR;go_loopw[0,17] (fun l i wr=>∃(p k:Nat) (bv:Value) (xs:List Int),i=.int .i64 p/\p<=17408/\Sr w l (rs.drop k)/\k<=rs.length/\(∀j,j<k->Tri.hi (rs.getD j (0,0,0))<64*(p:Int))/\Ix wr m xs/\(∀j,j<p->xs.getD j 0=(((Tri.idx f).getD j 0:Nat):Int))/\Tb wr A m bv d/\Ob 147 wr (D+1) bv (bsAt f p)/\wr.ownsMap prog 147 (plainElem prog 145) D p (dat (bsAt f p))/\Bw w wr) (fun _ i _=>17408-(intOf i).toNat)
 case atStart=>exact⟨0,0,_,_,rfl,f6J,by simpa using V cT,f6J,fun j hj=>f6J,bN,fun j hj=>f6J,bP,⟨fun b hb=>(by cases hb),World.ownsRow_nil _ _ _ _⟩,bO,cQ⟩
 case round =>
  clear cQ bN bP bO cT;obtain⟨p,k,bv,xs,rfl,hp,hs,hk,bU,hI,bC,hT,hB,hM,ab⟩:=hrel;by_cases aP:p<17408
  ·have cM:Fi ((p:Int)*64):=(by constructor<;>omega);have dB:(0:Int)<=(p:Int):=f6J;have dC:(p:Int)<17408:=f6J;have cI:=O (z0H _ (rs.drop k) ((p:Int)*64) w wr hs ab cM);have de:=O bC;have HI:=O hI;have HT:=O hT;have HB:=O hB;have HM:=O hM;have cG:=O bU;clear cM hs bC hI hT hB hM bU;go_wp2_with fail;refine(V cI).mono ?_;rintro e w1 ⟨rfl,v1,k1,rfl,aI,aO,cS⟩;clear cI;have aI:Sr w v1 (rs.drop (k+k1)):=(by rw[<- List.drop_drop];exact aI);have aO:k+k1<=rs.length:=by rw[List.length_drop]at aO;omega
   have bT:∀j,j<k+k1->Tri.hi (rs.getD j (0,0,0))<64*(p:Int):=by
    intro j hj;by_cases dk:j<k
    ·exact V cG j dk
    ·have:=cS (j-k) f6J;rw[show(rs.drop k).getD (j-k) (0,0,0)=rs.getD j (0,0,0)by simp[List.getD,List.getElem?_drop,(f6J:k+(j-k)=j)]]at this;omega
   have aU:=V bL v1 (k+k1) p w1 (aI.below ab) aP;rw[V cD _ _ bT]at aU;have aU:=O aU;have cF:=O bT;clear cG cS bT;generalize k+k1=kk at *;go_wp2_with fail;refine c0m aU fun w2 t=>?_;clear aU;have ay:Good (Tri.blk f p):=y3K (V aJ) p;have bQ:=y7H (V aJ) p;have aC:=O (z9w (bsAt f p) bQ (y5c f p) (Tri.blk f p) ay);have dj:=z2o f p;have bG:=O (fun hm=>z8c (f:=f) aP hm);have aS:=O (fun hm=>z4s (f:=f) aP hm);have ar:=y4l ay;have aH:=ay.1;have dD:=ab.size;have cR:Bw w (w2.alloc (.cells (arrA (Tri.blk f p)) 147)):=(ab.trans (t.mono ab.size)).alloc (Nat.le_trans ab.size t.size) _;have K3:Keeps w1 (w2.alloc (.cells (arrA (Tri.blk f p)) 147)) none:=Keeps.of_below (t.alloc t.size _) none;have J:=O ((V HI).keep K3 (by simp));have H:=O ((V HT).keep K3 (by simp));have z:=O ((V HB).keep K3 (fun k h=>by cases h));have N:=x2t (V HM) K3 (by simp);have aX:Bk (w2.alloc (.cells (arrA (Tri.blk f p)) 147)) w2.heap.size (Tri.blk f p):=Bk.new w2 _ _ rfl;have F:=aX.box;have dr:=fun w=>y6S w (Tri.blk f p) aH;have dz:D<w1.heap.size:=(V HM).lt;have dt:=t.size;clear HI HT HB HM K3 t ab;generalize Tri.blk f p=zs,bsAt f p=bs at *;have dh:((arrA zs).toList:List Value)=zs.map (Value.int .u16):=(by simp[arrA]);have ce:(arrA zs).size=64:=(by rw[x1K,aH]);have aQ:=O F;have aR:=O ar;have bK:=O N;have bn:=O cR;have bE:=O aX;clear F ar N cR aX
   set_option maxRecDepth 100000 in
   go_upto_region 9 with fail;clear dr dh ce;have N:=V bK;have ar:=V aR;have F:=V aQ;generalize w2.alloc (.cells (arrA zs) 147)=w3 at *;go_wp2_with(first| refine wpList_load_mid rfl 147 (.tmp 9) rfl w2.heap.size 0 rfl (zs.map (Value.int .u16)) _ F underlying147 rfl (x6P aH) ?_|(at_lookup;refine wpList_lookup_own_ok_int _ rfl _ _ 362 rfl 147 145 .u16 y3E underlying362 underlying145 (z8C _) D p (dat bs) rfl N _ (keyL zs) rfl ar ?_));intro c U cV;have J:=V J;have H:=V H;have bD:=z;have bu:=J.cell (i:=p) aP;have bw:=J.frozen p;have bF:∀j,j<kk->Tri.hi (rs.getD j (0,0,0))<64*((p+1:Nat):Int):=fun j hj=>(by have:=V cF j hj;exact f6J);have bp:=O bF
   have bt:Hid (∀n:Int,n=(((Tri.idx f).getD p 0:Nat):Int)->∀j,j<p+1->(xs.set p n).getD j 0=(((Tri.idx f).getD j 0:Nat):Int)):=by
    intro n hn j hj;rw[x8L xs p j n (by rw[J.1];exact aP)];by_cases bX:j=p
    ·rw[if_pos bX,hn,bX]
    ·rw[if_neg bX];exact V de j f6J
   clear bF cF;by_cases hm:zs∈bs
   ·obtain⟨e1,e2,e3⟩:=V bG hm;have aD:Maps.has (dat bs) (keyL zs)=true:=by rw[(V aC).1,d0t hm]
    have hc:c=(bs.idxOf zs:Int):=by
     rw[(V aC).2 hm]at U;simpa using U.symm
    subst hc;rw[aD];have aV:=O (V bt (bs.idxOf zs:Int) (by rw[e2]));have cN:=J.set p (bs.idxOf zs:Int);have K5:=Keeps.of_set w3 ⟨m,p,none⟩ (.int .u16 (bs.idxOf zs:Int));have cP:=H.keep K5 P8U;have cL:=(V z).keep K5 (fun k h=>E0V);have cO:=(x2t N K5 P8U).mono (Nat.le_succ p);have di:=(V bn).setCell (p:=⟨m,p,none⟩) be (.int .u16 (bs.idxOf zs:Int));obtain⟨y0,y1,y2⟩:=H.cells;have cY:=O cN;have db:=O cP;have cX:=O cL;have cZ:=O cO;have E1:=O e1;have dE:=O J;clear U cV aD aC bG aS bt cN K5 cP cL cO e1 e2 bK N H J F aQ bn z bD bE ar aR hm dj bQ;generalize(bs.idxOf zs:Int)=n at *;go_wp2
    go_roundw
    case rel=>exact⟨p+1,kk,bv,xs.set p n,by go_num,f6J,aI,aO,V bp,V cY,V aV,V db,by rw[V E1];exact V cX,by rw[V E1];exact V cZ,di⟩
    case measure=>exact g7W
   ·obtain⟨e1,e2⟩:=V aS hm;have aD:Maps.has (dat bs) (keyL zs)=false:=(by rw[(V aC).1,d0f hm]);rw[aD];have aV:=O (V bt (bs.length:Int) (by rw[e2]));have E1:=O e1;have z:=V z;obtain⟨ao,I,rfl,dv,dw⟩:=z.sb.shape;obtain⟨y0,y1,y2⟩:=H.cells;have dl:(0:Int)<=(bs.length:Int):=f6J;have dp:(bs.length:Int)<=65535:=f6J;have du:(Lit.int .u16 (bs.length:Int)).wf=true:=z5u ⟨dl,dp⟩;have cC:=O z;have cJ:=O H;have cH:=O J;clear U cV aD aC bG aS bt e1 e2 bK H J aQ z bD aR bQ bu bw;go_wp2_with(first| refine wpList_load_mid rfl 147 (.tmp 9) rfl w2.heap.size 0 rfl (zs.map (Value.int .u16)) _ F underlying147 rfl (x6P aH) ?_|(at_mapUpdate;refine wpList_mapUpdate_own _ rfl _ _ _ 362 rfl 147 145 y3E underlying362 (plainElem prog 145) D p (dat bs) rfl N T7X _ _ (keyL zs) rfl rfl ar (.lit (.int .u16 (bs.length:Int))) [] (plainElem_int underlying145 du) ?_));intro C r ba;have K4:=Keeps.of_grown ba;have aB:=(V cJ).keep K4 P8U;have aN:=(V cH).keep K4 P8U;have aW:=(V cC).keep K4 (fun k h=>by cases h;exact f6J);have bB:=(V bE).keep K4 P8U;have S:=below_grown (V bn) ba (V bn).size (fun k h=>by cases h;exact f6J);rw[<- y3R]at r;have aG:=aW.2;have T:=aG.lt;obtain⟨i0,z0,bV,cf,cj,cw,cB⟩:=z9X;obtain⟨x0,x1,x2⟩:=aB.cells;have dF:=aB.frozen 1;have aq:=y5G z64 rfl zs aH;have dy:=r.lt;have cd:∀v∈zs.map (Value.int .u16),v.oneCell'=true:=x0T .u16 zs;have bY:some A≠(Value.slice ao bs.length I).ownBlock:=fun e=>M3n;have bY:some A≠(Value.slice ao bs.length I).ownBlock:=fun e=>by have:=(T _ e.symm).1;omega
    have cK:∀(W R:World) (o:Obj),W.heap=(C.alloc o).heap->W.grownBy R (Value.slice ao bs.length I).ownBlock->Keeps C R (Value.slice ao bs.length I).ownBlock:=by
     intro W R o hW hg
     exact⟨fun k hk dq=>by
      rw[hg.block k (by rw[hW];exact P8U) dq,hW]
      exact Below.heap_alloc C o k hk⟩
    have aM:=O cK;have bJ:=O bY
    have aT:Hid (∀(R:World) (x:Value),Tb R A m (.slice ao bs.length I) d->∀s M,x=.slice (some ⟨s,0,none⟩) (bs.length+1) M->(Instr.storeAt 142 (.pointer (some ⟨A,1,none⟩)) x).run prog R=.ok () (R.setCell ⟨A,1,none⟩ x)):=by
     intro R x X s M hx;subst hx;obtain⟨_,q1,_⟩:=X.cells;have q2:=X.frozen 1;go_simp
    have bj:(Instr.loadAt 142 (.pointer (some ⟨A,1,none⟩))).run prog C.drew=.ok (.slice ao bs.length I) C.drew:=by
     have q1:C.drew.cell? ⟨A,1,none⟩=some (.slice ao bs.length I):=x1;go_simp
    have aK:(Instr.loadAt 142 (.pointer (some ⟨A,1,none⟩))).run prog (C.drew.alloc (.cells (zs.map (Value.int .u16)).toArray 147))=.ok (.slice ao bs.length I) (C.drew.alloc (.cells (zs.map (Value.int .u16)).toArray 147)):=by
     have q1:(C.drew.alloc (.cells (zs.map (Value.int .u16)).toArray 147)).cell? ⟨A,1,none⟩=some (.slice ao bs.length I):=by
      rw[((Below.refl _ C.drew).alloc (l0r _) _).cell (x0a (w:=C) x1)];exact x1
     generalize C.drew.alloc (.cells (zs.map (Value.int .u16)).toArray 147)=wq at *;go_simp
    have bm:=run_loadAt_mid (P:=prog) C.drew w2.heap.size 0 147 (zs.map (Value.int .u16)) _ bB.box underlying147 rfl (x6P aH);have aq:=y6E 142 147 underlying142 z9W C.drew zs aH;have aj:(C.drew.alloc (.cells (zs.map (Value.int .u16)).toArray 147)).ownsRow (D+1) 147 64 (.slice ao bs.length I) bs.length (x1X bs):=World.ownsRow.alloc (w:=C.drew) aG _
    have ae:∀j u,(zs.map (Value.int .u16))[j]?=some u->(C.drew.alloc (.cells (zs.map (Value.int .u16)).toArray 147)).cell? ((⟨C.heap.size,0,none⟩:Addr).add j)=some u:=by
     intro j u hj;have h9:=heap_alloc_last C.drew (.cells (zs.map (Value.int .u16)).toArray 147);rw[addr_add,Nat.zero_add,cell_of_row _ C.heap.size j _ _ _ h9];simpa using hj
    have bZ:(zs.map (Value.int .u16)).length=1*64:=P8U;have aw:D+1<=(C.drew.alloc (.cells (zs.map (Value.int .u16)).toArray 147)).heap.size:=(by have h9:C.drew.heap.size=C.heap.size:=rfl;exact P8U);have bM:(C.drew.alloc (.cells (zs.map (Value.int .u16)).toArray 147)).heap.size=C.heap.size+1:=(by have h9:C.drew.heap.size=C.heap.size:=rfl;simp);have bH:Hid (some m≠(Value.slice ao bs.length I).ownBlock):=fun e=>M3n;have bI:Hid (some D≠(Value.slice ao bs.length I).ownBlock):=fun e=>M3n
    have aL:Hid (∀(R:World) (x:Value),R.ownsRow (D+1) 147 64 x (bs.length+1) (x1X bs++zs.map (Value.int .u16))->Ob 147 R (D+1) x (bs++[zs])):=by
     intro R x h;refine⟨fun b hb=>?_,?_⟩
     ·rcases List.mem_append.1 hb with h1 | h1
      ·exact aW.1 b h1
      ·simp at h1;subst h1;exact ay
     ·rw[y4Y,x8X,List.length_append];exact h
    have y:Hid (∀(R:World) (x:Value),Tb R A m (.slice ao bs.length I) d->Ix R m xs->R.ownsMap prog 147 (plainElem prog 145) D (p+1) (dat (bs++[zs]))->Ob 147 R (D+1) x (bs++[zs])->Bw w R ->
      ((R.setCell ⟨A,1,none⟩ x).cell? ⟨A,0,none⟩=some (.slice (some ⟨m,0,none⟩) 17408 17408)/\(R.setCell ⟨A,1,none⟩ x).cell? ⟨A,1,none⟩=some x/\(R.setCell ⟨A,1,none⟩ x).cell? ⟨A,2,none⟩=some (.int .i64 d))/\(R.setCell ⟨A,1,none⟩ x).cell? ⟨m,p,none⟩=some (.int .u16 (xs.getD p 0))/\(R.setCell ⟨A,1,none⟩ x).frozen? ⟨m,p,none⟩=false /\
      (Ix ((R.setCell ⟨A,1,none⟩ x).setCell ⟨m,p,none⟩ (.int .u16 (bs.length:Int))) m (xs.set p (bs.length:Int))/\Tb ((R.setCell ⟨A,1,none⟩ x).setCell ⟨m,p,none⟩ (.int .u16 (bs.length:Int))) A m x d/\Ob 147 ((R.setCell ⟨A,1,none⟩ x).setCell ⟨m,p,none⟩ (.int .u16 (bs.length:Int))) (D+1) x (bs++[zs]) /\
       ((R.setCell ⟨A,1,none⟩ x).setCell ⟨m,p,none⟩ (.int .u16 (bs.length:Int))).ownsMap prog 147 (plainElem prog 145) D (p+1) (dat (bs++[zs]))/\Bw w ((R.setCell ⟨A,1,none⟩ x).setCell ⟨m,p,none⟩ (.int .u16 (bs.length:Int))))):=by
     intro R x a1 a2 a3 a4 a5;have b1:=a1.set x;have k1:=Keeps.of_set R ⟨A,1,none⟩ x;have b2:=a2.keep k1 P8U;have b3:=x2t a3 k1 P8U;have b4:=a4.keep k1 (fun k h=>E0V);have b5:=a5.setCell (p:=⟨A,1,none⟩) (f6J:w.heap.size<=A) x;have k2:=Keeps.of_set (R.setCell ⟨A,1,none⟩ x) ⟨m,p,none⟩ (.int .u16 (bs.length:Int));exact⟨b1.cells,b2.cell aP,b2.frozen p,b2.set p _,b1.keep k2 P8U,b4.keep k2 (fun k h=>E0V),x2t b3 k2 P8U,b5.setCell (p:=⟨m,p,none⟩) be _⟩
    have aY:w.heap.size<=C.drew.heap.size:=S.size;have bh:w.heap.size<=D+1:=f6J;have aZ:w.heap.size<=(C.drew.alloc (.cells (zs.map (Value.int .u16)).toArray 147)).heap.size:=(by have h9:C.drew.heap.size=C.heap.size:=rfl;have:=S.size;exact P8U);clear F cK bY;go_wp2;refine wp_region_any f4B ?_;change wpAny _ _ _ _ _ _ _ (World.drew _);refine wpAny_take (i:=0) (oi:=⟨some 46,_,_,_,_,_⟩) (v:=.pointer (some ⟨A,0,none⟩)) rfl f4B f4B f4B (fun _ _ _ h=>h) (Or.inl ⟨by rfl,?_⟩) ?_
    ·intro w;go_simp
    simp only[Act.put,sa9,sb9,sc9];refine wpAny_take (i:=1) (oi:=⟨some 47,_,_,_,_,_⟩) (v:=.pointer (some ⟨A,0,none⟩)) rfl f4B f4B f4B (fun _ _ _ h=>h) (Or.inl ⟨by rfl,?_⟩) ?_
    ·intro w;go_simp
    simp only[Act.put,sa9,sb9,sc9];refine wpAny_take (i:=2) (oi:=⟨some 48,_,_,_,_,_⟩) (v:=.pointer (some ⟨A,0,none⟩)) rfl f4B f4B f4B (fun _ _ _ h=>h) (Or.inl ⟨by rfl,?_⟩) ?_
    ·intro w;go_simp
    simp only[Act.put,sa9,sb9,sc9];refine wpAny_take (i:=3) (oi:=⟨some 49,_,_,_,_,_⟩) (v:=.pointer (some ⟨A,1,none⟩)) rfl f4B f4B f4B (fun _ _ _ h=>h) (Or.inl ⟨by rfl,?_⟩) ?_
    ·intro w;go_simp
    simp only[Act.put,sa9,sb9,sc9];refine wpAny_ready (rs:=[4,5]) f4B (by simp) ?_;refine AllReady.cons (o:=⟨some 50,_,_,_,_,_⟩) rfl (fun K hK=>?_) (AllReady.cons (o:=⟨some 51,_,_,_,_,_⟩) rfl (fun K hK=>?_) AllReady.nil)
    ·refine x1P (by rfl) 142 (.tmp 49) (by rfl) _ _ (by rfl) bj ?_;refine hK _ _ ?_;clear hK K;simp only[Act.put,sa9,sb9,sc9];refine wpAny_ready (rs:=[5]) f4B (by simp) ?_;refine AllReady.cons (o:=⟨some 51,_,_,_,_,_⟩) rfl (fun K hK=>?_) AllReady.nil;refine x1P (by rfl) 147 (.tmp 9) (by rfl) _ _ (by rfl) bm ?_;exact U0t
    ·refine x1P (by rfl) 147 (.tmp 9) (by rfl) _ _ (by rfl) bm ?_;refine hK _ _ ?_;clear hK K;simp only[Act.put,sa9,sb9,sc9];refine wpAny_ready (rs:=[4,6]) f4B (by simp) ?_;refine AllReady.cons (o:=⟨some 50,_,_,_,_,_⟩) rfl (fun K hK=>?_) (AllReady.cons (o:=⟨some 52,_,_,_,_,_⟩) rfl (fun K hK=>?_) AllReady.nil)
     ·refine x1P (by rfl) 142 (.tmp 49) (by rfl) _ _ (by rfl) bj ?_;exact U0t
     ·refine x2j (by rfl) 142 (.tmp 51) (by rfl) _ _ (by rfl) aq ?_;refine hK _ _ ?_;clear hK K;simp only[Act.put,sa9,sb9,sc9];refine wpAny_ready (rs:=[4]) f4B (by simp) ?_;refine AllReady.cons (o:=⟨some 50,_,_,_,_,_⟩) rfl (fun K hK=>?_) AllReady.nil;refine x1P (by rfl) 142 (.tmp 49) (by rfl) _ _ (by rfl) aK ?_;exact n0C
  ·obtain rfl:p=17408:=f6J;have HR:=V cE wr m A D bv xs be f6J f6J hI bC hT hB ab;clear hI bC hT hB hM ab hs bU;go_wp2;go_ret;exact HR
end Go.Proofs.YtkfcabdmkmljjaaGreatDoor.Ti
namespace Go.Proofs.YtkfcabdmkmljjaaGreatDoor.Ti
open Go.Proofs.Tryz
open Go.RowKit
def okv(n:Int):Bool:=decide (0<=n/\n<=65535)
theorem okv_lo{n}(h:n<0):okv n=false:=by unfold okv;rw[d0f];exact f6J
theorem okv_hi{n}(h:65535<n):okv n=false:=by unfold okv;rw[d0f];exact f6J
theorem z5l{n}(h:¬n<0)(D:¬65535<n):okv n=true:=by unfold okv;rw[d0t];exact f6J
theorem y4j n w(F:Fi n):Calls prog 283 #[.int .i64 n] w fun e w'=>e=.returned (.bool (okv n))/\w'=w:=by
 obtain⟨Z,D⟩:=F;by_cases T:n<0
 ·rw[okv_lo T];exact m8X
 ·by_cases B:65535<n
  ·rw[okv_hi B];have f:¬n<=65535:=f6J;exact m8X
  ·rw[z5l T B];have f:n<=65535:=f6J;exact m8X
theorem z9E l h x b w(S:Fi l)(X:Fi h)(A:Fi x)(Y:Fi b):Calls prog 282 #[.agg #[.int .i64 l,.int .i64 h,.int .i64 x],.int .i64 b] w (z5y w (Tri.bad (some b) (l,h,x))):=by
 have R:=O (fun w'=>y4j x w' A);obtain⟨u,C⟩:=S;obtain⟨Z,D⟩:=X;obtain⟨d,M⟩:=A;obtain⟨b1,i⟩:=Y;have c:Bw w (w.alloc (.cells #[.int .i64 l,.int .i64 h,.int .i64 x] 272)):=(b0r).alloc (l0r _) _;by_cases T:l<0
 ·rw[x6u (r:=(l,h,x)) (.inl T)];exact E8X
 ·by_cases J:1114111<h
  ·rw[x6u (r:=(l,h,x)) (.inr (.inl J))];exact E8X
  ·by_cases f:h<l
   ·rw[x6u (r:=(l,h,x)) (.inr (.inr f))];exact E8X
   ·have F:¬(Tri.lo (l,h,x)<0\/1114111<Tri.hi (l,h,x)\/Tri.hi (l,h,x)<Tri.lo (l,h,x)):=(by simp only[Tri.x6V,Tri.x9n];exact f6J);by_cases H:x<0\/65535<x
    ·rw[y7x F H];have G:okv x=false:=(by rcases H with h | h;exact okv_lo h;exact okv_hi h);rw[G]at R;exact n3E
    ·have G:okv x=true:=z5l f6J f6J;rw[G]at R;by_cases L:l<=b
     ·rw[y7w F H L];exact n3E
     ·rw[z2b F H L];exact n3E
def prz(rs:List Tri.Rg):Nat->Int
 | 0=>-1
 | k+1=>Tri.hi (rs.getD k (0,0,0))
theorem z5O(rs:List Tri.Rg) k(r:Tri.Rg):Tri.bad (some (prz rs k)) r=Tri.bad (prv rs k) r:=by
 cases k with
 | zero =>
  unfold Tri.bad prz prv;split
  ·rfl
  ·grind
 | succ k=>rfl
theorem y2y v(rs:List Tri.Rg) d w(hv:Sr w v rs)(hd:Fi d) :
  Calls prog 247 #[v,.int .i64 d] w (x2n w (Tri.check d rs)):=by
 have S:=hv.len;have HV:=O (fun w'=>y4j d w' hd);obtain⟨j,m⟩:=hd
 have c:Hid (∀r,r=Tri.x1y d rs.length (prv rs rs.length) (rs.drop rs.length)->∀wr,Bw w wr->(okv d=false->x2n w r (.returned (.tuple #[.int .i64 (rs.length:Int),.int .i64 42])) wr)/\(okv d=true->x2n w r (.returned (.tuple #[.int .i64 0,.int .i64 0])) wr)):=by
  intro r X wr Y;rw[List.drop_length]at X;simp only[Tri.x1y]at X;refine⟨fun h=>x2n.mk (by rw[X,if_pos (by unfold okv at h;have:=of_decide_eq_false h;exact f6J)]) Y,fun h=>x2n.mk (by rw[X,if_neg (by unfold okv at h;have:=o0d h;exact f6J)]) Y⟩
 have HG:Hid (Tri.x1y d 0 (prv rs 0) (rs.drop 0)=Tri.check d rs):=R6P;have ab:=O hv.1;have p:=O hv;obtain⟨J,M,rfl,z,t⟩:=hv.shape;generalize Tri.check d rs=U at *;go_enter func247,ntmps247;go_wp2;go_loopw[6,12] (fun b i wr=>∃k:Nat,i=.int .i64 k/\b=.int .i64 (prz rs k)/\k<=rs.length/\Bw w wr/\U=Tri.x1y d k (prv rs k) (rs.drop k)) (fun _ i _=>rs.length-(intOf i).toNat)
 case atStart=>exact⟨0,rfl,rfl,f6J,b0r,(V HG).symm⟩
 case round =>
  obtain⟨k,rfl,rfl,hk,C,D⟩:=hrel;by_cases ae:k<rs.length
  ·obtain⟨bx,aq,ar,aj,_,_,L⟩:=(V p).place f6J;simp only[Value.slice.injEq]at aj;obtain⟨rfl,_,rfl⟩:=aj;obtain⟨c0,g,c2⟩:=L k ae;rw[<- C.cell (x0a c0)]at c0;rw[<- C.cell (x0a g)]at g;rw[<- C.cell (x0a c2)]at c2;have X:=(V ab).at k
   have B:Fi (prz rs k):=by
    cases k with
    | zero=>simp[prz,Fi]
    | succ k=>exact((V ab).at k).2.1
   have T:=O (fun w'=>z9E (Tri.lo (rs.getD k (0,0,0))) (Tri.hi (rs.getD k (0,0,0))) (Tri.vl (rs.getD k (0,0,0))) (prz rs k) w' X.1 X.2.1 X.2.2 B);have A:(Tri.lo (rs.getD k (0,0,0)),Tri.hi (rs.getD k (0,0,0)),Tri.vl (rs.getD k (0,0,0)))=rs.getD k (0,0,0):=rfl;have u:prz rs (k+1)=Tri.hi (rs.getD k (0,0,0)):=rfl;rw[y5j ae,<- z5O]at D;rw[A]at T;have HS:=O D;have f:=O u;obtain⟨W,Z⟩:=B;obtain⟨⟨s,f2⟩,⟨f3,f4⟩,H,G⟩:=X
   have y:Hid (∀x,x=Tri.bad (some (prz rs k)) (rs.getD k (0,0,0))->x=0\/x=40\/x=41\/x=42):=by
    intro x hx;subst hx;unfold Tri.bad;split
    ·simp
    ·grind
   generalize Tri.bad (some (prz rs k)) (rs.getD k (0,0,0))=q,Tri.lo (rs.getD k (0,0,0))=l,Tri.hi (rs.getD k (0,0,0))=h,Tri.vl (rs.getD k (0,0,0))=x at *;have n:=C.size;have N:Bw w (wr.alloc (.cells #[.int .i64 l,.int .i64 h,.int .i64 x] 272)):=C.alloc n _;have R:(wr.alloc (.cells #[.int .i64 l,.int .i64 h,.int .i64 x] 272)).cell? ⟨wr.heap.size,1,none⟩=some (.int .i64 h):=M7M;go_wp2_with fail;refine c1m (V T _) fun w1 F=>?_;have I:Bw w w1:=N.trans (F.mono N.size);rw[<- F.cell (x0a R)]at R;by_cases hq:q=0
   ·subst hq;have am:=O ((V HS).trans (if_pos rfl));go_wp2
    go_roundw
    case rel=>exact⟨k+1,g2B,by rw[V f],f6J,I,V am⟩
    case measure=>exact g7T
   ·have HR:x2n w U (.returned (.tuple #[.int .i64 (k:Int),.int .i64 q])) w1:=x2n.mk ((V HS).trans (if_neg hq)) I;have aw:(q != 0)=true:=(by simp[hq]);go_wp2;go_ret2;exact HR
  ·obtain rfl:k=rs.length:=f6J;have HE:=V c _ D _ C
   cases ho:okv d with
   | false =>
    rw[ho]at HV HE;have T:=HE.1 rfl;exact R2o
   | true =>
    rw[ho]at HV HE;have T:=HE.2 rfl;exact R2o
end Go.Proofs.YtkfcabdmkmljjaaGreatDoor.Ti
namespace Go.Proofs.YtkfcabdmkmljjaaGreatDoor.Ti
open Go.Proofs.Tryz
open Go.RowKit
theorem T4.lower{w B B' t}{rs:List Tri.Rg}{d}(h:T4 w B t rs d)(Y:B'<=B):T4 w B' t rs d:=by
 obtain⟨Z,D,g,G,A,J,F,C,q,y⟩:=h;exact⟨Z,D,g,G,A,J,f6J,C,q.lower Y,y.lower Y⟩
theorem z4S v(rs:List Tri.Rg) d w(N:Sr w v rs)(hd:Fi d):Calls prog 198 #[v,.int .i64 d] w (x6o (fun w' t rs d=>T4 w' w.heap.size t rs d) w rs d):=by
 have k:=O (y2y v rs d w N hd)
 have C:Hid (∀J,Bw w J->(Tri.check d rs).2=0->Calls prog 248 #[v,.int .i64 d] J (x5U J rs d)):=by
  intro J Y U;obtain⟨Z,D⟩:=Tri.x3X.1 U;exact y8b v rs d J (N.below Y) Z D
 have u:Hid ((Tri.check d rs).2=0->(Tri.check d rs).1=0):=Tri.x4G 0 none rs;have G:Hid (∀w',Bw w w'->(Tri.check d rs).2≠0->x6o (fun w' t rs d=>T4 w' w.heap.size t rs d) w rs d (.returned (.tuple #[.pointer none,.int .i64 (Tri.check d rs).1,.int .i64 (Tri.check d rs).2])) w'):=fun w' Y M=>⟨Y,.inr ⟨M,rfl⟩⟩;have W:Hid (∀w' a,Bw w w'->(Tri.check d rs).2=0->T4 w' w.heap.size (.pointer (some a)) rs d->x6o (fun w' t rs d=>T4 w' w.heap.size t rs d) w rs d (.returned (.tuple #[.pointer (some a),.int .i64 0,.int .i64 0])) w'):=fun w' a Y M I=>⟨Y,.inl ⟨M,a,rfl,I⟩⟩;generalize Tri.check d rs=q at *;obtain⟨y,A⟩:=q;go_enter func198,ntmps198;go_wp2_with fail;refine c0m k fun J F=>?_;by_cases U:A=0
 ·subst U;have H:=O (V C J F rfl);go_wp2_with fail;refine(V H).mono ?_;rintro e R ⟨a,rfl,I,L⟩;go_wp2;go_ret3;exact V W _ a (F.trans (L.mono F.size)) f5W (I.lower F.size)
 ·have B:(A != 0)=true:=M1S;go_wp2;go_ret3;exact V G _ F U
end Go.Proofs.YtkfcabdmkmljjaaGreatDoor.Ti
