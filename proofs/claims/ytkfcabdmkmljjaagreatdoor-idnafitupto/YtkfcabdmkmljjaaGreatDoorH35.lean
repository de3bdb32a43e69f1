/- Lemmas. -/
import Derived.Test.YtkfcabdmkmljjaaGreatDoorH34
import Derived.Lib.MinMaxS
import Derived.Test.YtkfcabdmkmljjaaGreatDoorH36
import Derived.Test.YtkfcabdmkmljjaaGreatDoorH23
import Derived.Test.YtkfcabdmkmljjaaGreatDoorH37
set_option maxHeartbeats 4000000
set_option maxRecDepth 8000
namespace Go.Proofs.YtkfcabdmkmljjaaGreatDoor
open Go.Proofs.Tryz
open Go.RowKit
open Ti
section
variable{p:Prop}
theorem m9o(h:p:=by rw[x3r,N];exact f6J):p:=h
theorem E5y(h:p:=by rw[V a];exact f6J):p:=h
end
namespace Od
theorem x1z.below{w w' k g ms}(h:x1z w k g ms)(Y:Bw w w'):x1z w' k g ms:=by
 obtain⟨A,Z,D,J⟩:=h;refine⟨A,Z.below Y Z.lt,D,?_⟩;rcases J with J | ⟨j,M,Q,P,E,N,I⟩
 ·exact Or.inl J
 ·exact Or.inr ⟨j,M,Q,P,E,by rw[Y.block j (Array.getElem?_eq_some_iff.1 N).1];exact N,I⟩
theorem q1x:Tryz.zeroCells292=(Value.slice none 0 0::ia z255).toArray:=f4x
theorem x1z.new(w:World) k:x1z (w.alloc (.cells Tryz.zeroCells292 292)) k w.heap.size []:=⟨.slice none 0 0,by rw[y3R];exact Blk.new w _ _ _ q1x,rfl,Or.inl ⟨rfl,rfl⟩⟩
theorem x2O a b:ir (a++b)=ir a++ir b:=List.map_append
theorem y1a k g yb n cap D ms R C w(h:x1z w k g ms)(hy:Blk w yb 21 (ir (D++ms++R)++C))(F:D.length+ms.length=n)(G:n<=cap/\cap<=9223372036854775807)(A:Od.Mk k ms)(L:n<=3000000)(r:yb<g):Calls prog 211 #[.pointer (some ⟨g,0,none⟩),.slice (some ⟨yb,0,none⟩) n cap] w fun e w'=>e=.returned (.tuple #[])/\Blk w' yb 21 (ir (D++Od.bkt k ms++R)++C)/\x1z w' k g []/\Below yb w w':=by
 rcases Nat.eq_zero_or_pos ms.length with h0 | h0
 ·obtain rfl:=List.eq_nil_of_length_eq_zero h0;refine(x8v k g _ w h).mono ?_;rintro e w' ⟨rfl,rfl⟩;rw[Od.y2i];exact⟨rfl,hy,h,b0r⟩
 ·subst F
  have S:Blk w yb 21 (ir D++ir ms++(ir R++C)):=by
   rw[x2O,x2O]at hy;simpa[List.append_assoc]using hy
  refine(y5Y k g yb D.length cap ms ms (ir D) (ir R++C) w h S (x3r D) rfl G A f6J f6J h0 r).mono ?_;rintro e w' ⟨rfl,a,b,c⟩;refine⟨rfl,?_,b,c⟩;rw[x2O,x2O];simpa[List.append_assoc]using a
theorem y6m k ms{c} l(h:k c=0):Od.ordA k ms (c::l)=Od.bkt k ms++c::Od.ordA k [] l:=by rw[Od.ordA,if_pos h]
theorem y6n k ms{c} l(h:k c≠0):Od.ordA k ms (c::l)=Od.ordA k (ms++[c]) l:=by rw[Od.ordA,if_neg h]
theorem y8r{xs:List Int}{i}(h:i<xs.length):xs.drop i=xs.getD i 0::xs.drop (i+1):=f0h
theorem y6x{p k} w0 w1(aC:∀c W,Rune c->Bw w0 W->Calls prog 161 #[.pointer (some ⟨p,0,none⟩),.int .i32 c] W (x1a W (k c)))(o:∀c,0<=k c/\k c<=254)(hb:Bw w0 w1) yb cap xs C(X:w0.heap.size<=yb)(hy:Blk w1 yb 21 (ir xs++C))(s:∀z∈xs,Rune z)(l:xs.length<=cap)(H:cap<=9223372036854775807)(hl:xs.length<=3000000):Calls prog 160 #[.pointer (some ⟨p,0,none⟩),.slice (some ⟨yb,0,none⟩) xs.length cap] w1 fun e w'=>e=.returned (.tuple #[])/\Blk w' yb 21 (ir (Od.ord k xs)++C)/\Bw w0 w':=by
 have HR:=O o;have HC:=O aC;obtain⟨g,hg⟩:∃g,w1.heap.size=g:=⟨_,rfl⟩;obtain⟨x,L⟩:∃x,w1.alloc (.cells Tryz.zeroCells292 292)=x:=⟨_,rfl⟩;have aK:=hy.lt;have r2:x1z x k g []:=(by rw[<- L,<- hg];exact x1z.new w1 k);have y2:Blk x yb 21 (ir xs++C):=(by rw[<- L];exact hy.alloc _);have b2:Bw w0 x:=(by rw[<- L];exact hb.alloc hb.size _);have G:yb<g:=f6J;have az:=O s;have y:=O r2;have aB:=O y2;have T:=O b2;obtain⟨n,hn⟩:∃n,xs.length=n:=⟨_,rfl⟩;have f:=O hn;rw[hn]at l hl ⊢;have N:Hid (([]:List Int)++Od.ordA k [] (xs.drop 0)=Od.ord k xs):=(by show _=_;exact R6O);obtain⟨R,J⟩:∃r,Od.ord k xs=r:=⟨_,rfl⟩;rw[J]at N ⊢;go_enter func160,ntmps160;go_wp2;go_loopw[5,6,9] (fun _ _ ii wr=>∃(i:Nat) (D d:List Int),ii=.int .i64 i/\i<=n/\D.length+d.length=i/\Od.Mk k d/\D++Od.ordA k d (xs.drop i)=R/\x1z wr k g d/\Blk wr yb 21 (ir (D++d++xs.drop i)++C)/\Bw w0 wr) (fun _ _ ii _=>n-(intOf ii).toNat)
 case atStart=>exact⟨0,[],[],rfl,f6J,rfl,fun _ h=>(by cases h),V N,V y,by simpa using V aB,V T⟩
 case round =>
  obtain⟨i,D,d,rfl,aI,F,aq,P,ar,ab,I⟩:=hrel;by_cases aF:i<n
  ·have am:i<xs.length:=(by rw[V f];exact aF);have aj:=y8r am
   have K:wr.cell? ⟨yb,i,none⟩=some (.int .i32 (xs.getD i 0)):=by
    refine ab.cell ?_;rw[List.getElem?_append_left (by rw[x3r];exact P8P),aj,x2O,List.getElem?_append_right (by rw[x3r];exact P8P),x3r,List.length_append,F,Nat.sub_self];rfl
   have aH:Rune (xs.getD i 0):=V az _ (by simp[List.getD,am]);have b:=O (V HC (xs.getD i 0) wr aH I);obtain⟨q0,q1⟩:=V HR (xs.getD i 0);have aA:=O ar;have ag:=O ab;have j:=O I;have Y:=O aq;have B:=O P;have A:=O aj;obtain⟨c,hc⟩:∃c,xs.getD i 0=c:=⟨_,rfl⟩;rw[hc]at K b q0 q1 A;obtain⟨q,hq⟩:∃q:Nat,k c=(q:Int):=⟨(k c).toNat,f6J⟩;rw[hq]at b;have a:=O hq;rw[hq]at q0 q1;go_wp2_with fail;refine(V b).mono ?_;rintro e1 t ⟨rfl,u,rfl⟩;have m:Bw wr (wr.drewN u):=x0i ⟨u,rfl⟩;have ae:x1z (wr.drewN u) k g d:=(V aA).below m;have E:Blk (wr.drewN u) yb 21 (ir (D++d++xs.drop i)++C):=(V ag).below m (V ag).lt;have Z:=bthen (V j) m;have aw:(wr.drewN u).cell? ⟨yb,i,none⟩=some (.int .i32 c):=(by rw[m.cell (V ag).lt];exact K);generalize wr.drewN u=t at *;by_cases aG:q=0
   ·subst aG;have KL:=O (y1a k g yb i cap D d (xs.drop i) C t ae E F ⟨f6J,H⟩ (V Y) f6J G);have T:=O Z
    have HE:Hid ((D++Od.bkt k d++[c])++Od.ordA k [] (xs.drop (i+1))=R):=by
     have:=V B;rw[V A,y6m k d _ (V a)]at this;show _=_;rw[<- this];simp
    have HL:Hid ((D++Od.bkt k d++[c]).length+([]:List Int).length=i+1):=by
     show _=_;simp[Od.x9c (V Y)];omega
    go_wp2_with fail;refine(V KL).mono ?_;rintro e3 w3 ⟨rfl,U,S,b3⟩;have ai:Bw w0 w3:=(V T).trans (b3.mono X);have v:=O U;have Q:=O S;have af:=O ai;go_wp2
    go_roundw
    case rel =>
     refine⟨i+1,D++Od.bkt k d++[c],[],g2A,f6J,V HL,fun _ h=>(by cases h),V HE,V Q,?_,V af⟩;have:=V v;rw[V A]at this;exact W2O
    case measure=>exact g7W
   ·have KG:=O (y0S k g d c q t ae (V a) f6J f6J f6J);have T:=O Z;have M:=O E
    have HE:Hid (D++Od.ordA k (d++[c]) (xs.drop (i+1))=R):=by
     have:=V B;rw[V A,y6n k d _ E5y]at this;exact this
    have aJ:¬((q:Int)=0):=f6J;go_wp2_with fail;refine(V KG).mono ?_;rintro e3 w3 ⟨rfl,S,b3⟩;have ai:Bw w0 w3:=(V T).trans (b3.mono f6J);have U:=(V M).below b3 G;have v:=O U;have Q:=O S;have af:=O ai;go_wp2
    go_roundw
    case rel =>
     refine⟨i+1,D,d++[c],g2A,f6J,P8P,Od.y2Q (V Y) E5y E5y,V HE,V Q,?_,V af⟩;have:=V v;rw[V A]at this;exact W2O
    case measure=>exact g7W
  ·obtain rfl:i=n:=f6J;have aD:xs.drop i=[]:=List.drop_of_length_le (by rw[V f];exact f6J);rw[aD]at P ab;have KL:=O (y1a k g yb i cap D d [] C wr ar ab F ⟨l,H⟩ aq hl G);have HB:=O I;have HE:Hid (D++Od.bkt k d++[]=R):=(by show _=_;rw[List.append_nil];exact P);go_wp2_with fail;refine(V KL).mono ?_;rintro e3 w3 ⟨rfl,U,S,b3⟩;rw[V HE]at U;have HF:=O (And.intro U ((V HB).trans (b3.mono X)));go_wp2;go_end0;exact⟨rfl,V HF⟩
theorem z0C{p k} w0 w1 v xs(F:∀c W,Rune c->Bw w0 W->Calls prog 161 #[.pointer (some ⟨p,0,none⟩),.int .i32 c] W (x1a W (k c)))(o:∀c,0<=k c/\k c<=254)(Y:Bw w0 w1)(A:Ok .i32 21 w1 w0.heap.size v xs)(S:xs.length<=3000000):Calls prog 160 #[.pointer (some ⟨p,0,none⟩),v] w1 fun e w'=>e=.returned (.tuple #[])/\Ok .i32 21 w' w0.heap.size v (Od.ord k xs)/\Bw w0 w':=by
 have s:∀z∈xs,Rune z:=fun z T=>⟨(A.1 z T).1,(A.1 z T).2⟩;have D:Fit .i32 (Od.ord k xs):=fun z T=>A.1 z (Od.z0p o T);have N:=Od.z0o o xs;rcases A.row.2 with⟨rfl,R⟩ | ⟨B,M,Q,rfl,X,f,l,H,J,m⟩
 ·obtain rfl:=List.eq_nil_of_length_eq_zero R;obtain⟨g,C⟩:∃g,w1.heap.size=g:=⟨_,rfl⟩;obtain⟨x,L⟩:∃x,w1.alloc (.cells Tryz.zeroCells292 292)=x:=⟨_,rfl⟩;have r2:x1z x k g []:=(by rw[<- L,<- C];exact x1z.new w1 k);have u:Bw w0 x:=(by rw[<- L];exact Y.alloc Y.size _);have KL:=O (x8v k g (.slice none 0 0) x r2);have U:Hid (Ok .i32 21 x w0.heap.size (.slice none 0 0) (Od.ord k [])/\Bw w0 x):=⟨by rw[show Od.ord k []=[]from Od.y2i k];exact n7f,u⟩;go_enter func160,ntmps160;go_wp2;refine wp_loop_rounds 1 ?_;rw[rounds_succ];go_wp2_with fail;refine(V KL).mono ?_;rintro e G ⟨rfl,rfl⟩;go_wp2;go_end0;exact t8u
 ·have hy:Blk w1 B 21 (ir xs++Q.toList.drop (xs.length*1)):=by
   have e:ir xs=Q.toList.take (xs.length*1):=m.symm;rw[e,List.take_append_drop];unfold Blk;rw[f]
  refine(y6x w0 w1 F o Y B M xs _ X hy s l (by unfold maxLen at H;exact f6J) S).mono ?_;rintro e w' ⟨rfl,a,b⟩;refine⟨rfl,?_,b⟩;have I:Q.toList.length=M*1:=(Array.length_toList (xs:=Q)).trans J;refine Ok.of (n:=xs.length) (us:=ir (Od.ord k xs)) D (by rw[N];exact f6J) ⟨m9o,Or.inr ⟨B,M,_,rfl,X,a,l,H,?_,?_⟩⟩ N.symm rfl
  ·rw[List.size_toArray,List.length_append,x3r,N,List.length_drop,I];omega
  ·rw[List.take_append_of_le_length m9o,List.take_of_length_le m9o]
end Od
open Ti Od
namespace Cn
def nfd(rs:List Rec)(xs:List Int):List Int:=Od.ord (cls rs) (openAll rs xs)
end Cn
theorem x6x{B p rs w}(F:x0m w B p rs)(y:(Cn.check6 rs).2=0):∀c W,Rune c->Bw w W->Calls prog 161 #[.pointer (some ⟨p,0,none⟩),.int .i32 c] W (x1a W (Cn.cls rs c)):=fun c W I R=>by
 rw[Cn.z4B y];exact x8k c W (F.below R) y I
theorem x2H{rs}(G:(Cn.check rs).2=0):(Cn.check6 rs).2=0:=by
 exact(Cn.x1c.1 G).1
theorem y1k{B p rs} v xs w(C:Glob w)(F:x0m w B p rs)(G:(Cn.check rs).2=0)(A:Sk .i32 w v xs)(z:xs.length<=65536):Calls prog 112 #[.pointer (some ⟨p,0,none⟩),v] w (x0h w (Cn.nfd rs xs)):=by
 have y:=x2H G;have i:=O (y1p v xs w C F G A z);have N:=Cn.x3G G xs;have j:Hid (∀a Q,Ok .i32 21 Q w.heap.size a (Cn.openAll rs xs)->Bw w Q->Calls prog 160 #[.pointer (some ⟨p,0,none⟩),a] Q fun e R=>e=.returned (.tuple #[])/\Ok .i32 21 R w.heap.size a (Cn.nfd rs xs)/\Bw w R):=fun a Q Z D=>z0C w Q a _ (x6x F y) (fun c=>Cn.x3Y y c) D Z f6J;obtain⟨H,J,g,d,X⟩:=A.shape;subst g;generalize Cn.openAll rs xs=zs,Cn.nfd rs xs=ys at *;go_enter func112,ntmps112;go_wp2_with fail;refine(V i).mono ?_;rintro P Q ⟨a,rfl,q,b1⟩;have k:=O (V j a Q q b1);obtain⟨L,K,I,_,_⟩:=q.sk.shape;subst I;go_wp2_with fail;refine(V k).mono ?_;rintro E t ⟨rfl,W,u⟩;have U:Hid (x0h w ys (.returned (.slice L zs.length K)) t):=⟨_,rfl,W,u⟩;go_wp2;go_ret;exact V U
theorem y9Y{B p rs} v xs w(C:Glob w)(F:x0m w B p rs)(G:(Cn.check rs).2=0)(A:Sk .i32 w v xs):Calls prog 64 #[.pointer (some ⟨p,0,none⟩),v] w (if 65536<xs.length then SeqE w [] 2 else SeqE w (Cn.nfd rs xs) 0):=by
 obtain⟨H,J,g,d,L⟩:=A.shape;subst g;obtain⟨X,b⟩:∃X,w.alloc (.cells #[.slice H xs.length J] 36)=X:=⟨_,rfl⟩;have f:Bw w X:=(by rw[<- b];exact t9C);have K:X.cell? ⟨w.heap.size,0,none⟩=some (.slice H xs.length J):=by rw[<- b];exact one_cell w H xs.length J _
 have I:=O (x9X p w.heap.size 1 [xs.length] X rfl f6J (fun i hi=>by
  obtain rfl:i=0:=f6J
  exact⟨H,J,K,L,d⟩))
 have Z:=O f;by_cases S:65536<xs.length
 ·rw[if_pos S];rw[show refN [xs.length]=2 by unfold refN;rw[List.any_cons,d0t S];rfl]at I;go_enter func64,ntmps64;go_wp2_with fail;refine(V I).mono ?_;rintro P Q ⟨rfl,rfl⟩;have U:Hid (SeqE w [] 2 (.returned (.tuple #[.slice none 0 0,.int .i64 2])) Q):=⟨_,rfl,Ok.nil _ _ _ _,V Z⟩;exact N8p
 ·rw[if_neg S];rw[show refN [xs.length]=0 by unfold refN;rw[List.any_cons,d0f S];rfl]at I;have j:=O (y1k _ xs X (C.on f) (F.below f) G (A.below f) f6J);generalize Cn.nfd rs xs=m at *;go_enter func64,ntmps64;go_wp2_with fail;refine(V I).mono ?_;rintro P Q ⟨rfl,rfl⟩;go_wp2_with fail;refine(V j).mono ?_;rintro E t ⟨M,rfl,W,u⟩;have U:Hid (SeqE w m 0 (.returned (.tuple #[M,.int .i64 0])) t):=⟨M,rfl,W.lower (V Z).size,bthen (V Z) u⟩;exact N8p
open Ti
namespace Cn
end Cn
open Ti
namespace Cn
theorem y9Z{rs}(G:(check rs).2=0) xs:(nfd rs xs).length<=32*xs.length:=by
 unfold nfd;rw[Od.z0o (fun c=>x3Y (x1c.1 G).1 c)];exact x3G G xs
end Cn
open Ti
theorem z2E{B p rs w}(F:x0m w B p rs)(y:(Cn.check6 rs).2=0):x2k 161 w p (Cn.vget rs 2):=fun c I W R=>x8k c W (F.below R) y I
theorem z7d{B p rs w}(F:x0m w B p rs)(y:(Cn.check6 rs).2=0):x2k 311 w p (Cn.vget rs 5):=fun c I W R=>y9t c W (F.below R) y I
namespace Cn
end Cn
open Ti
namespace Bd
end Bd
open Ti
namespace Cn
theorem y8b{rs}(y:(check6 rs).2=0) a b:Rune (cmp9 rs a b).1:=by
 unfold cmp9;split
 ·unfold sylOf;split
  ·rename_i h
   unfold jl jv at h;simp only[Bool.and_eq_true,decide_eq_true_eq]at h;unfold Rune;show -2147483648<=44032+((a-4352)*21+b-4449)*28/\44032+((a-4352)*21+b-4449)*28<=2147483647;omega
  ·split
   ·rename_i h
    unfold bare2 jt syl at h;simp only[Bool.and_eq_true,decide_eq_true_eq]at h;unfold Rune;show -2147483648<=a+b-4520+1/\a+b-4520+1<=2147483647;omega
   ·exact⟨e8N,e8N⟩
 ·cases hp:x2z rs a b with
  | none=>exact⟨e8N,e8N⟩
  | some p =>
   unfold x2z at hp;obtain⟨r,u,rfl⟩:=Option.map_eq_some_iff.1 hp;have o:=List.mem_reverse.1 (List.mem_of_find?_eq_some u);have A:isP a b r=true:=List.find?_some u;have hi:r.kind=7/\r.to.getD 0 0=a/\r.to.getD 1 0=b:=o0d A;have L:=x0p ((x0k.1 y).2.1 r o) f6J;unfold Rune;show -2147483648<=r.lo/\r.lo<=2147483647;omega
def of18(rs:List Rec)(X:List Int):Lb.Of:=⟨decide (X=Nm.cps (cls rs) (cmp9 rs) (nfd rs X)),fun c=>vget rs 6 c != 0,vget rs 1,decide (0<=Jn.chk (vget rs 2) (vget rs 5) X),Bd.y6H (X.map (vget rs 4)) != 0⟩
end Cn
open Ti
theorem q0k{B p rs w}(F:x0m w B p rs)(G:(Cn.check rs).2=0):NmC p (Cn.cls rs) (Cn.cmp9 rs) w:=by
 have y:=x2H G;exact⟨Cn.x3Y y,fun a b _ _=>Cn.y8b y a b,fun c I W R=>(x6x F y c W I R).mono fun _ _ h=>⟨h.1,x0i h.2⟩,fun a b g Y W R=>y0A a b W (F.below R) g Y⟩
theorem z5k{B p rs w}(C:Glob w)(F:x0m w B p rs)(G:(Cn.check rs).2=0):NfdC p (Cn.nfd rs) w:=by
 refine⟨fun X=>Cn.y9Z G X,fun u X W R A S=>?_⟩;have h:=y9Y u X W (C.on R) (F.below R) G A;rw[if_neg f6J]at h;exact h
theorem z9S{B p rs w}(C:Glob w)(F:x0m w B p rs)(G:(Cn.check rs).2=0){xv X}(A:Sk .i32 w xv X)(z:X.length<=65536):Calls prog 14 #[.pointer (some ⟨p,0,none⟩),xv] w (fun e w'=>e=.returned (.tuple #[.bool (Cn.of18 rs X).nf,.int .i64 0])/\Bw w w'):=isN18 (q0k F G) (z5k C F G) A f6J
open Ti
namespace Cn
end Cn
open Ti
namespace Cn
theorem y6D{r}(h:right r=0)(G:r.kind=9):0<=r.n/\r.n<=10:=by
 have z:=x0x h;unfold right at h;rw[if_neg z,if_neg f6J]at h;have I:=x1v h;rw[Bool.and_eq_true]at I;have D:=I.2;rw[if_neg f6J,if_neg f6J,if_neg f6J,if_neg f6J,if_neg f6J,if_neg f6J,if_neg f6J,if_neg f6J,if_pos G]at D;simp only[Bool.and_eq_true]at D;exact o0d D.2
theorem z2L{k}(h:fam k=4):k=9:=R8h
theorem z1C{rs}(y:(check6 rs).2=0) c:0<=vget rs 4 c/\vget rs 4 c<=10:=by
 unfold vget
 cases he:hit rs 4 c with
 | none=>grind
 | some r =>
  have o:=(x1N y e8N r).1 he;have G:=z2L o.2.1;have N:=y6D ((x0k.1 y).2.1 r o.1) G;show 0<=value r/\value r<=10;unfold value;rw[if_neg f6J,if_neg f6J,if_neg f6J,if_neg f6J,if_neg f6J];exact N
end Cn
theorem q0u{B p rs w}(F:x0m w B p rs)(y:(Cn.check6 rs).2=0):x8T p (Cn.vget rs 4) w:=⟨Cn.z1C y,fun c I W R=>(y7H c W (F.below R) y I).mono fun _ _ h=>⟨h.1,x0i h.2⟩⟩
open Ti
theorem plb18{B p rs w}(C:Glob w)(F:x0m w B p rs)(G:(Cn.check rs).2=0){xv X}(A:Sk .i32 w xv X)(z:X.length<=65536):PLbC p xv X (Cn.of18 rs X) w:=by
 have y:=x2H G;refine⟨fun W R=>z9S (C.on R) (F.below R) G (A.below R) z,fun c I W R=>?_,fun c I W R=>?_,⟨_,rfl,fun W R=>?_⟩,⟨_,rfl,fun W R=>?_⟩⟩
 ·exact(y9N c W (F.below R) y I).mono fun _ _ h=>⟨h.1,x0i h.2⟩
 ·exact(x3O c W (F.below R) y I).mono fun _ _ h=>⟨h.1,x0i h.2⟩
 ·exact y2l (z2E (F.below R) y) (z7d (F.below R) y) (A.below R)
 ·exact q0M (q0u (F.below R) y) (A.below R)
