/- Le18 Om12 On12 Oq12 Or12 Ou12 Jg16 Bd17 Lf18 Lk18 Lj18 Pb17 Lt18 -/
import Derived.Test.YtbmckadcjdedcaaGreatDoorD37
import Derived.Lib.MinMaxS
import Derived.Test.YtbmckadcjdedcaaGreatDoorD39
import Derived.Test.YtbmckadcjdedcaaGreatDoorD26
import Derived.Test.YtbmckadcjdedcaaGreatDoorD40
set_option maxHeartbeats 4000000
set_option maxRecDepth 8000
namespace Go.Proofs.YtbmckadcjdedcaaGreatDoor
open Go.Proofs.Tryz
open Go.RowKit
open Ti
section
variable{p:Prop}
theorem F4i(h:p:=by rw[x3z,E];exact f6J):p:=h
theorem v3R(h:p:=by rw[V T];exact f6J):p:=h
end
namespace Od
theorem x1E.below{w w':World}{k:Int->Int}{g:Nat}{ms:List Int}(h:x1E w k g ms)(C:Bw w w'):x1E w' k g ms:=by
 obtain⟨K,D,Z,R⟩:=h;refine⟨K,D.below C D.lt,Z,?_⟩;rcases R with R | ⟨j,M,P,N,f,E,I⟩
 ·exact Or.inl R
 ·exact Or.inr ⟨j,M,P,N,f,by rw[C.block j (Array.getElem?_eq_some_iff.1 E).1];exact E,I⟩
theorem z9p:Tryz.zeroCells228=(Value.slice none 0 0::ia z255).toArray:=f4x
theorem x1E.new(w:World)(k:Int->Int):x1E (w.alloc (.cells Tryz.zeroCells228 228)) k w.heap.size []:=⟨.slice none 0 0,by rw[y3a];exact Blk.new w _ _ _ z9p,rfl,Or.inl ⟨rfl,rfl⟩⟩
theorem x2Z(a b:List Int):ir (a++b)=ir a++ir b:=List.map_append
theorem y0u(k:Int->Int)(g l n cap:Nat)(D ms R:List Int)(C:List Value)(w:World)(h:x1E w k g ms)(hy:Blk w l 21 (ir (D++ms++R)++C))(E:D.length+ms.length=n)(m:n<=cap/\cap<=9223372036854775807)(G:Od.Mk k ms)(X:n<=3000000)(J:l<g):Calls prog 150 #[.pointer (some ⟨g,0,none⟩),.slice (some ⟨l,0,none⟩) n cap] w fun e w'=>e=.returned (.tuple #[])/\Blk w' l 21 (ir (D++Od.bkt k ms++R)++C)/\x1E w' k g []/\Below l w w':=by
 rcases Nat.eq_zero_or_pos ms.length with h0 | h0
 ·obtain rfl:=List.eq_nil_of_length_eq_zero h0;refine(x7W k g _ w h).mono ?_;rintro e w' ⟨rfl,rfl⟩;rw[Od.y6B];exact⟨rfl,hy,h,b0r⟩
 ·subst E
  have I:Blk w l 21 (ir D++ir ms++(ir R++C)):=by
   rw[x2Z,x2Z]at hy;simpa[List.append_assoc]using hy
  refine(y5c k g l D.length cap ms ms (ir D) (ir R++C) w h I (x3z D) rfl m G f6J f6J h0 J).mono ?_;rintro e w' ⟨rfl,a,b,c⟩;refine⟨rfl,?_,b,c⟩;rw[x2Z,x2Z];simpa[List.append_assoc]using a
theorem y5n(k:Int->Int)(ms:List Int){c:Int}(l:List Int)(h:k c=0):Od.ordA k ms (c::l)=Od.bkt k ms++c::Od.ordA k [] l:=by rw[Od.ordA,if_pos h]
theorem y5o(k:Int->Int)(ms:List Int){c:Int}(l:List Int)(h:k c≠0):Od.ordA k ms (c::l)=Od.ordA k (ms++[c]) l:=by rw[Od.ordA,if_neg h]
theorem y7k{xs:List Int}{i:Nat}(h:i<xs.length):xs.drop i=xs.getD i 0::xs.drop (i+1):=f0h
theorem y5x{p:Nat}{k:Int->Int}(U w1:World)(y:∀c W,Rune c->Bw U W->Calls prog 98 #[.pointer (some ⟨p,0,none⟩),.int .i32 c] W (x1r W (k c)))(aG:∀c,0<=k c/\k c<=254)(hb:Bw U w1)(l cap:Nat)(xs:List Int)(C:List Value)(ay:U.heap.size<=l)(hy:Blk w1 l 21 (ir xs++C))(o:∀z∈xs,Rune z)(f:xs.length<=cap)(Q:cap<=9223372036854775807)(hl:xs.length<=3000000):Calls prog 97 #[.pointer (some ⟨p,0,none⟩),.slice (some ⟨l,0,none⟩) xs.length cap] w1 fun e w'=>e=.returned (.tuple #[])/\Blk w' l 21 (ir (Od.ord k xs)++C)/\Bw U w':=by
 have HR:=O aG;have HC:=O y;obtain⟨g,hg⟩:∃g,w1.heap.size=g:=⟨_,rfl⟩;obtain⟨b,af⟩:∃b,w1.alloc (.cells Tryz.zeroCells228 228)=b:=⟨_,rfl⟩;have aM:=hy.lt;have r2:x1E b k g []:=(by rw[<- af,<- hg];exact x1E.new w1 k);have y2:Blk b l 21 (ir xs++C):=(by rw[<- af];exact hy.alloc _);have b2:Bw U b:=(by rw[<- af];exact hb.alloc hb.size _);have K:l<g:=f6J;have aA:=O o;have aB:=O r2;have aC:=O y2;have d:=O b2;obtain⟨n,hn⟩:∃n,xs.length=n:=⟨_,rfl⟩;have HN:=O hn;rw[hn]at f hl ⊢;have aj:Hid (([]:List Int)++Od.ordA k [] (xs.drop 0)=Od.ord k xs):=(by show _=_;exact R6O);obtain⟨t,R⟩:∃r,Od.ord k xs=r:=⟨_,rfl⟩;rw[R]at aj ⊢;go_enter func97,ntmps97;go_wp2;go_loopw[5,6,9] (fun _ _ ii wr=>∃(i:Nat) (D P:List Int),ii=.int .i64 i/\i<=n/\D.length+P.length=i/\Od.Mk k P/\D++Od.ordA k P (xs.drop i)=t/\x1E wr k g P/\Blk wr l 21 (ir (D++P++xs.drop i)++C)/\Bw U wr) (fun _ _ ii _=>n-(intOf ii).toNat)
 case atStart=>exact⟨0,[],[],rfl,f6J,rfl,fun _ h=>(by cases h),V aj,V aB,by simpa using V aC,V d⟩
 case round =>
  obtain⟨i,D,P,rfl,aK,E,ar,F,aw,S,ai⟩:=hrel;by_cases aH:i<n
  ·have aq:i<xs.length:=(by rw[V HN];exact aH);have am:=y7k aq
   have X:wr.cell? ⟨l,i,none⟩=some (.int .i32 (xs.getD i 0)):=by
    refine S.cell ?_;rw[List.getElem?_append_left (by rw[x3z];exact P8P),am,x2Z,List.getElem?_append_right (by rw[x3z];exact P8P),x3z,List.length_append,E,Nat.sub_self];rfl
   have aJ:Rune (xs.getD i 0):=V aA _ (by simp[List.getD,aq]);have Z:=O (V HC (xs.getD i 0) wr aJ ai);obtain⟨q0,q1⟩:=V HR (xs.getD i 0);have s:=O aw;have B:=O S;have az:=O ai;have v:=O ar;have ab:=O F;have A:=O am;obtain⟨c,hc⟩:∃c,xs.getD i 0=c:=⟨_,rfl⟩;rw[hc]at X Z q0 q1 A;obtain⟨q,L⟩:∃q:Nat,k c=(q:Int):=⟨(k c).toNat,f6J⟩;rw[L]at Z;have T:=O L;rw[L]at q0 q1;go_wp2_with fail;refine(V Z).mono ?_;rintro e1 w2 ⟨rfl,m1,rfl⟩;have N:Bw wr (wr.drewN m1):=x0k ⟨m1,rfl⟩;have H:x1E (wr.drewN m1) k g P:=(V s).below N;have I:Blk (wr.drewN m1) l 21 (ir (D++P++xs.drop i)++C):=(V B).below N (V B).lt;have j:=x0b (V az) N;have Y:(wr.drewN m1).cell? ⟨l,i,none⟩=some (.int .i32 c):=(by rw[N.cell (V B).lt];exact X);generalize wr.drewN m1=w2 at *;by_cases aI:q=0
   ·subst aI;have KL:=O (y0u k g l i cap D P (xs.drop i) C w2 H I E ⟨f6J,Q⟩ (V v) f6J K);have d:=O j
    have x:Hid ((D++Od.bkt k P++[c])++Od.ordA k [] (xs.drop (i+1))=t):=by
     have:=V ab;rw[V A,y5n k P _ (V T)]at this;show _=_;rw[<- this];simp
    have HL:Hid ((D++Od.bkt k P++[c]).length+([]:List Int).length=i+1):=by
     show _=_;simp[Od.x8D (V v)];omega
    go_wp2_with fail;refine(V KL).mono ?_;rintro e3 u ⟨rfl,m,a,G⟩;have ag:Bw U u:=(V d).trans (G.mono ay);have J:=O m;have M:=O a;have ae:=O ag;go_wp2
    go_roundw
    case rel =>
     refine⟨i+1,D++Od.bkt k P++[c],[],g2A,f6J,V HL,fun _ h=>(by cases h),V x,V M,?_,V ae⟩;have:=V J;rw[V A]at this;exact W2O
    case measure=>exact g7V
   ·have KG:=O (y0n k g P c q w2 H (V T) f6J f6J f6J);have d:=O j;have aD:=O I
    have x:Hid (D++Od.ordA k (P++[c]) (xs.drop (i+1))=t):=by
     have:=V ab;rw[V A,y5o k P _ v3R]at this;exact this
    have aL:¬((q:Int)=0):=f6J;go_wp2_with fail;refine(V KG).mono ?_;rintro e3 u ⟨rfl,a,G⟩;have ag:Bw U u:=(V d).trans (G.mono f6J);have m:=(V aD).below G K;have J:=O m;have M:=O a;have ae:=O ag;go_wp2
    go_roundw
    case rel =>
     refine⟨i+1,D,P++[c],g2A,f6J,P8P,Od.y2h (V v) v3R v3R,V x,V M,?_,V ae⟩;have:=V J;rw[V A]at this;exact W2O
    case measure=>exact g7V
  ·obtain rfl:i=n:=f6J;have aF:xs.drop i=[]:=List.drop_of_length_le (by rw[V HN];exact f6J);rw[aF]at F S;have KL:=O (y0u k g l i cap D P [] C wr aw S E ⟨f,Q⟩ ar hl K);have HB:=O ai;have x:Hid (D++Od.bkt k P++[]=t):=(by show _=_;rw[List.append_nil];exact F);go_wp2_with fail;refine(V KL).mono ?_;rintro e3 u ⟨rfl,m,a,G⟩;rw[V x]at m;have HF:=O (And.intro m ((V HB).trans (G.mono ay)));go_wp2;go_end0;exact⟨rfl,V HF⟩
theorem y9o{p:Nat}{k:Int->Int}(U w1:World)(v:Value)(xs:List Int)(y:∀c W,Rune c->Bw U W->Calls prog 98 #[.pointer (some ⟨p,0,none⟩),.int .i32 c] W (x1r W (k c)))(F:∀c,0<=k c/\k c<=254)(C:Bw U w1)(J:Ok .i32 21 w1 U.heap.size v xs)(S:xs.length<=3000000):Calls prog 97 #[.pointer (some ⟨p,0,none⟩),v] w1 fun e w'=>e=.returned (.tuple #[])/\Ok .i32 21 w' U.heap.size v (Od.ord k xs)/\Bw U w':=by
 have o:∀z∈xs,Rune z:=fun z H=>⟨(J.1 z H).1,(J.1 z H).2⟩;have A:Fit .i32 (Od.ord k xs):=fun z H=>J.1 z (Od.y9c F H);have E:=Od.y9b F xs;rcases J.row.2 with⟨rfl,L⟩ | ⟨l,M,P,rfl,K,I,f,Q,s,D⟩
 ·obtain rfl:=List.eq_nil_of_length_eq_zero L;obtain⟨g,Y⟩:∃g,w1.heap.size=g:=⟨_,rfl⟩;obtain⟨G,X⟩:∃G,w1.alloc (.cells Tryz.zeroCells228 228)=G:=⟨_,rfl⟩;have r2:x1E G k g []:=(by rw[<- X,<- Y];exact x1E.new w1 k);have m:Bw U G:=(by rw[<- X];exact C.alloc C.size _);have KL:=O (x7W k g (.slice none 0 0) G r2);have T:Hid (Ok .i32 21 G U.heap.size (.slice none 0 0) (Od.ord k [])/\Bw U G):=⟨by rw[show Od.ord k []=[]from Od.y6B k];exact n7g,m⟩;go_enter func97,ntmps97;go_wp2;refine wp_loop_rounds 1 ?_;rw[rounds_succ];go_wp2_with fail;refine(V KL).mono ?_;rintro e u ⟨rfl,rfl⟩;go_wp2;go_end0;exact i5u
 ·have x:Blk w1 l 21 (ir xs++P.toList.drop (xs.length*1)):=by
   have e:ir xs=P.toList.take (xs.length*1):=D.symm;rw[e,List.take_append_drop];unfold Blk;rw[I]
  refine(y5x U w1 y F C l M xs _ K x o f (by unfold maxLen at Q;exact f6J) S).mono ?_;rintro e w' ⟨rfl,a,b⟩;refine⟨rfl,?_,b⟩;have j:P.toList.length=M*1:=(Array.length_toList (xs:=P)).trans s;refine Ok.of (n:=xs.length) (us:=ir (Od.ord k xs)) A (by rw[E];exact f6J) ⟨F4i,Or.inr ⟨l,M,_,rfl,K,a,f,Q,?_,?_⟩⟩ E.symm rfl
  ·rw[List.size_toArray,List.length_append,x3z,E,List.length_drop,j];omega
  ·rw[List.take_append_of_le_length F4i,List.take_of_length_le F4i]
end Od
open Ti Od
namespace Cn
def nfd(rs:List Rec)(xs:List Int):List Int:=Od.ord (cls rs) (openAll rs xs)
end Cn
theorem x6j{B p:Nat}{rs:List Rec}{w:World}(b:x0n w B p rs)(F:(Cn.check6 rs).2=0):∀c W,Rune c->Bw w W->Calls prog 98 #[.pointer (some ⟨p,0,none⟩),.int .i32 c] W (x1r W (Cn.cls rs c)):=fun c W I t=>by
 rw[Cn.z2M F];exact x7N c W (b.below t) F I
theorem x2S{rs:List Rec}(G:(Cn.check rs).2=0):(Cn.check6 rs).2=0:=by
 exact(Cn.x1i.1 G).1
theorem y0C{B p:Nat}{rs:List Rec}(v:Value)(xs:List Int)(w:World)(Y:Glob w)(b:x0n w B p rs)(G:(Cn.check rs).2=0)(J:Sk .i32 w v xs)(D:xs.length<=65536):Calls prog 56 #[.pointer (some ⟨p,0,none⟩),v] w (x0j w (Cn.nfd rs xs)):=by
 have F:=x2S G;have i:=O (y0H v xs w Y b G J D);have L:=Cn.x3L G xs;have j:Hid (∀H Q,Ok .i32 21 Q w.heap.size H (Cn.openAll rs xs)->Bw w Q->Calls prog 97 #[.pointer (some ⟨p,0,none⟩),H] Q fun e R=>e=.returned (.tuple #[])/\Ok .i32 21 R w.heap.size H (Cn.nfd rs xs)/\Bw w R):=fun H Q X Z=>y9o w Q H _ (x6j b F) (fun c=>Cn.x3Z F c) Z X f6J;obtain⟨M,I,E,n,C⟩:=J.shape;subst E;generalize Cn.openAll rs xs=zs,Cn.nfd rs xs=ys at *;go_enter func56,ntmps56;go_wp2_with fail;refine(V i).mono ?_;rintro N Q ⟨H,rfl,s,b1⟩;have S:=O (V j H Q s b1);obtain⟨P,U,g,_,_⟩:=s.sk.shape;subst g;go_wp2_with fail;refine(V S).mono ?_;rintro f A ⟨rfl,K,m⟩;have T:Hid (x0j w ys (.returned (.slice P zs.length U)) A):=⟨_,rfl,K,m⟩;go_wp2;go_ret;exact V T
theorem y8O{B p:Nat}{rs:List Rec}(v:Value)(xs:List Int)(w:World)(Y:Glob w)(b:x0n w B p rs)(G:(Cn.check rs).2=0)(J:Sk .i32 w v xs):Calls prog 29 #[.pointer (some ⟨p,0,none⟩),v] w (if 65536<xs.length then SeqE w [] 2 else SeqE w (Cn.nfd rs xs) 0):=by
 obtain⟨M,I,E,n,C⟩:=J.shape;subst E;obtain⟨l,P⟩:∃l,w.alloc (.cells #[.slice M xs.length I] 40)=l:=⟨_,rfl⟩;have U:Bw w l:=(by rw[<- P];exact t9C);have r:l.cell? ⟨w.heap.size,0,none⟩=some (.slice M xs.length I):=by rw[<- P];exact one_cell w M xs.length I _
 have F:=O (x9z p w.heap.size 1 [xs.length] l rfl f6J (fun i hi=>by
  obtain rfl:i=0:=f6J
  exact⟨M,I,r,C,n⟩))
 have o:=O U;by_cases S:65536<xs.length
 ·rw[if_pos S];rw[show refN [xs.length]=2 by unfold refN;rw[List.any_cons,d0t S];rfl]at F;go_enter func29,ntmps29;go_wp2_with fail;refine(V F).mono ?_;rintro N Q ⟨rfl,rfl⟩;have T:Hid (SeqE w [] 2 (.returned (.tuple #[.slice none 0 0,.int .i64 2])) Q):=⟨_,rfl,Ok.nil _ _ _ _,V o⟩;exact u3O
 ·rw[if_neg S];rw[show refN [xs.length]=0 by unfold refN;rw[List.any_cons,d0f S];rfl]at F;have j:=O (y0C _ xs l (Y.on U) (b.below U) G (J.below U) f6J);generalize Cn.nfd rs xs=L at *;go_enter func29,ntmps29;go_wp2_with fail;refine(V F).mono ?_;rintro N Q ⟨rfl,rfl⟩;go_wp2_with fail;refine(V j).mono ?_;rintro f A ⟨R,rfl,K,m⟩;have T:Hid (SeqE w L 0 (.returned (.tuple #[R,.int .i64 0])) A):=⟨R,rfl,K.lower (V o).size,x0b (V o) m⟩;exact u3O
open Ti
namespace Cn
end Cn
open Ti
namespace Cn
theorem y8P{rs:List Rec}(G:(check rs).2=0)(xs:List Int):(nfd rs xs).length<=32*xs.length:=by
 unfold nfd;rw[Od.y9b (fun c=>x3Z (x1i.1 G).1 c)];exact x3L G xs
end Cn
open Ti
theorem z1c{B p:Nat}{rs:List Rec}{w:World}(b:x0n w B p rs)(F:(Cn.check6 rs).2=0):x2r 98 w p (Cn.vget rs 2):=fun c I W t=>x7N c W (b.below t) F I
theorem z5l{B p:Nat}{rs:List Rec}{w:World}(b:x0n w B p rs)(F:(Cn.check6 rs).2=0):x2r 309 w p (Cn.vget rs 5):=fun c I W t=>y8k c W (b.below t) F I
namespace Cn
end Cn
open Ti
namespace Bd
end Bd
open Ti
namespace Cn
theorem y6T{rs:List Rec}(F:(check6 rs).2=0)(a b:Int):Rune (cmp9 rs a b).1:=by
 unfold cmp9;split
 ·unfold sylOf;split
  ·rename_i h
   unfold jl jv at h;simp only[Bool.and_eq_true,decide_eq_true_eq]at h;unfold Rune;show -2147483648<=44032+((a-4352)*21+b-4449)*28/\44032+((a-4352)*21+b-4449)*28<=2147483647;omega
  ·split
   ·rename_i h
    unfold bare2 jt syl at h;simp only[Bool.and_eq_true,decide_eq_true_eq]at h;unfold Rune;show -2147483648<=a+b-4520+1/\a+b-4520+1<=2147483647;omega
   ·exact⟨e8N,e8N⟩
 ·cases hp:x2K rs a b with
  | none=>exact⟨e8N,e8N⟩
  | some p =>
   unfold x2K at hp;obtain⟨r,u,rfl⟩:=Option.map_eq_some_iff.1 hp;have U:=List.mem_reverse.1 (List.mem_of_find?_eq_some u);have A:isP a b r=true:=List.find?_some u;have hi:r.kind=7/\r.to.getD 0 0=a/\r.to.getD 1 0=b:=o0d A;have X:=x0o ((x0m.1 F).2.1 r U) f6J;unfold Rune;show -2147483648<=r.lo/\r.lo<=2147483647;omega
def of18(rs:List Rec)(X:List Int):Lb.Of:=⟨decide (X=Nm.cps (cls rs) (cmp9 rs) (nfd rs X)),fun c=>vget rs 6 c != 0,vget rs 1,decide (0<=Jn.chk (vget rs 2) (vget rs 5) X),Bd.y5H (X.map (vget rs 4)) != 0⟩
end Cn
open Ti
theorem z8a{B p:Nat}{rs:List Rec}{w:World}(A:x0n w B p rs)(G:(Cn.check rs).2=0):NmC p (Cn.cls rs) (Cn.cmp9 rs) w:=by
 have F:=x2S G;exact⟨Cn.x3Z F,fun a b _ _=>Cn.y6T F a b,fun c I W t=>(x6j A F c W I t).mono fun _ _ h=>⟨h.1,x0k h.2⟩,fun a b L C W t=>x9W a b W (A.below t) L C⟩
theorem z3q{B p:Nat}{rs:List Rec}{w:World}(Y:Glob w)(b:x0n w B p rs)(G:(Cn.check rs).2=0):NfdC p (Cn.nfd rs) w:=by
 refine⟨fun X=>Cn.y8P G X,fun a X W t J S=>?_⟩;have h:=y8O a X W (Y.on t) (b.below t) G J;rw[if_neg f6J]at h;exact h
theorem isP18{B p:Nat}{rs:List Rec}{w:World}(Y:Glob w)(b:x0n w B p rs)(G:(Cn.check rs).2=0){a:Value}{X:List Int}(J:Sk .i32 w a X)(D:X.length<=65536):Calls prog 204 #[.pointer (some ⟨p,0,none⟩),a] w (fun e w'=>e=.returned (.tuple #[.bool (Cn.of18 rs X).nf,.int .i64 0])/\Bw w w'):=isN18 (z8a b G) (z3q Y b G) J f6J
open Ti
namespace Cn
end Cn
open Ti
namespace Cn
theorem y5D{r:Rec}(h:right r=0)(G:r.kind=9):0<=r.n/\r.n<=10:=by
 have z:=x0v h;unfold right at h;rw[if_neg z,if_neg f6J]at h;have I:=x1y h;rw[Bool.and_eq_true]at I;have Z:=I.2;rw[if_neg f6J,if_neg f6J,if_neg f6J,if_neg f6J,if_neg f6J,if_neg f6J,if_neg f6J,if_neg f6J,if_pos G]at Z;simp only[Bool.and_eq_true]at Z;exact o0d Z.2
theorem z1j{k:Int}(h:fam k=4):k=9:=R8h
theorem z0o{rs:List Rec}(F:(check6 rs).2=0)(c:Int):0<=vget rs 4 c/\vget rs 4 c<=10:=by
 unfold vget
 cases he:hit rs 4 c with
 | none=>grind
 | some r =>
  have U:=(x1T F e8N r).1 he;have G:=z1j U.2.1;have N:=y5D ((x0m.1 F).2.1 r U.1) G;show 0<=value r/\value r<=10;unfold value;rw[if_neg f6J,if_neg f6J,if_neg f6J,if_neg f6J,if_neg f6J];exact N
end Cn
theorem z8j{B p:Nat}{rs:List Rec}{w:World}(b:x0n w B p rs)(F:(Cn.check6 rs).2=0):x8v p (Cn.vget rs 4) w:=⟨Cn.z0o F,fun c I W t=>(y6A c W (b.below t) F I).mono fun _ _ h=>⟨h.1,x0k h.2⟩⟩
open Ti
theorem plb18{B p:Nat}{rs:List Rec}{w:World}(Y:Glob w)(b:x0n w B p rs)(G:(Cn.check rs).2=0){a:Value}{X:List Int}(J:Sk .i32 w a X)(D:X.length<=65536):PLbC p a X (Cn.of18 rs X) w:=by
 have F:=x2S G;refine⟨fun W t=>isP18 (Y.on t) (b.below t) G (J.below t) D,fun c I W t=>?_,fun c I W t=>?_,⟨_,rfl,fun W t=>?_⟩,⟨_,rfl,fun W t=>?_⟩⟩
 ·exact(y8E c W (b.below t) F I).mono fun _ _ h=>⟨h.1,x0k h.2⟩
 ·exact(x6Z c W (b.below t) F I).mono fun _ _ h=>⟨h.1,x0k h.2⟩
 ·exact y1E (z1c (b.below t) F) (z5l (b.below t) F) (J.below t)
 ·exact z8J (z8j (b.below t) F) (J.below t)
