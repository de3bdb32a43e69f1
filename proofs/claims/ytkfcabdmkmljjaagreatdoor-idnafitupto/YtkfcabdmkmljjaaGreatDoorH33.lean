/- Lemmas. -/
import Derived.Test.YtkfcabdmkmljjaaGreatDoorH4
import Derived.Deep.RegionHeld3
set_option maxHeartbeats 2000000
set_option maxRecDepth 8000
namespace Go.Proofs.YtkfcabdmkmljjaaGreatDoor
open Go.Proofs.Tryz
open Go.RowKit
section
variable{p:Prop}
theorem W8V(h:p:=by assumption):p:=h
theorem P8A(h:p:=by go_wp2_with(first| (refine(V v).mono ?_;rintro e Q ⟨rfl,rfl⟩)|(refine(V K).mono ?_;rintro e t ⟨rfl,u⟩)|(refine(V U _ _).mono ?_;rintro e Q ⟨rfl,rfl⟩));go_ret;exact⟨rfl,u⟩):p:=h
theorem F9x(h:p:=by go_wp2_with(refine(V K).mono ?_;rintro e Q ⟨rfl,b1⟩);go_ret;exact⟨rfl,b1⟩):p:=h
theorem s1n(h:p:=by
 refine tk9 7 (.bool false) ?_;refine tk9 8 (.bool false) ?_;refine tn9 9 ?_;refine tn9 10 ?_;refine tn9 11 ?_;refine tn9 12 ?_;refine tn9 13 ?_;refine tn9 14 ?_;refine tn9 15 ?_;refine tn9 16 ?_;refine tn9 17 ?_;refine tn9 18 ?_;refine tk9 19 (.bool false) ?_;refine rd9 20 fun K hK=>?_;go_simp;refine(V U _ _).mono ?_;rintro e G ⟨rfl,rfl⟩;go_wp2_with fail;refine hK.out _ _ ?_ (fun hHeld=>?_)
 ·exact hHeld
 clear hK K
 try simp only[Act.put,sa9,sb9,sc9]
 refine tk9 21 (.int .i64 (x2N (false) 1024)) ?_;refine wpAnyH_done f4x ?_ _;go_wp2;go_ret;exact⟨rfl,hHeld⟩):p:=h
theorem S4i(h:p:=by refine wpAnyH_done f4x ?_ _;go_wp2;go_ret;exact⟨rfl,hHeld⟩):p:=h
theorem i0N(h:p:=by exact x4S _ _ rfl (by simp[gk18])):p:=h
theorem I5H(h:p:=by go_wp2_with(first| (refine(V v).mono ?_;rintro e Q ⟨rfl,rfl⟩)|(refine(V U _ _).mono ?_;rintro e Q ⟨rfl,rfl⟩));go_ret;exact⟨rfl,F⟩):p:=h
theorem U0T(h:p:=by go_wp2_with(first| (go_at_call 215;refine(V k).mono ?_;rintro e Q ⟨rfl,rfl⟩)|(go_at_call 216;refine(V v).mono ?_;rintro e Q ⟨rfl,rfl⟩)|(go_at_call 214;refine(V U _ _).mono ?_;rintro e Q ⟨rfl,rfl⟩));go_ret;exact⟨rfl,b0r⟩):p:=h
theorem W8X(h:p:=by assumption):p:=h
theorem m7p(h:p:=by(intro w hSw;have z:=V E _ hSw;go_simp)):p:=h
theorem n8S(h:p:=by(intro w hSw;have z:=V Z _ hSw;go_simp)):p:=h
theorem I1m(h:p:=by(intro w hSw;have z:=V k _ hSw;go_simp)):p:=h
end
namespace Lb
def ldh(c:Int):Bool:=decide (97<=c)&&decide (c<=122)||(decide (48<=c)&&decide (c<=57)||decide (c=45))
def x1B(X:List Int):Bool:=decide (4<=X.length)&&(decide (X.getD 0 0=120)&&(decide (X.getD 1 0=110)&&(decide (X.getD 2 0=45)&&decide (X.getD 3 0=45))))
def flg(fl k:Int):Bool:=bits .and .i64 fl k != 0
def hyp(X:List Int):Bool:=decide (X.getD 0 0=45)||(decide (X.getD (X.length-1) 0=45)||(decide (4<=X.length)&&(decide (X.getD 2 0=45)&&decide (X.getD 3 0=45))))
structure Of where
 nf:Bool
 mrk:Int->Bool
 st:Int->Int
 jn:Bool
 bi:Bool
def bst(o:Of)(fl:Int)(dec:Bool)(c:Int):Bool:=decide (o.st c≠1)&&(decide (o.st c≠4)||(flg fl 16&&!dec))
def std(fl c:Int):Bool:=flg fl 8&&(decide (c<128)&&!ldh c)
def nb(o:Of)(fl:Int)(dec:Bool)(c:Int):Nat:=(if c=46 then 32 else 0)|||(if bst o fl dec c=true then 128 else 0)|||(if std fl c=true then 256 else 0)
def num(o:Of)(fl:Int)(dec:Bool)(X:List Int):Nat:=X.foldl (fun a c=>a|||nb o fl dec c) 0
def hd(o:Of)(fl:Int)(X:List Int):Nat:=(if o.nf=true then 0 else 4)|||(if flg fl 1=true then(if hyp X=true then 8 else 0)else(if x1B X=true then 16 else 0))|||(if o.mrk (X.getD 0 0)=true then 64 else 0)
def chk(o:Of)(fl:Int)(rtl dec:Bool)(X:List Int):Nat:=hd o fl X|||num o fl dec X|||(if(flg fl 4&&o.jn)=true then 512 else 0)|||(if(flg fl 2&&(rtl&&o.bi))=true then 1024 else 0)
variable {o:Of} {fl:Int} {dec rtl:Bool} {X:List Int}
theorem x2Q{b:Prop}[Decidable b]{n m}(F:n<2^11)(A:m<2^11):(if b then n else m)<2^11:=by split<;>assumption
theorem nb_lt c:nb o fl dec c<2^11:=by
 unfold nb;exact Nat.or_lt_two_pow (Nat.or_lt_two_pow (x2Q e8M e8M) (x2Q e8M e8M)) (x2Q e8M e8M)
theorem z6O(X:List Int):∀a,a<2^11->X.foldl (fun a c=>a|||nb o fl dec c) a<2^11:=by
 induction X with
 | nil=>intro a h;exact h
 | cons c l ih=>intro a h;exact ih _ (Nat.or_lt_two_pow h (nb_lt c))
theorem q0n X:num o fl dec X<2^11:=z6O X 0 e8M
theorem hd_lt:hd o fl X<2^11:=by
 unfold hd;exact Nat.or_lt_two_pow (Nat.or_lt_two_pow (x2Q e8M e8M) (x2Q (x2Q e8M e8M) (x2Q e8M e8M))) (x2Q e8M e8M)
theorem z8X:chk o fl rtl dec X<2^11:=by
 unfold chk;exact Nat.or_lt_two_pow (Nat.or_lt_two_pow (Nat.or_lt_two_pow hd_lt (q0n X)) (x2Q e8M e8M)) (x2Q e8M e8M)
theorem y4c(i:Nat):∀(X:List Int) (a:Nat),(X.foldl (fun a c=>a|||nb o fl dec c) a).testBit i=(a.testBit i||X.any fun c=>(nb o fl dec c).testBit i)
 | [],a=>M7K
 | c::l,a=>by
  rw[List.foldl_cons,y4c i l,Nat.testBit_or,List.any_cons,Bool.or_assoc]
theorem z0d i:(num o fl dec X).testBit i=X.any fun c=>(nb o fl dec c).testBit i:=by
 unfold num;rw[y4c];simp
end Lb
namespace Lb
variable {o:Of} {fl fl':Int} {dec dec' rtl rtl':Bool} {X:List Int}
def err(o:Of)(fl:Int)(rtl dec:Bool)(X:List Int):Nat:=if X.length=0 then 0 else chk o fl rtl dec X
theorem z9w:err o fl rtl dec X<2^11:=by
 unfold err;split
 ·decide
 ·exact z8X
theorem x8i{b:Prop}[Decidable b]{n i}:(if b then n else 0).testBit i=(decide b&&n.testBit i):=by grind
theorem y8a(h:chk o fl rtl dec X=0):o.nf=true/\x1B X=false/\o.mrk (X.getD 0 0)=false/\∀c∈X,c≠46/\bst o fl dec c=false/\std fl c=false:=by
 unfold chk hd at h;simp only[Nat.or_eq_zero_iff]at h;obtain⟨⟨⟨⟨⟨Z,D⟩,J⟩,H⟩,_⟩,_⟩:=h;refine⟨?_,?_,?_,fun c I=>?_⟩
 ·grind
 ·cases e:x1B X
  ·rfl
  ·exfalso;cases e1:flg fl 1
   ·grind
   ·rw[e1,if_pos rfl]at D
    have hy:hyp X=true:=by
     unfold x1B at e;unfold hyp;simp only[Bool.and_eq_true,decide_eq_true_eq]at e;simp only[Bool.or_eq_true,Bool.and_eq_true,decide_eq_true_eq];exact .inr (.inr ⟨e.1,e.2.2.2.1,e.2.2.2.2⟩)
    rw[hy]at D;cases D
 ·grind
 ·have Y:nb o fl dec c=0:=by
   apply Nat.eq_of_testBit_eq;intro i;rw[Nat.zero_testBit];cases e:(nb o fl dec c).testBit i
   ·rfl
   ·have:=z0d (o:=o) (fl:=fl) (dec:=dec) (X:=X) i;rw[H,Nat.zero_testBit]at this;have K:(X.any fun c=>(nb o fl dec c).testBit i)=true:=List.any_eq_true.2 ⟨c,I,e⟩;rw[K]at this;cases this
  unfold nb at Y;simp only[Nat.or_eq_zero_iff]at Y;obtain⟨⟨T,a⟩,A⟩:=Y;refine⟨fun e=>?_,?_,?_⟩
  ·rw[if_pos e]at T;cases T
  ·grind
  ·grind
end Lb
def LbH(w:World)(L p:Nat)(xv:Value)(fl:Int)(rtl dec:Bool):Prop:=w.heap[L]?=some (.cells #[.pointer (some ⟨p,0,none⟩),xv,.int .i64 fl,.bool rtl,.bool dec] 208 (0,0))
section
variable {w:World} {L p:Nat} {xv:Value} {fl:Int} {rtl dec:Bool}
theorem LbH.c0(h:LbH w L p xv fl rtl dec):w.cell? ⟨L,0,none⟩=some (.pointer (some ⟨p,0,none⟩)):=cell_of (j:=0) h (by show 0<5;exact f6J)
theorem LbH.c1(h:LbH w L p xv fl rtl dec):w.cell? ⟨L,1,none⟩=some xv:=cell_of (j:=1) h (by show 1<5;exact f6J)
theorem LbH.c2(h:LbH w L p xv fl rtl dec):w.cell? ⟨L,2,none⟩=some (.int .i64 fl):=cell_of (j:=2) h (by show 2<5;exact f6J)
theorem LbH.c3(h:LbH w L p xv fl rtl dec):w.cell? ⟨L,3,none⟩=some (.bool rtl):=cell_of (j:=3) h (by show 3<5;exact f6J)
theorem LbH.c4(h:LbH w L p xv fl rtl dec):w.cell? ⟨L,4,none⟩=some (.bool dec):=cell_of (j:=4) h (by show 4<5;exact f6J)
theorem LbH.below{w'}(h:LbH w L p xv fl rtl dec)(Y:Bw w w'):LbH w' L p xv fl rtl dec:=by
  unfold LbH at *;rw[Y.block L (x0a (LbH.c0 h))];exact h
end
def Sm18(v:Value)(w:World)(e:Ending)(w':World):Prop:=e=.returned v/\w'=w
def x2N(b:Bool)(n:Int):Int:=if b=true then n else 0
theorem x4A b n w:Calls prog 214 #[.bool b,.int .i64 n] w (Sm18 (.int .i64 (x2N b n)) w):=by
  cases b<;>go_enter func214,ntmps214<;>go_wp2<;>go_ret<;>exact⟨rfl,rfl⟩
theorem y5N{w L p xv fl}{rtl dec}(h:LbH w L p xv fl rtl dec) k:Calls prog 216 #[.pointer (some ⟨L,0,none⟩),.int .i64 k] w (Sm18 (.bool (Lb.flg fl k)) w):=by
  have B:=h.c2;go_enter func216,ntmps216;exact t6u
theorem idx18(g:Nat) F C(m:∀args w,(callFunc g args).run prog w=.ok (.enter g args) w)(p:Int->Bool) xv X w(A:Sk .i32 w xv X)(s:∀k,k<X.length->∀W,Bw w W->Calls prog g (F++#[.int .i32 (X.getD k 0)]++C) W (x0g W (p (X.getD k 0)))) :
    Calls prog 66 #[xv,.func (.func g) F C] w (IdxB w (X.any p)):=by
  have d:=A.len;have KP:=O s
  have f:Hid (∀(k:Nat),k<X.length->∃b P M,xv=.slice (some ⟨b,P,none⟩) X.length M/\∀W,Bw w W->W.cell? ⟨b,P+k,none⟩=some (.int .i32 (X.getD k 0))):=fun k G=>E8i
  have H:Hid ((∀q,q<X.length->p (X.getD q 0)=false)->X.any p=false):=fun h=>Bd.y7y h;have t:Hid (∀q,q<X.length->p (X.getD q 0)=true->X.any p=true):=fun q y h=>Bd.y2e y h;obtain⟨B,M,rfl,_,_⟩:=A.shape;go_enter func66,ntmps66;go_wp2;go_loopw[5,8] (fun _ Z wr=>∃k:Nat,Z=.int .i64 k/\k<=X.length/\(∀q,q<k->p (X.getD q 0)=false)/\Bw w wr) (fun _ Z _=>X.length-(intOf Z).toNat)
  case atStart=>exact t1A
  case round =>
    obtain⟨k,rfl,G,y,J⟩:=hrel;by_cases E:k<X.length
    · have i:(k:Int)<X.length:=by omega
      obtain⟨b1,P,U,T,N⟩:=V f k E;simp only[Value.slice.injEq]at T;obtain⟨rfl,-,rfl⟩:=T;have j:=N wr J;have K:=O (V KP k E wr J);have r:=O (V t k E)
      have a:Hid (p (X.getD k 0)=false->∀q,q<k+1->p (X.getD q 0)=false):=fun h q u=>by
        rcases Nat.lt_or_ge q k with h1 | h1
        · exact y q h1
        · rw[(f6J:q=k)];exact h
      have Y:=O J;generalize p (X.getD k 0)=z at *;generalize X.getD k 0=c at *
      cases z with
      | true =>
        have n:=O (V r rfl);go_wp2_with(go_at_fn g;refine(V K).mono ?_;rintro e Q ⟨rfl,b1⟩);have l:=O (bthen (V Y) b1);go_ret;exact⟨_,rfl,t3b,V l⟩
      | false =>
        have D:=O (V a rfl);go_wp2_with(go_at_fn g;refine(V K).mono ?_;rintro e Q ⟨rfl,b1⟩);have l:=O (bthen (V Y) b1)
        go_roundw
        case rel=>exact⟨k+1,g2A,f6J,V D,V l⟩
        case measure=>exact g7T
    · have n:=O (V H fun q h=>y q f6J)
      have i:¬((k:Int)<X.length):=f6J;exact G4u
theorem z9f(g:Nat) F C(m:∀args w,(callFunc g args).run prog w=.ok (.enter g args) w)(p:Int->Bool) xv X w(A:Sk .i32 w xv X)(s:∀k,k<X.length->∀W,Bw w W->Calls prog g (F++#[.int .i32 (X.getD k 0)]++C) W (x0g W (p (X.getD k 0)))) :
    Calls prog 36 #[xv,.func (.func g) F C] w (x0g w (X.any p)):=by
  have K:=O (idx18 g F C m p xv X w A s);obtain⟨B,M,rfl,_,_⟩:=A.shape;generalize X.any p=Y at *;go_enter func36,ntmps36;go_wp2_with fail;refine(V K).mono ?_;rintro e Q ⟨n,rfl,E,b1⟩;subst E;go_wp2;go_ret;exact⟨rfl,b1⟩
theorem z3N c w:Calls prog 221 #[.int .i32 c] w (x0g w (!Lb.ldh c)):=by
  by_cases Z:97<=c<;>by_cases D:c<=122<;>by_cases J:48<=c<;>by_cases H:c<=57<;>by_cases K:c=45
  all_goals first
    | omega
    | (have E:∃b,(!Lb.ldh c)=b:=⟨_,rfl⟩
       obtain⟨b,E⟩:=E;rw[E];unfold Lb.ldh at E;simp only[Z,D,J,H,K,decide_true,decide_false,Bool.and_true,Bool.and_false,Bool.or_true,Bool.or_false,Bool.not_true,Bool.not_false]at E;subst E;have y:(c==45)=decide (c=45):=rfl;simp only[K,decide_true,decide_false]at y;have x:(c != 45)=!decide (c=45):=rfl;simp only[K,decide_true,decide_false,Bool.not_true,Bool.not_false]at x;go_enter func221,ntmps221;go_wp2;go_ret
       exact⟨rfl,b0r⟩)
theorem y0I:∀args w,(callFunc 220 args).run prog w=.ok (.enter 220 args) w:=f0h
theorem y2w:∀args w,(callFunc 219 args).run prog w=.ok (.enter 219 args) w:=f0h
structure PLbC(p:Nat)(xv:Value)(X:List Int)(o:Lb.Of)(w0:World):Prop where
 i:∀W,Below w0.heap.size w0 W->Calls prog 14 #[.pointer (some ⟨p,0,none⟩),xv] W (fun e w'=>e=.returned (.tuple #[.bool o.nf,.int .i64 0])/\Below W.heap.size W w')
 m:∀c,Rune c->∀W,Below w0.heap.size w0 W->Calls prog 218 #[.pointer (some ⟨p,0,none⟩),.int .i32 c] W (x0g W (o.mrk c))
 s:∀c,Rune c->∀W,Below w0.heap.size w0 W->Calls prog 16 #[.pointer (some ⟨p,0,none⟩),.int .i32 c] W (IntB W (o.st c))
 j:∃n:Int,decide (0<=n)=o.jn/\∀W,Below w0.heap.size w0 W->Calls prog 222 #[.pointer (some ⟨p,0,none⟩),xv] W (IntB W n)
 r:∃n:Int,(n != 0)=o.bi/\∀W,Below w0.heap.size w0 W->Calls prog 223 #[.pointer (some ⟨p,0,none⟩),xv] W (IntB W n)
theorem PLbC.on{p xv X o}{w W}(h:PLbC p xv X o w)(Y:Bw w W):PLbC p xv X o W:=by
 obtain⟨n,F,A⟩:=h.j;obtain⟨m,B,u⟩:=h.r;exact⟨fun N R=>h.i N (bthen Y R),fun c I N R=>h.m c I N (bthen Y R),fun c I N R=>h.s c I N (bthen Y R),⟨n,F,fun N R=>A N (bthen Y R)⟩,⟨m,B,fun N R=>u N (bthen Y R)⟩⟩
theorem lit18(W:World) zs n(F:zs.length=n)(R:0<n)(B:n<=100) C(A:C=(zs.map (Value.int .i32)).toArray)(T:∀z∈zs,-2147483648<=z/\z<=2147483647):Sk .i32 (W.alloc (.cells C 21)) (.slice (some ⟨W.heap.size,0,none⟩) n n) zs:=by
 have h:Ok .i32 21 (W.alloc (.cells C 21)) W.heap.size (.slice (some ⟨W.heap.size,0,none⟩) n n) zs:=by
  refine Ok.of (n:=n) (us:=zs.map (Value.int .i32)) (fun z h=>T z h) f6J ⟨by simp[F],Or.inr ⟨W.heap.size,n,C,rfl,l0r _,World.alloc_heap_new W _,l0r _,T7W,by rw[A];simp[F],by rw[A];exact List.take_of_length_le (by simp[F])⟩⟩ F.symm rfl
 exact h.sk
theorem y5t{X}(h:4<=X.length):decide (X.take 4=[120,110,45,45])=Lb.x1B X:=by
 match X,h with
 | a::b::c::d::l,_=>simp[Lb.x1B]
theorem z4U{w xv X}(A:Sk .i32 w xv X):Calls prog 116 #[xv] w (x0g w (Lb.x1B X)):=by
 have f:∀o,Bw w (w.alloc o):=fun o=>(b0r).alloc (l0r _) o;have d:=A.len;obtain⟨B,M,rfl,l,H⟩:=A.shape;by_cases D:X.length<4
 ·have E:Lb.x1B X=false:=(by unfold Lb.x1B;rw[d0f f6J];rfl);rw[E];have i:¬((4:Int)<=X.length):=f6J;go_enter func116,ntmps116;go_wp2;go_ret;exact⟨rfl,f _⟩
 ·have i:(4:Int)<=X.length:=f6J;have u:=(A.below (f (.cells #[.int .i32 120,.int .i32 110,.int .i32 45,.int .i32 45] 21))).head (k:=4) f6J l;have K:=O (y3W _ _ _ _ _ u (lit18 w [120,110,45,45] 4 rfl f6J f6J #[.int .i32 120,.int .i32 110,.int .i32 45,.int .i32 45] rfl M7L));rw[y5t f6J]at K;go_enter func116,ntmps116;go_wp2_with fail;refine c0m K fun Q b1=>?_;have x:=O (bthen (f _) (x0i b1));go_wp2;go_ret;exact⟨rfl,V x⟩
theorem ctn18 v xv X w(A:Sk .i32 w xv X):Calls prog 259 #[xv,.int .i32 v] w (IdxB w (X.any fun c=>decide (v=c))):=by
 have d:=A.len
 have C:Hid (∀(k:Nat),k<X.length->∃b P M,xv=.slice (some ⟨b,P,none⟩) X.length M/\w.cell? ⟨b,P+k,none⟩=some (.int .i32 (X.getD k 0))):=fun k G=>by
  obtain⟨b,P,M,J,_,_,I⟩:=A.place f6J;exact⟨b,P,M,J,I k G⟩
 have H:Hid ((∀q,q<X.length->decide (v=X.getD q 0)=false)->(X.any fun c=>decide (v=c))=false):=fun h=>Bd.y7y h;have t:Hid (∀q,q<X.length->decide (v=X.getD q 0)=true->(X.any fun c=>decide (v=c))=true):=fun q y h=>Bd.y2e (f:=fun c=>decide (v=c)) y h;obtain⟨B,M,rfl,_,_⟩:=A.shape;go_enter func259,ntmps259;go_wp2;go_loopw[5,8] (fun _ Z wr=>∃k:Nat,Z=.int .i64 k/\k<=X.length/\(∀q,q<k->decide (v=X.getD q 0)=false)/\wr=w) (fun _ Z _=>X.length-(intOf Z).toNat)
 case atStart=>exact⟨0,rfl,f6J,fun q h=>absurd h f6J,rfl⟩
 case round =>
  obtain⟨k,rfl,G,y,rfl⟩:=hrel;by_cases E:k<X.length
  ·have i:(k:Int)<X.length:=f6J;obtain⟨b1,P,U,J,j⟩:=V C k E;simp only[Value.slice.injEq]at J;obtain⟨rfl,-,rfl⟩:=J;have K:=O (V t k E)
   have a:Hid (decide (v=X.getD k 0)=false->∀q,q<k+1->decide (v=X.getD q 0)=false):=fun h q N=>f3H
   have T:(v==X.getD k 0)=decide (v=X.getD k 0):=rfl;generalize decide (v=X.getD k 0)=z at *;generalize X.getD k 0=c at *
   cases z with
   | true =>
    have n:=O (V K rfl);go_wp2;go_ret;exact⟨_,rfl,t3b,b0r⟩
   | false =>
    have D:=O (V a rfl);go_wp2
    go_roundw
    case rel=>exact⟨k+1,g2A,f6J,V D,trivial⟩
    case measure=>exact g7T
  ·have n:=O (V H fun q h=>y q f6J);have i:¬((k:Int)<X.length):=f6J;go_wp2;go_ret;exact⟨_,rfl,by rw[V n];rfl,b0r⟩
theorem cnt18 v xv X w(A:Sk .i32 w xv X):Calls prog 217 #[xv,.int .i32 v] w (x0g w (X.any fun c=>decide (v=c))):=by
 have K:=O (ctn18 v xv X w A);obtain⟨B,M,rfl,_,_⟩:=A.shape;generalize(X.any fun c=>decide (v=c))=Y at *;go_enter func217,ntmps217;go_wp2_with fail;refine(V K).mono ?_;rintro e Q ⟨n,rfl,F,b1⟩;subst F;go_wp2;go_ret;exact⟨rfl,b1⟩
section
variable {w:World} {L p:Nat} {xv:Value} {fl:Int} {rtl dec:Bool} {X:List Int} {o:Lb.Of}
def hat18(X:List Int)(i:Nat):Bool:=decide (i<X.length)&&decide (X.getD i 0=45)
theorem y9g(h:LbH w L p xv fl rtl dec)(A:Sk .i32 w xv X)(i:Nat)(hi:i<1000000000):Calls prog 215 #[.pointer (some ⟨L,0,none⟩),.int .i64 i] w (Sm18 (.bool (hat18 X i)) w):=by
 have F:=h.c1;have d:=A.len;by_cases S:i<X.length
 ·obtain⟨b,P,M,rfl,_,_,I⟩:=A.place f6J;have j:=I i S;have D:(i:Int)<X.length:=f6J;have E:hat18 X i=decide (X.getD i 0=45):=(by unfold hat18;rw[d0t S];rfl);rw[E];clear h A I E;have T:(X.getD i 0==45)=decide (X.getD i 0=45):=rfl;generalize decide (X.getD i 0=45)=z at *;generalize X.getD i 0=c at *;go_enter func215,ntmps215;exact t6v
 ·obtain⟨B,M,rfl,_,_⟩:=A.shape;have D:¬((i:Int)<X.length):=f6J;have E:hat18 X i=false:=(by unfold hat18;rw[d0f S];rfl);rw[E];clear h A E;go_enter func215,ntmps215;exact t6v
theorem z9h(h:LbH w L p xv fl rtl dec)(A:Sk .i32 w xv X)(H:PLbC p xv X o w):Calls prog 168 #[.pointer (some ⟨L,0,none⟩)] w (IntB w (x2N (!o.nf) 4)):=by
 have k:=O fun W (R:Bw w W)=>(h.below R).c0;have Z:=O fun W (R:Bw w W)=>(h.below R).c1;have K:=O H.i;have U:=O (fun b W=>x4A b 4 W);obtain⟨B,M,rfl,_,_⟩:=A.shape;have I:Bw w w:=b0r;have D:=I.drew;clear h H A;generalize o.nf=z at *;go_enter func168,ntmps168;go_wp2_with fail;go_region_held3(fun a=>a.cell? ⟨L,0,none⟩=some (.pointer (some ⟨p,0,none⟩))/\a.cell? ⟨L,1,none⟩=some (.slice B X.length M)/\Bw w a) (first| exact⟨V k _ W8V,V Z _ W8V,W8V⟩|(have Y:=bthen D W8V;exact⟨V k _ Y,V Z _ Y,Y⟩) | go_keep) (first| (go_at_call 14;refine(V K _ W8V).mono ?_;rintro e Q ⟨rfl,b1⟩;have F:=bthen (W8V:Bw w _) b1));have x:=O F;clear K k Z F b1 D I;cases z<;>
 ·go_wp2_with fail;refine(V U _ _).mono ?_;rintro e t ⟨rfl,rfl⟩;clear U;exact E0c
theorem z6Q{X}(R:0<X.length):Lb.hyp X=((hat18 X 0||hat18 X (X.length-1))||(hat18 X 2&&hat18 X 3)):=by
 unfold Lb.hyp hat18;rw[d0t R,d0t (f6J:X.length-1<X.length),Bool.true_and,Bool.true_and,Bool.or_assoc];by_cases h:4<=X.length
 ·rw[d0t h,d0t (f6J:2<X.length),d0t (f6J:3<X.length)];simp
 ·rw[d0f h,d0f (f6J:¬3<X.length)];simp
theorem y4i(h:LbH w L p xv fl rtl dec)(A:Sk .i32 w xv X) i(R:0<=i)(Z:i<1000000000):Calls prog 215 #[.pointer (some ⟨L,0,none⟩),.int .i64 i] w (Sm18 (.bool (hat18 X i.toNat)) w):=by
 have:=y9g h A i.toNat f6J;rw[(f6J:((i.toNat:Nat):Int)=i)]at this;exact this
theorem z9i(h:LbH w L p xv fl rtl dec)(A:Sk .i32 w xv X)(R:0<X.length)(z:X.length<=65536):Calls prog 169 #[.pointer (some ⟨L,0,none⟩)] w (IntB w (x2N (Lb.flg fl 1&&Lb.hyp X) 8)):=by
 have S:=h.c1;rw[z6Q R];obtain⟨m,K⟩:∃m:Int,m=(X.length:Int)-1:=⟨_,rfl⟩;have N:IntKind.i64.wrap ((X.length:Int)-1)=m:=s7B;have J:=y4i h A 0 f6J f6J;have Y:=y4i h A m f6J f6J;have I:=y4i h A 2 f6J f6J;have hd:=y4i h A 3 f6J f6J;rw[(f6J:m.toNat=X.length-1)]at Y;obtain⟨g,C⟩:∃g:Int->Bool,g 0=hat18 X 0/\g m=hat18 X (X.length-1)/\g 2=hat18 X 2/\g 3=hat18 X 3:=⟨fun i=>hat18 X i.toNat,rfl,by show hat18 X m.toNat=_;rw[(f6J:m.toNat=X.length-1)],rfl,rfl⟩
 have q:Hid (∀i,i=0\/i=m\/i=2\/i=3->Calls prog 215 #[.pointer (some ⟨L,0,none⟩),.int .i64 i] w (Sm18 (.bool (g i)) w)):=fun i hi=>by
  rcases hi with rfl | rfl | rfl | rfl
  ·rw[C.1];exact J
  ·rw[C.2.1];exact Y
  ·rw[C.2.2.1];exact I
  ·rw[C.2.2.2];exact hd
 rw[<- C.1,<- C.2.1,<- C.2.2.1,<- C.2.2.2];have v:=O (y5N h 1);have U:=O (fun b W=>x4A b 8 W);obtain⟨B,M,rfl,_,_⟩:=A.shape;clear h A J Y I hd C;have r:(0:Int)=0\/(0:Int)=m\/(0:Int)=2\/(0:Int)=3:=.inl rfl;have D:m=0\/m=m\/m=2\/m=3:=.inr (.inl rfl);have H:(2:Int)=0\/(2:Int)=m\/(2:Int)=2\/(2:Int)=3:=.inr (.inr (.inl rfl));have E:(3:Int)=0\/(3:Int)=m\/(3:Int)=2\/(3:Int)=3:=.inr (.inr (.inr rfl));have l:=O (V q 0 r);have G:=O (V q m D);have j:=O (V q 2 H);have k:=O (V q 3 E);clear q K r D H E;generalize g 0=a,g m=b,g 2=c,g 3=d,Lb.flg fl 1=f at *;go_enter func169,ntmps169;go_wp2_with fail;refine(V l).mono ?_;rintro e Q ⟨rfl,rfl⟩;clear l;cases a
 ·go_wp2_with fail;refine(V G).mono ?_;rintro e Q ⟨rfl,rfl⟩;clear G;go_wp2_with fail;refine(V j).mono ?_;rintro e Q ⟨rfl,rfl⟩;clear j;cases b<;>cases c<;>cases f<;>
  ·exact U0T
 ·clear G;go_wp2_with fail;refine(V j).mono ?_;rintro e Q ⟨rfl,rfl⟩;clear j;cases c<;>cases f<;>
  ·exact U0T
end
section
variable {w:World} {L p:Nat} {xv:Value} {fl:Int} {rtl dec:Bool} {X:List Int} {o:Lb.Of}
theorem z9j(h:LbH w L p xv fl rtl dec)(A:Sk .i32 w xv X):Calls prog 170 #[.pointer (some ⟨L,0,none⟩)] w (IntB w (x2N (!Lb.flg fl 1&&Lb.x1B X) 16)):=by
 have S:=h.c1;have K:=O (z4U A);have v:=O (y5N h 1);have U:=O (fun b W=>x4A b 16 W);obtain⟨B,M,rfl,_,_⟩:=A.shape;have F:Bw w w:=b0r;generalize Lb.flg fl 1=f at *;cases f
 ·go_enter func170,ntmps170;exact P8A
 ·go_enter func170,ntmps170;exact I5H
theorem z9k(h:LbH w L p xv fl rtl dec)(A:Sk .i32 w xv X):Calls prog 171 #[.pointer (some ⟨L,0,none⟩)] w (IntB w (x2N (X.any fun c=>decide (46=c)) 32)):=by
 have S:=h.c1;have K:=O (cnt18 46 xv X w A);have U:=O (fun b W=>x4A b 32 W);obtain⟨B,M,rfl,_,_⟩:=A.shape;go_enter func171,ntmps171;go_wp2_with(first| (refine(V K).mono ?_;rintro e t ⟨rfl,u⟩)|(refine(V U _ _).mono ?_;rintro e Q ⟨rfl,rfl⟩));go_ret;exact⟨rfl,u⟩
theorem ws18(h:LbH w L p xv fl rtl dec)(B:PLbC p xv X o w){c}(I:Rune c):Calls prog 219 #[.pointer (some ⟨L,0,none⟩),.int .i32 c] w (x0g w (Lb.bst o fl dec c)):=by
 have g:=h.c0;have K:=O (B.s c I w (b0r));have x:Hid (∀W,Bw w W->Calls prog 216 #[.pointer (some ⟨L,0,none⟩),.int .i64 16] W (Sm18 (.bool (Lb.flg fl 16)) W)/\W.cell? ⟨L,4,none⟩=some (.bool dec)):=fun W R=>⟨y5N (h.below R) 16,(h.below R).c4⟩;have E:Hid (Lb.bst o fl dec c=(decide (o.st c≠1)&&(decide (o.st c≠4)||(Lb.flg fl 16&&!dec)))):=rfl;generalize Lb.bst o fl dec c=bb,Lb.flg fl 16=f,o.st c=k at *;by_cases Z:k=1
 ·subst Z;obtain rfl:bb=false:=V E;go_enter func219,ntmps219;exact F9x
 ·by_cases H:k=4
  ·subst H;obtain rfl:bb=(f&&!dec):=V E;go_enter func219,ntmps219;go_wp2_with fail;refine c0m K fun Q b1=>?_;have v:=O (V x Q b1).1;have j:=(V x Q b1).2;cases f<;>
   ·go_wp2_with(refine(V v).mono ?_;rintro e Q ⟨rfl,rfl⟩);go_ret;exact⟨rfl,b1⟩
  ·have t:(k==1)=false:=W2z;have a:(k==4)=false:=(by grind);obtain rfl:bb=true:=(by rw[V E,d0t Z,d0t H];rfl);go_enter func219,ntmps219;exact F9x
theorem z9m(h:LbH w L p xv fl rtl dec)(A:Sk .i32 w xv X)(H:PLbC p xv X o w):Calls prog 173 #[.pointer (some ⟨L,0,none⟩)] w (IntB w (x2N (X.any (Lb.bst o fl dec)) 128)):=by
 have J:∀(fn:Fn) (first M:Array Value) (w:World),(Instr.makeFunc fn first M).run prog w=.ok (.func fn first M) w:=fun _ _ _ _=>rfl;have S:=h.c1;have K:=O (z9f 219 #[.pointer (some ⟨L,0,none⟩)] #[] y2w (Lb.bst o fl dec) xv X w A fun k G W R=>ws18 (h.below R) (H.on R) (x0R A G));have U:=O (fun b W=>x4A b 128 W);obtain⟨B,M,rfl,_,_⟩:=A.shape;go_enter func173,ntmps173;go_wp2_with(first| (refine(V K).mono ?_;rintro e t ⟨rfl,u⟩)|(refine(V U _ _).mono ?_;rintro e Q ⟨rfl,rfl⟩));go_ret;exact⟨rfl,u⟩
theorem z7Y c w:Calls prog 220 #[.int .i32 c] w (x0g w (decide (c<128)&&!Lb.ldh c)):=by
 have K:=O (z3N c w);by_cases I:c<128
 ·rw[d0t I];go_enter func220,ntmps220;exact F9x
 ·rw[d0f I];go_enter func220,ntmps220;exact T8u
theorem z9n(h:LbH w L p xv fl rtl dec)(A:Sk .i32 w xv X):Calls prog 174 #[.pointer (some ⟨L,0,none⟩)] w (IntB w (x2N (Lb.flg fl 8&&X.any fun c=>decide (c<128)&&!Lb.ldh c) 256)):=by
 have J:∀(fn:Fn) (first M:Array Value) (w:World),(Instr.makeFunc fn first M).run prog w=.ok (.func fn first M) w:=fun _ _ _ _=>rfl;have S:=h.c1;have K:=O (z9f 220 #[] #[] y0I (fun c=>decide (c<128)&&!Lb.ldh c) xv X w A fun k _ W _=>z7Y (X.getD k 0) W);have v:=O (y5N h 8);have U:=O (fun b W=>x4A b 256 W);obtain⟨B,M,rfl,_,_⟩:=A.shape;have F:Bw w w:=b0r;generalize Lb.flg fl 8=f at *;cases f
 ·go_enter func174,ntmps174;exact I5H
 ·go_enter func174,ntmps174;exact P8A
end
section
variable {w:World} {L p:Nat} {xv:Value} {fl:Int} {rtl dec:Bool} {X:List Int} {o:Lb.Of}
theorem z9l(h:LbH w L p xv fl rtl dec)(A:Sk .i32 w xv X)(E:0<X.length)(H:PLbC p xv X o w):Calls prog 172 #[.pointer (some ⟨L,0,none⟩)] w (IntB w (x2N (o.mrk (X.getD 0 0)) 64)):=by
 have d:=A.len;have k:=O fun W (R:Bw w W)=>(h.below R).c0;have Z:=O fun W (R:Bw w W)=>(h.below R).c1;have K:=O (H.m (X.getD 0 0) (x0R A E));have U:=O (fun b W=>x4A b 64 W);obtain⟨b,P,M,rfl,_,_,G⟩:=A.place f6J
 have C:Hid (∀W,Bw w W->W.cell? ⟨b,P,none⟩=some (.int .i32 (X.getD 0 0))):=fun W R=>by
  rw[R.cell (x0a (G 0 E))];exact G 0 E
 have I:Bw w w:=b0r;have D:=I.drew;have i:(0:Int)<X.length:=f6J;clear h H A G;generalize o.mrk (X.getD 0 0)=z at *;generalize X.getD 0 0=c at *;go_enter func172,ntmps172;go_wp2_with fail;go_region_held3(fun a=>a.cell? ⟨L,0,none⟩=some (.pointer (some ⟨p,0,none⟩))/\a.cell? ⟨L,1,none⟩=some (.slice (some ⟨b,P,none⟩) X.length M)/\a.cell? ⟨b,P,none⟩=some (.int .i32 c)/\Bw w a) (first| exact⟨V k _ W8X,V Z _ W8X,V C _ W8X,W8X⟩|(have Y:=bthen D W8X;exact⟨V k _ Y,V Z _ Y,V C _ Y,Y⟩) | go_keep) (first| (go_at_call 218;refine(V K _ W8X).mono ?_;rintro e Q ⟨rfl,b1⟩;have F:=bthen (W8X:Bw w _) b1)|(go_at_call 214;refine(V U _ _).mono ?_;rintro e t ⟨rfl,rfl⟩));have x:=O F;clear K k Z C F b1 D I U;exact E0c
theorem z9o(h:LbH w L p xv fl rtl dec)(A:Sk .i32 w xv X)(H:PLbC p xv X o w):Calls prog 175 #[.pointer (some ⟨L,0,none⟩)] w (IntB w (x2N (Lb.flg fl 4&&o.jn) 512)):=by
 obtain⟨n,F,I⟩:=H.j;have k:=O fun W (R:Bw w W)=>(h.below R).c0;have Z:=O fun W (R:Bw w W)=>(h.below R).c1;have E:=O fun W (R:Bw w W)=>(h.below R).c3;have v:=O fun W (R:Bw w W)=>y5N (h.below R) 4;have J:=O I;have U:=O (fun b W=>x4A b 512 W);obtain⟨B,M,rfl,_,_⟩:=A.shape;have D:Bw w w.drew:=(b0r).drew;rw[<- F];clear h H A I F;generalize Lb.flg fl 4=f at *;cases f
 ·go_enter func175,ntmps175;go_wp2_with fail;refine wp_region_held_drew (S:=fun a=>Bw w a) f4x (D) (fun hHeld=>?_);refine tk9 0 (.pointer (some ⟨L,0,none⟩)) ?_;refine rd9 1 fun K hK=>?_;go_simp;refine(V v _ hHeld).mono ?_;rintro e Q ⟨rfl,rfl⟩;go_wp2_with fail;refine hK.out _ _ ?_ (fun hHeld=>?_)
  ·exact hHeld
  clear hK K
  try simp only[Act.put,sa9,sb9,sc9]
  refine tk9 2 (.bool false) ?_;refine tn9 3 ?_;refine tn9 4 ?_;refine tn9 5 ?_;refine tn9 6 ?_;refine tn9 7 ?_;refine tn9 8 ?_;refine tn9 9 ?_;refine tn9 10 ?_;refine tn9 11 ?_;refine tn9 12 ?_;refine tk9 13 (.bool false) ?_;refine rd9 14 fun K hK=>?_;go_simp;refine(V U _ _).mono ?_;rintro e G ⟨rfl,rfl⟩;go_wp2_with fail;refine hK.out _ _ ?_ (fun hHeld=>?_)
  ·exact hHeld
  clear hK K
  try simp only[Act.put,sa9,sb9,sc9]
  refine tk9 15 (.int .i64 (x2N (false) 512)) ?_;exact S4i
 ·go_enter func175,ntmps175;go_wp2_with fail;refine wp_region_held_drew (S:=fun a=>Bw w a) f4x (D) (fun hHeld=>?_);refine tk9 0 (.pointer (some ⟨L,0,none⟩)) ?_;refine rd9 1 fun K hK=>?_;go_simp;refine(V v _ hHeld).mono ?_;rintro e Q ⟨rfl,rfl⟩;go_wp2_with fail;refine hK.out _ _ ?_ (fun hHeld=>?_)
  ·exact hHeld
  clear hK K
  try simp only[Act.put,sa9,sb9,sc9]
  refine tk9 2 (.bool true) ?_;refine tk9 3 (.pointer (some ⟨L,0,none⟩)) ?_;refine tk9 4 (.pointer (some ⟨L,0,none⟩)) ?_;refine tk9 5 (.pointer (some ⟨L,0,none⟩)) ?_;refine tk9 6 (.pointer (some ⟨p,0,none⟩)) ?_ (hy:=I1m);refine tk9 7 (.pointer (some ⟨L,0,none⟩)) ?_;refine tk9 8 (.pointer (some ⟨L,0,none⟩)) ?_;refine tk9 9 (.pointer (some ⟨L,1,none⟩)) ?_;refine tk9 10 (.slice B X.length M) ?_ (hy:=n8S);refine rd9 11 fun K hK=>?_;go_simp;refine c1m (V J _ hHeld) fun t u=>?_;go_wp2_with fail;refine hK.out _ _ ?_ (fun hHeld=>?_)
  ·exact bthen hHeld u
  clear hK K
  try simp only[Act.put,sa9,sb9,sc9]
  refine tk9 12 (.bool (decide (0<=n))) ?_;refine tk9 13 (.bool (decide (0<=n))) ?_;refine rd9 14 fun K hK=>?_;go_simp;refine(V U _ _).mono ?_;rintro e G ⟨rfl,rfl⟩;go_wp2_with fail;refine hK.out _ _ ?_ (fun hHeld=>?_)
  ·exact hHeld
  clear hK K
  try simp only[Act.put,sa9,sb9,sc9]
  refine tk9 15 (.int .i64 (x2N ((decide (0<=n))) 512)) ?_;exact S4i
theorem z9p(h:LbH w L p xv fl rtl dec)(A:Sk .i32 w xv X)(H:PLbC p xv X o w):Calls prog 176 #[.pointer (some ⟨L,0,none⟩)] w (IntB w (x2N ((Lb.flg fl 2&&rtl)&&o.bi) 1024)):=by
 obtain⟨n,F,I⟩:=H.r;have k:=O fun W (R:Bw w W)=>(h.below R).c0;have Z:=O fun W (R:Bw w W)=>(h.below R).c1;have E:=O fun W (R:Bw w W)=>(h.below R).c3;have v:=O fun W (R:Bw w W)=>y5N (h.below R) 2;have J:=O I;have U:=O (fun b W=>x4A b 1024 W);obtain⟨B,M,rfl,_,_⟩:=A.shape;have D:Bw w w.drew:=(b0r).drew;rw[<- F];clear h H A I F;generalize Lb.flg fl 2=f at *;cases f
 ·go_enter func176,ntmps176;go_wp2_with fail;refine wp_region_held_drew (S:=fun a=>Bw w a) f4x (D) (fun hHeld=>?_);refine tk9 0 (.pointer (some ⟨L,0,none⟩)) ?_;refine rd9 1 fun K hK=>?_;go_simp;refine(V v _ hHeld).mono ?_;rintro e Q ⟨rfl,rfl⟩;go_wp2_with fail;refine hK.out _ _ ?_ (fun hHeld=>?_)
  ·exact hHeld
  clear hK K
  try simp only[Act.put,sa9,sb9,sc9]
  refine tk9 2 (.bool false) ?_;refine tn9 3 ?_;refine tn9 4 ?_;refine tn9 5 ?_;refine tn9 6 ?_;exact s1n
 cases rtl
 ·go_enter func176,ntmps176;go_wp2_with fail;refine wp_region_held_drew (S:=fun a=>Bw w a) f4x (D) (fun hHeld=>?_);refine tk9 0 (.pointer (some ⟨L,0,none⟩)) ?_;refine rd9 1 fun K hK=>?_;go_simp;refine(V v _ hHeld).mono ?_;rintro e Q ⟨rfl,rfl⟩;go_wp2_with fail;refine hK.out _ _ ?_ (fun hHeld=>?_)
  ·exact hHeld
  clear hK K
  try simp only[Act.put,sa9,sb9,sc9]
  refine tk9 2 (.bool true) ?_;refine tk9 3 (.pointer (some ⟨L,0,none⟩)) ?_;refine tk9 4 (.pointer (some ⟨L,0,none⟩)) ?_;refine tk9 5 (.pointer (some ⟨L,3,none⟩)) ?_;refine tk9 6 (.bool false) ?_ (hy:=m7p);exact s1n
 ·go_enter func176,ntmps176;go_wp2_with fail;refine wp_region_held_drew (S:=fun a=>Bw w a) f4x (D) (fun hHeld=>?_);refine tk9 0 (.pointer (some ⟨L,0,none⟩)) ?_;refine rd9 1 fun K hK=>?_;go_simp;refine(V v _ hHeld).mono ?_;rintro e Q ⟨rfl,rfl⟩;go_wp2_with fail;refine hK.out _ _ ?_ (fun hHeld=>?_)
  ·exact hHeld
  clear hK K
  try simp only[Act.put,sa9,sb9,sc9]
  refine tk9 2 (.bool true) ?_;refine tk9 3 (.pointer (some ⟨L,0,none⟩)) ?_;refine tk9 4 (.pointer (some ⟨L,0,none⟩)) ?_;refine tk9 5 (.pointer (some ⟨L,3,none⟩)) ?_;refine tk9 6 (.bool true) ?_ (hy:=m7p);refine tk9 7 (.bool true) ?_;refine tk9 8 (.bool true) ?_;refine tk9 9 (.pointer (some ⟨L,0,none⟩)) ?_;refine tk9 10 (.pointer (some ⟨L,0,none⟩)) ?_;refine tk9 11 (.pointer (some ⟨L,0,none⟩)) ?_;refine tk9 12 (.pointer (some ⟨p,0,none⟩)) ?_ (hy:=I1m);refine tk9 13 (.pointer (some ⟨L,0,none⟩)) ?_;refine tk9 14 (.pointer (some ⟨L,0,none⟩)) ?_;refine tk9 15 (.pointer (some ⟨L,1,none⟩)) ?_;refine tk9 16 (.slice B X.length M) ?_ (hy:=n8S);refine rd9 17 fun K hK=>?_;go_simp;refine c1m (V J _ hHeld) fun t u=>?_;go_wp2_with fail;refine hK.out _ _ ?_ (fun hHeld=>?_)
  ·exact bthen hHeld u
  clear hK K
  try simp only[Act.put,sa9,sb9,sc9]
  refine tk9 18 (.bool (n != 0)) ?_;refine tk9 19 (.bool (n != 0)) ?_;refine rd9 20 fun K hK=>?_;go_simp;refine(V U _ _).mono ?_;rintro e G ⟨rfl,rfl⟩;go_wp2_with fail;refine hK.out _ _ ?_ (fun hHeld=>?_)
  ·exact hHeld
  clear hK K
  try simp only[Act.put,sa9,sb9,sc9]
  refine tk9 21 (.int .i64 (x2N ((n != 0)) 1024)) ?_;refine wpAnyH_done f4x ?_ _;go_wp2;go_ret;exact⟨rfl,hHeld⟩
end
namespace Lb
variable {o:Of} {fl:Int} {dec rtl:Bool} {X:List Int}
def part(o:Of)(fl:Int)(rtl dec:Bool)(X:List Int):Nat->Nat
 | 0=>if(!o.nf)=true then 4 else 0
 | 1=>if(flg fl 1&&hyp X)=true then 8 else 0
 | 2=>if(!flg fl 1&&x1B X)=true then 16 else 0
 | 3=>if(X.any fun c=>decide (46=c))=true then 32 else 0
 | 4=>if o.mrk (X.getD 0 0)=true then 64 else 0
 | 5=>if X.any (bst o fl dec)=true then 128 else 0
 | 6=>if(flg fl 8&&X.any fun c=>decide (c<128)&&!ldh c)=true then 256 else 0
 | 7=>if(flg fl 4&&o.jn)=true then 512 else 0
 | 8=>if((flg fl 2&&rtl)&&o.bi)=true then 1024 else 0
 | _=>0
def acc(f:Nat->Nat):Nat->Nat
 | 0=>0
 | k+1=>acc f k|||f k
theorem z0s k:part o fl rtl dec X k<2^11:=by
 unfold part
 split<;>first| exact x2Q e8M e8M | decide
theorem x5p:∀k,acc (part o fl rtl dec X) k<2^11
 | 0=>by show 0<2^11;exact e8M
 | k+1=>Nat.or_lt_two_pow (x5p k) (z0s k)
theorem z0e i:(num o fl dec X).testBit i=((if(X.any fun c=>decide (46=c))=true then 32 else 0)|||(if X.any (bst o fl dec)=true then 128 else 0)|||(if(flg fl 8&&X.any fun c=>decide (c<128)&&!ldh c)=true then 256 else 0)).testBit i:=by
 rw[z0d,Nat.testBit_or,Nat.testBit_or,x8i,x8i,x8i];simp only[Bool.decide_eq_true]
 induction X with
 | nil=>simp
 | cons c l ih =>
  rw[List.any_cons,ih];unfold nb;rw[Nat.testBit_or,Nat.testBit_or,x8i,x8i,x8i];have P:decide (c=46)=decide (46=c):=(by simp[eq_comm]);rw[P];unfold std;simp only[List.any_cons,Bool.decide_eq_true];simp only[Bool.and_or_distrib_left,Bool.and_or_distrib_right];ac_rfl
theorem z5F:acc (part o fl rtl dec X) 9=chk o fl rtl dec X:=by
 unfold chk hd;rw[Nat.eq_of_testBit_eq z0e];simp only[acc,part];cases e:flg fl 1
 ·grind
 ·grind
end Lb
def gk18:Nat->Nat
 | 0=>168
 | 1=>169
 | 2=>170
 | 3=>171
 | 4=>172
 | 5=>173
 | 6=>174
 | 7=>175
 | _=>176
def Crs18(w:World)(L s:Nat):Prop:=∀k,k<9->w.cell? ⟨s,k,none⟩=some (.func (.func (gk18 k)) #[.pointer (some ⟨L,0,none⟩)] #[])
theorem y5D{k}(G:k<9):∀args w,(callFunc (gk18 k) args).run prog w=.ok (.enter (gk18 k) args) w:=by
 match k,G with
 | 0,_=>exact enters_of func168 f4y rfl
 | 1,_=>exact enters_of func169 f4y rfl
 | 2,_=>exact enters_of func170 f4y rfl
 | 3,_=>exact enters_of func171 f4y rfl
 | 4,_=>exact enters_of func172 f4y rfl
 | 5,_=>exact enters_of func173 f4y rfl
 | 6,_=>exact enters_of func174 f4y rfl
 | 7,_=>exact enters_of func175 f4y rfl
 | 8,_=>exact enters_of func176 f4y rfl
 | n+9,h=>exact absurd h f6J
theorem z6a{w L p xv fl}{rtl dec X o}(h:LbH w L p xv fl rtl dec)(A:Sk .i32 w xv X)(R:0<X.length)(z:X.length<=65536)(H:PLbC p xv X o w){k}(G:k<9):Calls prog (gk18 k) #[.pointer (some ⟨L,0,none⟩)] w (IntB w ((Lb.part o fl rtl dec X k:Nat):Int)):=by
 have g:∀{m:Nat} {b:Bool} (n:Nat),Calls prog m #[.pointer (some ⟨L,0,none⟩)] w (IntB w (x2N b n))->Calls prog m #[.pointer (some ⟨L,0,none⟩)] w (IntB w ((if b=true then n else 0:Nat):Int)):=fun{m b} n h=>by
  have e:((if b=true then n else 0:Nat):Int)=x2N b n:=(by cases b<;>rfl);rw[e];exact h
 match k,G with
 | 0,_=>exact g 4 (z9h h A H)
 | 1,_=>exact g 8 (z9i h A R z)
 | 2,_=>exact g 16 (z9j h A)
 | 3,_=>exact g 32 (z9k h A)
 | 4,_=>exact g 64 (z9l h A R H)
 | 5,_=>exact g 128 (z9m h A H)
 | 6,_=>exact g 256 (z9n h A)
 | 7,_=>exact g 512 (z9o h A H)
 | 8,_=>exact g 1024 (z9p h A H)
 | n+9,h=>exact absurd h f6J
def CrB18(w:World)(L:Nat)(e:Ending)(w':World):Prop:=∃s,e=.returned (.slice (some ⟨s,0,none⟩) 9 9)/\Crs18 w' L s/\Below w.heap.size w w'
theorem y5x L w:Calls prog 121 #[.pointer (some ⟨L,0,none⟩)] w (CrB18 w L):=by
 have J:∀(fn:Fn) (first M:Array Value) (w:World),(Instr.makeFunc fn first M).run prog w=.ok (.func fn first M) w:=fun _ _ _ _=>rfl;go_enter func121,ntmps121;go_wp2;go_ret;refine⟨w.heap.size,rfl,fun k G=>?_,(b0r).alloc (l0r _) _⟩
 match k,G with
 | 0,_=>exact i0N
 | 1,_=>exact i0N
 | 2,_=>exact i0N
 | 3,_=>exact i0N
 | 4,_=>exact i0N
 | 5,_=>exact i0N
 | 6,_=>exact i0N
 | 7,_=>exact i0N
 | 8,_=>exact i0N
 | n+9,h=>exact absurd h f6J
theorem z8W{w p xv X}{o}(a:PLbC p xv X o w)(A:Sk .i32 w xv X)(z:X.length<=65536) fl rtl dec:Calls prog 74 #[.pointer (some ⟨p,0,none⟩),xv,.int .i64 fl,.bool rtl,.bool dec] w (IntB w ((Lb.err o fl rtl dec X:Nat):Int)):=by
 have d:=A.len;unfold Lb.err;rcases Nat.eq_zero_or_pos X.length with h0 | h0
 ·rw[if_pos h0];obtain⟨B,M,rfl,_,_⟩:=A.shape;rw[h0];clear a A;go_enter func74,ntmps74;go_wp2;go_ret;exact⟨rfl,b0r⟩
 ·rw[if_neg f6J,<- Lb.z5F];have v:((X.length:Int)==0)=false:=G9k;have f:∀o,Bw w (w.alloc o):=fun o=>(b0r).alloc (l0r _) o
  have q:Hid (LbH (w.alloc (.cells #[.pointer (some ⟨p,0,none⟩),xv,.int .i64 fl,.bool rtl,.bool dec] 208)) w.heap.size p xv fl rtl dec):=R0p
  have H:Hid (∀W k,Bw w W->LbH W w.heap.size p xv fl rtl dec->k<9->Calls prog (gk18 k) #[.pointer (some ⟨w.heap.size,0,none⟩)] W (IntB W ((Lb.part o fl rtl dec X k:Nat):Int))):=fun W k R S G=>z6a S (A.below R) h0 z (a.on R) G;have N:Hid (∀k,bits .or .i64 ((Lb.acc (Lb.part o fl rtl dec X) k:Nat):Int) ((Lb.part o fl rtl dec X k:Nat):Int)=((Lb.acc (Lb.part o fl rtl dec X) (k+1):Nat):Int)):=fun k=>Bd.or17 (Lb.x5p k) (Lb.z0s k);have c:Hid (Lb.acc (Lb.part o fl rtl dec X) 0=0):=rfl;have K:=O (fun W=>y5x w.heap.size W);have Z:=O (f (.cells #[.pointer (some ⟨p,0,none⟩),xv,.int .i64 fl,.bool rtl,.bool dec] 208));obtain⟨B,M,rfl,_,_⟩:=A.shape;clear a A f;generalize Lb.acc (Lb.part o fl rtl dec X)=j at *;generalize Lb.part o fl rtl dec X=F at *;go_enter func74,ntmps74;go_wp2_with fail;refine(V K _).mono ?_;rintro e Q ⟨s,rfl,I,b1⟩;have n:=O ((V q).below b1);have l:=O (bthen (V Z) b1);have C:=O I;clear K q Z I b1;go_wp2;go_loopw[12,14,28] (fun P _ r wr=>∃k:Nat,P=.int .i64 ((j k:Nat):Int)/\r=.int .i64 k/\k<=9/\Bw Q wr) (fun _ _ r _=>9-(intOf r).toNat)
  case atStart=>exact⟨0,by rw[V c];rfl,rfl,f6J,b0r⟩
  case round =>
   obtain⟨k,rfl,rfl,G,J⟩:=hrel;by_cases E:k<9
   ·have i:(k:Int)<9:=f6J;have x:wr.cell? ⟨s,k,none⟩=some (.func (.func (gk18 k)) #[.pointer (some ⟨w.heap.size,0,none⟩)] #[]):=(by rw[J.cell (x0a (V C k E))];exact V C k E);have b:=O (V H wr k (bthen (V l) J) ((V n).below J) E);have D:=O (V N k);have m:=y5D E;have Y:=O J;clear J H N c C n l;generalize gk18 k=g at *;go_wp2_with(go_at_fn g;refine(V b).mono ?_;rintro e t ⟨rfl,u⟩);have T:=O (bthen (V Y) u);clear b Y u
    go_roundw
    case rel=>exact⟨k+1,by rw[V D],g2A,f6J,V T⟩
    case measure=>exact g7T
   ·obtain rfl:k=9:=f6J;have U:=O (bthen (V l) J);clear J H N c C n l;exact t3L
