import Derived.Test.YtbmckadcjdedcaaGreatDoorF4
import Derived.Deep.RegionHeld3
set_option maxHeartbeats 2000000
set_option maxRecDepth 8000
namespace Go.Proofs.YtbmckadcjdedcaaGreatDoor
open Go.Proofs.Tryz
open Go.RowKit
section
variable{p:Prop}
theorem W8V(h:p:=by assumption):p:=h
theorem T7I(h:p:=by go_wp2_with(first| (refine(V P).mono ?_;rintro e Q ⟨rfl,rfl⟩)|(refine(V K).mono ?_;rintro e d ⟨rfl,m⟩)|(refine(V q _ _).mono ?_;rintro e Q ⟨rfl,rfl⟩));go_ret;exact⟨rfl,m⟩):p:=h
theorem F9x(h:p:=by go_wp2_with(refine(V K).mono ?_;rintro e Q ⟨rfl,b1⟩);go_ret;exact⟨rfl,b1⟩):p:=h
theorem i4q(h:p:=by
 refine tk9 7 (.bool false) ?_;refine tk9 8 (.bool false) ?_;refine tn9 9 ?_;refine tn9 10 ?_;refine tn9 11 ?_;refine tn9 12 ?_;refine tn9 13 ?_;refine tn9 14 ?_;refine tn9 15 ?_;refine tn9 16 ?_;refine tn9 17 ?_;refine tn9 18 ?_;refine tk9 19 (.bool false) ?_;refine rd9 20 fun K hK=>?_;go_simp;refine(V q _ _).mono ?_;rintro e x ⟨rfl,rfl⟩;go_wp2_with fail;refine hK.out _ _ ?_ (fun hHeld=>?_)
 ·exact hHeld
 clear hK K
 try simp only[Act.put,sa9,sb9,sc9]
 refine tk9 21 (.int .i64 (x3f (false) 1024)) ?_;refine wpAnyH_done f4x ?_ _;go_wp2;go_ret;exact⟨rfl,hHeld⟩):p:=h
theorem S4i(h:p:=by refine wpAnyH_done f4x ?_ _;go_wp2;go_ret;exact⟨rfl,hHeld⟩):p:=h
theorem i0N(h:p:=by exact x4S _ _ rfl (by simp[gk18])):p:=h
theorem v8j(h:p:=by go_wp2_with(first| (refine(V P).mono ?_;rintro e Q ⟨rfl,rfl⟩)|(refine(V q _ _).mono ?_;rintro e Q ⟨rfl,rfl⟩));go_ret;exact⟨rfl,E⟩):p:=h
theorem e6A(h:p:=by go_wp2_with(first| (go_at_call 206;refine(V G).mono ?_;rintro e Q ⟨rfl,rfl⟩)|(go_at_call 207;refine(V P).mono ?_;rintro e Q ⟨rfl,rfl⟩)|(go_at_call 205;refine(V q _ _).mono ?_;rintro e Q ⟨rfl,rfl⟩));go_ret;exact⟨rfl,b0r⟩):p:=h
theorem W8X(h:p:=by assumption):p:=h
theorem F0C(h:p:=by(intro w hSw;have z:=V C _ hSw;go_simp)):p:=h
theorem T0o(h:p:=by(intro w hSw;have z:=V H _ hSw;go_simp)):p:=h
theorem M4q(h:p:=by(intro w hSw;have z:=V N _ hSw;go_simp)):p:=h
end
namespace Lb
def ldh(c:Int):Bool:=decide (97<=c)&&decide (c<=122)||(decide (48<=c)&&decide (c<=57)||decide (c=45))
def x2B(X:List Int):Bool:=decide (4<=X.length)&&(decide (X.getD 0 0=120)&&(decide (X.getD 1 0=110)&&(decide (X.getD 2 0=45)&&decide (X.getD 3 0=45))))
def flg(fl k:Int):Bool:=bits .and .i64 fl k != 0
def hyp(X:List Int):Bool:=decide (X.getD 0 0=45)||(decide (X.getD (X.length-1) 0=45)||(decide (4<=X.length)&&(decide (X.getD 2 0=45)&&decide (X.getD 3 0=45))))
structure Of where
 nf:Bool
 mrk:Int->Bool
 st:Int->Int
 jn:Bool
 bi:Bool
def bst(o:Of)(fl:Int)(dec:Bool)(c:Int):Bool:=decide (o.st c≠1)&&(decide (o.st c≠4)||(flg fl 16&&!dec))
def std(fl c:Int):Bool:=flg fl 8&&(decide (c<128)&&!ldh c)
def nb(o:Of)(fl:Int)(dec:Bool)(c:Int):Nat:=(if c=46 then 32 else 0)|||(if bst o fl dec c=true then 128 else 0)|||(if std fl c=true then 256 else 0)
def num(o:Of)(fl:Int)(dec:Bool)(X:List Int):Nat:=X.foldl (fun a c=>a|||nb o fl dec c) 0
def hd(o:Of)(fl:Int)(X:List Int):Nat:=(if o.nf=true then 0 else 4)|||(if flg fl 1=true then(if hyp X=true then 8 else 0)else(if x2B X=true then 16 else 0))|||(if o.mrk (X.getD 0 0)=true then 64 else 0)
def chk(o:Of)(fl:Int)(rtl dec:Bool)(X:List Int):Nat:=hd o fl X|||num o fl dec X|||(if(flg fl 4&&o.jn)=true then 512 else 0)|||(if(flg fl 2&&(rtl&&o.bi))=true then 1024 else 0)
variable {o:Of} {fl:Int} {dec rtl:Bool} {X:List Int}
theorem x3i{b:Prop}[Decidable b]{n m}(E:n<2^11)(z:m<2^11):(if b then n else m)<2^11:=by split<;>assumption
theorem nb_lt c:nb o fl dec c<2^11:=by
 unfold nb;exact Nat.or_lt_two_pow (Nat.or_lt_two_pow (x3i e8M e8M) (x3i e8M e8M)) (x3i e8M e8M)
theorem z5E(X:List Int):∀a,a<2^11->X.foldl (fun a c=>a|||nb o fl dec c) a<2^11:=by
 induction X with
 | nil=>intro a h;exact h
 | cons c l ih=>intro a h;exact ih _ (Nat.or_lt_two_pow h (nb_lt c))
theorem z8L X:num o fl dec X<2^11:=z5E X 0 e8M
theorem hd_lt:hd o fl X<2^11:=by
 unfold hd;exact Nat.or_lt_two_pow (Nat.or_lt_two_pow (x3i e8M e8M) (x3i (x3i e8M e8M) (x3i e8M e8M))) (x3i e8M e8M)
theorem z7E:chk o fl rtl dec X<2^11:=by
 unfold chk;exact Nat.or_lt_two_pow (Nat.or_lt_two_pow (Nat.or_lt_two_pow hd_lt (z8L X)) (x3i e8M e8M)) (x3i e8M e8M)
theorem y3H(i:Nat):∀(X:List Int) (a:Nat),(X.foldl (fun a c=>a|||nb o fl dec c) a).testBit i=(a.testBit i||X.any fun c=>(nb o fl dec c).testBit i)
 | [],a=>M7K
 | c::l,a=>by
  rw[List.foldl_cons,y3H i l,Nat.testBit_or,List.any_cons,Bool.or_assoc]
theorem z6n i:(num o fl dec X).testBit i=X.any fun c=>(nb o fl dec c).testBit i:=by
 unfold num;rw[y3H];simp
end Lb
namespace Lb
variable {o:Of} {fl fl':Int} {dec dec' rtl rtl':Bool} {X:List Int}
def err(o:Of)(fl:Int)(rtl dec:Bool)(X:List Int):Nat:=if X.length=0 then 0 else chk o fl rtl dec X
theorem z8c:err o fl rtl dec X<2^11:=by
 unfold err;split
 ·decide
 ·exact z7E
theorem x7T{b:Prop}[Decidable b]{n i}:(if b then n else 0).testBit i=(decide b&&n.testBit i):=by grind
end Lb
def LbH(w:World)(L p:Nat)(xv:Value)(fl:Int)(rtl dec:Bool):Prop:=w.heap[L]?=some (.cells #[.pointer (some ⟨p,0,none⟩),xv,.int .i64 fl,.bool rtl,.bool dec] 178 (0,0))
section
variable {w:World} {L p:Nat} {xv:Value} {fl:Int} {rtl dec:Bool}
theorem LbH.c0(h:LbH w L p xv fl rtl dec):w.cell? ⟨L,0,none⟩=some (.pointer (some ⟨p,0,none⟩)):=cell_of (j:=0) h (by show 0<5;exact f6J)
theorem LbH.c1(h:LbH w L p xv fl rtl dec):w.cell? ⟨L,1,none⟩=some xv:=cell_of (j:=1) h (by show 1<5;exact f6J)
theorem LbH.c2(h:LbH w L p xv fl rtl dec):w.cell? ⟨L,2,none⟩=some (.int .i64 fl):=cell_of (j:=2) h (by show 2<5;exact f6J)
theorem LbH.c3(h:LbH w L p xv fl rtl dec):w.cell? ⟨L,3,none⟩=some (.bool rtl):=cell_of (j:=3) h (by show 3<5;exact f6J)
theorem LbH.c4(h:LbH w L p xv fl rtl dec):w.cell? ⟨L,4,none⟩=some (.bool dec):=cell_of (j:=4) h (by show 4<5;exact f6J)
theorem LbH.below{w'}(h:LbH w L p xv fl rtl dec)(Y:Bw w w'):LbH w' L p xv fl rtl dec:=by
  unfold LbH at *;rw[Y.block L (x0a (LbH.c0 h))];exact h
end
def Sm18(v:Value)(w:World)(e:Ending)(w':World):Prop:=e=.returned v/\w'=w
def x3f(b:Bool)(n:Int):Int:=if b=true then n else 0
theorem x4D b n w:Calls prog 205 #[.bool b,.int .i64 n] w (Sm18 (.int .i64 (x3f b n)) w):=by
  cases b<;>go_enter func205,ntmps205<;>go_wp2<;>go_ret<;>exact⟨rfl,rfl⟩
theorem y5s{w L p xv fl}{rtl dec}(h:LbH w L p xv fl rtl dec) k:Calls prog 207 #[.pointer (some ⟨L,0,none⟩),.int .i64 k] w (Sm18 (.bool (Lb.flg fl k)) w):=by
  have S:=h.c2;go_enter func207,ntmps207;exact t6u
theorem idx18(g:Nat) F C(j:∀args w,(callFunc g args).run prog w=.ok (.enter g args) w)(p:Int->Bool) xv X w(J:Sk .i32 w xv X)(i:∀k,k<X.length->∀W,Bw w W->Calls prog g (F++#[.int .i32 (X.getD k 0)]++C) W (x0c W (p (X.getD k 0)))) :
    Calls prog 58 #[xv,.func (.func g) F C] w (IdxB w (X.any p)):=by
  have s:=J.len;have KP:=O i
  have f:Hid (∀(k:Nat),k<X.length->∃b P M,xv=.slice (some ⟨b,P,none⟩) X.length M/\∀W,Bw w W->W.cell? ⟨b,P+k,none⟩=some (.int .i32 (X.getD k 0))):=fun k G=>by
    obtain⟨b,P,M,d,_,_,I⟩:=J.place f6J;exact⟨b,P,M,d,fun W t=>v9g⟩
  have l:Hid ((∀q,q<X.length->p (X.getD q 0)=false)->X.any p=false):=fun h=>Bd.y6V h;have E:Hid (∀q,q<X.length->p (X.getD q 0)=true->X.any p=true):=fun q m h=>Bd.y1O m h;obtain⟨R,M,rfl,_,_⟩:=J.shape;go_enter func58,ntmps58;go_wp2;go_loopw[5,8] (fun _ Z wr=>∃k:Nat,Z=.int .i64 k/\k<=X.length/\(∀q,q<k->p (X.getD q 0)=false)/\Bw w wr) (fun _ Z _=>X.length-(intOf Z).toNat)
  case atStart=>exact t1A
  case round =>
    obtain⟨k,rfl,G,m,N⟩:=hrel;by_cases H:k<X.length
    · have r:(k:Int)<X.length:=by omega
      obtain⟨b1,P,A,d,a⟩:=V f k H;simp only[Value.slice.injEq]at d;obtain⟨rfl,-,rfl⟩:=d;have u:=a wr N;have K:=O (V KP k H wr N);have D:=O (V E k H)
      have T:Hid (p (X.getD k 0)=false->∀q,q<k+1->p (X.getD q 0)=false):=fun h q Y=>by
        rcases Nat.lt_or_ge q k with h1|h1
        · exact m q h1
        · rw[(f6J:q=k)];exact h
      have S:=O N;generalize p (X.getD k 0)=z at *;generalize X.getD k 0=c at *
      cases z with
      | true =>
        have n:=O (V D rfl);go_wp2_with(go_at_fn g;refine(V K).mono ?_;rintro e Q ⟨rfl,b1⟩);have U:=O (x0b (V S) b1);go_ret;exact⟨_,rfl,t3d,V U⟩
      | false =>
        have x:=O (V T rfl);go_wp2_with(go_at_fn g;refine(V K).mono ?_;rintro e Q ⟨rfl,b1⟩);have U:=O (x0b (V S) b1)
        go_roundw
        case rel=>exact⟨k+1,g2A,f6J,V x,V U⟩
        case measure=>exact g7T
    · have n:=O (V l fun q h=>m q f6J)
      have r:¬((k:Int)<X.length):=f6J;exact f6E
theorem z7M(g:Nat) F C(D:∀args w,(callFunc g args).run prog w=.ok (.enter g args) w)(p:Int->Bool) xv X w(J:Sk .i32 w xv X)(B:∀k,k<X.length->∀W,Bw w W->Calls prog g (F++#[.int .i32 (X.getD k 0)]++C) W (x0c W (p (X.getD k 0)))) :
    Calls prog 108 #[xv,.func (.func g) F C] w (x0c w (X.any p)):=by
  have K:=O (idx18 g F C D p xv X w J B);obtain⟨R,M,rfl,_,_⟩:=J.shape;generalize X.any p=Y at *;go_enter func108,ntmps108;go_wp2_with fail;refine(V K).mono ?_;rintro e Q ⟨n,rfl,E,b1⟩;subst E;go_wp2;go_ret;exact⟨rfl,b1⟩
theorem z2H c w:Calls prog 212 #[.int .i32 c] w (x0c w (!Lb.ldh c)):=by
  by_cases Z:97<=c<;>by_cases D:c<=122<;>by_cases R:48<=c<;>by_cases H:c<=57<;>by_cases B:c=45
  all_goals first
    | omega
    | (have E:∃b,(!Lb.ldh c)=b:=⟨_,rfl⟩
       obtain⟨b,E⟩:=E;rw[E];unfold Lb.ldh at E;simp only[Z,D,R,H,B,decide_true,decide_false,Bool.and_true,Bool.and_false,Bool.or_true,Bool.or_false,Bool.not_true,Bool.not_false]at E;subst E;have F:(c==45)=decide (c=45):=rfl;simp only[B,decide_true,decide_false]at F;have C:(c != 45)=!decide (c=45):=rfl;simp only[B,decide_true,decide_false,Bool.not_true,Bool.not_false]at C;go_enter func212,ntmps212;go_wp2;go_ret
       exact⟨rfl,b0r⟩)
theorem y0q:∀args w,(callFunc 211 args).run prog w=.ok (.enter 211 args) w:=f0h
theorem y2g:∀args w,(callFunc 210 args).run prog w=.ok (.enter 210 args) w:=f0h
structure PLbC(p:Nat)(xv:Value)(X:List Int)(o:Lb.Of)(w0:World):Prop where
 i:∀W,Below w0.heap.size w0 W->Calls prog 204 #[.pointer (some ⟨p,0,none⟩),xv] W (fun e w'=>e=.returned (.tuple #[.bool o.nf,.int .i64 0])/\Below W.heap.size W w')
 m:∀c,Rune c->∀W,Below w0.heap.size w0 W->Calls prog 209 #[.pointer (some ⟨p,0,none⟩),.int .i32 c] W (x0c W (o.mrk c))
 s:∀c,Rune c->∀W,Below w0.heap.size w0 W->Calls prog 94 #[.pointer (some ⟨p,0,none⟩),.int .i32 c] W (IntB W (o.st c))
 j:∃n:Int,decide (0<=n)=o.jn/\∀W,Below w0.heap.size w0 W->Calls prog 213 #[.pointer (some ⟨p,0,none⟩),xv] W (IntB W n)
 r:∃n:Int,(n != 0)=o.bi/\∀W,Below w0.heap.size w0 W->Calls prog 214 #[.pointer (some ⟨p,0,none⟩),xv] W (IntB W n)
theorem PLbC.on{p xv X o}{w W}(h:PLbC p xv X o w)(Y:Bw w W):PLbC p xv X o W:=by
 obtain⟨n,E,K⟩:=h.j;obtain⟨m,z,u⟩:=h.r;exact⟨fun A t=>h.i A (x0b Y t),fun c I A t=>h.m c I A (x0b Y t),fun c I A t=>h.s c I A (x0b Y t),⟨n,E,fun A t=>K A (x0b Y t)⟩,⟨m,z,fun A t=>u A (x0b Y t)⟩⟩
theorem lit18(W:World) zs n(E:zs.length=n)(A:0<n)(U:n<=100) C(y:C=(zs.map (Value.int .i32)).toArray)(B:∀z∈zs,-2147483648<=z/\z<=2147483647):Sk .i32 (W.alloc (.cells C 21)) (.slice (some ⟨W.heap.size,0,none⟩) n n) zs:=by
 have h:Ok .i32 21 (W.alloc (.cells C 21)) W.heap.size (.slice (some ⟨W.heap.size,0,none⟩) n n) zs:=by
  refine Ok.of (n:=n) (us:=zs.map (Value.int .i32)) (fun z h=>B z h) f6J ⟨by simp[E],Or.inr ⟨W.heap.size,n,C,rfl,l0r _,World.alloc_heap_new W _,l0r _,T7W,by rw[y];simp[E],S8u⟩⟩ E.symm rfl
 exact h.sk
theorem y4Y{X}(h:4<=X.length):decide (X.take 4=[120,110,45,45])=Lb.x2B X:=by
 match X,h with
 | a::b::c::d::l,_=>simp[Lb.x2B]
theorem z3I{w xv X}(J:Sk .i32 w xv X):Calls prog 104 #[xv] w (x0c w (Lb.x2B X)):=by
 have A:∀o,Bw w (w.alloc o):=fun o=>(b0r).alloc (l0r _) o;have s:=J.len;obtain⟨R,M,rfl,D,q⟩:=J.shape;by_cases H:X.length<4
 ·have E:Lb.x2B X=false:=(by unfold Lb.x2B;rw[d0f f6J];rfl);rw[E];have r:¬((4:Int)<=X.length):=f6J;go_enter func104,ntmps104;go_wp2;go_ret;exact⟨rfl,A _⟩
 ·have r:(4:Int)<=X.length:=f6J;have F:=(J.below (A (.cells #[.int .i32 120,.int .i32 110,.int .i32 45,.int .i32 45] 21))).head (k:=4) f6J D;have K:=O (x8P _ _ _ _ _ F (lit18 w [120,110,45,45] 4 rfl f6J f6J #[.int .i32 120,.int .i32 110,.int .i32 45,.int .i32 45] rfl M7L));rw[y4Y f6J]at K;go_enter func104,ntmps104;go_wp2_with fail;refine c0m K fun Q b1=>?_;have B:=O (x0b (A _) (x0k b1));go_wp2;go_ret;exact⟨rfl,V B⟩
theorem ctn18 v xv X w(J:Sk .i32 w xv X):Calls prog 254 #[xv,.int .i32 v] w (IdxB w (X.any fun c=>decide (v=c))):=by
 have s:=J.len
 have C:Hid (∀(k:Nat),k<X.length->∃b P M,xv=.slice (some ⟨b,P,none⟩) X.length M/\w.cell? ⟨b,P+k,none⟩=some (.int .i32 (X.getD k 0))):=fun k G=>by
  obtain⟨b,P,M,d,_,_,I⟩:=J.place f6J;exact⟨b,P,M,d,I k G⟩
 have l:Hid ((∀q,q<X.length->decide (v=X.getD q 0)=false)->(X.any fun c=>decide (v=c))=false):=fun h=>Bd.y6V h;have E:Hid (∀q,q<X.length->decide (v=X.getD q 0)=true->(X.any fun c=>decide (v=c))=true):=fun q m h=>Bd.y1O (f:=fun c=>decide (v=c)) m h;obtain⟨R,M,rfl,_,_⟩:=J.shape;go_enter func254,ntmps254;go_wp2;go_loopw[5,8] (fun _ Z wr=>∃k:Nat,Z=.int .i64 k/\k<=X.length/\(∀q,q<k->decide (v=X.getD q 0)=false)/\wr=w) (fun _ Z _=>X.length-(intOf Z).toNat)
 case atStart=>exact⟨0,rfl,f6J,fun q h=>absurd h f6J,rfl⟩
 case round =>
  obtain⟨k,rfl,G,m,rfl⟩:=hrel;by_cases H:k<X.length
  ·have r:(k:Int)<X.length:=f6J;obtain⟨b1,P,A,d,g⟩:=V C k H;simp only[Value.slice.injEq]at d;obtain⟨rfl,-,rfl⟩:=d;have D:=O (V E k H)
   have T:Hid (decide (v=X.getD k 0)=false->∀q,q<k+1->decide (v=X.getD q 0)=false):=fun h q Y=>F6F
   have F:(v==X.getD k 0)=decide (v=X.getD k 0):=rfl;generalize decide (v=X.getD k 0)=z at *;generalize X.getD k 0=c at *
   cases z with
   | true =>
    have n:=O (V D rfl);go_wp2;go_ret;exact⟨_,rfl,t3d,b0r⟩
   | false =>
    have x:=O (V T rfl);go_wp2
    go_roundw
    case rel=>exact⟨k+1,g2A,f6J,V x,trivial⟩
    case measure=>exact g7T
  ·have n:=O (V l fun q h=>m q f6J);have r:¬((k:Int)<X.length):=f6J;go_wp2;go_ret;exact⟨_,rfl,by rw[V n];rfl,b0r⟩
theorem cnt18 v xv X w(J:Sk .i32 w xv X):Calls prog 208 #[xv,.int .i32 v] w (x0c w (X.any fun c=>decide (v=c))):=by
 have K:=O (ctn18 v xv X w J);obtain⟨R,M,rfl,_,_⟩:=J.shape;generalize(X.any fun c=>decide (v=c))=Y at *;go_enter func208,ntmps208;go_wp2_with fail;refine(V K).mono ?_;rintro e Q ⟨n,rfl,E,b1⟩;subst E;go_wp2;go_ret;exact⟨rfl,b1⟩
section
variable {w:World} {L p:Nat} {xv:Value} {fl:Int} {rtl dec:Bool} {X:List Int} {o:Lb.Of}
def hat18(X:List Int)(i:Nat):Bool:=decide (i<X.length)&&decide (X.getD i 0=45)
theorem y8A(h:LbH w L p xv fl rtl dec)(J:Sk .i32 w xv X)(i:Nat)(hi:i<1000000000):Calls prog 206 #[.pointer (some ⟨L,0,none⟩),.int .i64 i] w (Sm18 (.bool (hat18 X i)) w):=by
 have u:=h.c1;have s:=J.len;by_cases S:i<X.length
 ·obtain⟨b,P,M,rfl,_,_,I⟩:=J.place f6J;have g:=I i S;have r:(i:Int)<X.length:=f6J;have E:hat18 X i=decide (X.getD i 0=45):=(by unfold hat18;rw[d0t S];rfl);rw[E];clear h J I E;have B:(X.getD i 0==45)=decide (X.getD i 0=45):=rfl;generalize decide (X.getD i 0=45)=z at *;generalize X.getD i 0=c at *;go_enter func206,ntmps206;exact t6v
 ·obtain⟨R,M,rfl,_,_⟩:=J.shape;have r:¬((i:Int)<X.length):=f6J;have E:hat18 X i=false:=(by unfold hat18;rw[d0f S];rfl);rw[E];clear h J E;go_enter func206,ntmps206;exact t6v
theorem z7O(h:LbH w L p xv fl rtl dec)(J:Sk .i32 w xv X)(a:PLbC p xv X o w):Calls prog 157 #[.pointer (some ⟨L,0,none⟩)] w (IntB w (x3f (!o.nf) 4)):=by
 have H:=O fun W (t:Bw w W)=>(h.below t).c0;have N:=O fun W (t:Bw w W)=>(h.below t).c1;have K:=O a.i;have q:=O (fun b W=>x4D b 4 W);obtain⟨R,M,rfl,_,_⟩:=J.shape;have I:Bw w w:=b0r;have Y:=I.drew;clear h a J;generalize o.nf=z at *;go_enter func157,ntmps157;go_wp2_with fail;go_region_held3(fun l=>l.cell? ⟨L,0,none⟩=some (.pointer (some ⟨p,0,none⟩))/\l.cell? ⟨L,1,none⟩=some (.slice R X.length M)/\Bw w l) (first| exact⟨V H _ W8V,V N _ W8V,W8V⟩|(have D:=x0b Y W8V;exact⟨V H _ D,V N _ D,D⟩) | go_keep) (first| (go_at_call 204;refine(V K _ W8V).mono ?_;rintro e Q ⟨rfl,b1⟩;have E:=x0b (W8V:Bw w _) b1));have B:=O E;clear K H N E b1 Y I;cases z<;>
 ·go_wp2_with fail;refine(V q _ _).mono ?_;rintro e d ⟨rfl,rfl⟩;clear q;exact r0p
theorem z5G{X}(A:0<X.length):Lb.hyp X=((hat18 X 0||hat18 X (X.length-1))||(hat18 X 2&&hat18 X 3)):=by
 unfold Lb.hyp hat18;rw[d0t A,d0t (f6J:X.length-1<X.length),Bool.true_and,Bool.true_and,Bool.or_assoc];by_cases h:4<=X.length
 ·rw[d0t h,d0t (f6J:2<X.length),d0t (f6J:3<X.length)];simp
 ·rw[d0f h,d0f (f6J:¬3<X.length)];simp
theorem y3O(h:LbH w L p xv fl rtl dec)(J:Sk .i32 w xv X) i(A:0<=i)(Z:i<1000000000):Calls prog 206 #[.pointer (some ⟨L,0,none⟩),.int .i64 i] w (Sm18 (.bool (hat18 X i.toNat)) w):=by
 have:=y8A h J i.toNat f6J;rw[(f6J:((i.toNat:Nat):Int)=i)]at this;exact this
theorem z7P(h:LbH w L p xv fl rtl dec)(J:Sk .i32 w xv X)(A:0<X.length)(F:X.length<=65536):Calls prog 158 #[.pointer (some ⟨L,0,none⟩)] w (IntB w (x3f (Lb.flg fl 1&&Lb.hyp X) 8)):=by
 have u:=h.c1;rw[z5G A];obtain⟨m,z⟩:∃m:Int,m=(X.length:Int)-1:=⟨_,rfl⟩;have t:IntKind.i64.wrap ((X.length:Int)-1)=m:=s7B;have T:=y3O h J 0 f6J f6J;have Y:=y3O h J m f6J f6J;have I:=y3O h J 2 f6J f6J;have hd:=y3O h J 3 f6J f6J;rw[(f6J:m.toNat=X.length-1)]at Y;obtain⟨g,C⟩:∃g:Int->Bool,g 0=hat18 X 0/\g m=hat18 X (X.length-1)/\g 2=hat18 X 2/\g 3=hat18 X 3:=⟨fun i=>hat18 X i.toNat,rfl,by show hat18 X m.toNat=_;rw[(f6J:m.toNat=X.length-1)],rfl,rfl⟩
 have l:Hid (∀i,i=0\/i=m\/i=2\/i=3->Calls prog 206 #[.pointer (some ⟨L,0,none⟩),.int .i64 i] w (Sm18 (.bool (g i)) w)):=fun i hi=>by
  rcases hi with rfl|rfl|rfl|rfl
  ·rw[C.1];exact T
  ·rw[C.2.1];exact Y
  ·rw[C.2.2.1];exact I
  ·rw[C.2.2.2];exact hd
 rw[<- C.1,<- C.2.1,<- C.2.2.1,<- C.2.2.2];have P:=O (y5s h 1);have q:=O (fun b W=>x4D b 8 W);obtain⟨R,M,rfl,_,_⟩:=J.shape;clear h J T Y I hd C;have U:(0:Int)=0\/(0:Int)=m\/(0:Int)=2\/(0:Int)=3:=.inl rfl;have K:m=0\/m=m\/m=2\/m=3:=.inr (.inl rfl);have N:(2:Int)=0\/(2:Int)=m\/(2:Int)=2\/(2:Int)=3:=.inr (.inr (.inl rfl));have D:(3:Int)=0\/(3:Int)=m\/(3:Int)=2\/(3:Int)=3:=.inr (.inr (.inr rfl));have B:=O (V l 0 U);have H:=O (V l m K);have S:=O (V l 2 N);have G:=O (V l 3 D);clear l z U K N D;generalize g 0=a,g m=b,g 2=c,g 3=d,Lb.flg fl 1=f at *;go_enter func158,ntmps158;go_wp2_with fail;refine(V B).mono ?_;rintro e Q ⟨rfl,rfl⟩;clear B;cases a
 ·go_wp2_with fail;refine(V H).mono ?_;rintro e Q ⟨rfl,rfl⟩;clear H;go_wp2_with fail;refine(V S).mono ?_;rintro e Q ⟨rfl,rfl⟩;clear S;cases b<;>cases c<;>cases f<;>
  ·exact e6A
 ·clear H;go_wp2_with fail;refine(V S).mono ?_;rintro e Q ⟨rfl,rfl⟩;clear S;cases c<;>cases f<;>
  ·exact e6A
end
section
variable {w:World} {L p:Nat} {xv:Value} {fl:Int} {rtl dec:Bool} {X:List Int} {o:Lb.Of}
theorem z7Q(h:LbH w L p xv fl rtl dec)(J:Sk .i32 w xv X):Calls prog 159 #[.pointer (some ⟨L,0,none⟩)] w (IntB w (x3f (!Lb.flg fl 1&&Lb.x2B X) 16)):=by
 have u:=h.c1;have K:=O (z3I J);have P:=O (y5s h 1);have q:=O (fun b W=>x4D b 16 W);obtain⟨R,M,rfl,_,_⟩:=J.shape;have E:Bw w w:=b0r;generalize Lb.flg fl 1=f at *;cases f
 ·go_enter func159,ntmps159;exact T7I
 ·go_enter func159,ntmps159;exact v8j
theorem z7R(h:LbH w L p xv fl rtl dec)(J:Sk .i32 w xv X):Calls prog 160 #[.pointer (some ⟨L,0,none⟩)] w (IntB w (x3f (X.any fun c=>decide (46=c)) 32)):=by
 have u:=h.c1;have K:=O (cnt18 46 xv X w J);have q:=O (fun b W=>x4D b 32 W);obtain⟨R,M,rfl,_,_⟩:=J.shape;go_enter func160,ntmps160;go_wp2_with(first| (refine(V K).mono ?_;rintro e d ⟨rfl,m⟩)|(refine(V q _ _).mono ?_;rintro e Q ⟨rfl,rfl⟩));go_ret;exact⟨rfl,m⟩
theorem ws18(h:LbH w L p xv fl rtl dec)(a:PLbC p xv X o w){c}(I:Rune c):Calls prog 210 #[.pointer (some ⟨L,0,none⟩),.int .i32 c] w (x0c w (Lb.bst o fl dec c)):=by
 have x:=h.c0;have K:=O (a.s c I w (b0r));have B:Hid (∀W,Bw w W->Calls prog 207 #[.pointer (some ⟨L,0,none⟩),.int .i64 16] W (Sm18 (.bool (Lb.flg fl 16)) W)/\W.cell? ⟨L,4,none⟩=some (.bool dec)):=fun W t=>⟨y5s (h.below t) 16,(h.below t).c4⟩;have E:Hid (Lb.bst o fl dec c=(decide (o.st c≠1)&&(decide (o.st c≠4)||(Lb.flg fl 16&&!dec)))):=rfl;generalize Lb.bst o fl dec c=bb,Lb.flg fl 16=f,o.st c=k at *;by_cases Z:k=1
 ·subst Z;obtain rfl:bb=false:=V E;go_enter func210,ntmps210;exact F9x
 ·by_cases H:k=4
  ·subst H;obtain rfl:bb=(f&&!dec):=V E;go_enter func210,ntmps210;go_wp2_with fail;refine c0m K fun Q b1=>?_;have P:=O (V B Q b1).1;have g:=(V B Q b1).2;cases f<;>
   ·go_wp2_with(refine(V P).mono ?_;rintro e Q ⟨rfl,rfl⟩);go_ret;exact⟨rfl,b1⟩
  ·have U:(k==1)=false:=W2z;have d:(k==4)=false:=(by grind);obtain rfl:bb=true:=(by rw[V E,d0t Z,d0t H];rfl);go_enter func210,ntmps210;exact F9x
theorem z7T(h:LbH w L p xv fl rtl dec)(J:Sk .i32 w xv X)(a:PLbC p xv X o w):Calls prog 162 #[.pointer (some ⟨L,0,none⟩)] w (IntB w (x3f (X.any (Lb.bst o fl dec)) 128)):=by
 have j:∀(fn:Fn) (first M:Array Value) (w:World),(Instr.makeFunc fn first M).run prog w=.ok (.func fn first M) w:=fun _ _ _ _=>rfl;have u:=h.c1;have K:=O (z7M 210 #[.pointer (some ⟨L,0,none⟩)] #[] y2g (Lb.bst o fl dec) xv X w J fun k G W t=>ws18 (h.below t) (a.on t) (x1c J G));have q:=O (fun b W=>x4D b 128 W);obtain⟨R,M,rfl,_,_⟩:=J.shape;go_enter func162,ntmps162;go_wp2_with(first| (refine(V K).mono ?_;rintro e d ⟨rfl,m⟩)|(refine(V q _ _).mono ?_;rintro e Q ⟨rfl,rfl⟩));go_ret;exact⟨rfl,m⟩
theorem z6O c w:Calls prog 211 #[.int .i32 c] w (x0c w (decide (c<128)&&!Lb.ldh c)):=by
 have K:=O (z2H c w);by_cases I:c<128
 ·rw[d0t I];go_enter func211,ntmps211;exact F9x
 ·rw[d0f I];go_enter func211,ntmps211;exact T8v
theorem z7U(h:LbH w L p xv fl rtl dec)(J:Sk .i32 w xv X):Calls prog 163 #[.pointer (some ⟨L,0,none⟩)] w (IntB w (x3f (Lb.flg fl 8&&X.any fun c=>decide (c<128)&&!Lb.ldh c) 256)):=by
 have j:∀(fn:Fn) (first M:Array Value) (w:World),(Instr.makeFunc fn first M).run prog w=.ok (.func fn first M) w:=fun _ _ _ _=>rfl;have u:=h.c1;have K:=O (z7M 211 #[] #[] y0q (fun c=>decide (c<128)&&!Lb.ldh c) xv X w J fun k _ W _=>z6O (X.getD k 0) W);have P:=O (y5s h 8);have q:=O (fun b W=>x4D b 256 W);obtain⟨R,M,rfl,_,_⟩:=J.shape;have E:Bw w w:=b0r;generalize Lb.flg fl 8=f at *;cases f
 ·go_enter func163,ntmps163;exact v8j
 ·go_enter func163,ntmps163;exact T7I
end
section
variable {w:World} {L p:Nat} {xv:Value} {fl:Int} {rtl dec:Bool} {X:List Int} {o:Lb.Of}
theorem z7S(h:LbH w L p xv fl rtl dec)(J:Sk .i32 w xv X)(A:0<X.length)(a:PLbC p xv X o w):Calls prog 161 #[.pointer (some ⟨L,0,none⟩)] w (IntB w (x3f (o.mrk (X.getD 0 0)) 64)):=by
 have s:=J.len;have H:=O fun W (t:Bw w W)=>(h.below t).c0;have N:=O fun W (t:Bw w W)=>(h.below t).c1;have K:=O (a.m (X.getD 0 0) (x1c J A));have q:=O (fun b W=>x4D b 64 W);obtain⟨b,P,M,rfl,_,_,G⟩:=J.place f6J
 have C:Hid (∀W,Bw w W->W.cell? ⟨b,P,none⟩=some (.int .i32 (X.getD 0 0))):=fun W t=>by
  rw[t.cell (x0a (G 0 A))];exact G 0 A
 have I:Bw w w:=b0r;have Y:=I.drew;have r:(0:Int)<X.length:=f6J;clear h a J G;generalize o.mrk (X.getD 0 0)=z at *;generalize X.getD 0 0=c at *;go_enter func161,ntmps161;go_wp2_with fail;go_region_held3(fun l=>l.cell? ⟨L,0,none⟩=some (.pointer (some ⟨p,0,none⟩))/\l.cell? ⟨L,1,none⟩=some (.slice (some ⟨b,P,none⟩) X.length M)/\l.cell? ⟨b,P,none⟩=some (.int .i32 c)/\Bw w l) (first| exact⟨V H _ W8X,V N _ W8X,V C _ W8X,W8X⟩|(have D:=x0b Y W8X;exact⟨V H _ D,V N _ D,V C _ D,D⟩) | go_keep) (first| (go_at_call 209;refine(V K _ W8X).mono ?_;rintro e Q ⟨rfl,b1⟩;have E:=x0b (W8X:Bw w _) b1)|(go_at_call 205;refine(V q _ _).mono ?_;rintro e d ⟨rfl,rfl⟩));have B:=O E;clear K H N C E b1 Y I q;exact r0p
theorem z7V(h:LbH w L p xv fl rtl dec)(J:Sk .i32 w xv X)(a:PLbC p xv X o w):Calls prog 164 #[.pointer (some ⟨L,0,none⟩)] w (IntB w (x3f (Lb.flg fl 4&&o.jn) 512)):=by
 obtain⟨n,E,D⟩:=a.j;have H:=O fun W (t:Bw w W)=>(h.below t).c0;have N:=O fun W (t:Bw w W)=>(h.below t).c1;have C:=O fun W (t:Bw w W)=>(h.below t).c3;have P:=O fun W (t:Bw w W)=>y5s (h.below t) 4;have A:=O D;have q:=O (fun b W=>x4D b 512 W);obtain⟨R,M,rfl,_,_⟩:=J.shape;have Y:Bw w w.drew:=(b0r).drew;rw[<- E];clear h a J D E;generalize Lb.flg fl 4=f at *;cases f
 ·go_enter func164,ntmps164;go_wp2_with fail;refine wp_region_held_drew (S:=fun l=>Bw w l) f4x (Y) (fun hHeld=>?_);refine tk9 0 (.pointer (some ⟨L,0,none⟩)) ?_;refine rd9 1 fun K hK=>?_;go_simp;refine(V P _ hHeld).mono ?_;rintro e Q ⟨rfl,rfl⟩;go_wp2_with fail;refine hK.out _ _ ?_ (fun hHeld=>?_)
  ·exact hHeld
  clear hK K
  try simp only[Act.put,sa9,sb9,sc9]
  refine tk9 2 (.bool false) ?_;refine tn9 3 ?_;refine tn9 4 ?_;refine tn9 5 ?_;refine tn9 6 ?_;refine tn9 7 ?_;refine tn9 8 ?_;refine tn9 9 ?_;refine tn9 10 ?_;refine tn9 11 ?_;refine tn9 12 ?_;refine tk9 13 (.bool false) ?_;refine rd9 14 fun K hK=>?_;go_simp;refine(V q _ _).mono ?_;rintro e x ⟨rfl,rfl⟩;go_wp2_with fail;refine hK.out _ _ ?_ (fun hHeld=>?_)
  ·exact hHeld
  clear hK K
  try simp only[Act.put,sa9,sb9,sc9]
  refine tk9 15 (.int .i64 (x3f (false) 512)) ?_;exact S4i
 ·go_enter func164,ntmps164;go_wp2_with fail;refine wp_region_held_drew (S:=fun l=>Bw w l) f4x (Y) (fun hHeld=>?_);refine tk9 0 (.pointer (some ⟨L,0,none⟩)) ?_;refine rd9 1 fun K hK=>?_;go_simp;refine(V P _ hHeld).mono ?_;rintro e Q ⟨rfl,rfl⟩;go_wp2_with fail;refine hK.out _ _ ?_ (fun hHeld=>?_)
  ·exact hHeld
  clear hK K
  try simp only[Act.put,sa9,sb9,sc9]
  refine tk9 2 (.bool true) ?_;refine tk9 3 (.pointer (some ⟨L,0,none⟩)) ?_;refine tk9 4 (.pointer (some ⟨L,0,none⟩)) ?_;refine tk9 5 (.pointer (some ⟨L,0,none⟩)) ?_;refine tk9 6 (.pointer (some ⟨p,0,none⟩)) ?_ (hy:=T0o);refine tk9 7 (.pointer (some ⟨L,0,none⟩)) ?_;refine tk9 8 (.pointer (some ⟨L,0,none⟩)) ?_;refine tk9 9 (.pointer (some ⟨L,1,none⟩)) ?_;refine tk9 10 (.slice R X.length M) ?_ (hy:=M4q);refine rd9 11 fun K hK=>?_;go_simp;refine c1m (V A _ hHeld) fun d m=>?_;go_wp2_with fail;refine hK.out _ _ ?_ (fun hHeld=>?_)
  ·exact x0b hHeld m
  clear hK K
  try simp only[Act.put,sa9,sb9,sc9]
  refine tk9 12 (.bool (decide (0<=n))) ?_;refine tk9 13 (.bool (decide (0<=n))) ?_;refine rd9 14 fun K hK=>?_;go_simp;refine(V q _ _).mono ?_;rintro e x ⟨rfl,rfl⟩;go_wp2_with fail;refine hK.out _ _ ?_ (fun hHeld=>?_)
  ·exact hHeld
  clear hK K
  try simp only[Act.put,sa9,sb9,sc9]
  refine tk9 15 (.int .i64 (x3f ((decide (0<=n))) 512)) ?_;exact S4i
theorem z7W(h:LbH w L p xv fl rtl dec)(J:Sk .i32 w xv X)(a:PLbC p xv X o w):Calls prog 165 #[.pointer (some ⟨L,0,none⟩)] w (IntB w (x3f ((Lb.flg fl 2&&rtl)&&o.bi) 1024)):=by
 obtain⟨n,E,D⟩:=a.r;have H:=O fun W (t:Bw w W)=>(h.below t).c0;have N:=O fun W (t:Bw w W)=>(h.below t).c1;have C:=O fun W (t:Bw w W)=>(h.below t).c3;have P:=O fun W (t:Bw w W)=>y5s (h.below t) 2;have A:=O D;have q:=O (fun b W=>x4D b 1024 W);obtain⟨R,M,rfl,_,_⟩:=J.shape;have Y:Bw w w.drew:=(b0r).drew;rw[<- E];clear h a J D E;generalize Lb.flg fl 2=f at *;cases f
 ·go_enter func165,ntmps165;go_wp2_with fail;refine wp_region_held_drew (S:=fun l=>Bw w l) f4x (Y) (fun hHeld=>?_);refine tk9 0 (.pointer (some ⟨L,0,none⟩)) ?_;refine rd9 1 fun K hK=>?_;go_simp;refine(V P _ hHeld).mono ?_;rintro e Q ⟨rfl,rfl⟩;go_wp2_with fail;refine hK.out _ _ ?_ (fun hHeld=>?_)
  ·exact hHeld
  clear hK K
  try simp only[Act.put,sa9,sb9,sc9]
  refine tk9 2 (.bool false) ?_;refine tn9 3 ?_;refine tn9 4 ?_;refine tn9 5 ?_;refine tn9 6 ?_;exact i4q
 cases rtl
 ·go_enter func165,ntmps165;go_wp2_with fail;refine wp_region_held_drew (S:=fun l=>Bw w l) f4x (Y) (fun hHeld=>?_);refine tk9 0 (.pointer (some ⟨L,0,none⟩)) ?_;refine rd9 1 fun K hK=>?_;go_simp;refine(V P _ hHeld).mono ?_;rintro e Q ⟨rfl,rfl⟩;go_wp2_with fail;refine hK.out _ _ ?_ (fun hHeld=>?_)
  ·exact hHeld
  clear hK K
  try simp only[Act.put,sa9,sb9,sc9]
  refine tk9 2 (.bool true) ?_;refine tk9 3 (.pointer (some ⟨L,0,none⟩)) ?_;refine tk9 4 (.pointer (some ⟨L,0,none⟩)) ?_;refine tk9 5 (.pointer (some ⟨L,3,none⟩)) ?_;refine tk9 6 (.bool false) ?_ (hy:=F0C);exact i4q
 ·go_enter func165,ntmps165;go_wp2_with fail;refine wp_region_held_drew (S:=fun l=>Bw w l) f4x (Y) (fun hHeld=>?_);refine tk9 0 (.pointer (some ⟨L,0,none⟩)) ?_;refine rd9 1 fun K hK=>?_;go_simp;refine(V P _ hHeld).mono ?_;rintro e Q ⟨rfl,rfl⟩;go_wp2_with fail;refine hK.out _ _ ?_ (fun hHeld=>?_)
  ·exact hHeld
  clear hK K
  try simp only[Act.put,sa9,sb9,sc9]
  refine tk9 2 (.bool true) ?_;refine tk9 3 (.pointer (some ⟨L,0,none⟩)) ?_;refine tk9 4 (.pointer (some ⟨L,0,none⟩)) ?_;refine tk9 5 (.pointer (some ⟨L,3,none⟩)) ?_;refine tk9 6 (.bool true) ?_ (hy:=F0C);refine tk9 7 (.bool true) ?_;refine tk9 8 (.bool true) ?_;refine tk9 9 (.pointer (some ⟨L,0,none⟩)) ?_;refine tk9 10 (.pointer (some ⟨L,0,none⟩)) ?_;refine tk9 11 (.pointer (some ⟨L,0,none⟩)) ?_;refine tk9 12 (.pointer (some ⟨p,0,none⟩)) ?_ (hy:=T0o);refine tk9 13 (.pointer (some ⟨L,0,none⟩)) ?_;refine tk9 14 (.pointer (some ⟨L,0,none⟩)) ?_;refine tk9 15 (.pointer (some ⟨L,1,none⟩)) ?_;refine tk9 16 (.slice R X.length M) ?_ (hy:=M4q);refine rd9 17 fun K hK=>?_;go_simp;refine c1m (V A _ hHeld) fun d m=>?_;go_wp2_with fail;refine hK.out _ _ ?_ (fun hHeld=>?_)
  ·exact x0b hHeld m
  clear hK K
  try simp only[Act.put,sa9,sb9,sc9]
  refine tk9 18 (.bool (n != 0)) ?_;refine tk9 19 (.bool (n != 0)) ?_;refine rd9 20 fun K hK=>?_;go_simp;refine(V q _ _).mono ?_;rintro e x ⟨rfl,rfl⟩;go_wp2_with fail;refine hK.out _ _ ?_ (fun hHeld=>?_)
  ·exact hHeld
  clear hK K
  try simp only[Act.put,sa9,sb9,sc9]
  refine tk9 21 (.int .i64 (x3f ((n != 0)) 1024)) ?_;refine wpAnyH_done f4x ?_ _;go_wp2;go_ret;exact⟨rfl,hHeld⟩
end
namespace Lb
variable {o:Of} {fl:Int} {dec rtl:Bool} {X:List Int}
def part(o:Of)(fl:Int)(rtl dec:Bool)(X:List Int):Nat->Nat
 | 0=>if(!o.nf)=true then 4 else 0
 | 1=>if(flg fl 1&&hyp X)=true then 8 else 0
 | 2=>if(!flg fl 1&&x2B X)=true then 16 else 0
 | 3=>if(X.any fun c=>decide (46=c))=true then 32 else 0
 | 4=>if o.mrk (X.getD 0 0)=true then 64 else 0
 | 5=>if X.any (bst o fl dec)=true then 128 else 0
 | 6=>if(flg fl 8&&X.any fun c=>decide (c<128)&&!ldh c)=true then 256 else 0
 | 7=>if(flg fl 4&&o.jn)=true then 512 else 0
 | 8=>if((flg fl 2&&rtl)&&o.bi)=true then 1024 else 0
 | _=>0
def acc(f:Nat->Nat):Nat->Nat
 | 0=>0
 | k+1=>acc f k|||f k
theorem y9G k:part o fl rtl dec X k<2^11:=by
 unfold part
 split<;>first| exact x3i e8M e8M | decide
theorem x6j:∀k,acc (part o fl rtl dec X) k<2^11
 | 0=>by show 0<2^11;exact e8M
 | k+1=>Nat.or_lt_two_pow (x6j k) (y9G k)
theorem y9s i:(num o fl dec X).testBit i=((if(X.any fun c=>decide (46=c))=true then 32 else 0)|||(if X.any (bst o fl dec)=true then 128 else 0)|||(if(flg fl 8&&X.any fun c=>decide (c<128)&&!ldh c)=true then 256 else 0)).testBit i:=by
 rw[z6n,Nat.testBit_or,Nat.testBit_or,x7T,x7T,x7T];simp only[Bool.decide_eq_true]
 induction X with
 | nil=>simp
 | cons c l ih =>
  rw[List.any_cons,ih];unfold nb;rw[Nat.testBit_or,Nat.testBit_or,x7T,x7T,x7T];have P:decide (c=46)=decide (46=c):=(by simp[eq_comm]);rw[P];unfold std;simp only[List.any_cons,Bool.decide_eq_true];simp only[Bool.and_or_distrib_left,Bool.and_or_distrib_right];ac_rfl
theorem z4y:acc (part o fl rtl dec X) 9=chk o fl rtl dec X:=by
 unfold chk hd;rw[Nat.eq_of_testBit_eq y9s];simp only[acc,part];cases e:flg fl 1
 ·grind
 ·grind
end Lb
def gk18:Nat->Nat
 | 0=>157
 | 1=>158
 | 2=>159
 | 3=>160
 | 4=>161
 | 5=>162
 | 6=>163
 | 7=>164
 | _=>165
def Crs18(w:World)(L s:Nat):Prop:=∀k,k<9->w.cell? ⟨s,k,none⟩=some (.func (.func (gk18 k)) #[.pointer (some ⟨L,0,none⟩)] #[])
theorem y5h{k}(G:k<9):∀args w,(callFunc (gk18 k) args).run prog w=.ok (.enter (gk18 k) args) w:=by
 match k,G with
 | 0,_=>exact enters_of func157 f4y rfl
 | 1,_=>exact enters_of func158 f4y rfl
 | 2,_=>exact enters_of func159 f4y rfl
 | 3,_=>exact enters_of func160 f4y rfl
 | 4,_=>exact enters_of func161 f4y rfl
 | 5,_=>exact enters_of func162 f4y rfl
 | 6,_=>exact enters_of func163 f4y rfl
 | 7,_=>exact enters_of func164 f4y rfl
 | 8,_=>exact enters_of func165 f4y rfl
 | n+9,h=>exact absurd h f6J
theorem z4R{w L p xv fl}{rtl dec X o}(h:LbH w L p xv fl rtl dec)(J:Sk .i32 w xv X)(A:0<X.length)(F:X.length<=65536)(a:PLbC p xv X o w){k}(G:k<9):Calls prog (gk18 k) #[.pointer (some ⟨L,0,none⟩)] w (IntB w ((Lb.part o fl rtl dec X k:Nat):Int)):=by
 have g:∀{m:Nat} {b:Bool} (n:Nat),Calls prog m #[.pointer (some ⟨L,0,none⟩)] w (IntB w (x3f b n))->Calls prog m #[.pointer (some ⟨L,0,none⟩)] w (IntB w ((if b=true then n else 0:Nat):Int)):=fun{m b} n h=>by
  have e:((if b=true then n else 0:Nat):Int)=x3f b n:=(by cases b<;>rfl);rw[e];exact h
 match k,G with
 | 0,_=>exact g 4 (z7O h J a)
 | 1,_=>exact g 8 (z7P h J A F)
 | 2,_=>exact g 16 (z7Q h J)
 | 3,_=>exact g 32 (z7R h J)
 | 4,_=>exact g 64 (z7S h J A a)
 | 5,_=>exact g 128 (z7T h J a)
 | 6,_=>exact g 256 (z7U h J)
 | 7,_=>exact g 512 (z7V h J a)
 | 8,_=>exact g 1024 (z7W h J a)
 | n+9,h=>exact absurd h f6J
def CrB18(w:World)(L:Nat)(e:Ending)(w':World):Prop:=∃s,e=.returned (.slice (some ⟨s,0,none⟩) 9 9)/\Crs18 w' L s/\Below w.heap.size w w'
theorem y5c L w:Calls prog 112 #[.pointer (some ⟨L,0,none⟩)] w (CrB18 w L):=by
 have j:∀(fn:Fn) (first M:Array Value) (w:World),(Instr.makeFunc fn first M).run prog w=.ok (.func fn first M) w:=fun _ _ _ _=>rfl;go_enter func112,ntmps112;go_wp2;go_ret;refine⟨w.heap.size,rfl,fun k G=>?_,(b0r).alloc (l0r _) _⟩
 match k,G with
 | 0,_=>exact i0N
 | 1,_=>exact i0N
 | 2,_=>exact i0N
 | 3,_=>exact i0N
 | 4,_=>exact i0N
 | 5,_=>exact i0N
 | 6,_=>exact i0N
 | 7,_=>exact i0N
 | 8,_=>exact i0N
 | n+9,h=>exact absurd h f6J
theorem z7D{w p xv X}{o}(a:PLbC p xv X o w)(J:Sk .i32 w xv X)(F:X.length<=65536) fl rtl dec:Calls prog 68 #[.pointer (some ⟨p,0,none⟩),xv,.int .i64 fl,.bool rtl,.bool dec] w (IntB w ((Lb.err o fl rtl dec X:Nat):Int)):=by
 have q:=J.len;unfold Lb.err;rcases Nat.eq_zero_or_pos X.length with h0|h0
 ·rw[if_pos h0];obtain⟨R,M,rfl,_,_⟩:=J.shape;rw[h0];clear a J;go_enter func68,ntmps68;go_wp2;go_ret;exact⟨rfl,b0r⟩
 ·rw[if_neg f6J,<- Lb.z4y];have b:((X.length:Int)==0)=false:=G9k;have A:∀o,Bw w (w.alloc o):=fun o=>(b0r).alloc (l0r _) o
  have v:Hid (LbH (w.alloc (.cells #[.pointer (some ⟨p,0,none⟩),xv,.int .i64 fl,.bool rtl,.bool dec] 178)) w.heap.size p xv fl rtl dec):=R0p
  have x:Hid (∀W k,Bw w W->LbH W w.heap.size p xv fl rtl dec->k<9->Calls prog (gk18 k) #[.pointer (some ⟨w.heap.size,0,none⟩)] W (IntB W ((Lb.part o fl rtl dec X k:Nat):Int))):=fun W k t z G=>z4R z (J.below t) h0 F (a.on t) G;have c:Hid (∀k,bits .or .i64 ((Lb.acc (Lb.part o fl rtl dec X) k:Nat):Int) ((Lb.part o fl rtl dec X k:Nat):Int)=((Lb.acc (Lb.part o fl rtl dec X) (k+1):Nat):Int)):=fun k=>Bd.or17 (Lb.x6j k) (Lb.y9G k);have j:Hid (Lb.acc (Lb.part o fl rtl dec X) 0=0):=rfl;have K:=O (fun W=>y5c w.heap.size W);have Y:=O (A (.cells #[.pointer (some ⟨p,0,none⟩),xv,.int .i64 fl,.bool rtl,.bool dec] 178));obtain⟨R,M,rfl,_,_⟩:=J.shape;clear a J A;generalize Lb.acc (Lb.part o fl rtl dec X)=B at *;generalize Lb.part o fl rtl dec X=E at *;go_enter func68,ntmps68;go_wp2_with fail;refine(V K _).mono ?_;rintro e Q ⟨s,rfl,I,b1⟩;have n:=O ((V v).below b1);have U:=O (x0b (V Y) b1);have C:=O I;clear K v Y I b1;go_wp2;go_loopw[12,14,28] (fun P _ Z wr=>∃k:Nat,P=.int .i64 ((B k:Nat):Int)/\Z=.int .i64 k/\k<=9/\Bw Q wr) (fun _ _ Z _=>9-(intOf Z).toNat)
  case atStart=>exact⟨0,by rw[V j];rfl,rfl,f6J,b0r⟩
  case round =>
   obtain⟨k,rfl,rfl,G,N⟩:=hrel;by_cases H:k<9
   ·have r:(k:Int)<9:=f6J;have u:wr.cell? ⟨s,k,none⟩=some (.func (.func (gk18 k)) #[.pointer (some ⟨w.heap.size,0,none⟩)] #[]):=(by rw[N.cell (x0a (V C k H))];exact V C k H);have l:=O (V x wr k (x0b (V U) N) ((V n).below N) H);have y:=O (V c k);have D:=y5h H;have S:=O N;clear N x c j C n U;generalize gk18 k=g at *;go_wp2_with(go_at_fn g;refine(V l).mono ?_;rintro e d ⟨rfl,m⟩);have i:=O (x0b (V S) m);clear l S m
    go_roundw
    case rel=>exact⟨k+1,by rw[V y],g2A,f6J,V i⟩
    case measure=>exact g7T
   ·obtain rfl:k=9:=f6J;have T:=O (x0b (V U) N);clear N x c j C n U;exact i9r
