/- Lemmas. -/
import Derived.Test.YtkfcabdmkmljjaaGreatDoorF4
import Derived.Deep.RegionHeld3
set_option maxHeartbeats 2000000
set_option maxRecDepth 8000
namespace Go.Proofs.YtkfcabdmkmljjaaGreatDoor
open Go.Proofs.Tryz
open Go.RowKit
section
variable{p:Prop}
theorem W8V(h:p:=by assumption):p:=h
theorem M0b(h:p:=by go_wp2_with(first| (refine(V q).mono ?_;rintro e Q ⟨rfl,rfl⟩)|(refine(V K).mono ?_;rintro e u ⟨rfl,i⟩)|(refine(V E _ _).mono ?_;rintro e Q ⟨rfl,rfl⟩));go_ret;exact⟨rfl,i⟩):p:=h
theorem F9x(h:p:=by go_wp2_with(refine(V K).mono ?_;rintro e Q ⟨rfl,b1⟩);go_ret;exact⟨rfl,b1⟩):p:=h
theorem r1Z(h:p:=by
 refine tk9 7 (.bool false) ?_;refine tk9 8 (.bool false) ?_;refine tn9 9 ?_;refine tn9 10 ?_;refine tn9 11 ?_;refine tn9 12 ?_;refine tn9 13 ?_;refine tn9 14 ?_;refine tn9 15 ?_;refine tn9 16 ?_;refine tn9 17 ?_;refine tn9 18 ?_;refine tk9 19 (.bool false) ?_;refine rd9 20 fun K hK=>?_;go_simp;refine(V E _ _).mono ?_;rintro e B ⟨rfl,rfl⟩;go_wp2_with fail;refine hK.out _ _ ?_ (fun hHeld=>?_)
 ·exact hHeld
 clear hK K
 try simp only[Act.put,sa9,sb9,sc9]
 refine tk9 21 (.int .i64 (x2P (false) 1024)) ?_;refine wpAnyH_done f4x ?_ _;go_wp2;go_ret;exact⟨rfl,hHeld⟩):p:=h
theorem S4i(h:p:=by refine wpAnyH_done f4x ?_ _;go_wp2;go_ret;exact⟨rfl,hHeld⟩):p:=h
theorem u5H(h:p:=by exact x4P _ _ rfl (by simp[gk18])):p:=h
theorem m7b(h:p:=by go_wp2_with(first| (refine(V q).mono ?_;rintro e Q ⟨rfl,rfl⟩)|(refine(V E _ _).mono ?_;rintro e Q ⟨rfl,rfl⟩));go_ret;exact⟨rfl,F⟩):p:=h
theorem i4X(h:p:=by go_wp2_with(first| (go_at_call 215;refine(V k).mono ?_;rintro e Q ⟨rfl,rfl⟩)|(go_at_call 216;refine(V q).mono ?_;rintro e Q ⟨rfl,rfl⟩)|(go_at_call 214;refine(V E _ _).mono ?_;rintro e Q ⟨rfl,rfl⟩));go_ret;exact⟨rfl,b0r⟩):p:=h
theorem W8X(h:p:=by assumption):p:=h
theorem M6P(h:p:=by(intro w hSw;have z:=V G _ hSw;go_simp)):p:=h
theorem u1U(h:p:=by
 rcases Nat.lt_or_ge q k with h1 | h1
 ·exact d q h1
 ·rw[(f6J:q=k)];exact h):p:=h
theorem I1m(h:p:=by(intro w hSw;have z:=V k _ hSw;go_simp)):p:=h
theorem t5M(h:p:=by(intro w hSw;have z:=V y _ hSw;go_simp)):p:=h
end
namespace Lb
def ldh(c:Int):Bool:=decide (97<=c)&&decide (c<=122)||(decide (48<=c)&&decide (c<=57)||decide (c=45))
def x2o(X:List Int):Bool:=decide (4<=X.length)&&(decide (X.getD 0 0=120)&&(decide (X.getD 1 0=110)&&(decide (X.getD 2 0=45)&&decide (X.getD 3 0=45))))
def flg(fl k:Int):Bool:=bits .and .i64 fl k != 0
def hyp(X:List Int):Bool:=decide (X.getD 0 0=45)||(decide (X.getD (X.length-1) 0=45)||(decide (4<=X.length)&&(decide (X.getD 2 0=45)&&decide (X.getD 3 0=45))))
structure Of where
 nf:Bool
 mrk:Int->Bool
 st:Int->Int
 jn:Bool
 bi:Bool
def bst(o:Of)(fl:Int)(dec:Bool)(c:Int):Bool:=decide (o.st c≠1)&&(decide (o.st c≠4)||(flg fl 16&&!dec))
def std(fl c:Int):Bool:=flg fl 8&&(decide (c<128)&&!ldh c)
def nb(o:Of)(fl:Int)(dec:Bool)(c:Int):Nat:=(if c=46 then 32 else 0)|||(if bst o fl dec c=true then 128 else 0)|||(if std fl c=true then 256 else 0)
def num(o:Of)(fl:Int)(dec:Bool)(X:List Int):Nat:=X.foldl (fun a c=>a|||nb o fl dec c) 0
def hd(o:Of)(fl:Int)(X:List Int):Nat:=(if o.nf=true then 0 else 4)|||(if flg fl 1=true then(if hyp X=true then 8 else 0)else(if x2o X=true then 16 else 0))|||(if o.mrk (X.getD 0 0)=true then 64 else 0)
def chk(o:Of)(fl:Int)(rtl dec:Bool)(X:List Int):Nat:=hd o fl X|||num o fl dec X|||(if(flg fl 4&&o.jn)=true then 512 else 0)|||(if(flg fl 2&&(rtl&&o.bi))=true then 1024 else 0)
variable {o:Of} {fl:Int} {dec rtl:Bool} {X:List Int}
theorem x2S{b:Prop}[Decidable b]{n m}(F:n<2^11)(A:m<2^11):(if b then n else m)<2^11:=by split<;>assumption
theorem nb_lt c:nb o fl dec c<2^11:=by
 unfold nb;exact Nat.or_lt_two_pow (Nat.or_lt_two_pow (x2S e8M e8M) (x2S e8M e8M)) (x2S e8M e8M)
theorem z6N(X:List Int):∀a,a<2^11->X.foldl (fun a c=>a|||nb o fl dec c) a<2^11:=by
 induction X with
 | nil=>intro a h;exact h
 | cons c l ih=>intro a h;exact ih _ (Nat.or_lt_two_pow h (nb_lt c))
theorem q0r X:num o fl dec X<2^11:=z6N X 0 e8M
theorem hd_lt:hd o fl X<2^11:=by
 unfold hd;exact Nat.or_lt_two_pow (Nat.or_lt_two_pow (x2S e8M e8M) (x2S (x2S e8M e8M) (x2S e8M e8M))) (x2S e8M e8M)
theorem z9d:chk o fl rtl dec X<2^11:=by
 unfold chk;exact Nat.or_lt_two_pow (Nat.or_lt_two_pow (Nat.or_lt_two_pow hd_lt (q0r X)) (x2S e8M e8M)) (x2S e8M e8M)
theorem y4a(i:Nat):∀(X:List Int) (a:Nat),(X.foldl (fun a c=>a|||nb o fl dec c) a).testBit i=(a.testBit i||X.any fun c=>(nb o fl dec c).testBit i)
 | [],a=>M7K
 | c::l,a=>by
  rw[List.foldl_cons,y4a i l,Nat.testBit_or,List.any_cons,Bool.or_assoc]
theorem z0f i:(num o fl dec X).testBit i=X.any fun c=>(nb o fl dec c).testBit i:=by
 unfold num;rw[y4a];simp
end Lb
namespace Lb
variable {o:Of} {fl fl':Int} {dec dec' rtl rtl':Bool} {X:List Int}
def err(o:Of)(fl:Int)(rtl dec:Bool)(X:List Int):Nat:=if X.length=0 then 0 else chk o fl rtl dec X
theorem z9D:err o fl rtl dec X<2^11:=by
 unfold err;split
 ·decide
 ·exact z9d
theorem x1Y{b:Prop}[Decidable b]{n i}:(if b then n else 0).testBit i=(decide b&&n.testBit i):=by grind
theorem q0l(H:(flg fl 16&&!dec)=true->(flg fl' 16&&!dec')=true)(W:flg fl 8=true->flg fl' 8=true) c i(h:(nb o fl dec c).testBit i=true):(nb o fl' dec' c).testBit i=true:=by
 unfold nb at *;rw[Nat.testBit_or,Nat.testBit_or,x1Y,x1Y,x1Y]at *;simp only[Bool.or_eq_true,Bool.and_eq_true,decide_eq_true_eq]at *;rcases h with(h | h) | h
 ·exact .inl (.inl h)
 ·refine .inl (.inr ⟨?_,h.2⟩);have Z:=h.1;unfold bst at *;simp only[Bool.or_eq_true,Bool.and_eq_true]at *;exact⟨Z.1,Z.2.imp id H⟩
 ·refine .inr ⟨?_,h.2⟩;have Z:=h.1;unfold std at *;rw[Bool.and_eq_true]at *;exact⟨W Z.1,Z.2⟩
theorem chk_sub(Z:flg fl 1=true->flg fl' 1=true)(D:flg fl 2=true->flg fl' 2=true)(F:flg fl 4=true->flg fl' 4=true)(W:flg fl 8=true->flg fl' 8=true)(H:(flg fl 16&&!dec)=true->(flg fl' 16&&!dec')=true)(hr:rtl=true->rtl'=true) i(h:(chk o fl rtl dec X).testBit i=true):(chk o fl' rtl' dec' X).testBit i=true\/(i=4/\flg fl 1=false/\flg fl' 1=true):=by
 unfold chk hd at *;rw[Nat.testBit_or,Nat.testBit_or,Nat.testBit_or,Nat.testBit_or,Nat.testBit_or,z0f,x1Y,x1Y,x1Y]at *;simp only[Bool.or_eq_true,Bool.and_eq_true,decide_eq_true_eq]at h ⊢;rcases h with((((h | h) | h) | h) | h) | h
 ·grind
 ·cases e1:flg fl 1
  ·rw[e1,if_neg e8M,x1Y]at h;cases e2:flg fl' 1
   ·grind
   ·rw[Bool.and_eq_true]at h;refine .inr ⟨?_,rfl,rfl⟩;have:=h.2;rw[(e8M:(16:Nat)=2^4),Nat.testBit_two_pow]at this;have:=o0d this;omega
  ·grind
 ·grind
 ·refine .inl (.inl (.inl (.inr ?_)));rw[List.any_eq_true]at *;obtain⟨x,A,Y⟩:=h;exact⟨x,A,q0l H W x i Y⟩
 ·grind
 ·grind
end Lb
def LbH(w:World)(L p:Nat)(xv:Value)(fl:Int)(rtl dec:Bool):Prop:=w.heap[L]?=some (.cells #[.pointer (some ⟨p,0,none⟩),xv,.int .i64 fl,.bool rtl,.bool dec] 208 (0,0))
section
variable {w:World} {L p:Nat} {xv:Value} {fl:Int} {rtl dec:Bool}
theorem LbH.c0(h:LbH w L p xv fl rtl dec):w.cell? ⟨L,0,none⟩=some (.pointer (some ⟨p,0,none⟩)):=cell_of (j:=0) h (by show 0<5;exact f6J)
theorem LbH.c1(h:LbH w L p xv fl rtl dec):w.cell? ⟨L,1,none⟩=some xv:=cell_of (j:=1) h (by show 1<5;exact f6J)
theorem LbH.c2(h:LbH w L p xv fl rtl dec):w.cell? ⟨L,2,none⟩=some (.int .i64 fl):=cell_of (j:=2) h (by show 2<5;exact f6J)
theorem LbH.c3(h:LbH w L p xv fl rtl dec):w.cell? ⟨L,3,none⟩=some (.bool rtl):=cell_of (j:=3) h (by show 3<5;exact f6J)
theorem LbH.c4(h:LbH w L p xv fl rtl dec):w.cell? ⟨L,4,none⟩=some (.bool dec):=cell_of (j:=4) h (by show 4<5;exact f6J)
theorem LbH.below{w'}(h:LbH w L p xv fl rtl dec)(Y:Bw w w'):LbH w' L p xv fl rtl dec:=by
  unfold LbH at *;rw[Y.block L (x0a (LbH.c0 h))];exact h
end
def Sm18(v:Value)(w:World)(e:Ending)(w':World):Prop:=e=.returned v/\w'=w
def x2P(b:Bool)(n:Int):Int:=if b=true then n else 0
theorem x4z b n w:Calls prog 214 #[.bool b,.int .i64 n] w (Sm18 (.int .i64 (x2P b n)) w):=by
  cases b<;>go_enter func214,ntmps214<;>go_wp2<;>go_ret<;>exact⟨rfl,rfl⟩
theorem y5I{w L p xv fl}{rtl dec}(h:LbH w L p xv fl rtl dec) k:Calls prog 216 #[.pointer (some ⟨L,0,none⟩),.int .i64 k] w (Sm18 (.bool (Lb.flg fl k)) w):=by
  have S:=h.c2;go_enter func216,ntmps216;exact t6u
theorem idx18(g:Nat) F C(D:∀args w,(callFunc g args).run prog w=.ok (.enter g args) w)(p:Int->Bool) xv X w(A:Sk .i32 w xv X)(t:∀k,k<X.length->∀W,Bw w W->Calls prog g (F++#[.int .i32 (X.getD k 0)]++C) W (x0g W (p (X.getD k 0)))) :
    Calls prog 66 #[xv,.func (.func g) F C] w (IdxB w (X.any p)):=by
  have B:=A.len;have KP:=O t
  have H:Hid (∀(k:Nat),k<X.length->∃b P M,xv=.slice (some ⟨b,P,none⟩) X.length M/\∀W,Bw w W->W.cell? ⟨b,P+k,none⟩=some (.int .i32 (X.getD k 0))):=fun k G=>r7T
  have m:Hid ((∀q,q<X.length->p (X.getD q 0)=false)->X.any p=false):=fun h=>Bd.y7u h;have a:Hid (∀q,q<X.length->p (X.getD q 0)=true->X.any p=true):=fun q d h=>Bd.y2d d h;obtain⟨J,M,rfl,_,_⟩:=A.shape;go_enter func66,ntmps66;go_wp2;go_loopw[5,8] (fun _ Z wr=>∃k:Nat,Z=.int .i64 k/\k<=X.length/\(∀q,q<k->p (X.getD q 0)=false)/\Bw w wr) (fun _ Z _=>X.length-(intOf Z).toNat)
  case atStart=>exact t1A
  case round =>
    obtain⟨k,rfl,G,d,T⟩:=hrel;by_cases E:k<X.length
    · have r:(k:Int)<X.length:=by omega
      obtain⟨b1,P,l,s,S⟩:=V H k E;simp only[Value.slice.injEq]at s;obtain⟨rfl,-,rfl⟩:=s;have j:=S wr T;have K:=O (V KP k E wr T);have Y:=O (V a k E)
      have i:Hid (p (X.getD k 0)=false->∀q,q<k+1->p (X.getD q 0)=false):=fun h q u=>by
        rcases Nat.lt_or_ge q k with h1 | h1
        · exact d q h1
        · rw[(f6J:q=k)];exact h
      have N:=O T;generalize p (X.getD k 0)=z at *;generalize X.getD k 0=c at *
      cases z with
      | true =>
        have n:=O (V Y rfl);go_wp2_with(go_at_fn g;refine(V K).mono ?_;rintro e Q ⟨rfl,b1⟩);have R:=O (bthen (V N) b1);go_ret;exact⟨_,rfl,t3a,V R⟩
      | false =>
        have y:=O (V i rfl);go_wp2_with(go_at_fn g;refine(V K).mono ?_;rintro e Q ⟨rfl,b1⟩);have R:=O (bthen (V N) b1)
        go_roundw
        case rel=>exact t4u
        case measure=>exact g7T
    · have n:=O (V m fun q h=>d q f6J)
      have r:¬((k:Int)<X.length):=f6J;have N:=O T;exact w7P
theorem z9l(g:Nat) F C(D:∀args w,(callFunc g args).run prog w=.ok (.enter g args) w)(p:Int->Bool) xv X w(A:Sk .i32 w xv X)(s:∀k,k<X.length->∀W,Bw w W->Calls prog g (F++#[.int .i32 (X.getD k 0)]++C) W (x0g W (p (X.getD k 0)))) :
    Calls prog 36 #[xv,.func (.func g) F C] w (x0g w (X.any p)):=by
  have K:=O (idx18 g F C D p xv X w A s);obtain⟨J,M,rfl,_,_⟩:=A.shape;generalize X.any p=Y at *;go_enter func36,ntmps36;go_wp2_with fail;refine(V K).mono ?_;rintro e Q ⟨n,rfl,E,b1⟩;subst E;go_wp2;go_ret;exact⟨rfl,b1⟩
theorem z3K c w:Calls prog 221 #[.int .i32 c] w (x0g w (!Lb.ldh c)):=by
  by_cases Z:97<=c<;>by_cases D:c<=122<;>by_cases J:48<=c<;>by_cases F:c<=57<;>by_cases B:c=45
  all_goals first
    | omega
    | (have E:∃b,(!Lb.ldh c)=b:=⟨_,rfl⟩
       obtain⟨b,E⟩:=E;rw[E];unfold Lb.ldh at E;simp only[Z,D,J,F,B,decide_true,decide_false,Bool.and_true,Bool.and_false,Bool.or_true,Bool.or_false,Bool.not_true,Bool.not_false]at E;subst E;have q:(c==45)=decide (c=45):=rfl;simp only[B,decide_true,decide_false]at q;have y:(c != 45)=!decide (c=45):=rfl;simp only[B,decide_true,decide_false,Bool.not_true,Bool.not_false]at y;go_enter func221,ntmps221;go_wp2;go_ret
       exact⟨rfl,b0r⟩)
theorem y0H:∀args w,(callFunc 220 args).run prog w=.ok (.enter 220 args) w:=f0h
theorem y2v:∀args w,(callFunc 219 args).run prog w=.ok (.enter 219 args) w:=f0h
structure PLbC(p:Nat)(xv:Value)(X:List Int)(o:Lb.Of)(w0:World):Prop where
 i:∀W,Below w0.heap.size w0 W->Calls prog 14 #[.pointer (some ⟨p,0,none⟩),xv] W (fun e w'=>e=.returned (.tuple #[.bool o.nf,.int .i64 0])/\Below W.heap.size W w')
 m:∀c,Rune c->∀W,Below w0.heap.size w0 W->Calls prog 218 #[.pointer (some ⟨p,0,none⟩),.int .i32 c] W (x0g W (o.mrk c))
 s:∀c,Rune c->∀W,Below w0.heap.size w0 W->Calls prog 16 #[.pointer (some ⟨p,0,none⟩),.int .i32 c] W (IntB W (o.st c))
 j:∃n:Int,decide (0<=n)=o.jn/\∀W,Below w0.heap.size w0 W->Calls prog 222 #[.pointer (some ⟨p,0,none⟩),xv] W (IntB W n)
 r:∃n:Int,(n != 0)=o.bi/\∀W,Below w0.heap.size w0 W->Calls prog 223 #[.pointer (some ⟨p,0,none⟩),xv] W (IntB W n)
theorem PLbC.on{p xv X o}{w W}(h:PLbC p xv X o w)(Y:Bw w W):PLbC p xv X o W:=by
 obtain⟨n,F,R⟩:=h.j;obtain⟨m,A,B⟩:=h.r;exact⟨fun N U=>h.i N (bthen Y U),fun c I N U=>h.m c I N (bthen Y U),fun c I N U=>h.s c I N (bthen Y U),⟨n,F,fun N U=>R N (bthen Y U)⟩,⟨m,A,fun N U=>B N (bthen Y U)⟩⟩
theorem lit18(W:World) zs n(F:zs.length=n)(U:0<n)(A:n<=100) C(l:C=(zs.map (Value.int .i32)).toArray)(u:∀z∈zs,-2147483648<=z/\z<=2147483647):Sk .i32 (W.alloc (.cells C 21)) (.slice (some ⟨W.heap.size,0,none⟩) n n) zs:=by
 have h:Ok .i32 21 (W.alloc (.cells C 21)) W.heap.size (.slice (some ⟨W.heap.size,0,none⟩) n n) zs:=by
  refine Ok.of (n:=n) (us:=zs.map (Value.int .i32)) (fun z h=>u z h) f6J ⟨V7O,Or.inr ⟨W.heap.size,n,C,rfl,l0r _,World.alloc_heap_new W _,l0r _,T7W,by rw[l];exact V7O,by rw[l];exact List.take_of_length_le V7O⟩⟩ F.symm rfl
 exact h.sk
theorem y5o{X}(h:4<=X.length):decide (X.take 4=[120,110,45,45])=Lb.x2o X:=by
 match X,h with
 | a::b::c::d::l,_=>simp[Lb.x2o]
theorem z4T{w xv X}(A:Sk .i32 w xv X):Calls prog 116 #[xv] w (x0g w (Lb.x2o X)):=by
 have f:∀o,Bw w (w.alloc o):=fun o=>(b0r).alloc (l0r _) o;have B:=A.len;obtain⟨J,M,rfl,z,t⟩:=A.shape;by_cases F:X.length<4
 ·have E:Lb.x2o X=false:=(by unfold Lb.x2o;rw[d0f f6J];rfl);rw[E];have r:¬((4:Int)<=X.length):=f6J;go_enter func116,ntmps116;go_wp2;go_ret;exact⟨rfl,f _⟩
 ·have r:(4:Int)<=X.length:=f6J;have I:=(A.below (f (.cells #[.int .i32 120,.int .i32 110,.int .i32 45,.int .i32 45] 21))).head (k:=4) f6J z;have K:=O (y3V _ _ _ _ _ I (lit18 w [120,110,45,45] 4 rfl f6J f6J #[.int .i32 120,.int .i32 110,.int .i32 45,.int .i32 45] rfl M7L));rw[y5o f6J]at K;go_enter func116,ntmps116;go_wp2_with fail;refine c0m K fun Q b1=>?_;have x:=O (bthen (f _) (x0i b1));go_wp2;go_ret;exact⟨rfl,V x⟩
theorem ctn18 v xv X w(A:Sk .i32 w xv X):Calls prog 259 #[xv,.int .i32 v] w (IdxB w (X.any fun c=>decide (v=c))):=by
 have B:=A.len
 have H:Hid (∀(k:Nat),k<X.length->∃b P M,xv=.slice (some ⟨b,P,none⟩) X.length M/\w.cell? ⟨b,P+k,none⟩=some (.int .i32 (X.getD k 0))):=fun k G=>by
  obtain⟨b,P,M,s,_,_,I⟩:=A.place f6J;exact⟨b,P,M,s,I k G⟩
 have m:Hid ((∀q,q<X.length->decide (v=X.getD q 0)=false)->(X.any fun c=>decide (v=c))=false):=fun h=>Bd.y7u h;have a:Hid (∀q,q<X.length->decide (v=X.getD q 0)=true->(X.any fun c=>decide (v=c))=true):=fun q d h=>Bd.y2d (f:=fun c=>decide (v=c)) d h;obtain⟨J,M,rfl,_,_⟩:=A.shape;go_enter func259,ntmps259;go_wp2;go_loopw[5,8] (fun _ Z wr=>∃k:Nat,Z=.int .i64 k/\k<=X.length/\(∀q,q<k->decide (v=X.getD q 0)=false)/\wr=w) (fun _ Z _=>X.length-(intOf Z).toNat)
 case atStart=>exact⟨0,rfl,f6J,fun q h=>absurd h f6J,rfl⟩
 case round =>
  obtain⟨k,rfl,G,d,rfl⟩:=hrel;by_cases E:k<X.length
  ·have r:(k:Int)<X.length:=f6J;obtain⟨b1,P,l,s,j⟩:=V H k E;simp only[Value.slice.injEq]at s;obtain⟨rfl,-,rfl⟩:=s;have Y:=O (V a k E)
   have D:Hid (decide (v=X.getD k 0)=false->∀q,q<k+1->decide (v=X.getD q 0)=false):=fun h q F=>u1U
   have u:(v==X.getD k 0)=decide (v=X.getD k 0):=rfl;generalize decide (v=X.getD k 0)=z at *;generalize X.getD k 0=c at *
   cases z with
   | true =>
    have n:=O (V Y rfl);go_wp2;go_ret;exact⟨_,rfl,t3a,b0r⟩
   | false =>
    have y:=O (V D rfl);go_wp2
    go_roundw
    case rel=>exact⟨k+1,g2A,f6J,V y,trivial⟩
    case measure=>exact g7T
  ·have n:=O (V m fun q h=>d q f6J);have r:¬((k:Int)<X.length):=f6J;go_wp2;go_ret;exact⟨_,rfl,by rw[V n];rfl,b0r⟩
theorem cnt18 v xv X w(A:Sk .i32 w xv X):Calls prog 217 #[xv,.int .i32 v] w (x0g w (X.any fun c=>decide (v=c))):=by
 have K:=O (ctn18 v xv X w A);obtain⟨J,M,rfl,_,_⟩:=A.shape;generalize(X.any fun c=>decide (v=c))=Y at *;go_enter func217,ntmps217;go_wp2_with fail;refine(V K).mono ?_;rintro e Q ⟨n,rfl,F,b1⟩;subst F;go_wp2;go_ret;exact⟨rfl,b1⟩
section
variable {w:World} {L p:Nat} {xv:Value} {fl:Int} {rtl dec:Bool} {X:List Int} {o:Lb.Of}
def hat18(X:List Int)(i:Nat):Bool:=decide (i<X.length)&&decide (X.getD i 0=45)
theorem y9f(h:LbH w L p xv fl rtl dec)(A:Sk .i32 w xv X)(i:Nat)(hi:i<1000000000):Calls prog 215 #[.pointer (some ⟨L,0,none⟩),.int .i64 i] w (Sm18 (.bool (hat18 X i)) w):=by
 have d:=h.c1;have B:=A.len;by_cases S:i<X.length
 ·obtain⟨b,P,M,rfl,_,_,I⟩:=A.place f6J;have j:=I i S;have r:(i:Int)<X.length:=f6J;have E:hat18 X i=decide (X.getD i 0=45):=(by unfold hat18;rw[d0t S];rfl);rw[E];clear h A I E;have u:(X.getD i 0==45)=decide (X.getD i 0=45):=rfl;generalize decide (X.getD i 0=45)=z at *;generalize X.getD i 0=c at *;go_enter func215,ntmps215;exact t6v
 ·obtain⟨J,M,rfl,_,_⟩:=A.shape;have r:¬((i:Int)<X.length):=f6J;have E:hat18 X i=false:=(by unfold hat18;rw[d0f S];rfl);rw[E];clear h A E;go_enter func215,ntmps215;exact t6v
theorem z9n(h:LbH w L p xv fl rtl dec)(A:Sk .i32 w xv X)(l:PLbC p xv X o w):Calls prog 168 #[.pointer (some ⟨L,0,none⟩)] w (IntB w (x2P (!o.nf) 4)):=by
 have y:=O fun W (U:Bw w W)=>(h.below U).c0;have k:=O fun W (U:Bw w W)=>(h.below U).c1;have K:=O l.i;have E:=O (fun b W=>x4z b 4 W);obtain⟨J,M,rfl,_,_⟩:=A.shape;have I:Bw w w:=b0r;have Z:=I.drew;clear h l A;generalize o.nf=z at *;go_enter func168,ntmps168;go_wp2_with fail;go_region_held3(fun C=>C.cell? ⟨L,0,none⟩=some (.pointer (some ⟨p,0,none⟩))/\C.cell? ⟨L,1,none⟩=some (.slice J X.length M)/\Bw w C) (first| exact⟨V y _ W8V,V k _ W8V,W8V⟩|(have Y:=bthen Z W8V;exact⟨V y _ Y,V k _ Y,Y⟩) | go_keep) (first| (go_at_call 14;refine(V K _ W8V).mono ?_;rintro e Q ⟨rfl,b1⟩;have F:=bthen (W8V:Bw w _) b1));have x:=O F;clear K y k F b1 Z I;cases z<;>
 ·go_wp2_with fail;refine(V E _ _).mono ?_;rintro e u ⟨rfl,rfl⟩;clear E;exact E0c
theorem z6P{X}(U:0<X.length):Lb.hyp X=((hat18 X 0||hat18 X (X.length-1))||(hat18 X 2&&hat18 X 3)):=by
 unfold Lb.hyp hat18;rw[d0t U,d0t (f6J:X.length-1<X.length),Bool.true_and,Bool.true_and,Bool.or_assoc];by_cases h:4<=X.length
 ·rw[d0t h,d0t (f6J:2<X.length),d0t (f6J:3<X.length)];simp
 ·rw[d0f h,d0f (f6J:¬3<X.length)];simp
theorem y4g(h:LbH w L p xv fl rtl dec)(A:Sk .i32 w xv X) i(U:0<=i)(Z:i<1000000000):Calls prog 215 #[.pointer (some ⟨L,0,none⟩),.int .i64 i] w (Sm18 (.bool (hat18 X i.toNat)) w):=by
 have:=y9f h A i.toNat f6J;rw[(f6J:((i.toNat:Nat):Int)=i)]at this;exact this
theorem z9o(h:LbH w L p xv fl rtl dec)(A:Sk .i32 w xv X)(U:0<X.length)(t:X.length<=65536):Calls prog 169 #[.pointer (some ⟨L,0,none⟩)] w (IntB w (x2P (Lb.flg fl 1&&Lb.hyp X) 8)):=by
 have T:=h.c1;rw[z6P U];obtain⟨m,R⟩:∃m:Int,m=(X.length:Int)-1:=⟨_,rfl⟩;have S:IntKind.i64.wrap ((X.length:Int)-1)=m:=s7B;have N:=y4g h A 0 f6J f6J;have Y:=y4g h A m f6J f6J;have I:=y4g h A 2 f6J f6J;have hd:=y4g h A 3 f6J f6J;rw[(f6J:m.toNat=X.length-1)]at Y;obtain⟨g,H⟩:∃g:Int->Bool,g 0=hat18 X 0/\g m=hat18 X (X.length-1)/\g 2=hat18 X 2/\g 3=hat18 X 3:=⟨fun i=>hat18 X i.toNat,rfl,by show hat18 X m.toNat=_;rw[(f6J:m.toNat=X.length-1)],rfl,rfl⟩
 have B:Hid (∀i,i=0\/i=m\/i=2\/i=3->Calls prog 215 #[.pointer (some ⟨L,0,none⟩),.int .i64 i] w (Sm18 (.bool (g i)) w)):=fun i hi=>by
  rcases hi with rfl | rfl | rfl | rfl
  ·rw[H.1];exact N
  ·rw[H.2.1];exact Y
  ·rw[H.2.2.1];exact I
  ·rw[H.2.2.2];exact hd
 rw[<- H.1,<- H.2.1,<- H.2.2.1,<- H.2.2.2];have q:=O (y5I h 1);have E:=O (fun b W=>x4z b 8 W);obtain⟨J,M,rfl,_,_⟩:=A.shape;clear h A N Y I hd H;have P:(0:Int)=0\/(0:Int)=m\/(0:Int)=2\/(0:Int)=3:=.inl rfl;have D:m=0\/m=m\/m=2\/m=3:=.inr (.inl rfl);have K:(2:Int)=0\/(2:Int)=m\/(2:Int)=2\/(2:Int)=3:=.inr (.inr (.inl rfl));have C:(3:Int)=0\/(3:Int)=m\/(3:Int)=2\/(3:Int)=3:=.inr (.inr (.inr rfl));have G:=O (V B 0 P);have l:=O (V B m D);have j:=O (V B 2 K);have k:=O (V B 3 C);clear B R P D K C;generalize g 0=a,g m=b,g 2=c,g 3=d,Lb.flg fl 1=f at *;go_enter func169,ntmps169;go_wp2_with fail;refine(V G).mono ?_;rintro e Q ⟨rfl,rfl⟩;clear G;cases a
 ·go_wp2_with fail;refine(V l).mono ?_;rintro e Q ⟨rfl,rfl⟩;clear l;go_wp2_with fail;refine(V j).mono ?_;rintro e Q ⟨rfl,rfl⟩;clear j;cases b<;>cases c<;>cases f<;>
  ·exact i4X
 ·clear l;go_wp2_with fail;refine(V j).mono ?_;rintro e Q ⟨rfl,rfl⟩;clear j;cases c<;>cases f<;>
  ·exact i4X
end
section
variable {w:World} {L p:Nat} {xv:Value} {fl:Int} {rtl dec:Bool} {X:List Int} {o:Lb.Of}
theorem z9p(h:LbH w L p xv fl rtl dec)(A:Sk .i32 w xv X):Calls prog 170 #[.pointer (some ⟨L,0,none⟩)] w (IntB w (x2P (!Lb.flg fl 1&&Lb.x2o X) 16)):=by
 have d:=h.c1;have K:=O (z4T A);have q:=O (y5I h 1);have E:=O (fun b W=>x4z b 16 W);obtain⟨J,M,rfl,_,_⟩:=A.shape;have F:Bw w w:=b0r;generalize Lb.flg fl 1=f at *;cases f
 ·go_enter func170,ntmps170;exact M0b
 ·go_enter func170,ntmps170;exact m7b
theorem z9q(h:LbH w L p xv fl rtl dec)(A:Sk .i32 w xv X):Calls prog 171 #[.pointer (some ⟨L,0,none⟩)] w (IntB w (x2P (X.any fun c=>decide (46=c)) 32)):=by
 have d:=h.c1;have K:=O (cnt18 46 xv X w A);have E:=O (fun b W=>x4z b 32 W);obtain⟨J,M,rfl,_,_⟩:=A.shape;go_enter func171,ntmps171;go_wp2_with(first| (refine(V K).mono ?_;rintro e u ⟨rfl,i⟩)|(refine(V E _ _).mono ?_;rintro e Q ⟨rfl,rfl⟩));go_ret;exact⟨rfl,i⟩
theorem ws18(h:LbH w L p xv fl rtl dec)(l:PLbC p xv X o w){c}(I:Rune c):Calls prog 219 #[.pointer (some ⟨L,0,none⟩),.int .i32 c] w (x0g w (Lb.bst o fl dec c)):=by
 have B:=h.c0;have K:=O (l.s c I w (b0r));have x:Hid (∀W,Bw w W->Calls prog 216 #[.pointer (some ⟨L,0,none⟩),.int .i64 16] W (Sm18 (.bool (Lb.flg fl 16)) W)/\W.cell? ⟨L,4,none⟩=some (.bool dec)):=fun W U=>⟨y5I (h.below U) 16,(h.below U).c4⟩;have E:Hid (Lb.bst o fl dec c=(decide (o.st c≠1)&&(decide (o.st c≠4)||(Lb.flg fl 16&&!dec)))):=rfl;generalize Lb.bst o fl dec c=bb,Lb.flg fl 16=f,o.st c=k at *;by_cases Z:k=1
 ·subst Z;obtain rfl:bb=false:=V E;go_enter func219,ntmps219;exact F9x
 ·by_cases F:k=4
  ·subst F;obtain rfl:bb=(f&&!dec):=V E;go_enter func219,ntmps219;go_wp2_with fail;refine c0m K fun Q b1=>?_;have q:=O (V x Q b1).1;have j:=(V x Q b1).2;cases f<;>
   ·go_wp2_with(refine(V q).mono ?_;rintro e Q ⟨rfl,rfl⟩);go_ret;exact⟨rfl,b1⟩
  ·have H:(k==1)=false:=W2z;have b:(k==4)=false:=(by grind);obtain rfl:bb=true:=(by rw[V E,d0t Z,d0t F];rfl);go_enter func219,ntmps219;exact F9x
theorem z9s(h:LbH w L p xv fl rtl dec)(A:Sk .i32 w xv X)(l:PLbC p xv X o w):Calls prog 173 #[.pointer (some ⟨L,0,none⟩)] w (IntB w (x2P (X.any (Lb.bst o fl dec)) 128)):=by
 have z:∀(fn:Fn) (first M:Array Value) (w:World),(Instr.makeFunc fn first M).run prog w=.ok (.func fn first M) w:=fun _ _ _ _=>rfl;have d:=h.c1;have K:=O (z9l 219 #[.pointer (some ⟨L,0,none⟩)] #[] y2v (Lb.bst o fl dec) xv X w A fun k G W U=>ws18 (h.below U) (l.on U) (x0V A G));have E:=O (fun b W=>x4z b 128 W);obtain⟨J,M,rfl,_,_⟩:=A.shape;go_enter func173,ntmps173;go_wp2_with(first| (refine(V K).mono ?_;rintro e u ⟨rfl,i⟩)|(refine(V E _ _).mono ?_;rintro e Q ⟨rfl,rfl⟩));go_ret;exact⟨rfl,i⟩
theorem z8b c w:Calls prog 220 #[.int .i32 c] w (x0g w (decide (c<128)&&!Lb.ldh c)):=by
 have K:=O (z3K c w);by_cases I:c<128
 ·rw[d0t I];go_enter func220,ntmps220;exact F9x
 ·rw[d0f I];go_enter func220,ntmps220;exact T8u
theorem z9t(h:LbH w L p xv fl rtl dec)(A:Sk .i32 w xv X):Calls prog 174 #[.pointer (some ⟨L,0,none⟩)] w (IntB w (x2P (Lb.flg fl 8&&X.any fun c=>decide (c<128)&&!Lb.ldh c) 256)):=by
 have z:∀(fn:Fn) (first M:Array Value) (w:World),(Instr.makeFunc fn first M).run prog w=.ok (.func fn first M) w:=fun _ _ _ _=>rfl;have d:=h.c1;have K:=O (z9l 220 #[] #[] y0H (fun c=>decide (c<128)&&!Lb.ldh c) xv X w A fun k _ W _=>z8b (X.getD k 0) W);have q:=O (y5I h 8);have E:=O (fun b W=>x4z b 256 W);obtain⟨J,M,rfl,_,_⟩:=A.shape;have F:Bw w w:=b0r;generalize Lb.flg fl 8=f at *;cases f
 ·go_enter func174,ntmps174;exact m7b
 ·go_enter func174,ntmps174;exact M0b
end
section
variable {w:World} {L p:Nat} {xv:Value} {fl:Int} {rtl dec:Bool} {X:List Int} {o:Lb.Of}
theorem z9r(h:LbH w L p xv fl rtl dec)(A:Sk .i32 w xv X)(G:0<X.length)(l:PLbC p xv X o w):Calls prog 172 #[.pointer (some ⟨L,0,none⟩)] w (IntB w (x2P (o.mrk (X.getD 0 0)) 64)):=by
 have B:=A.len;have y:=O fun W (U:Bw w W)=>(h.below U).c0;have k:=O fun W (U:Bw w W)=>(h.below U).c1;have K:=O (l.m (X.getD 0 0) (x0V A G));have E:=O (fun b W=>x4z b 64 W);obtain⟨b,P,M,rfl,_,_,J⟩:=A.place f6J
 have H:Hid (∀W,Bw w W->W.cell? ⟨b,P,none⟩=some (.int .i32 (X.getD 0 0))):=fun W U=>by
  rw[U.cell (x0a (J 0 G))];exact J 0 G
 have I:Bw w w:=b0r;have Z:=I.drew;have r:(0:Int)<X.length:=f6J;clear h l A J;generalize o.mrk (X.getD 0 0)=z at *;generalize X.getD 0 0=c at *;go_enter func172,ntmps172;go_wp2_with fail;go_region_held3(fun C=>C.cell? ⟨L,0,none⟩=some (.pointer (some ⟨p,0,none⟩))/\C.cell? ⟨L,1,none⟩=some (.slice (some ⟨b,P,none⟩) X.length M)/\C.cell? ⟨b,P,none⟩=some (.int .i32 c)/\Bw w C) (first| exact⟨V y _ W8X,V k _ W8X,V H _ W8X,W8X⟩|(have Y:=bthen Z W8X;exact⟨V y _ Y,V k _ Y,V H _ Y,Y⟩) | go_keep) (first| (go_at_call 218;refine(V K _ W8X).mono ?_;rintro e Q ⟨rfl,b1⟩;have F:=bthen (W8X:Bw w _) b1)|(go_at_call 214;refine(V E _ _).mono ?_;rintro e u ⟨rfl,rfl⟩));have x:=O F;clear K y k H F b1 Z I E;exact E0c
theorem z9u(h:LbH w L p xv fl rtl dec)(A:Sk .i32 w xv X)(l:PLbC p xv X o w):Calls prog 175 #[.pointer (some ⟨L,0,none⟩)] w (IntB w (x2P (Lb.flg fl 4&&o.jn) 512)):=by
 obtain⟨n,F,R⟩:=l.j;have y:=O fun W (U:Bw w W)=>(h.below U).c0;have k:=O fun W (U:Bw w W)=>(h.below U).c1;have G:=O fun W (U:Bw w W)=>(h.below U).c3;have q:=O fun W (U:Bw w W)=>y5I (h.below U) 4;have H:=O R;have E:=O (fun b W=>x4z b 512 W);obtain⟨J,M,rfl,_,_⟩:=A.shape;have Z:Bw w w.drew:=(b0r).drew;rw[<- F];clear h l A R F;generalize Lb.flg fl 4=f at *;cases f
 ·go_enter func175,ntmps175;go_wp2_with fail;refine wp_region_held_drew (S:=fun C=>Bw w C) f4x (Z) (fun hHeld=>?_);refine tk9 0 (.pointer (some ⟨L,0,none⟩)) ?_;refine rd9 1 fun K hK=>?_;go_simp;refine(V q _ hHeld).mono ?_;rintro e Q ⟨rfl,rfl⟩;go_wp2_with fail;refine hK.out _ _ ?_ (fun hHeld=>?_)
  ·exact hHeld
  clear hK K
  try simp only[Act.put,sa9,sb9,sc9]
  refine tk9 2 (.bool false) ?_;refine tn9 3 ?_;refine tn9 4 ?_;refine tn9 5 ?_;refine tn9 6 ?_;refine tn9 7 ?_;refine tn9 8 ?_;refine tn9 9 ?_;refine tn9 10 ?_;refine tn9 11 ?_;refine tn9 12 ?_;refine tk9 13 (.bool false) ?_;refine rd9 14 fun K hK=>?_;go_simp;refine(V E _ _).mono ?_;rintro e B ⟨rfl,rfl⟩;go_wp2_with fail;refine hK.out _ _ ?_ (fun hHeld=>?_)
  ·exact hHeld
  clear hK K
  try simp only[Act.put,sa9,sb9,sc9]
  refine tk9 15 (.int .i64 (x2P (false) 512)) ?_;exact S4i
 ·go_enter func175,ntmps175;go_wp2_with fail;refine wp_region_held_drew (S:=fun C=>Bw w C) f4x (Z) (fun hHeld=>?_);refine tk9 0 (.pointer (some ⟨L,0,none⟩)) ?_;refine rd9 1 fun K hK=>?_;go_simp;refine(V q _ hHeld).mono ?_;rintro e Q ⟨rfl,rfl⟩;go_wp2_with fail;refine hK.out _ _ ?_ (fun hHeld=>?_)
  ·exact hHeld
  clear hK K
  try simp only[Act.put,sa9,sb9,sc9]
  refine tk9 2 (.bool true) ?_;refine tk9 3 (.pointer (some ⟨L,0,none⟩)) ?_;refine tk9 4 (.pointer (some ⟨L,0,none⟩)) ?_;refine tk9 5 (.pointer (some ⟨L,0,none⟩)) ?_;refine tk9 6 (.pointer (some ⟨p,0,none⟩)) ?_ (hy:=t5M);refine tk9 7 (.pointer (some ⟨L,0,none⟩)) ?_;refine tk9 8 (.pointer (some ⟨L,0,none⟩)) ?_;refine tk9 9 (.pointer (some ⟨L,1,none⟩)) ?_;refine tk9 10 (.slice J X.length M) ?_ (hy:=I1m);refine rd9 11 fun K hK=>?_;go_simp;refine c1m (V H _ hHeld) fun u i=>?_;go_wp2_with fail;refine hK.out _ _ ?_ (fun hHeld=>?_)
  ·exact bthen hHeld i
  clear hK K
  try simp only[Act.put,sa9,sb9,sc9]
  refine tk9 12 (.bool (decide (0<=n))) ?_;refine tk9 13 (.bool (decide (0<=n))) ?_;refine rd9 14 fun K hK=>?_;go_simp;refine(V E _ _).mono ?_;rintro e B ⟨rfl,rfl⟩;go_wp2_with fail;refine hK.out _ _ ?_ (fun hHeld=>?_)
  ·exact hHeld
  clear hK K
  try simp only[Act.put,sa9,sb9,sc9]
  refine tk9 15 (.int .i64 (x2P ((decide (0<=n))) 512)) ?_;exact S4i
theorem z9v(h:LbH w L p xv fl rtl dec)(A:Sk .i32 w xv X)(l:PLbC p xv X o w):Calls prog 176 #[.pointer (some ⟨L,0,none⟩)] w (IntB w (x2P ((Lb.flg fl 2&&rtl)&&o.bi) 1024)):=by
 obtain⟨n,F,R⟩:=l.r;have y:=O fun W (U:Bw w W)=>(h.below U).c0;have k:=O fun W (U:Bw w W)=>(h.below U).c1;have G:=O fun W (U:Bw w W)=>(h.below U).c3;have q:=O fun W (U:Bw w W)=>y5I (h.below U) 2;have H:=O R;have E:=O (fun b W=>x4z b 1024 W);obtain⟨J,M,rfl,_,_⟩:=A.shape;have Z:Bw w w.drew:=(b0r).drew;rw[<- F];clear h l A R F;generalize Lb.flg fl 2=f at *;cases f
 ·go_enter func176,ntmps176;go_wp2_with fail;refine wp_region_held_drew (S:=fun C=>Bw w C) f4x (Z) (fun hHeld=>?_);refine tk9 0 (.pointer (some ⟨L,0,none⟩)) ?_;refine rd9 1 fun K hK=>?_;go_simp;refine(V q _ hHeld).mono ?_;rintro e Q ⟨rfl,rfl⟩;go_wp2_with fail;refine hK.out _ _ ?_ (fun hHeld=>?_)
  ·exact hHeld
  clear hK K
  try simp only[Act.put,sa9,sb9,sc9]
  refine tk9 2 (.bool false) ?_;refine tn9 3 ?_;refine tn9 4 ?_;refine tn9 5 ?_;refine tn9 6 ?_;exact r1Z
 cases rtl
 ·go_enter func176,ntmps176;go_wp2_with fail;refine wp_region_held_drew (S:=fun C=>Bw w C) f4x (Z) (fun hHeld=>?_);refine tk9 0 (.pointer (some ⟨L,0,none⟩)) ?_;refine rd9 1 fun K hK=>?_;go_simp;refine(V q _ hHeld).mono ?_;rintro e Q ⟨rfl,rfl⟩;go_wp2_with fail;refine hK.out _ _ ?_ (fun hHeld=>?_)
  ·exact hHeld
  clear hK K
  try simp only[Act.put,sa9,sb9,sc9]
  refine tk9 2 (.bool true) ?_;refine tk9 3 (.pointer (some ⟨L,0,none⟩)) ?_;refine tk9 4 (.pointer (some ⟨L,0,none⟩)) ?_;refine tk9 5 (.pointer (some ⟨L,3,none⟩)) ?_;refine tk9 6 (.bool false) ?_ (hy:=M6P);exact r1Z
 ·go_enter func176,ntmps176;go_wp2_with fail;refine wp_region_held_drew (S:=fun C=>Bw w C) f4x (Z) (fun hHeld=>?_);refine tk9 0 (.pointer (some ⟨L,0,none⟩)) ?_;refine rd9 1 fun K hK=>?_;go_simp;refine(V q _ hHeld).mono ?_;rintro e Q ⟨rfl,rfl⟩;go_wp2_with fail;refine hK.out _ _ ?_ (fun hHeld=>?_)
  ·exact hHeld
  clear hK K
  try simp only[Act.put,sa9,sb9,sc9]
  refine tk9 2 (.bool true) ?_;refine tk9 3 (.pointer (some ⟨L,0,none⟩)) ?_;refine tk9 4 (.pointer (some ⟨L,0,none⟩)) ?_;refine tk9 5 (.pointer (some ⟨L,3,none⟩)) ?_;refine tk9 6 (.bool true) ?_ (hy:=M6P);refine tk9 7 (.bool true) ?_;refine tk9 8 (.bool true) ?_;refine tk9 9 (.pointer (some ⟨L,0,none⟩)) ?_;refine tk9 10 (.pointer (some ⟨L,0,none⟩)) ?_;refine tk9 11 (.pointer (some ⟨L,0,none⟩)) ?_;refine tk9 12 (.pointer (some ⟨p,0,none⟩)) ?_ (hy:=t5M);refine tk9 13 (.pointer (some ⟨L,0,none⟩)) ?_;refine tk9 14 (.pointer (some ⟨L,0,none⟩)) ?_;refine tk9 15 (.pointer (some ⟨L,1,none⟩)) ?_;refine tk9 16 (.slice J X.length M) ?_ (hy:=I1m);refine rd9 17 fun K hK=>?_;go_simp;refine c1m (V H _ hHeld) fun u i=>?_;go_wp2_with fail;refine hK.out _ _ ?_ (fun hHeld=>?_)
  ·exact bthen hHeld i
  clear hK K
  try simp only[Act.put,sa9,sb9,sc9]
  refine tk9 18 (.bool (n != 0)) ?_;refine tk9 19 (.bool (n != 0)) ?_;refine rd9 20 fun K hK=>?_;go_simp;refine(V E _ _).mono ?_;rintro e B ⟨rfl,rfl⟩;go_wp2_with fail;refine hK.out _ _ ?_ (fun hHeld=>?_)
  ·exact hHeld
  clear hK K
  try simp only[Act.put,sa9,sb9,sc9]
  refine tk9 21 (.int .i64 (x2P ((n != 0)) 1024)) ?_;refine wpAnyH_done f4x ?_ _;go_wp2;go_ret;exact⟨rfl,hHeld⟩
end
namespace Lb
variable {o:Of} {fl:Int} {dec rtl:Bool} {X:List Int}
def part(o:Of)(fl:Int)(rtl dec:Bool)(X:List Int):Nat->Nat
 | 0=>if(!o.nf)=true then 4 else 0
 | 1=>if(flg fl 1&&hyp X)=true then 8 else 0
 | 2=>if(!flg fl 1&&x2o X)=true then 16 else 0
 | 3=>if(X.any fun c=>decide (46=c))=true then 32 else 0
 | 4=>if o.mrk (X.getD 0 0)=true then 64 else 0
 | 5=>if X.any (bst o fl dec)=true then 128 else 0
 | 6=>if(flg fl 8&&X.any fun c=>decide (c<128)&&!ldh c)=true then 256 else 0
 | 7=>if(flg fl 4&&o.jn)=true then 512 else 0
 | 8=>if((flg fl 2&&rtl)&&o.bi)=true then 1024 else 0
 | _=>0
def acc(f:Nat->Nat):Nat->Nat
 | 0=>0
 | k+1=>acc f k|||f k
theorem z0u k:part o fl rtl dec X k<2^11:=by
 unfold part
 split<;>first| exact x2S e8M e8M | decide
theorem x5l:∀k,acc (part o fl rtl dec X) k<2^11
 | 0=>by show 0<2^11;exact e8M
 | k+1=>Nat.or_lt_two_pow (x5l k) (z0u k)
theorem z0g i:(num o fl dec X).testBit i=((if(X.any fun c=>decide (46=c))=true then 32 else 0)|||(if X.any (bst o fl dec)=true then 128 else 0)|||(if(flg fl 8&&X.any fun c=>decide (c<128)&&!ldh c)=true then 256 else 0)).testBit i:=by
 rw[z0f,Nat.testBit_or,Nat.testBit_or,x1Y,x1Y,x1Y];simp only[Bool.decide_eq_true]
 induction X with
 | nil=>simp
 | cons c l ih =>
  rw[List.any_cons,ih];unfold nb;rw[Nat.testBit_or,Nat.testBit_or,x1Y,x1Y,x1Y];have P:decide (c=46)=decide (46=c):=(by simp[eq_comm]);rw[P];unfold std;simp only[List.any_cons,Bool.decide_eq_true];simp only[Bool.and_or_distrib_left,Bool.and_or_distrib_right];ac_rfl
theorem z5E:acc (part o fl rtl dec X) 9=chk o fl rtl dec X:=by
 unfold chk hd;rw[Nat.eq_of_testBit_eq z0g];simp only[acc,part];cases e:flg fl 1
 ·grind
 ·grind
end Lb
def gk18:Nat->Nat
 | 0=>168
 | 1=>169
 | 2=>170
 | 3=>171
 | 4=>172
 | 5=>173
 | 6=>174
 | 7=>175
 | _=>176
def Crs18(w:World)(L s:Nat):Prop:=∀k,k<9->w.cell? ⟨s,k,none⟩=some (.func (.func (gk18 k)) #[.pointer (some ⟨L,0,none⟩)] #[])
theorem y5y{k}(G:k<9):∀args w,(callFunc (gk18 k) args).run prog w=.ok (.enter (gk18 k) args) w:=by
 match k,G with
 | 0,_=>exact enters_of func168 f4y rfl
 | 1,_=>exact enters_of func169 f4y rfl
 | 2,_=>exact enters_of func170 f4y rfl
 | 3,_=>exact enters_of func171 f4y rfl
 | 4,_=>exact enters_of func172 f4y rfl
 | 5,_=>exact enters_of func173 f4y rfl
 | 6,_=>exact enters_of func174 f4y rfl
 | 7,_=>exact enters_of func175 f4y rfl
 | 8,_=>exact enters_of func176 f4y rfl
 | n+9,h=>exact absurd h f6J
theorem z6b{w L p xv fl}{rtl dec X o}(h:LbH w L p xv fl rtl dec)(A:Sk .i32 w xv X)(U:0<X.length)(t:X.length<=65536)(l:PLbC p xv X o w){k}(G:k<9):Calls prog (gk18 k) #[.pointer (some ⟨L,0,none⟩)] w (IntB w ((Lb.part o fl rtl dec X k:Nat):Int)):=by
 have g:∀{m:Nat} {b:Bool} (n:Nat),Calls prog m #[.pointer (some ⟨L,0,none⟩)] w (IntB w (x2P b n))->Calls prog m #[.pointer (some ⟨L,0,none⟩)] w (IntB w ((if b=true then n else 0:Nat):Int)):=fun{m b} n h=>by
  have e:((if b=true then n else 0:Nat):Int)=x2P b n:=(by cases b<;>rfl);rw[e];exact h
 match k,G with
 | 0,_=>exact g 4 (z9n h A l)
 | 1,_=>exact g 8 (z9o h A U t)
 | 2,_=>exact g 16 (z9p h A)
 | 3,_=>exact g 32 (z9q h A)
 | 4,_=>exact g 64 (z9r h A U l)
 | 5,_=>exact g 128 (z9s h A l)
 | 6,_=>exact g 256 (z9t h A)
 | 7,_=>exact g 512 (z9u h A l)
 | 8,_=>exact g 1024 (z9v h A l)
 | n+9,h=>exact absurd h f6J
def CrB18(w:World)(L:Nat)(e:Ending)(w':World):Prop:=∃s,e=.returned (.slice (some ⟨s,0,none⟩) 9 9)/\Crs18 w' L s/\Below w.heap.size w w'
theorem y5s L w:Calls prog 121 #[.pointer (some ⟨L,0,none⟩)] w (CrB18 w L):=by
 have z:∀(fn:Fn) (first M:Array Value) (w:World),(Instr.makeFunc fn first M).run prog w=.ok (.func fn first M) w:=fun _ _ _ _=>rfl;go_enter func121,ntmps121;go_wp2;go_ret;refine⟨w.heap.size,rfl,fun k G=>?_,(b0r).alloc (l0r _) _⟩
 match k,G with
 | 0,_=>exact u5H
 | 1,_=>exact u5H
 | 2,_=>exact u5H
 | 3,_=>exact u5H
 | 4,_=>exact u5H
 | 5,_=>exact u5H
 | 6,_=>exact u5H
 | 7,_=>exact u5H
 | 8,_=>exact u5H
 | n+9,h=>exact absurd h f6J
theorem z9c{w p xv X}{o}(l:PLbC p xv X o w)(A:Sk .i32 w xv X)(t:X.length<=65536) fl rtl dec:Calls prog 74 #[.pointer (some ⟨p,0,none⟩),xv,.int .i64 fl,.bool rtl,.bool dec] w (IntB w ((Lb.err o fl rtl dec X:Nat):Int)):=by
 have B:=A.len;unfold Lb.err;rcases Nat.eq_zero_or_pos X.length with h0 | h0
 ·rw[if_pos h0];obtain⟨J,M,rfl,_,_⟩:=A.shape;rw[h0];clear l A;go_enter func74,ntmps74;go_wp2;go_ret;exact⟨rfl,b0r⟩
 ·rw[if_neg f6J,<- Lb.z5E];have b:((X.length:Int)==0)=false:=G9l;have f:∀o,Bw w (w.alloc o):=fun o=>(b0r).alloc (l0r _) o
  have v:Hid (LbH (w.alloc (.cells #[.pointer (some ⟨p,0,none⟩),xv,.int .i64 fl,.bool rtl,.bool dec] 208)) w.heap.size p xv fl rtl dec):=R0p
  have y:Hid (∀W k,Bw w W->LbH W w.heap.size p xv fl rtl dec->k<9->Calls prog (gk18 k) #[.pointer (some ⟨w.heap.size,0,none⟩)] W (IntB W ((Lb.part o fl rtl dec X k:Nat):Int))):=fun W k U S G=>z6b S (A.below U) h0 t (l.on U) G;have c:Hid (∀k,bits .or .i64 ((Lb.acc (Lb.part o fl rtl dec X) k:Nat):Int) ((Lb.part o fl rtl dec X k:Nat):Int)=((Lb.acc (Lb.part o fl rtl dec X) (k+1):Nat):Int)):=fun k=>Bd.or17 (Lb.x5l k) (Lb.z0u k);have Y:Hid (Lb.acc (Lb.part o fl rtl dec X) 0=0):=rfl;have K:=O (fun W=>y5s w.heap.size W);have a:=O (f (.cells #[.pointer (some ⟨p,0,none⟩),xv,.int .i64 fl,.bool rtl,.bool dec] 208));obtain⟨J,M,rfl,_,_⟩:=A.shape;clear l A f;generalize Lb.acc (Lb.part o fl rtl dec X)=j at *;generalize Lb.part o fl rtl dec X=F at *;go_enter func74,ntmps74;go_wp2_with fail;refine(V K _).mono ?_;rintro e Q ⟨s,rfl,I,b1⟩;have n:=O ((V v).below b1);have R:=O (bthen (V a) b1);have H:=O I;clear K v a I b1;go_wp2;go_loopw[12,14,28] (fun P _ Z wr=>∃k:Nat,P=.int .i64 ((j k:Nat):Int)/\Z=.int .i64 k/\k<=9/\Bw Q wr) (fun _ _ Z _=>9-(intOf Z).toNat)
  case atStart=>exact⟨0,by rw[V Y];rfl,rfl,f6J,b0r⟩
  case round =>
   obtain⟨k,rfl,rfl,G,C⟩:=hrel;by_cases E:k<9
   ·have r:(k:Int)<9:=f6J;have d:wr.cell? ⟨s,k,none⟩=some (.func (.func (gk18 k)) #[.pointer (some ⟨w.heap.size,0,none⟩)] #[]):=(by rw[C.cell (x0a (V H k E))];exact V H k E);have x:=O (V y wr k (bthen (V R) C) ((V n).below C) E);have D:=O (V c k);have z:=y5y E;have N:=O C;clear C y c Y H n R;generalize gk18 k=g at *;go_wp2_with(go_at_fn g;refine(V x).mono ?_;rintro e u ⟨rfl,i⟩);have q:=O (bthen (V N) i);clear x N i
    go_roundw
    case rel=>exact⟨k+1,by rw[V D],g2A,f6J,V q⟩
    case measure=>exact g7T
   ·obtain rfl:k=9:=f6J;have T:=O (bthen (V R) C);clear C y c Y H n R;go_wp2;go_ret;exact i5u
