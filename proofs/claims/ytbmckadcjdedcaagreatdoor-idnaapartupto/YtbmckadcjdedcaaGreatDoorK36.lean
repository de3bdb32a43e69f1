/- Lemmas. -/
import Derived.Test.YtbmckadcjdedcaaGreatDoorK4
import Derived.Deep.RegionHeld3
set_option maxHeartbeats 2000000
set_option maxRecDepth 8000
namespace Go.Proofs.YtbmckadcjdedcaaGreatDoor
open Go.Proofs.Tryz
open Go.RowKit
section
variable{p:Prop}
theorem W8V(h:p:=by assumption):p:=h
theorem G6B(h:p:=by go_wp2_with(first| (refine(V v).mono ?_;rintro e I ⟨rfl,rfl⟩)|(refine(V K).mono ?_;rintro e d ⟨rfl,m⟩)|(refine(V y _ _).mono ?_;rintro e I ⟨rfl,rfl⟩));go_ret;exact⟨rfl,m⟩):p:=h
theorem w5F(h:p:=by go_wp2_with(refine(V K).mono ?_;rintro e I ⟨rfl,b1⟩);go_ret;exact⟨rfl,b1⟩):p:=h
theorem U5R(h:p:=by
 refine tk9 7 (.bool false) ?_;refine tk9 8 (.bool false) ?_;refine tn9 9 ?_;refine tn9 10 ?_;refine tn9 11 ?_;refine tn9 12 ?_;refine tn9 13 ?_;refine tn9 14 ?_;refine tn9 15 ?_;refine tn9 16 ?_;refine tn9 17 ?_;refine tn9 18 ?_;refine tk9 19 (.bool false) ?_;refine rd9 20 fun K hK=>?_;go_simp;refine(V y _ _).mono ?_;rintro e P ⟨rfl,rfl⟩;go_wp2_with fail;refine hK.out _ _ ?_ (fun hHeld=>?_)
 ·exact hHeld
 clear hK K
 try simp only[Act.put,sa9,sb9,sc9]
 refine tk9 21 (.int .i64 (x3b (false) 1024)) ?_;refine wpAnyH_done f4x ?_ _;go_wp2;go_ret;exact⟨rfl,hHeld⟩):p:=h
theorem S4i(h:p:=by refine wpAnyH_done f4x ?_ _;go_wp2;go_ret;exact⟨rfl,hHeld⟩):p:=h
theorem t6Q(h:p:=by exact x4U _ _ rfl (by simp[gk18])):p:=h
theorem V9g(h:p:=by go_wp2_with(first| (refine(V v).mono ?_;rintro e I ⟨rfl,rfl⟩)|(refine(V y _ _).mono ?_;rintro e I ⟨rfl,rfl⟩));go_ret;exact⟨rfl,E⟩):p:=h
theorem u7C(h:p:=by go_wp2_with(first| (go_at_call 206;refine(V G).mono ?_;rintro e I ⟨rfl,rfl⟩)|(go_at_call 207;refine(V v).mono ?_;rintro e I ⟨rfl,rfl⟩)|(go_at_call 205;refine(V y _ _).mono ?_;rintro e I ⟨rfl,rfl⟩));go_ret;exact⟨rfl,b0r⟩):p:=h
theorem W8X(h:p:=by assumption):p:=h
theorem M4q(h:p:=by(intro w hSw;have z:=V N _ hSw;go_simp)):p:=h
theorem U0t(h:p:=by obtain⟨b,P,M,d,_,_,T⟩:=J.place f6J;exact⟨b,P,M,d,fun W U=>f4s⟩):p:=h
theorem u8L(h:p:=by(intro w hSw;have z:=V g _ hSw;go_simp)):p:=h
theorem t4S(h:p:=by(intro w hSw;have z:=V u _ hSw;go_simp)):p:=h
end
namespace Lb
def ldh(c:Int):Bool:=decide (97<=c)&&decide (c<=122)||(decide (48<=c)&&decide (c<=57)||decide (c=45))
def x2y(X:List Int):Bool:=decide (4<=X.length)&&(decide (X.getD 0 0=120)&&(decide (X.getD 1 0=110)&&(decide (X.getD 2 0=45)&&decide (X.getD 3 0=45))))
def flg(fl k:Int):Bool:=bits .and .i64 fl k != 0
def hyp(X:List Int):Bool:=decide (X.getD 0 0=45)||(decide (X.getD (X.length-1) 0=45)||(decide (4<=X.length)&&(decide (X.getD 2 0=45)&&decide (X.getD 3 0=45))))
structure Of where
 nf:Bool
 mrk:Int->Bool
 st:Int->Int
 jn:Bool
 bi:Bool
def bst(o:Of)(fl:Int)(dec:Bool)(c:Int):Bool:=decide (o.st c≠1)&&(decide (o.st c≠4)||(flg fl 16&&!dec))
def std(fl c:Int):Bool:=flg fl 8&&(decide (c<128)&&!ldh c)
def nb(o:Of)(fl:Int)(dec:Bool)(c:Int):Nat:=(if c=46 then 32 else 0)|||(if bst o fl dec c=true then 128 else 0)|||(if std fl c=true then 256 else 0)
def num(o:Of)(fl:Int)(dec:Bool)(X:List Int):Nat:=X.foldl (fun a c=>a|||nb o fl dec c) 0
def hd(o:Of)(fl:Int)(X:List Int):Nat:=(if o.nf=true then 0 else 4)|||(if flg fl 1=true then(if hyp X=true then 8 else 0)else(if x2y X=true then 16 else 0))|||(if o.mrk (X.getD 0 0)=true then 64 else 0)
def chk(o:Of)(fl:Int)(rtl dec:Bool)(X:List Int):Nat:=hd o fl X|||num o fl dec X|||(if(flg fl 4&&o.jn)=true then 512 else 0)|||(if(flg fl 2&&(rtl&&o.bi))=true then 1024 else 0)
variable {o:Of} {fl:Int} {dec rtl:Bool} {X:List Int}
theorem x3e{b:Prop}[Decidable b]{n m}(E:n<2^11)(y:m<2^11):(if b then n else m)<2^11:=by split<;>assumption
theorem nb_lt c:nb o fl dec c<2^11:=by
 unfold nb;exact Nat.or_lt_two_pow (Nat.or_lt_two_pow (x3e e8M e8M) (x3e e8M e8M)) (x3e e8M e8M)
theorem z5A(X:List Int):∀a,a<2^11->X.foldl (fun a c=>a|||nb o fl dec c) a<2^11:=by
 induction X with
 | nil=>intro a h;exact h
 | cons c l ih=>intro a h;exact ih _ (Nat.or_lt_two_pow h (nb_lt c))
theorem z8M X:num o fl dec X<2^11:=z5A X 0 e8M
theorem hd_lt:hd o fl X<2^11:=by
 unfold hd;exact Nat.or_lt_two_pow (Nat.or_lt_two_pow (x3e e8M e8M) (x3e (x3e e8M e8M) (x3e e8M e8M))) (x3e e8M e8M)
theorem z7D:chk o fl rtl dec X<2^11:=by
 unfold chk;exact Nat.or_lt_two_pow (Nat.or_lt_two_pow (Nat.or_lt_two_pow hd_lt (z8M X)) (x3e e8M e8M)) (x3e e8M e8M)
theorem y3y(i:Nat):∀(X:List Int) (a:Nat),(X.foldl (fun a c=>a|||nb o fl dec c) a).testBit i=(a.testBit i||X.any fun c=>(nb o fl dec c).testBit i)
 | [],a=>M7K
 | c::l,a=>by
  rw[List.foldl_cons,y3y i l,Nat.testBit_or,List.any_cons,Bool.or_assoc]
theorem z6l i:(num o fl dec X).testBit i=X.any fun c=>(nb o fl dec c).testBit i:=by
 unfold num;rw[y3y];simp
end Lb
namespace Lb
variable {o:Of} {fl fl':Int} {dec dec' rtl rtl':Bool} {X:List Int}
def err(o:Of)(fl:Int)(rtl dec:Bool)(X:List Int):Nat:=if X.length=0 then 0 else chk o fl rtl dec X
theorem z8b:err o fl rtl dec X<2^11:=by
 unfold err;split
 ·decide
 ·exact z7D
theorem x7R{b:Prop}[Decidable b]{n i}:(if b then n else 0).testBit i=(decide b&&n.testBit i):=by grind
end Lb
def LbH(w:World)(L p:Nat)(xv:Value)(fl:Int)(rtl dec:Bool):Prop:=w.heap[L]?=some (.cells #[.pointer (some ⟨p,0,none⟩),xv,.int .i64 fl,.bool rtl,.bool dec] 178 (0,0))
section
variable {w:World} {L p:Nat} {xv:Value} {fl:Int} {rtl dec:Bool}
theorem LbH.c0(h:LbH w L p xv fl rtl dec):w.cell? ⟨L,0,none⟩=some (.pointer (some ⟨p,0,none⟩)):=cell_of (j:=0) h (by show 0<5;exact f6J)
theorem LbH.c1(h:LbH w L p xv fl rtl dec):w.cell? ⟨L,1,none⟩=some xv:=cell_of (j:=1) h (by show 1<5;exact f6J)
theorem LbH.c2(h:LbH w L p xv fl rtl dec):w.cell? ⟨L,2,none⟩=some (.int .i64 fl):=cell_of (j:=2) h (by show 2<5;exact f6J)
theorem LbH.c3(h:LbH w L p xv fl rtl dec):w.cell? ⟨L,3,none⟩=some (.bool rtl):=cell_of (j:=3) h (by show 3<5;exact f6J)
theorem LbH.c4(h:LbH w L p xv fl rtl dec):w.cell? ⟨L,4,none⟩=some (.bool dec):=cell_of (j:=4) h (by show 4<5;exact f6J)
theorem LbH.below{w'}(h:LbH w L p xv fl rtl dec)(Q:Bw w w'):LbH w' L p xv fl rtl dec:=by
  unfold LbH at *;rw[Q.block L (x0a (LbH.c0 h))];exact h
end
def Sm18(v:Value)(w:World)(e:Ending)(w':World):Prop:=e=.returned v/\w'=w
def x3b(b:Bool)(n:Int):Int:=if b=true then n else 0
theorem x4E b n w:Calls prog 205 #[.bool b,.int .i64 n] w (Sm18 (.int .i64 (x3b b n)) w):=by
  cases b<;>go_enter func205,ntmps205<;>go_wp2<;>go_ret<;>exact⟨rfl,rfl⟩
theorem y5i{w L p xv fl}{rtl dec}(h:LbH w L p xv fl rtl dec) k:Calls prog 207 #[.pointer (some ⟨L,0,none⟩),.int .i64 k] w (Sm18 (.bool (Lb.flg fl k)) w):=by
  have B:=h.c2;go_enter func207,ntmps207;exact t6u
theorem idx18(g:Nat) F C(Z:∀args w,(callFunc g args).run prog w=.ok (.enter g args) w)(p:Int->Bool) xv X w(J:Sk .i32 w xv X)(i:∀k,k<X.length->∀W,Bw w W->Calls prog g (F++#[.int .i32 (X.getD k 0)]++C) W (x0c W (p (X.getD k 0)))) :
    Calls prog 58 #[xv,.func (.func g) F C] w (IdxB w (X.any p)):=by
  have s:=J.len;have KP:=O i
  have B:Hid (∀(k:Nat),k<X.length->∃b P M,xv=.slice (some ⟨b,P,none⟩) X.length M/\∀W,Bw w W->W.cell? ⟨b,P+k,none⟩=some (.int .i32 (X.getD k 0))):=fun k G=>U0t
  have l:Hid ((∀q,q<X.length->p (X.getD q 0)=false)->X.any p=false):=fun h=>Bd.y6L h;have E:Hid (∀q,q<X.length->p (X.getD q 0)=true->X.any p=true):=fun q m h=>Bd.y1D m h;obtain⟨R,M,rfl,_,_⟩:=J.shape;go_enter func58,ntmps58;go_wp2;go_loopw[5,8] (fun _ S wr=>∃k:Nat,S=.int .i64 k/\k<=X.length/\(∀q,q<k->p (X.getD q 0)=false)/\Bw w wr) (fun _ S _=>X.length-(intOf S).toNat)
  case atStart=>exact t1A
  case round =>
    obtain⟨k,rfl,G,m,r⟩:=hrel;by_cases H:k<X.length
    · have v:(k:Int)<X.length:=by omega
      obtain⟨b1,P,A,d,a⟩:=V B k H;simp only[Value.slice.injEq]at d;obtain⟨rfl,-,rfl⟩:=d;have x:=a wr r;have K:=O (V KP k H wr r);have D:=O (V E k H)
      have Y:Hid (p (X.getD k 0)=false->∀q,q<k+1->p (X.getD q 0)=false):=fun h q j=>by
        rcases Nat.lt_or_ge q k with h1 | h1
        · exact m q h1
        · rw[(f6J:q=k)];exact h
      have N:=O r;generalize p (X.getD k 0)=z at *;generalize X.getD k 0=c at *
      cases z with
      | true =>
        have n:=O (V D rfl);go_wp2_with(go_at_fn g;refine(V K).mono ?_;rintro e I ⟨rfl,b1⟩);have Q:=O (x0b (V N) b1);go_ret;exact⟨_,rfl,t3d,V Q⟩
      | false =>
        have y:=O (V Y rfl);go_wp2_with(go_at_fn g;refine(V K).mono ?_;rintro e I ⟨rfl,b1⟩);have Q:=O (x0b (V N) b1)
        go_roundw
        case rel=>exact⟨k+1,g2A,f6J,V y,V Q⟩
        case measure=>exact g7T
    · have n:=O (V l fun q h=>m q f6J)
      have v:¬((k:Int)<X.length):=f6J;exact e2S
theorem z7L(g:Nat) F C(Z:∀args w,(callFunc g args).run prog w=.ok (.enter g args) w)(p:Int->Bool) xv X w(J:Sk .i32 w xv X)(B:∀k,k<X.length->∀W,Bw w W->Calls prog g (F++#[.int .i32 (X.getD k 0)]++C) W (x0c W (p (X.getD k 0)))) :
    Calls prog 108 #[xv,.func (.func g) F C] w (x0c w (X.any p)):=by
  have K:=O (idx18 g F C Z p xv X w J B);obtain⟨R,M,rfl,_,_⟩:=J.shape;generalize X.any p=Q at *;go_enter func108,ntmps108;go_wp2_with fail;refine(V K).mono ?_;rintro e I ⟨n,rfl,E,b1⟩;subst E;go_wp2;go_ret;exact⟨rfl,b1⟩
theorem z2E c w:Calls prog 212 #[.int .i32 c] w (x0c w (!Lb.ldh c)):=by
  by_cases Z:97<=c<;>by_cases D:c<=122<;>by_cases R:48<=c<;>by_cases z:c<=57<;>by_cases H:c=45
  all_goals first
    | omega
    | (have E:∃b,(!Lb.ldh c)=b:=⟨_,rfl⟩
       obtain⟨b,E⟩:=E;rw[E];unfold Lb.ldh at E;simp only[Z,D,R,z,H,decide_true,decide_false,Bool.and_true,Bool.and_false,Bool.or_true,Bool.or_false,Bool.not_true,Bool.not_false]at E;subst E;have q:(c==45)=decide (c=45):=rfl;simp only[H,decide_true,decide_false]at q;have F:(c != 45)=!decide (c=45):=rfl;simp only[H,decide_true,decide_false,Bool.not_true,Bool.not_false]at F;go_enter func212,ntmps212;go_wp2;go_ret
       exact⟨rfl,b0r⟩)
theorem y0i:∀args w,(callFunc 211 args).run prog w=.ok (.enter 211 args) w:=f0h
theorem y1X:∀args w,(callFunc 210 args).run prog w=.ok (.enter 210 args) w:=f0h
structure PLbC(p:Nat)(xv:Value)(X:List Int)(o:Lb.Of)(w0:World):Prop where
 i:∀W,Below w0.heap.size w0 W->Calls prog 204 #[.pointer (some ⟨p,0,none⟩),xv] W (fun e w'=>e=.returned (.tuple #[.bool o.nf,.int .i64 0])/\Below W.heap.size W w')
 m:∀c,Rune c->∀W,Below w0.heap.size w0 W->Calls prog 209 #[.pointer (some ⟨p,0,none⟩),.int .i32 c] W (x0c W (o.mrk c))
 s:∀c,Rune c->∀W,Below w0.heap.size w0 W->Calls prog 94 #[.pointer (some ⟨p,0,none⟩),.int .i32 c] W (IntB W (o.st c))
 j:∃n:Int,decide (0<=n)=o.jn/\∀W,Below w0.heap.size w0 W->Calls prog 213 #[.pointer (some ⟨p,0,none⟩),xv] W (IntB W n)
 r:∃n:Int,(n != 0)=o.bi/\∀W,Below w0.heap.size w0 W->Calls prog 214 #[.pointer (some ⟨p,0,none⟩),xv] W (IntB W n)
theorem PLbC.on{p xv X o}{w W}(h:PLbC p xv X o w)(Q:Bw w W):PLbC p xv X o W:=by
 obtain⟨n,E,K⟩:=h.j;obtain⟨m,y,u⟩:=h.r;exact⟨fun A U=>h.i A (x0b Q U),fun c T A U=>h.m c T A (x0b Q U),fun c T A U=>h.s c T A (x0b Q U),⟨n,E,fun A U=>K A (x0b Q U)⟩,⟨m,y,fun A U=>u A (x0b Q U)⟩⟩
theorem lit18(W:World) zs n(E:zs.length=n)(A:0<n)(F:n<=100) C(B:C=(zs.map (Value.int .i32)).toArray)(D:∀z∈zs,-2147483648<=z/\z<=2147483647):Sk .i32 (W.alloc (.cells C 21)) (.slice (some ⟨W.heap.size,0,none⟩) n n) zs:=by
 have h:Ok .i32 21 (W.alloc (.cells C 21)) W.heap.size (.slice (some ⟨W.heap.size,0,none⟩) n n) zs:=by
  refine Ok.of (n:=n) (us:=zs.map (Value.int .i32)) (fun z h=>D z h) f6J ⟨by simp[E],Or.inr ⟨W.heap.size,n,C,rfl,l0r _,World.alloc_heap_new W _,l0r _,T7W,by rw[B];simp[E],by rw[B];exact List.take_of_length_le (by simp[E])⟩⟩ E.symm rfl
 exact h.sk
theorem y4M{X}(h:4<=X.length):decide (X.take 4=[120,110,45,45])=Lb.x2y X:=by
 match X,h with
 | a::b::c::d::l,_=>simp[Lb.x2y]
theorem z3D{w xv X}(J:Sk .i32 w xv X):Calls prog 104 #[xv] w (x0c w (Lb.x2y X)):=by
 have A:∀o,Bw w (w.alloc o):=fun o=>(b0r).alloc (l0r _) o;have s:=J.len;obtain⟨R,M,rfl,q,F⟩:=J.shape;by_cases z:X.length<4
 ·have E:Lb.x2y X=false:=(by unfold Lb.x2y;rw[d0f f6J];rfl);rw[E];have v:¬((4:Int)<=X.length):=f6J;go_enter func104,ntmps104;go_wp2;go_ret;exact⟨rfl,A _⟩
 ·have v:(4:Int)<=X.length:=f6J;have b:=(J.below (A (.cells #[.int .i32 120,.int .i32 110,.int .i32 45,.int .i32 45] 21))).head (k:=4) f6J q;have K:=O (y3u _ _ _ _ _ b (lit18 w [120,110,45,45] 4 rfl f6J f6J #[.int .i32 120,.int .i32 110,.int .i32 45,.int .i32 45] rfl M7L));rw[y4M f6J]at K;go_enter func104,ntmps104;go_wp2_with fail;refine c0m K fun I b1=>?_;have t:=O (x0b (A _) (x0k b1));go_wp2;go_ret;exact⟨rfl,V t⟩
theorem ctn18 v xv X w(J:Sk .i32 w xv X):Calls prog 254 #[xv,.int .i32 v] w (IdxB w (X.any fun c=>decide (v=c))):=by
 have s:=J.len
 have B:Hid (∀(k:Nat),k<X.length->∃b P M,xv=.slice (some ⟨b,P,none⟩) X.length M/\w.cell? ⟨b,P+k,none⟩=some (.int .i32 (X.getD k 0))):=fun k G=>by
  obtain⟨b,P,M,d,_,_,T⟩:=J.place f6J;exact⟨b,P,M,d,T k G⟩
 have l:Hid ((∀q,q<X.length->decide (v=X.getD q 0)=false)->(X.any fun c=>decide (v=c))=false):=fun h=>Bd.y6L h;have E:Hid (∀q,q<X.length->decide (v=X.getD q 0)=true->(X.any fun c=>decide (v=c))=true):=fun q m h=>Bd.y1D (f:=fun c=>decide (v=c)) m h;obtain⟨R,M,rfl,_,_⟩:=J.shape;go_enter func254,ntmps254;go_wp2;go_loopw[5,8] (fun _ S wr=>∃k:Nat,S=.int .i64 k/\k<=X.length/\(∀q,q<k->decide (v=X.getD q 0)=false)/\wr=w) (fun _ S _=>X.length-(intOf S).toNat)
 case atStart=>exact⟨0,rfl,f6J,fun q h=>absurd h f6J,rfl⟩
 case round =>
  obtain⟨k,rfl,G,m,rfl⟩:=hrel;by_cases H:k<X.length
  ·have F:(k:Int)<X.length:=f6J;obtain⟨b1,P,A,d,x⟩:=V B k H;simp only[Value.slice.injEq]at d;obtain⟨rfl,-,rfl⟩:=d;have D:=O (V E k H)
   have Y:Hid (decide (v=X.getD k 0)=false->∀q,q<k+1->decide (v=X.getD q 0)=false):=fun h q j=>F6F
   have I:(v==X.getD k 0)=decide (v=X.getD k 0):=rfl;generalize decide (v=X.getD k 0)=z at *;generalize X.getD k 0=c at *
   cases z with
   | true =>
    have n:=O (V D rfl);go_wp2;go_ret;exact⟨_,rfl,t3d,b0r⟩
   | false =>
    have y:=O (V Y rfl);go_wp2
    go_roundw
    case rel=>exact⟨k+1,g2A,f6J,V y,trivial⟩
    case measure=>exact g7T
  ·have n:=O (V l fun q h=>m q f6J);have F:¬((k:Int)<X.length):=f6J;go_wp2;go_ret;exact⟨_,rfl,n8s,b0r⟩
theorem cnt18 v xv X w(J:Sk .i32 w xv X):Calls prog 208 #[xv,.int .i32 v] w (x0c w (X.any fun c=>decide (v=c))):=by
 have K:=O (ctn18 v xv X w J);obtain⟨R,M,rfl,_,_⟩:=J.shape;generalize(X.any fun c=>decide (v=c))=Q at *;go_enter func208,ntmps208;go_wp2_with fail;refine(V K).mono ?_;rintro e I ⟨n,rfl,E,b1⟩;subst E;go_wp2;go_ret;exact⟨rfl,b1⟩
section
variable {w:World} {L p:Nat} {xv:Value} {fl:Int} {rtl dec:Bool} {X:List Int} {o:Lb.Of}
def hat18(X:List Int)(i:Nat):Bool:=decide (i<X.length)&&decide (X.getD i 0=45)
theorem y8w(h:LbH w L p xv fl rtl dec)(J:Sk .i32 w xv X)(i:Nat)(hi:i<1000000000):Calls prog 206 #[.pointer (some ⟨L,0,none⟩),.int .i64 i] w (Sm18 (.bool (hat18 X i)) w):=by
 have u:=h.c1;have s:=J.len;by_cases S:i<X.length
 ·obtain⟨b,P,M,rfl,_,_,T⟩:=J.place f6J;have x:=T i S;have v:(i:Int)<X.length:=f6J;have E:hat18 X i=decide (X.getD i 0=45):=(by unfold hat18;rw[d0t S];rfl);rw[E];clear h J T E;have B:(X.getD i 0==45)=decide (X.getD i 0=45):=rfl;generalize decide (X.getD i 0=45)=z at *;generalize X.getD i 0=c at *;go_enter func206,ntmps206;exact t6v
 ·obtain⟨R,M,rfl,_,_⟩:=J.shape;have v:¬((i:Int)<X.length):=f6J;have E:hat18 X i=false:=(by unfold hat18;rw[d0f S];rfl);rw[E];clear h J E;go_enter func206,ntmps206;exact t6v
theorem z7N(h:LbH w L p xv fl rtl dec)(J:Sk .i32 w xv X)(a:PLbC p xv X o w):Calls prog 157 #[.pointer (some ⟨L,0,none⟩)] w (IntB w (x3b (!o.nf) 4)):=by
 have g:=O fun W (U:Bw w W)=>(h.below U).c0;have N:=O fun W (U:Bw w W)=>(h.below U).c1;have K:=O a.i;have y:=O (fun b W=>x4E b 4 W);obtain⟨R,M,rfl,_,_⟩:=J.shape;have T:Bw w w:=b0r;have Y:=T.drew;clear h a J;generalize o.nf=z at *;go_enter func157,ntmps157;go_wp2_with fail;go_region_held3(fun l=>l.cell? ⟨L,0,none⟩=some (.pointer (some ⟨p,0,none⟩))/\l.cell? ⟨L,1,none⟩=some (.slice R X.length M)/\Bw w l) (first| exact⟨V g _ W8V,V N _ W8V,W8V⟩|(have D:=x0b Y W8V;exact⟨V g _ D,V N _ D,D⟩) | go_keep) (first| (go_at_call 204;refine(V K _ W8V).mono ?_;rintro e I ⟨rfl,b1⟩;have E:=x0b (W8V:Bw w _) b1));have t:=O E;clear K g N E b1 Y T;cases z<;>
 ·go_wp2_with fail;refine(V y _ _).mono ?_;rintro e d ⟨rfl,rfl⟩;clear y;exact w4H
theorem z5C{X}(A:0<X.length):Lb.hyp X=((hat18 X 0||hat18 X (X.length-1))||(hat18 X 2&&hat18 X 3)):=by
 unfold Lb.hyp hat18;rw[d0t A,d0t (f6J:X.length-1<X.length),Bool.true_and,Bool.true_and,Bool.or_assoc];by_cases h:4<=X.length
 ·rw[d0t h,d0t (f6J:2<X.length),d0t (f6J:3<X.length)];simp
 ·rw[d0f h,d0f (f6J:¬3<X.length)];simp
theorem y3F(h:LbH w L p xv fl rtl dec)(J:Sk .i32 w xv X) i(A:0<=i)(Z:i<1000000000):Calls prog 206 #[.pointer (some ⟨L,0,none⟩),.int .i64 i] w (Sm18 (.bool (hat18 X i.toNat)) w):=by
 have:=y8w h J i.toNat f6J;rw[(f6J:((i.toNat:Nat):Int)=i)]at this;exact this
theorem z7O(h:LbH w L p xv fl rtl dec)(J:Sk .i32 w xv X)(A:0<X.length)(j:X.length<=65536):Calls prog 158 #[.pointer (some ⟨L,0,none⟩)] w (IntB w (x3b (Lb.flg fl 1&&Lb.hyp X) 8)):=by
 have u:=h.c1;rw[z5C A];obtain⟨m,Y⟩:∃m:Int,m=(X.length:Int)-1:=⟨_,rfl⟩;have U:IntKind.i64.wrap ((X.length:Int)-1)=m:=s7B;have H:=y3F h J 0 f6J f6J;have Q:=y3F h J m f6J f6J;have T:=y3F h J 2 f6J f6J;have hd:=y3F h J 3 f6J f6J;rw[(f6J:m.toNat=X.length-1)]at Q;obtain⟨g,C⟩:∃g:Int->Bool,g 0=hat18 X 0/\g m=hat18 X (X.length-1)/\g 2=hat18 X 2/\g 3=hat18 X 3:=⟨fun i=>hat18 X i.toNat,rfl,by show hat18 X m.toNat=_;rw[(f6J:m.toNat=X.length-1)],rfl,rfl⟩
 have B:Hid (∀i,i=0\/i=m\/i=2\/i=3->Calls prog 206 #[.pointer (some ⟨L,0,none⟩),.int .i64 i] w (Sm18 (.bool (g i)) w)):=fun i hi=>by
  rcases hi with rfl | rfl | rfl | rfl
  ·rw[C.1];exact H
  ·rw[C.2.1];exact Q
  ·rw[C.2.2.1];exact T
  ·rw[C.2.2.2];exact hd
 rw[<- C.1,<- C.2.1,<- C.2.2.1,<- C.2.2.2];have v:=O (y5i h 1);have y:=O (fun b W=>x4E b 8 W);obtain⟨R,M,rfl,_,_⟩:=J.shape;clear h J H Q T hd C;have r:(0:Int)=0\/(0:Int)=m\/(0:Int)=2\/(0:Int)=3:=.inl rfl;have K:m=0\/m=m\/m=2\/m=3:=.inr (.inl rfl);have D:(2:Int)=0\/(2:Int)=m\/(2:Int)=2\/(2:Int)=3:=.inr (.inr (.inl rfl));have E:(3:Int)=0\/(3:Int)=m\/(3:Int)=2\/(3:Int)=3:=.inr (.inr (.inr rfl));have S:=O (V B 0 r);have P:=O (V B m K);have N:=O (V B 2 D);have G:=O (V B 3 E);clear B Y r K D E;generalize g 0=a,g m=b,g 2=c,g 3=d,Lb.flg fl 1=f at *;go_enter func158,ntmps158;go_wp2_with fail;refine(V S).mono ?_;rintro e I ⟨rfl,rfl⟩;clear S;cases a
 ·go_wp2_with fail;refine(V P).mono ?_;rintro e I ⟨rfl,rfl⟩;clear P;go_wp2_with fail;refine(V N).mono ?_;rintro e I ⟨rfl,rfl⟩;clear N;cases b<;>cases c<;>cases f<;>
  ·exact u7C
 ·clear P;go_wp2_with fail;refine(V N).mono ?_;rintro e I ⟨rfl,rfl⟩;clear N;cases c<;>cases f<;>
  ·exact u7C
end
section
variable {w:World} {L p:Nat} {xv:Value} {fl:Int} {rtl dec:Bool} {X:List Int} {o:Lb.Of}
theorem z7P(h:LbH w L p xv fl rtl dec)(J:Sk .i32 w xv X):Calls prog 159 #[.pointer (some ⟨L,0,none⟩)] w (IntB w (x3b (!Lb.flg fl 1&&Lb.x2y X) 16)):=by
 have u:=h.c1;have K:=O (z3D J);have v:=O (y5i h 1);have y:=O (fun b W=>x4E b 16 W);obtain⟨R,M,rfl,_,_⟩:=J.shape;have E:Bw w w:=b0r;generalize Lb.flg fl 1=f at *;cases f
 ·go_enter func159,ntmps159;exact G6B
 ·go_enter func159,ntmps159;exact V9g
theorem z7Q(h:LbH w L p xv fl rtl dec)(J:Sk .i32 w xv X):Calls prog 160 #[.pointer (some ⟨L,0,none⟩)] w (IntB w (x3b (X.any fun c=>decide (46=c)) 32)):=by
 have u:=h.c1;have K:=O (cnt18 46 xv X w J);have y:=O (fun b W=>x4E b 32 W);obtain⟨R,M,rfl,_,_⟩:=J.shape;go_enter func160,ntmps160;go_wp2_with(first| (refine(V K).mono ?_;rintro e d ⟨rfl,m⟩)|(refine(V y _ _).mono ?_;rintro e I ⟨rfl,rfl⟩));go_ret;exact⟨rfl,m⟩
theorem ws18(h:LbH w L p xv fl rtl dec)(a:PLbC p xv X o w){c}(T:Rune c):Calls prog 210 #[.pointer (some ⟨L,0,none⟩),.int .i32 c] w (x0c w (Lb.bst o fl dec c)):=by
 have B:=h.c0;have K:=O (a.s c T w (b0r));have t:Hid (∀W,Bw w W->Calls prog 207 #[.pointer (some ⟨L,0,none⟩),.int .i64 16] W (Sm18 (.bool (Lb.flg fl 16)) W)/\W.cell? ⟨L,4,none⟩=some (.bool dec)):=fun W U=>⟨y5i (h.below U) 16,(h.below U).c4⟩;have E:Hid (Lb.bst o fl dec c=(decide (o.st c≠1)&&(decide (o.st c≠4)||(Lb.flg fl 16&&!dec)))):=rfl;generalize Lb.bst o fl dec c=bb,Lb.flg fl 16=f,o.st c=k at *;by_cases Z:k=1
 ·subst Z;obtain rfl:bb=false:=V E;go_enter func210,ntmps210;exact w5F
 ·by_cases z:k=4
  ·subst z;obtain rfl:bb=(f&&!dec):=V E;go_enter func210,ntmps210;go_wp2_with fail;refine c0m K fun I b1=>?_;have v:=O (V t I b1).1;have x:=(V t I b1).2;cases f<;>
   ·go_wp2_with(refine(V v).mono ?_;rintro e I ⟨rfl,rfl⟩);go_ret;exact⟨rfl,b1⟩
  ·have F:(k==1)=false:=W2z;have g:(k==4)=false:=(by grind);obtain rfl:bb=true:=(by rw[V E,d0t Z,d0t z];rfl);go_enter func210,ntmps210;exact w5F
theorem z7S(h:LbH w L p xv fl rtl dec)(J:Sk .i32 w xv X)(a:PLbC p xv X o w):Calls prog 162 #[.pointer (some ⟨L,0,none⟩)] w (IntB w (x3b (X.any (Lb.bst o fl dec)) 128)):=by
 have H:∀(fn:Fn) (first M:Array Value) (w:World),(Instr.makeFunc fn first M).run prog w=.ok (.func fn first M) w:=fun _ _ _ _=>rfl;have u:=h.c1;have K:=O (z7L 210 #[.pointer (some ⟨L,0,none⟩)] #[] y1X (Lb.bst o fl dec) xv X w J fun k G W U=>ws18 (h.below U) (a.on U) (x1d J G));have y:=O (fun b W=>x4E b 128 W);obtain⟨R,M,rfl,_,_⟩:=J.shape;go_enter func162,ntmps162;go_wp2_with(first| (refine(V K).mono ?_;rintro e d ⟨rfl,m⟩)|(refine(V y _ _).mono ?_;rintro e I ⟨rfl,rfl⟩));go_ret;exact⟨rfl,m⟩
theorem z6M c w:Calls prog 211 #[.int .i32 c] w (x0c w (decide (c<128)&&!Lb.ldh c)):=by
 have K:=O (z2E c w);by_cases T:c<128
 ·rw[d0t T];go_enter func211,ntmps211;exact w5F
 ·rw[d0f T];go_enter func211,ntmps211;exact T8v
theorem z7T(h:LbH w L p xv fl rtl dec)(J:Sk .i32 w xv X):Calls prog 163 #[.pointer (some ⟨L,0,none⟩)] w (IntB w (x3b (Lb.flg fl 8&&X.any fun c=>decide (c<128)&&!Lb.ldh c) 256)):=by
 have H:∀(fn:Fn) (first M:Array Value) (w:World),(Instr.makeFunc fn first M).run prog w=.ok (.func fn first M) w:=fun _ _ _ _=>rfl;have u:=h.c1;have K:=O (z7L 211 #[] #[] y0i (fun c=>decide (c<128)&&!Lb.ldh c) xv X w J fun k _ W _=>z6M (X.getD k 0) W);have v:=O (y5i h 8);have y:=O (fun b W=>x4E b 256 W);obtain⟨R,M,rfl,_,_⟩:=J.shape;have E:Bw w w:=b0r;generalize Lb.flg fl 8=f at *;cases f
 ·go_enter func163,ntmps163;exact V9g
 ·go_enter func163,ntmps163;exact G6B
end
section
variable {w:World} {L p:Nat} {xv:Value} {fl:Int} {rtl dec:Bool} {X:List Int} {o:Lb.Of}
theorem z7R(h:LbH w L p xv fl rtl dec)(J:Sk .i32 w xv X)(A:0<X.length)(a:PLbC p xv X o w):Calls prog 161 #[.pointer (some ⟨L,0,none⟩)] w (IntB w (x3b (o.mrk (X.getD 0 0)) 64)):=by
 have s:=J.len;have g:=O fun W (U:Bw w W)=>(h.below U).c0;have N:=O fun W (U:Bw w W)=>(h.below U).c1;have K:=O (a.m (X.getD 0 0) (x1d J A));have y:=O (fun b W=>x4E b 64 W);obtain⟨b,P,M,rfl,_,_,F⟩:=J.place f6J
 have B:Hid (∀W,Bw w W->W.cell? ⟨b,P,none⟩=some (.int .i32 (X.getD 0 0))):=fun W U=>by
  rw[U.cell (x0a (F 0 A))];exact F 0 A
 have T:Bw w w:=b0r;have Y:=T.drew;have v:(0:Int)<X.length:=f6J;clear h a J F;generalize o.mrk (X.getD 0 0)=z at *;generalize X.getD 0 0=c at *;go_enter func161,ntmps161;go_wp2_with fail;go_region_held3(fun l=>l.cell? ⟨L,0,none⟩=some (.pointer (some ⟨p,0,none⟩))/\l.cell? ⟨L,1,none⟩=some (.slice (some ⟨b,P,none⟩) X.length M)/\l.cell? ⟨b,P,none⟩=some (.int .i32 c)/\Bw w l) (first| exact⟨V g _ W8X,V N _ W8X,V B _ W8X,W8X⟩|(have D:=x0b Y W8X;exact⟨V g _ D,V N _ D,V B _ D,D⟩) | go_keep) (first| (go_at_call 209;refine(V K _ W8X).mono ?_;rintro e I ⟨rfl,b1⟩;have E:=x0b (W8X:Bw w _) b1)|(go_at_call 205;refine(V y _ _).mono ?_;rintro e d ⟨rfl,rfl⟩));have t:=O E;clear K g N B E b1 Y T y;exact w4H
theorem z7U(h:LbH w L p xv fl rtl dec)(J:Sk .i32 w xv X)(a:PLbC p xv X o w):Calls prog 164 #[.pointer (some ⟨L,0,none⟩)] w (IntB w (x3b (Lb.flg fl 4&&o.jn) 512)):=by
 obtain⟨n,E,B⟩:=a.j;have g:=O fun W (U:Bw w W)=>(h.below U).c0;have N:=O fun W (U:Bw w W)=>(h.below U).c1;have u:=O fun W (U:Bw w W)=>(h.below U).c3;have v:=O fun W (U:Bw w W)=>y5i (h.below U) 4;have C:=O B;have y:=O (fun b W=>x4E b 512 W);obtain⟨R,M,rfl,_,_⟩:=J.shape;have Y:Bw w w.drew:=(b0r).drew;rw[<- E];clear h a J B E;generalize Lb.flg fl 4=f at *;cases f
 ·go_enter func164,ntmps164;go_wp2_with fail;refine wp_region_held_drew (S:=fun l=>Bw w l) f4x (Y) (fun hHeld=>?_);refine tk9 0 (.pointer (some ⟨L,0,none⟩)) ?_;refine rd9 1 fun K hK=>?_;go_simp;refine(V v _ hHeld).mono ?_;rintro e I ⟨rfl,rfl⟩;go_wp2_with fail;refine hK.out _ _ ?_ (fun hHeld=>?_)
  ·exact hHeld
  clear hK K
  try simp only[Act.put,sa9,sb9,sc9]
  refine tk9 2 (.bool false) ?_;refine tn9 3 ?_;refine tn9 4 ?_;refine tn9 5 ?_;refine tn9 6 ?_;refine tn9 7 ?_;refine tn9 8 ?_;refine tn9 9 ?_;refine tn9 10 ?_;refine tn9 11 ?_;refine tn9 12 ?_;refine tk9 13 (.bool false) ?_;refine rd9 14 fun K hK=>?_;go_simp;refine(V y _ _).mono ?_;rintro e P ⟨rfl,rfl⟩;go_wp2_with fail;refine hK.out _ _ ?_ (fun hHeld=>?_)
  ·exact hHeld
  clear hK K
  try simp only[Act.put,sa9,sb9,sc9]
  refine tk9 15 (.int .i64 (x3b (false) 512)) ?_;exact S4i
 ·go_enter func164,ntmps164;go_wp2_with fail;refine wp_region_held_drew (S:=fun l=>Bw w l) f4x (Y) (fun hHeld=>?_);refine tk9 0 (.pointer (some ⟨L,0,none⟩)) ?_;refine rd9 1 fun K hK=>?_;go_simp;refine(V v _ hHeld).mono ?_;rintro e I ⟨rfl,rfl⟩;go_wp2_with fail;refine hK.out _ _ ?_ (fun hHeld=>?_)
  ·exact hHeld
  clear hK K
  try simp only[Act.put,sa9,sb9,sc9]
  refine tk9 2 (.bool true) ?_;refine tk9 3 (.pointer (some ⟨L,0,none⟩)) ?_;refine tk9 4 (.pointer (some ⟨L,0,none⟩)) ?_;refine tk9 5 (.pointer (some ⟨L,0,none⟩)) ?_;refine tk9 6 (.pointer (some ⟨p,0,none⟩)) ?_ (hy:=u8L);refine tk9 7 (.pointer (some ⟨L,0,none⟩)) ?_;refine tk9 8 (.pointer (some ⟨L,0,none⟩)) ?_;refine tk9 9 (.pointer (some ⟨L,1,none⟩)) ?_;refine tk9 10 (.slice R X.length M) ?_ (hy:=M4q);refine rd9 11 fun K hK=>?_;go_simp;refine c1m (V C _ hHeld) fun d m=>?_;go_wp2_with fail;refine hK.out _ _ ?_ (fun hHeld=>?_)
  ·exact x0b hHeld m
  clear hK K
  try simp only[Act.put,sa9,sb9,sc9]
  refine tk9 12 (.bool (decide (0<=n))) ?_;refine tk9 13 (.bool (decide (0<=n))) ?_;refine rd9 14 fun K hK=>?_;go_simp;refine(V y _ _).mono ?_;rintro e P ⟨rfl,rfl⟩;go_wp2_with fail;refine hK.out _ _ ?_ (fun hHeld=>?_)
  ·exact hHeld
  clear hK K
  try simp only[Act.put,sa9,sb9,sc9]
  refine tk9 15 (.int .i64 (x3b ((decide (0<=n))) 512)) ?_;exact S4i
theorem z7V(h:LbH w L p xv fl rtl dec)(J:Sk .i32 w xv X)(a:PLbC p xv X o w):Calls prog 165 #[.pointer (some ⟨L,0,none⟩)] w (IntB w (x3b ((Lb.flg fl 2&&rtl)&&o.bi) 1024)):=by
 obtain⟨n,E,B⟩:=a.r;have g:=O fun W (U:Bw w W)=>(h.below U).c0;have N:=O fun W (U:Bw w W)=>(h.below U).c1;have u:=O fun W (U:Bw w W)=>(h.below U).c3;have v:=O fun W (U:Bw w W)=>y5i (h.below U) 2;have C:=O B;have y:=O (fun b W=>x4E b 1024 W);obtain⟨R,M,rfl,_,_⟩:=J.shape;have Y:Bw w w.drew:=(b0r).drew;rw[<- E];clear h a J B E;generalize Lb.flg fl 2=f at *;cases f
 ·go_enter func165,ntmps165;go_wp2_with fail;refine wp_region_held_drew (S:=fun l=>Bw w l) f4x (Y) (fun hHeld=>?_);refine tk9 0 (.pointer (some ⟨L,0,none⟩)) ?_;refine rd9 1 fun K hK=>?_;go_simp;refine(V v _ hHeld).mono ?_;rintro e I ⟨rfl,rfl⟩;go_wp2_with fail;refine hK.out _ _ ?_ (fun hHeld=>?_)
  ·exact hHeld
  clear hK K
  try simp only[Act.put,sa9,sb9,sc9]
  refine tk9 2 (.bool false) ?_;refine tn9 3 ?_;refine tn9 4 ?_;refine tn9 5 ?_;refine tn9 6 ?_;exact U5R
 cases rtl
 ·go_enter func165,ntmps165;go_wp2_with fail;refine wp_region_held_drew (S:=fun l=>Bw w l) f4x (Y) (fun hHeld=>?_);refine tk9 0 (.pointer (some ⟨L,0,none⟩)) ?_;refine rd9 1 fun K hK=>?_;go_simp;refine(V v _ hHeld).mono ?_;rintro e I ⟨rfl,rfl⟩;go_wp2_with fail;refine hK.out _ _ ?_ (fun hHeld=>?_)
  ·exact hHeld
  clear hK K
  try simp only[Act.put,sa9,sb9,sc9]
  refine tk9 2 (.bool true) ?_;refine tk9 3 (.pointer (some ⟨L,0,none⟩)) ?_;refine tk9 4 (.pointer (some ⟨L,0,none⟩)) ?_;refine tk9 5 (.pointer (some ⟨L,3,none⟩)) ?_;refine tk9 6 (.bool false) ?_ (hy:=t4S);exact U5R
 ·go_enter func165,ntmps165;go_wp2_with fail;refine wp_region_held_drew (S:=fun l=>Bw w l) f4x (Y) (fun hHeld=>?_);refine tk9 0 (.pointer (some ⟨L,0,none⟩)) ?_;refine rd9 1 fun K hK=>?_;go_simp;refine(V v _ hHeld).mono ?_;rintro e I ⟨rfl,rfl⟩;go_wp2_with fail;refine hK.out _ _ ?_ (fun hHeld=>?_)
  ·exact hHeld
  clear hK K
  try simp only[Act.put,sa9,sb9,sc9]
  refine tk9 2 (.bool true) ?_;refine tk9 3 (.pointer (some ⟨L,0,none⟩)) ?_;refine tk9 4 (.pointer (some ⟨L,0,none⟩)) ?_;refine tk9 5 (.pointer (some ⟨L,3,none⟩)) ?_;refine tk9 6 (.bool true) ?_ (hy:=t4S);refine tk9 7 (.bool true) ?_;refine tk9 8 (.bool true) ?_;refine tk9 9 (.pointer (some ⟨L,0,none⟩)) ?_;refine tk9 10 (.pointer (some ⟨L,0,none⟩)) ?_;refine tk9 11 (.pointer (some ⟨L,0,none⟩)) ?_;refine tk9 12 (.pointer (some ⟨p,0,none⟩)) ?_ (hy:=u8L);refine tk9 13 (.pointer (some ⟨L,0,none⟩)) ?_;refine tk9 14 (.pointer (some ⟨L,0,none⟩)) ?_;refine tk9 15 (.pointer (some ⟨L,1,none⟩)) ?_;refine tk9 16 (.slice R X.length M) ?_ (hy:=M4q);refine rd9 17 fun K hK=>?_;go_simp;refine c1m (V C _ hHeld) fun d m=>?_;go_wp2_with fail;refine hK.out _ _ ?_ (fun hHeld=>?_)
  ·exact x0b hHeld m
  clear hK K
  try simp only[Act.put,sa9,sb9,sc9]
  refine tk9 18 (.bool (n != 0)) ?_;refine tk9 19 (.bool (n != 0)) ?_;refine rd9 20 fun K hK=>?_;go_simp;refine(V y _ _).mono ?_;rintro e P ⟨rfl,rfl⟩;go_wp2_with fail;refine hK.out _ _ ?_ (fun hHeld=>?_)
  ·exact hHeld
  clear hK K
  try simp only[Act.put,sa9,sb9,sc9]
  refine tk9 21 (.int .i64 (x3b ((n != 0)) 1024)) ?_;refine wpAnyH_done f4x ?_ _;go_wp2;go_ret;exact⟨rfl,hHeld⟩
end
namespace Lb
variable {o:Of} {fl:Int} {dec rtl:Bool} {X:List Int}
def part(o:Of)(fl:Int)(rtl dec:Bool)(X:List Int):Nat->Nat
 | 0=>if(!o.nf)=true then 4 else 0
 | 1=>if(flg fl 1&&hyp X)=true then 8 else 0
 | 2=>if(!flg fl 1&&x2y X)=true then 16 else 0
 | 3=>if(X.any fun c=>decide (46=c))=true then 32 else 0
 | 4=>if o.mrk (X.getD 0 0)=true then 64 else 0
 | 5=>if X.any (bst o fl dec)=true then 128 else 0
 | 6=>if(flg fl 8&&X.any fun c=>decide (c<128)&&!ldh c)=true then 256 else 0
 | 7=>if(flg fl 4&&o.jn)=true then 512 else 0
 | 8=>if((flg fl 2&&rtl)&&o.bi)=true then 1024 else 0
 | _=>0
def acc(f:Nat->Nat):Nat->Nat
 | 0=>0
 | k+1=>acc f k|||f k
theorem y9B k:part o fl rtl dec X k<2^11:=by
 unfold part
 split<;>first| exact x3e e8M e8M | decide
theorem x5o:∀k,acc (part o fl rtl dec X) k<2^11
 | 0=>by show 0<2^11;exact e8M
 | k+1=>Nat.or_lt_two_pow (x5o k) (y9B k)
theorem y9n i:(num o fl dec X).testBit i=((if(X.any fun c=>decide (46=c))=true then 32 else 0)|||(if X.any (bst o fl dec)=true then 128 else 0)|||(if(flg fl 8&&X.any fun c=>decide (c<128)&&!ldh c)=true then 256 else 0)).testBit i:=by
 rw[z6l,Nat.testBit_or,Nat.testBit_or,x7R,x7R,x7R];simp only[Bool.decide_eq_true]
 induction X with
 | nil=>simp
 | cons c l ih =>
  rw[List.any_cons,ih];unfold nb;rw[Nat.testBit_or,Nat.testBit_or,x7R,x7R,x7R];have P:decide (c=46)=decide (46=c):=(by simp[eq_comm]);rw[P];unfold std;simp only[List.any_cons,Bool.decide_eq_true];simp only[Bool.and_or_distrib_left,Bool.and_or_distrib_right];ac_rfl
theorem z4r:acc (part o fl rtl dec X) 9=chk o fl rtl dec X:=by
 unfold chk hd;rw[Nat.eq_of_testBit_eq y9n];simp only[acc,part];cases e:flg fl 1
 ·grind
 ·grind
end Lb
def gk18:Nat->Nat
 | 0=>157
 | 1=>158
 | 2=>159
 | 3=>160
 | 4=>161
 | 5=>162
 | 6=>163
 | 7=>164
 | _=>165
def Crs18(w:World)(L s:Nat):Prop:=∀k,k<9->w.cell? ⟨s,k,none⟩=some (.func (.func (gk18 k)) #[.pointer (some ⟨L,0,none⟩)] #[])
theorem y4W{k}(G:k<9):∀args w,(callFunc (gk18 k) args).run prog w=.ok (.enter (gk18 k) args) w:=by
 match k,G with
 | 0,_=>exact enters_of func157 f4y rfl
 | 1,_=>exact enters_of func158 f4y rfl
 | 2,_=>exact enters_of func159 f4y rfl
 | 3,_=>exact enters_of func160 f4y rfl
 | 4,_=>exact enters_of func161 f4y rfl
 | 5,_=>exact enters_of func162 f4y rfl
 | 6,_=>exact enters_of func163 f4y rfl
 | 7,_=>exact enters_of func164 f4y rfl
 | 8,_=>exact enters_of func165 f4y rfl
 | n+9,h=>exact absurd h f6J
theorem z4M{w L p xv fl}{rtl dec X o}(h:LbH w L p xv fl rtl dec)(J:Sk .i32 w xv X)(A:0<X.length)(j:X.length<=65536)(a:PLbC p xv X o w){k}(G:k<9):Calls prog (gk18 k) #[.pointer (some ⟨L,0,none⟩)] w (IntB w ((Lb.part o fl rtl dec X k:Nat):Int)):=by
 have g:∀{m:Nat} {b:Bool} (n:Nat),Calls prog m #[.pointer (some ⟨L,0,none⟩)] w (IntB w (x3b b n))->Calls prog m #[.pointer (some ⟨L,0,none⟩)] w (IntB w ((if b=true then n else 0:Nat):Int)):=fun{m b} n h=>by
  have e:((if b=true then n else 0:Nat):Int)=x3b b n:=(by cases b<;>rfl);rw[e];exact h
 match k,G with
 | 0,_=>exact g 4 (z7N h J a)
 | 1,_=>exact g 8 (z7O h J A j)
 | 2,_=>exact g 16 (z7P h J)
 | 3,_=>exact g 32 (z7Q h J)
 | 4,_=>exact g 64 (z7R h J A a)
 | 5,_=>exact g 128 (z7S h J a)
 | 6,_=>exact g 256 (z7T h J)
 | 7,_=>exact g 512 (z7U h J a)
 | 8,_=>exact g 1024 (z7V h J a)
 | n+9,h=>exact absurd h f6J
def CrB18(w:World)(L:Nat)(e:Ending)(w':World):Prop:=∃s,e=.returned (.slice (some ⟨s,0,none⟩) 9 9)/\Crs18 w' L s/\Below w.heap.size w w'
theorem y4R L w:Calls prog 112 #[.pointer (some ⟨L,0,none⟩)] w (CrB18 w L):=by
 have H:∀(fn:Fn) (first M:Array Value) (w:World),(Instr.makeFunc fn first M).run prog w=.ok (.func fn first M) w:=fun _ _ _ _=>rfl;go_enter func112,ntmps112;go_wp2;go_ret;refine⟨w.heap.size,rfl,fun k G=>?_,(b0r).alloc (l0r _) _⟩
 match k,G with
 | 0,_=>exact t6Q
 | 1,_=>exact t6Q
 | 2,_=>exact t6Q
 | 3,_=>exact t6Q
 | 4,_=>exact t6Q
 | 5,_=>exact t6Q
 | 6,_=>exact t6Q
 | 7,_=>exact t6Q
 | 8,_=>exact t6Q
 | n+9,h=>exact absurd h f6J
theorem z7C{w p xv X}{o}(a:PLbC p xv X o w)(J:Sk .i32 w xv X)(j:X.length<=65536) fl rtl dec:Calls prog 68 #[.pointer (some ⟨p,0,none⟩),xv,.int .i64 fl,.bool rtl,.bool dec] w (IntB w ((Lb.err o fl rtl dec X:Nat):Int)):=by
 have l:=J.len;unfold Lb.err;rcases Nat.eq_zero_or_pos X.length with h0 | h0
 ·rw[if_pos h0];obtain⟨R,M,rfl,_,_⟩:=J.shape;rw[h0];clear a J;go_enter func68,ntmps68;go_wp2;go_ret;exact⟨rfl,b0r⟩
 ·rw[if_neg f6J,<- Lb.z4r];have t:((X.length:Int)==0)=false:=G9k;have A:∀o,Bw w (w.alloc o):=fun o=>(b0r).alloc (l0r _) o
  have b:Hid (LbH (w.alloc (.cells #[.pointer (some ⟨p,0,none⟩),xv,.int .i64 fl,.bool rtl,.bool dec] 178)) w.heap.size p xv fl rtl dec):=R0o
  have f:Hid (∀W k,Bw w W->LbH W w.heap.size p xv fl rtl dec->k<9->Calls prog (gk18 k) #[.pointer (some ⟨w.heap.size,0,none⟩)] W (IntB W ((Lb.part o fl rtl dec X k:Nat):Int))):=fun W k U q G=>z4M q (J.below U) h0 j (a.on U) G;have c:Hid (∀k,bits .or .i64 ((Lb.acc (Lb.part o fl rtl dec X) k:Nat):Int) ((Lb.part o fl rtl dec X k:Nat):Int)=((Lb.acc (Lb.part o fl rtl dec X) (k+1):Nat):Int)):=fun k=>Bd.or17 (Lb.x5o k) (Lb.y9B k);have n:Hid (Lb.acc (Lb.part o fl rtl dec X) 0=0):=rfl;have K:=O (fun W=>y4R w.heap.size W);have D:=O (A (.cells #[.pointer (some ⟨p,0,none⟩),xv,.int .i64 fl,.bool rtl,.bool dec] 178));obtain⟨R,M,rfl,_,_⟩:=J.shape;clear a J A;generalize Lb.acc (Lb.part o fl rtl dec X)=z at *;generalize Lb.part o fl rtl dec X=E at *;go_enter func68,ntmps68;go_wp2_with fail;refine(V K _).mono ?_;rintro e I ⟨s,rfl,T,b1⟩;have F:=O ((V b).below b1);have Q:=O (x0b (V D) b1);have B:=O T;clear K b D T b1;go_wp2;go_loopw[12,14,28] (fun P _ S wr=>∃k:Nat,P=.int .i64 ((z k:Nat):Int)/\S=.int .i64 k/\k<=9/\Bw I wr) (fun _ _ S _=>9-(intOf S).toNat)
  case atStart=>exact⟨0,n8s,rfl,f6J,b0r⟩
  case round =>
   obtain⟨k,rfl,rfl,G,r⟩:=hrel;by_cases H:k<9
   ·have v:(k:Int)<9:=f6J;have u:wr.cell? ⟨s,k,none⟩=some (.func (.func (gk18 k)) #[.pointer (some ⟨w.heap.size,0,none⟩)] #[]):=(by rw[r.cell (x0a (V B k H))];exact V B k H);have C:=O (V f wr k (x0b (V Q) r) ((V F).below r) H);have x:=O (V c k);have Z:=y4W H;have N:=O r;clear r f c n B F Q;generalize gk18 k=g at *;go_wp2_with(go_at_fn g;refine(V C).mono ?_;rintro e d ⟨rfl,m⟩);have i:=O (x0b (V N) m);clear C N m
    go_roundw
    case rel=>exact⟨k+1,by rw[V x],g2A,f6J,V i⟩
    case measure=>exact g7T
   ·obtain rfl:k=9:=f6J;have Y:=O (x0b (V Q) r);clear r f c n B F Q;go_wp2;go_ret;exact⟨rfl,V Y⟩
