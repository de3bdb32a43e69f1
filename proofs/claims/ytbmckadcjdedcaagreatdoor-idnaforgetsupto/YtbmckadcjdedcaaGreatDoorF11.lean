import Derived.Test.YtbmckadcjdedcaaGreatDoorF10
import Derived.Deep.QuietTactic
import Derived.BigQuiet
set_option maxHeartbeats 8000000
set_option maxRecDepth 20000
namespace Go.Proofs.YtbmckadcjdedcaaGreatDoor
open Go.Proofs.Tryz
open Go.RowKit
section
variable{p:Prop}
theorem r8j(h:p:=by go_enter func167,ntmps167;go_wp2_with fail;refine c1m (V KSH _) fun w1 hb1=>?_;have hB:=x0b hb0 hb1;have HC1:Hid _:=V HC w1 hb1;go_wp2_with fail;refine c1m (V KF _ hB) fun w2 hb2=>?_;have hA:=x0b hb1 hb2;have hB:=x0b hb0 hA;obtain⟨x0,x1,x2,x3,x4,x5,x6,x7⟩:=V HC _ hA;go_wp2_with fail;refine c1m (V K1 _ hB) fun w3 hb3=>?_;have hA:=x0b hA hb3;have hB:=x0b hb0 hA;clear x0 x1 x2 x3 x4 x5 x6 x7;obtain⟨x0,x1,x2,x3,x4,x5,x6,x7⟩:=V HC _ hA;go_wp2_with fail;refine c1m (V K2 _ hB) fun w4 hb4=>?_;have hA:=x0b hA hb4;have hB:=x0b hb0 hA;clear x0 x1 x2 x3 x4 x5 x6 x7;obtain⟨x0,x1,x2,x3,x4,x5,x6,x7⟩:=V HC _ hA;go_wp2_with fail;refine c1m (V K3 _ hB) fun w5 hb5=>?_;have hA:=x0b hA hb5;have hB:=x0b hb0 hA;clear x0 x1 x2 x3 x4 x5 x6 x7;obtain⟨x0,x1,x2,x3,x4,x5,x6,x7⟩:=V HC _ hA;go_wp2_with fail;refine c1m (V K4 _ hB) fun w6 hb6=>?_;have hA:=x0b hA hb6;have hB:=x0b hb0 hA;clear x0 x1 x2 x3 x4 x5 x6 x7;obtain⟨x0,x1,x2,x3,x4,x5,x6,x7⟩:=V HC _ hA;go_wp2_with fail;refine c1m (V K5 _ hB) fun w7 hb7=>?_;have hA:=x0b hA hb7;have hB:=x0b hb0 hA;clear x0 x1 x2 x3 x4 x5 x6 x7;have HF:=O hB;clear KSH KF K1 K2 K3 K4 K5 HC;go_wp2;go_ret;exact⟨rfl,V HF⟩):p:=h
theorem r9X(h:p:=by have L:¬Cn.fam r.kind=0:=m9n;have P:=x1G e rfl rfl;have f:=x1g e rfl rfl;have E:=x0D e rfl;have o:=x0Q e rfl;have i:plB r=(spanB r):=(by unfold plB;rw[if_neg f6J,if_neg f6J,if_neg f6J]);unfold okB;rw[P,f,E,o,i];unfold Cn.right;rw[if_neg L];rw[if_neg (f6J:¬r.kind=15)];rw[if_pos (f6J:r.kind=1\/r.kind=2\/r.kind=11)];rw[x1l];unfold Cn.bare;have S:∀x y:Bool,x=y->(if x=true then(0:Int)else 61)=if y=true then 0 else 61:=fun x y A=>T7E;refine S _ _ ?_;generalize spanB r=F;generalize decide (r.n=0)=X;generalize decide (r.to.length=0)=j;generalize decide (r.name.size=0)=J;generalize decide (r.other.size=0)=C;generalize decide (r.wt=0)=D;cases F<;>cases X<;>cases j<;>cases J<;>cases C<;>cases D<;>rfl):p:=h
theorem N9E(h:p:=by unfold plB;rw[if_neg f6J,if_neg f6J,if_neg f6J]):p:=h
theorem m9m(h:p:=by rw[h];exact e8N):p:=h
theorem N1O(h:p:=by unfold plB;rw[if_neg f6J,if_pos f6J]):p:=h
theorem m9n(h:p:=by rw[h];exact e8N):p:=h
theorem e2R(h:p:=by rw[hp,if_pos rfl]at R;subst R;rw[hp]at A;clear C r HY;go_wp2_with fail;refine c0m A fun w2 F=>?_;have T:x0c w true (.returned (.bool true)) w2:=⟨rfl,x0b (x0b z (V I)) F⟩;clear A F I u S t J g;go_wp2;go_ret;exact T):p:=h
theorem v7z(h:p:=by unfold weiB;rw[e];exact if_pos rfl):p:=h
theorem p0L(h:p:=by have e0:N-k=0:=f6J;rw[e0,mA]at R;subst R;have T:x0c w false (.returned (.bool false)) wr:=⟨rfl,x0b z l⟩;clear P r HY l;exact U7J):p:=h
theorem F5z(h:p:=by rw[if_pos q]at R;subst R;have x:=d0t q;have T:x0c w false (.returned (.bool false)) wr:=⟨rfl,x0b z l⟩;clear P r HY l C;exact U7J):p:=h
theorem G9P(h:p:=by have h2:W.heap[w.heap.size]?=_:=(h.block _ P8P).trans h0;exact⟨cell_of (j:=1) h2 (by simp),cell_of (j:=2) h2 (by simp)⟩):p:=h
theorem e5s(h:p:=by show((w.heap.push _).push _)[w.heap.size]?=_;rw[Array.getElem?_push_lt (by simp)];simp):p:=h
theorem R8s(h:p:=by unfold runV;go_enter func217,ntmps217;go_wp2;go_ret;exact⟨rfl,ae⟩):p:=h
theorem u6j(h:p:=by have:=h.s1;exact f6J):p:=h
theorem R8d(h:p:=by have:=D.l0;have:=D.lh;exact f6J):p:=h
theorem R1B(h:p:=by have:=D.lh;have:=D.h1;exact f6J):p:=h
theorem t8K(h:p:=by have:=h.l0;have:=h.lh;exact f6J):p:=h
theorem g0J(h:p:=by have:=h.lh;have:=h.h1;exact f6J):p:=h
theorem F6r(h:p:=by rw[(f6J:N-(k+1)=M)];exact R):p:=h
end
def plB(r:Rec):Bool:=if r.kind=4 then shiftB r else if r.kind=5\/r.kind=7\/r.kind=8\/r.kind=13 then decide (r.lo=r.hi)&&Cn.scalar r.lo else if r.kind=15 then decide (r.lo=0/\r.hi=0)else spanB r
def okB(r:Rec):Bool:=plB r&&(tarB r.kind r&&(numB r.kind r&&(namB r.kind r&&weiB r.kind r)))
theorem x1b{k:Int}{n:Nat}(h:k=n)(E:n<16):Cn.rowK k=Cn.rowT n:=by
 subst h;unfold Cn.rowK;rw[if_neg f6J,Int.toNat_natCast]
theorem x1G{r}{q:Row9}(e:Cn.rowK r.kind=q)(Z:q.least=0)(D:q.most=0):tarB r.kind r=decide (r.to.length=0):=by
 unfold tarB;rw[e,Z,D,Bool.eq_iff_iff,Bool.and_eq_true,decide_eq_true_eq,decide_eq_true_eq];constructor
 ·rintro⟨h,_⟩;omega
 ·grind
theorem x3r{r}{q:Row9}{a b:Nat}(e:Cn.rowK r.kind=q)(Z:q.least=a)(D:q.most=b):tarB r.kind r=Cn.list r.to a b:=by
 unfold tarB Cn.list;rw[e,Z,D];congr 1;rw[decide_eq_decide];omega
theorem x1g{r}{q:Row9}(e:Cn.rowK r.kind=q)(Z:q.low=0)(D:q.high=0):numB r.kind r=decide (r.n=0):=by
 unfold numB;rw[e,Z,D,decide_eq_decide];omega
theorem x8H{r}{q:Row9}{a b}(e:Cn.rowK r.kind=q)(Z:q.low=a)(D:q.high=b):numB r.kind r=decide (a<=r.n/\r.n<=b):=by
 unfold numB;rw[e,Z,D]
theorem x0D{r}{q:Row9}(e:Cn.rowK r.kind=q)(Z:q.scr=0):namB r.kind r=(decide (r.name.size=0)&&decide (r.other.size=0)):=by
 unfold namB;rw[e,Z,if_neg e8M,if_neg e8M]
theorem x0Q{r}{q:Row9}(e:Cn.rowK r.kind=q)(Z:q.wei=false):weiB r.kind r=decide (r.wt=0):=by
 unfold weiB;rw[e,Z,if_neg e8M]
theorem x1l r:decide (0<=r.lo/\r.lo<=r.hi/\r.hi<=1114111)=spanB r:=by
 unfold spanB;rw[decide_eq_decide];omega
theorem z3h{r}(S:Cn.list r.to 1 1=true)(U:spanB r=true):decide (r.to.getD 0 0+r.hi-r.lo<=1114111/\(r.to.getD 0 0+r.hi-r.lo<55296\/57343<r.to.getD 0 0))=shiftB r:=by
 obtain⟨Z,D⟩:(1<=r.to.length/\r.to.length<=1)/\r.to.all Cn.scalar=true:=by
  unfold Cn.list at S;rw[Bool.and_eq_true]at S;exact⟨o0d S.1,S.2⟩
 obtain⟨a,g⟩:∃a,r.to=[a]:=List.length_eq_one_iff.1 f6J;have H:0<=r.lo/\r.lo<=1114111/\0<=r.hi/\r.hi<=1114111/\r.lo<=r.hi:=o0d U;have B:Cn.scalar a=true:=(by grind);have C:0<=a/\a<=1114111/\¬(55296<=a/\a<=57343):=o0d B;unfold shiftB;rw[U,g];show decide (a+r.hi-r.lo<=1114111/\(a+r.hi-r.lo<55296\/57343<a))=(true&&(decide (1=1)&&(Cn.scalar a&&(Cn.scalar (a+r.hi-r.lo)&&(decide (a<55296)==decide (a+r.hi-r.lo<55296))))));rw[B];have A:a<=a+r.hi-r.lo:=f6J;simp only[Bool.true_and,decide_true];unfold Cn.scalar;rw[Bool.eq_iff_iff,Bool.and_eq_true,decide_eq_true_eq,decide_eq_true_eq,beq_iff_eq,decide_eq_decide];omega
theorem x4z r b:(spanB r&&(decide (r.lo=r.hi)&&Cn.scalar r.lo&&b))=(decide (r.lo=r.hi)&&Cn.scalar r.lo&&b):=by
 by_cases h:r.lo=r.hi
 ·cases hs:Cn.scalar r.lo with
  | false=>simp
  | true =>
   have:0<=r.lo/\r.lo<=1114111/\¬(55296<=r.lo/\r.lo<=57343):=o0d hs;have L:spanB r=true:=d0t f6J;rw[L];simp
 ·rw[d0f h];simp
theorem y6p r(h:spanB r=false):shiftB r=false:=by
 unfold shiftB;rw[h];rfl
theorem z9e{r}(h:r.kind=1):Cn.right r=if okB r=true then 0 else 61:=by
 have e:Cn.rowK r.kind=Cn.rowT 1:=x1b h e8N;exact r9X
theorem z9f{r}(h:r.kind=2):Cn.right r=if okB r=true then 0 else 61:=by
 have e:Cn.rowK r.kind=Cn.rowT 2:=x1b h e8N;exact r9X
theorem z9g{r}(h:r.kind=3):Cn.right r=if okB r=true then 0 else 61:=by
 have e:Cn.rowK r.kind=Cn.rowT 3:=x1b h e8N;have L:¬Cn.fam r.kind=0:=m9n;have P:=x3r (a:=1) (b:=24) e rfl rfl;have f:=x1g e rfl rfl;have E:=x0D e rfl;have o:=x0Q e rfl;have i:plB r=(spanB r):=N9E;unfold okB;rw[P,f,E,o,i];unfold Cn.right;rw[if_neg L];rw[if_neg (f6J:¬r.kind=15)];rw[if_neg (f6J:¬(r.kind=1\/r.kind=2\/r.kind=11))];rw[if_pos (f6J:r.kind=3)];rw[x1l];unfold Cn.bare;have S:∀x y:Bool,x=y->(if x=true then(0:Int)else 61)=if y=true then 0 else 61:=fun x y A=>T7E;refine S _ _ ?_;generalize spanB r=F;generalize decide (r.n=0)=X;generalize Cn.list r.to 1 24=j;generalize decide (r.to.length=0)=J;generalize decide (r.name.size=0)=C;generalize decide (r.other.size=0)=D;generalize decide (r.wt=0)=B;cases F<;>cases X<;>cases j<;>cases J<;>cases C<;>cases D<;>cases B<;>rfl
theorem z9h{r}(h:r.kind=4):Cn.right r=if okB r=true then 0 else 61:=by
 have e:Cn.rowK r.kind=Cn.rowT 4:=x1b h e8N;have L:¬Cn.fam r.kind=0:=m9m;have P:=x3r (a:=1) (b:=1) e rfl rfl;have f:=x8H (a:=1) (b:=64) e rfl rfl;have E:=x0D e rfl;have o:=x0Q e rfl;have i:plB r=(shiftB r):=(by unfold plB;rw[if_pos h]);unfold okB;rw[P,f,E,o,i];unfold Cn.right;rw[if_neg L];rw[if_neg (f6J:¬r.kind=15)];rw[if_neg (f6J:¬(r.kind=1\/r.kind=2\/r.kind=11))];rw[if_neg (f6J:¬(r.kind=3))];rw[if_pos (f6J:r.kind=4)];rw[x1l];unfold Cn.bare;have S:∀x y:Bool,x=y->(if x=true then(0:Int)else 61)=if y=true then 0 else 61:=fun x y A=>T7E;refine S _ _ ?_
 cases hsp:spanB r with
 | false=>rw[y6p r hsp];rfl
 | true =>
  cases hl:Cn.list r.to 1 1 with
  | false=>simp
  | true =>
   rw[z3h hl hsp];generalize shiftB r=F;generalize decide (1<=r.n/\r.n<=64)=X;generalize decide (r.name.size=0)=j;generalize decide (r.other.size=0)=J;generalize decide (r.wt=0)=C;generalize decide (r.n=0)=D;generalize decide (r.to.length=0)=B;cases F<;>cases X<;>cases j<;>cases J<;>cases C<;>cases D<;>cases B<;>rfl
theorem z9i{r}(h:r.kind=5):Cn.right r=if okB r=true then 0 else 61:=by
 have e:Cn.rowK r.kind=Cn.rowT 5:=x1b h e8N;have L:¬Cn.fam r.kind=0:=m9m;have P:=x3r (a:=0) (b:=24) e rfl rfl;have f:=x1g e rfl rfl;have E:=x0D e rfl;have o:=x0Q e rfl;have i:plB r=(decide (r.lo=r.hi)&&Cn.scalar r.lo):=N1O;unfold okB;rw[P,f,E,o,i];unfold Cn.right;rw[if_neg L];rw[if_neg (f6J:¬r.kind=15)];rw[if_neg (f6J:¬(r.kind=1\/r.kind=2\/r.kind=11))];rw[if_neg (f6J:¬(r.kind=3))];rw[if_neg (f6J:¬(r.kind=4))];rw[if_pos (f6J:r.kind=5)];rw[x1l];unfold Cn.bare;have S:∀x y:Bool,x=y->(if x=true then(0:Int)else 61)=if y=true then 0 else 61:=fun x y A=>T7E;refine S _ _ ?_;have U:=x4z r (((false||decide (r.n=0))&&(true||decide (r.to.length=0))&&(false||decide (r.name.size=0))&&(false||decide (r.other.size=0))&&(false||decide (r.wt=0)))&&Cn.list r.to 0 24);revert U;generalize spanB r=F;generalize decide (r.lo=r.hi)=X;generalize Cn.scalar r.lo=j;generalize decide (r.n=0)=J;generalize Cn.list r.to 0 24=C;generalize decide (r.to.length=0)=D;generalize decide (r.name.size=0)=B;generalize decide (r.other.size=0)=G;generalize decide (r.wt=0)=K;cases F<;>cases X<;>cases j<;>cases J<;>cases C<;>cases D<;>cases B<;>cases G<;>cases K<;>decide
theorem z9j{r}(h:r.kind=6):Cn.right r=if okB r=true then 0 else 61:=by
 have e:Cn.rowK r.kind=Cn.rowT 6:=x1b h e8N;have L:¬Cn.fam r.kind=0:=m9n;have P:=x1G e rfl rfl;have f:=x8H (a:=1) (b:=254) e rfl rfl;have E:=x0D e rfl;have o:=x0Q e rfl;have i:plB r=(spanB r):=N9E;unfold okB;rw[P,f,E,o,i];unfold Cn.right;rw[if_neg L];rw[if_neg (f6J:¬r.kind=15)];rw[if_neg (f6J:¬(r.kind=1\/r.kind=2\/r.kind=11))];rw[if_neg (f6J:¬(r.kind=3))];rw[if_neg (f6J:¬(r.kind=4))];rw[if_neg (f6J:¬(r.kind=5))];rw[if_neg (f6J:¬(r.kind=13))];rw[if_pos (f6J:r.kind=6)];rw[x1l];unfold Cn.bare;have S:∀x y:Bool,x=y->(if x=true then(0:Int)else 61)=if y=true then 0 else 61:=fun x y A=>T7E;refine S _ _ ?_;generalize spanB r=F;generalize decide (1<=r.n/\r.n<=254)=X;generalize decide (r.n=0)=j;generalize decide (r.to.length=0)=J;generalize decide (r.name.size=0)=C;generalize decide (r.other.size=0)=D;generalize decide (r.wt=0)=B;cases F<;>cases X<;>cases j<;>cases J<;>cases C<;>cases D<;>cases B<;>rfl
theorem z9k{r}(h:r.kind=7):Cn.right r=if okB r=true then 0 else 61:=by
 have e:Cn.rowK r.kind=Cn.rowT 7:=x1b h e8N;have L:¬Cn.fam r.kind=0:=m9m;have P:=x3r (a:=2) (b:=2) e rfl rfl;have f:=x1g e rfl rfl;have E:=x0D e rfl;have o:=x0Q e rfl;have i:plB r=(decide (r.lo=r.hi)&&Cn.scalar r.lo):=N1O;unfold okB;rw[P,f,E,o,i];unfold Cn.right;rw[if_neg L];rw[if_neg (f6J:¬r.kind=15)];rw[if_neg (f6J:¬(r.kind=1\/r.kind=2\/r.kind=11))];rw[if_neg (f6J:¬(r.kind=3))];rw[if_neg (f6J:¬(r.kind=4))];rw[if_neg (f6J:¬(r.kind=5))];rw[if_neg (f6J:¬(r.kind=13))];rw[if_neg (f6J:¬(r.kind=6))];rw[if_pos (f6J:r.kind=7)];rw[x1l];unfold Cn.bare;have S:∀x y:Bool,x=y->(if x=true then(0:Int)else 61)=if y=true then 0 else 61:=fun x y A=>T7E;refine S _ _ ?_;have U:=x4z r (((false||decide (r.n=0))&&(true||decide (r.to.length=0))&&(false||decide (r.name.size=0))&&(false||decide (r.other.size=0))&&(false||decide (r.wt=0)))&&Cn.list r.to 2 2);revert U;generalize spanB r=F;generalize decide (r.lo=r.hi)=X;generalize Cn.scalar r.lo=j;generalize decide (r.n=0)=J;generalize Cn.list r.to 2 2=C;generalize decide (r.to.length=0)=D;generalize decide (r.name.size=0)=B;generalize decide (r.other.size=0)=G;generalize decide (r.wt=0)=K;cases F<;>cases X<;>cases j<;>cases J<;>cases C<;>cases D<;>cases B<;>cases G<;>cases K<;>decide
theorem z9l{r}(h:r.kind=8):Cn.right r=if okB r=true then 0 else 61:=by
 have e:Cn.rowK r.kind=Cn.rowT 8:=x1b h e8N;have L:¬Cn.fam r.kind=0:=m9m;have P:=x3r (a:=1) (b:=2) e rfl rfl;have f:=x1g e rfl rfl;have E:=x0D e rfl;have o:=x0Q e rfl;have i:plB r=(decide (r.lo=r.hi)&&Cn.scalar r.lo):=N1O;unfold okB;rw[P,f,E,o,i];unfold Cn.right;rw[if_neg L];rw[if_neg (f6J:¬r.kind=15)];rw[if_neg (f6J:¬(r.kind=1\/r.kind=2\/r.kind=11))];rw[if_neg (f6J:¬(r.kind=3))];rw[if_neg (f6J:¬(r.kind=4))];rw[if_neg (f6J:¬(r.kind=5))];rw[if_neg (f6J:¬(r.kind=13))];rw[if_neg (f6J:¬(r.kind=6))];rw[if_neg (f6J:¬(r.kind=7))];rw[if_pos (f6J:r.kind=8)];rw[x1l];unfold Cn.bare;have S:∀x y:Bool,x=y->(if x=true then(0:Int)else 61)=if y=true then 0 else 61:=fun x y A=>T7E;refine S _ _ ?_;have U:=x4z r (((false||decide (r.n=0))&&(true||decide (r.to.length=0))&&(false||decide (r.name.size=0))&&(false||decide (r.other.size=0))&&(false||decide (r.wt=0)))&&Cn.list r.to 1 2);revert U;generalize spanB r=F;generalize decide (r.lo=r.hi)=X;generalize Cn.scalar r.lo=j;generalize decide (r.n=0)=J;generalize Cn.list r.to 1 2=C;generalize decide (r.to.length=0)=D;generalize decide (r.name.size=0)=B;generalize decide (r.other.size=0)=G;generalize decide (r.wt=0)=K;cases F<;>cases X<;>cases j<;>cases J<;>cases C<;>cases D<;>cases B<;>cases G<;>cases K<;>decide
theorem z9m{r}(h:r.kind=9):Cn.right r=if okB r=true then 0 else 61:=by
 have e:Cn.rowK r.kind=Cn.rowT 9:=x1b h e8N;have L:¬Cn.fam r.kind=0:=m9n;have P:=x1G e rfl rfl;have f:=x8H (a:=0) (b:=10) e rfl rfl;have E:=x0D e rfl;have o:=x0Q e rfl;have i:plB r=(spanB r):=N9E;unfold okB;rw[P,f,E,o,i];unfold Cn.right;rw[if_neg L];rw[if_neg (f6J:¬r.kind=15)];rw[if_neg (f6J:¬(r.kind=1\/r.kind=2\/r.kind=11))];rw[if_neg (f6J:¬(r.kind=3))];rw[if_neg (f6J:¬(r.kind=4))];rw[if_neg (f6J:¬(r.kind=5))];rw[if_neg (f6J:¬(r.kind=13))];rw[if_neg (f6J:¬(r.kind=6))];rw[if_neg (f6J:¬(r.kind=7))];rw[if_neg (f6J:¬(r.kind=8))];rw[if_pos (f6J:r.kind=9)];rw[x1l];unfold Cn.bare;have S:∀x y:Bool,x=y->(if x=true then(0:Int)else 61)=if y=true then 0 else 61:=fun x y A=>T7E;refine S _ _ ?_;generalize spanB r=F;generalize decide (0<=r.n/\r.n<=10)=X;generalize decide (r.n=0)=j;generalize decide (r.to.length=0)=J;generalize decide (r.name.size=0)=C;generalize decide (r.other.size=0)=D;generalize decide (r.wt=0)=B;cases F<;>cases X<;>cases j<;>cases J<;>cases C<;>cases D<;>cases B<;>rfl
theorem z6D{r}(h:r.kind=10):Cn.right r=if okB r=true then 0 else 61:=by
 have e:Cn.rowK r.kind=Cn.rowT 10:=x1b h e8N;have L:¬Cn.fam r.kind=0:=m9n;have P:=x1G e rfl rfl;have f:=x8H (a:=0) (b:=5) e rfl rfl;have E:=x0D e rfl;have o:=x0Q e rfl;have i:plB r=(spanB r):=N9E;unfold okB;rw[P,f,E,o,i];unfold Cn.right;rw[if_neg L];rw[if_neg (f6J:¬r.kind=15)];rw[if_neg (f6J:¬(r.kind=1\/r.kind=2\/r.kind=11))];rw[if_neg (f6J:¬(r.kind=3))];rw[if_neg (f6J:¬(r.kind=4))];rw[if_neg (f6J:¬(r.kind=5))];rw[if_neg (f6J:¬(r.kind=13))];rw[if_neg (f6J:¬(r.kind=6))];rw[if_neg (f6J:¬(r.kind=7))];rw[if_neg (f6J:¬(r.kind=8))];rw[if_neg (f6J:¬(r.kind=9))];rw[if_pos (f6J:r.kind=10)];rw[x1l];unfold Cn.bare;have S:∀x y:Bool,x=y->(if x=true then(0:Int)else 61)=if y=true then 0 else 61:=fun x y A=>T7E;refine S _ _ ?_;generalize spanB r=F;generalize decide (0<=r.n/\r.n<=5)=X;generalize decide (r.n=0)=j;generalize decide (r.to.length=0)=J;generalize decide (r.name.size=0)=C;generalize decide (r.other.size=0)=D;generalize decide (r.wt=0)=B;cases F<;>cases X<;>cases j<;>cases J<;>cases C<;>cases D<;>cases B<;>rfl
theorem z6E{r}(h:r.kind=11):Cn.right r=if okB r=true then 0 else 61:=by
 have e:Cn.rowK r.kind=Cn.rowT 11:=x1b h e8N;exact r9X
theorem z6F{r}(h:r.kind=12):Cn.right r=if okB r=true then 0 else 61:=by
 have e:Cn.rowK r.kind=Cn.rowT 12:=x1b h e8N;have L:¬Cn.fam r.kind=0:=m9n;have P:=x1G e rfl rfl;have f:=x1g e rfl rfl;have E:namB r.kind r=(Cn.nameL r.name&&decide (r.other.size=0)):=(by unfold namB;rw[e];exact if_pos rfl);have o:=x0Q e rfl;have i:plB r=(spanB r):=N9E;unfold okB;rw[P,f,E,o,i];unfold Cn.right;rw[if_neg L];rw[if_neg (f6J:¬r.kind=15)];rw[if_neg (f6J:¬(r.kind=1\/r.kind=2\/r.kind=11))];rw[if_neg (f6J:¬(r.kind=3))];rw[if_neg (f6J:¬(r.kind=4))];rw[if_neg (f6J:¬(r.kind=5))];rw[if_neg (f6J:¬(r.kind=13))];rw[if_neg (f6J:¬(r.kind=6))];rw[if_neg (f6J:¬(r.kind=7))];rw[if_neg (f6J:¬(r.kind=8))];rw[if_neg (f6J:¬(r.kind=9))];rw[if_neg (f6J:¬(r.kind=10))];rw[if_pos (f6J:r.kind=12)];rw[x1l];unfold Cn.bare;have S:∀x y:Bool,x=y->(if x=true then(0:Int)else 61)=if y=true then 0 else 61:=fun x y A=>T7E;refine S _ _ ?_;generalize spanB r=F;generalize decide (r.n=0)=X;generalize decide (r.to.length=0)=j;generalize Cn.nameL r.name=J;generalize decide (r.name.size=0)=C;generalize decide (r.other.size=0)=D;generalize decide (r.wt=0)=B;cases F<;>cases X<;>cases j<;>cases J<;>cases C<;>cases D<;>cases B<;>rfl
theorem z6G{r}(h:r.kind=13):Cn.right r=if okB r=true then 0 else 61:=by
 have e:Cn.rowK r.kind=Cn.rowT 13:=x1b h e8N;have L:¬Cn.fam r.kind=0:=m9m;have P:=x3r (a:=1) (b:=24) e rfl rfl;have f:=x1g e rfl rfl;have E:=x0D e rfl;have o:=x0Q e rfl;have i:plB r=(decide (r.lo=r.hi)&&Cn.scalar r.lo):=N1O;unfold okB;rw[P,f,E,o,i];unfold Cn.right;rw[if_neg L];rw[if_neg (f6J:¬r.kind=15)];rw[if_neg (f6J:¬(r.kind=1\/r.kind=2\/r.kind=11))];rw[if_neg (f6J:¬(r.kind=3))];rw[if_neg (f6J:¬(r.kind=4))];rw[if_neg (f6J:¬(r.kind=5))];rw[if_pos (f6J:r.kind=13)];rw[x1l];unfold Cn.bare;have S:∀x y:Bool,x=y->(if x=true then(0:Int)else 61)=if y=true then 0 else 61:=fun x y A=>T7E;refine S _ _ ?_;have U:=x4z r (((false||decide (r.n=0))&&(true||decide (r.to.length=0))&&(false||decide (r.name.size=0))&&(false||decide (r.other.size=0))&&(false||decide (r.wt=0)))&&Cn.list r.to 1 24);revert U;generalize spanB r=F;generalize decide (r.lo=r.hi)=X;generalize Cn.scalar r.lo=j;generalize decide (r.n=0)=J;generalize Cn.list r.to 1 24=C;generalize decide (r.to.length=0)=D;generalize decide (r.name.size=0)=B;generalize decide (r.other.size=0)=G;generalize decide (r.wt=0)=K;cases F<;>cases X<;>cases j<;>cases J<;>cases C<;>cases D<;>cases B<;>cases G<;>cases K<;>decide
theorem z6H{r}(h:r.kind=14):Cn.right r=if okB r=true then 0 else 61:=by
 have e:Cn.rowK r.kind=Cn.rowT 14:=x1b h e8N;have L:¬Cn.fam r.kind=0:=m9n;have P:=x1G e rfl rfl;have f:=x1g e rfl rfl;have E:=x0D e rfl;have o:weiB r.kind r=Cn.weight r.wt:=v7z;have i:plB r=(spanB r):=N9E;unfold okB;rw[P,f,E,o,i];unfold Cn.right;rw[if_neg L];rw[if_neg (f6J:¬r.kind=15)];rw[if_neg (f6J:¬(r.kind=1\/r.kind=2\/r.kind=11))];rw[if_neg (f6J:¬(r.kind=3))];rw[if_neg (f6J:¬(r.kind=4))];rw[if_neg (f6J:¬(r.kind=5))];rw[if_neg (f6J:¬(r.kind=13))];rw[if_neg (f6J:¬(r.kind=6))];rw[if_neg (f6J:¬(r.kind=7))];rw[if_neg (f6J:¬(r.kind=8))];rw[if_neg (f6J:¬(r.kind=9))];rw[if_neg (f6J:¬(r.kind=10))];rw[if_neg (f6J:¬(r.kind=12))];rw[x1l];unfold Cn.bare;have S:∀x y:Bool,x=y->(if x=true then(0:Int)else 61)=if y=true then 0 else 61:=fun x y A=>T7E;refine S _ _ ?_;generalize spanB r=F;generalize decide (r.n=0)=X;generalize decide (r.to.length=0)=j;generalize decide (r.name.size=0)=J;generalize decide (r.other.size=0)=C;generalize Cn.weight r.wt=D;generalize decide (r.wt=0)=B;cases F<;>cases X<;>cases j<;>cases J<;>cases C<;>cases D<;>cases B<;>rfl
theorem z6I{r}(h:r.kind=15):Cn.right r=if okB r=true then 0 else 61:=by
 have e:Cn.rowK r.kind=Cn.rowT 15:=x1b h e8N;have L:¬Cn.fam r.kind=0:=m9m;have P:=x1G e rfl rfl;have f:=x1g e rfl rfl;have E:namB r.kind r=(Cn.nameL r.name&&(Cn.nameL r.other&&decide (r.name≠r.other))):=(by unfold namB;rw[e];exact(if_neg e8N).trans (if_pos rfl));have o:weiB r.kind r=Cn.weight r.wt:=v7z;have i:plB r=(decide (r.lo=0/\r.hi=0)):=(by unfold plB;rw[if_neg f6J,if_neg f6J,if_pos h]);unfold okB;rw[P,f,E,o,i];unfold Cn.right;rw[if_neg L];rw[if_pos h];unfold Cn.bare;have S:(r.lo=0/\r.hi=0/\(((false||decide (r.n=0))&&(false||decide (r.to.length=0))&&(true||decide (r.name.size=0))&&(true||decide (r.other.size=0))&&(true||decide (r.wt=0)))=true)/\Cn.nameL r.name=true/\Cn.nameL r.other=true/\r.name≠r.other/\Cn.weight r.wt=true)↔(decide (r.lo=0/\r.hi=0)&&(decide (r.to.length=0)&&(decide (r.n=0)&&((Cn.nameL r.name&&(Cn.nameL r.other&&decide (r.name≠r.other)))&&Cn.weight r.wt))))=true:=(by grind);by_cases m:(decide (r.lo=0/\r.hi=0)&&(decide (r.to.length=0)&&(decide (r.n=0)&&((Cn.nameL r.name&&(Cn.nameL r.other&&decide (r.name≠r.other)))&&Cn.weight r.wt))))=true
 ·rw[if_pos m,if_pos (S.2 m)]
 ·grind
theorem right_eq r(X:¬Cn.fam r.kind=0):Cn.right r=if okB r=true then 0 else 61:=by
 have G:1<=r.kind/\r.kind<=15:=by
  unfold Cn.fam at X;split at X
  ·exact absurd rfl X
  ·omega
 obtain h|h|h|h|h|h|h|h|h|h|h|h|h|h|h:r.kind=1\/r.kind=2\/r.kind=3\/r.kind=4\/r.kind=5\/r.kind=6\/r.kind=7\/r.kind=8\/r.kind=9\/r.kind=10\/r.kind=11\/r.kind=12\/r.kind=13\/r.kind=14\/r.kind=15:=f6J
 ·exact z9e h
 ·exact z9f h
 ·exact z9g h
 ·exact z9h h
 ·exact z9i h
 ·exact z9j h
 ·exact z9k h
 ·exact z9l h
 ·exact z9m h
 ·exact z6D h
 ·exact z6E h
 ·exact z6F h
 ·exact z6G h
 ·exact z6H h
 ·exact z6I h
theorem x3z(T fp:Nat) r vt w
  (KSH:∀W,Calls prog 182 #[.int .i64 r.kind] W (fun e w'=>e=.returned (.iface T (.agg #[.int .i64 r.kind]))/\Bw W w'))
  (KF:∀W,Bw w W->Calls prog 184 #[shV r.kind] W (IntB W (Cn.fam r.kind)))
  (m0 : ∀ W, (method 499 T (.agg #[.int .i64 r.kind]) "endonym/table.family").run Tryz.prog W = .ok (184, .agg #[.int .i64 r.kind]) W)
  (m1 : ∀ W, (method 499 T (.agg #[.int .i64 r.kind]) "endonym/table.placed").run Tryz.prog W = .ok (fp, .agg #[.int .i64 r.kind]) W)
  (m2 : ∀ W, (method 499 T (.agg #[.int .i64 r.kind]) "endonym/table.targeted").run Tryz.prog W = .ok (338, .agg #[.int .i64 r.kind]) W)
  (m3 : ∀ W, (method 499 T (.agg #[.int .i64 r.kind]) "endonym/table.numbered").run Tryz.prog W = .ok (335, .agg #[.int .i64 r.kind]) W)
  (m4 : ∀ W, (method 499 T (.agg #[.int .i64 r.kind]) "endonym/table.named").run Tryz.prog W = .ok (333, .agg #[.int .i64 r.kind]) W)
  (m5 : ∀ W, (method 499 T (.agg #[.int .i64 r.kind]) "endonym/table.weighed").run Tryz.prog W = .ok (339, .agg #[.int .i64 r.kind]) W)
  (eg:∀args W,(callFunc fp args).run prog W=.ok (.enter fp args) W)
  b1 b2 b3 b4 b5
  (K1:∀W,Bw w W->Calls prog fp #[shV r.kind,recV r vt] W (x0c W b1))
  (K2:∀W,Bw w W->Calls prog 338 #[shV r.kind,recV r vt] W (x0c W b2))
  (K3:∀W,Bw w W->Calls prog 335 #[shV r.kind,recV r vt] W (x0c W b3))
  (K4:∀W,Bw w W->Calls prog 333 #[shV r.kind,recV r vt] W (x0c W b4))
  (K5:∀W,Bw w W->Calls prog 339 #[shV r.kind,recV r vt] W (x0c W b5))
  : Calls prog 167 #[recV r vt] w (IntB w (if Cn.fam r.kind=0 then 60 else if(b1&&(b2&&(b3&&(b4&&b5))))=true then 0 else 61)):=by
 have hb0:Bw w (w.alloc (.cells #[.int .i64 r.kind,.int .i64 r.lo,.int .i64 r.hi,.int .i64 r.n,vt,.string r.name,.string r.other,.float .f64 r.wt] 67)):=(b0r).alloc (l0r _) _
 have HC:Hid (∀W,Below (w.alloc (.cells #[.int .i64 r.kind,.int .i64 r.lo,.int .i64 r.hi,.int .i64 r.n,vt,.string r.name,.string r.other,.float .f64 r.wt] 67)).heap.size (w.alloc (.cells #[.int .i64 r.kind,.int .i64 r.lo,.int .i64 r.hi,.int .i64 r.n,vt,.string r.name,.string r.other,.float .f64 r.wt] 67)) W->W.cell? ⟨w.heap.size,0,none⟩=some (.int .i64 r.kind)/\W.cell? ⟨w.heap.size,1,none⟩=some (.int .i64 r.lo)/\W.cell? ⟨w.heap.size,2,none⟩=some (.int .i64 r.hi)/\W.cell? ⟨w.heap.size,3,none⟩=some (.int .i64 r.n)/\W.cell? ⟨w.heap.size,4,none⟩=some (vt)/\W.cell? ⟨w.heap.size,5,none⟩=some (.string r.name)/\W.cell? ⟨w.heap.size,6,none⟩=some (.string r.other)/\W.cell? ⟨w.heap.size,7,none⟩=some (.float .f64 r.wt)):=fun W h=>by
  have h0:(w.alloc (.cells #[.int .i64 r.kind,.int .i64 r.lo,.int .i64 r.hi,.int .i64 r.n,vt,.string r.name,.string r.other,.float .f64 r.wt] 67)).heap[w.heap.size]?=some (.cells #[.int .i64 r.kind,.int .i64 r.lo,.int .i64 r.hi,.int .i64 r.n,vt,.string r.name,.string r.other,.float .f64 r.wt] 67 (0,0)):=R0n
  have h2:W.heap[w.heap.size]?=_:=(h.block _ M7K).trans h0;exact⟨cell_of (j:=0) h2 M7K,cell_of (j:=1) h2 M7K,cell_of (j:=2) h2 M7K,cell_of (j:=3) h2 M7K,cell_of (j:=4) h2 M7K,cell_of (j:=5) h2 M7K,cell_of (j:=6) h2 M7K,cell_of (j:=7) h2 M7K⟩
 have KSH:=O KSH;have KF:=O KF;have K1:=O K1;have K2:=O K2;have K3:=O K3;have K4:=O K4;have K5:=O K5;have mm0:=m0;have mm1:=m1;have mm2:=m2;have mm3:=m3;have mm4:=m4;have mm5:=m5;clear m0 m1 m2 m3 m4 m5;unfold recV shV at *;generalize Cn.fam r.kind=fr at *;generalize r.kind=kd at *;generalize r.n=n,r.lo=lo at *;generalize r.hi=hi,r.name=nm at *;generalize r.other=ot,r.wt=wt at *;by_cases h0:fr=0
 ·subst h0;rw[if_pos rfl];go_enter func167,ntmps167;go_wp2_with fail;refine c1m (V KSH _) fun w1 hb1=>?_;have hB:=x0b hb0 hb1;have HC1:Hid _:=V HC w1 hb1;go_wp2_with fail;refine c1m (V KF _ hB) fun w2 hb2=>?_;have hA:=x0b hb1 hb2;have hB:=x0b hb0 hA;have HF:=O hB;clear KSH KF K1 K2 K3 K4 K5 HC;go_wp2;go_ret;exact⟨rfl,V HF⟩
 ·rw[if_neg h0];have q0:(fr==0)=false:=b0f h0
  cases b1 with
  | false =>
   rw[if_neg M7K];go_enter func167,ntmps167;go_wp2_with fail;refine c1m (V KSH _) fun w1 hb1=>?_;have hB:=x0b hb0 hb1;have HC1:Hid _:=V HC w1 hb1;go_wp2_with fail;refine c1m (V KF _ hB) fun w2 hb2=>?_;have hA:=x0b hb1 hb2;have hB:=x0b hb0 hA;obtain⟨x0,x1,x2,x3,x4,x5,x6,x7⟩:=V HC _ hA;go_wp2_with fail;refine c1m (V K1 _ hB) fun w3 hb3=>?_;have hA:=x0b hA hb3;have hB:=x0b hb0 hA;clear x0 x1 x2 x3 x4 x5 x6 x7;have HF:=O hB;clear KSH KF K1 K2 K3 K4 K5 HC;go_wp2;go_ret;exact⟨rfl,V HF⟩
  | true =>
   cases b2 with
   | false =>
    rw[if_neg M7K];go_enter func167,ntmps167;go_wp2_with fail;refine c1m (V KSH _) fun w1 hb1=>?_;have hB:=x0b hb0 hb1;have HC1:Hid _:=V HC w1 hb1;go_wp2_with fail;refine c1m (V KF _ hB) fun w2 hb2=>?_;have hA:=x0b hb1 hb2;have hB:=x0b hb0 hA;obtain⟨x0,x1,x2,x3,x4,x5,x6,x7⟩:=V HC _ hA;go_wp2_with fail;refine c1m (V K1 _ hB) fun w3 hb3=>?_;have hA:=x0b hA hb3;have hB:=x0b hb0 hA;clear x0 x1 x2 x3 x4 x5 x6 x7;obtain⟨x0,x1,x2,x3,x4,x5,x6,x7⟩:=V HC _ hA;go_wp2_with fail;refine c1m (V K2 _ hB) fun w4 hb4=>?_;have hA:=x0b hA hb4;have hB:=x0b hb0 hA;clear x0 x1 x2 x3 x4 x5 x6 x7;have HF:=O hB;clear KSH KF K1 K2 K3 K4 K5 HC;go_wp2;go_ret;exact⟨rfl,V HF⟩
   | true =>
    cases b3 with
    | false =>
     rw[if_neg M7K];go_enter func167,ntmps167;go_wp2_with fail;refine c1m (V KSH _) fun w1 hb1=>?_;have hB:=x0b hb0 hb1;have HC1:Hid _:=V HC w1 hb1;go_wp2_with fail;refine c1m (V KF _ hB) fun w2 hb2=>?_;have hA:=x0b hb1 hb2;have hB:=x0b hb0 hA;obtain⟨x0,x1,x2,x3,x4,x5,x6,x7⟩:=V HC _ hA;go_wp2_with fail;refine c1m (V K1 _ hB) fun w3 hb3=>?_;have hA:=x0b hA hb3;have hB:=x0b hb0 hA;clear x0 x1 x2 x3 x4 x5 x6 x7;obtain⟨x0,x1,x2,x3,x4,x5,x6,x7⟩:=V HC _ hA;go_wp2_with fail;refine c1m (V K2 _ hB) fun w4 hb4=>?_;have hA:=x0b hA hb4;have hB:=x0b hb0 hA;clear x0 x1 x2 x3 x4 x5 x6 x7;obtain⟨x0,x1,x2,x3,x4,x5,x6,x7⟩:=V HC _ hA;go_wp2_with fail;refine c1m (V K3 _ hB) fun w5 hb5=>?_;have hA:=x0b hA hb5;have hB:=x0b hb0 hA;clear x0 x1 x2 x3 x4 x5 x6 x7;have HF:=O hB;clear KSH KF K1 K2 K3 K4 K5 HC;go_wp2;go_ret;exact⟨rfl,V HF⟩
    | true =>
     cases b4 with
     | false =>
      rw[if_neg M7K];go_enter func167,ntmps167;go_wp2_with fail;refine c1m (V KSH _) fun w1 hb1=>?_;have hB:=x0b hb0 hb1;have HC1:Hid _:=V HC w1 hb1;go_wp2_with fail;refine c1m (V KF _ hB) fun w2 hb2=>?_;have hA:=x0b hb1 hb2;have hB:=x0b hb0 hA;obtain⟨x0,x1,x2,x3,x4,x5,x6,x7⟩:=V HC _ hA;go_wp2_with fail;refine c1m (V K1 _ hB) fun w3 hb3=>?_;have hA:=x0b hA hb3;have hB:=x0b hb0 hA;clear x0 x1 x2 x3 x4 x5 x6 x7;obtain⟨x0,x1,x2,x3,x4,x5,x6,x7⟩:=V HC _ hA;go_wp2_with fail;refine c1m (V K2 _ hB) fun w4 hb4=>?_;have hA:=x0b hA hb4;have hB:=x0b hb0 hA;clear x0 x1 x2 x3 x4 x5 x6 x7;obtain⟨x0,x1,x2,x3,x4,x5,x6,x7⟩:=V HC _ hA;go_wp2_with fail;refine c1m (V K3 _ hB) fun w5 hb5=>?_;have hA:=x0b hA hb5;have hB:=x0b hb0 hA;clear x0 x1 x2 x3 x4 x5 x6 x7;obtain⟨x0,x1,x2,x3,x4,x5,x6,x7⟩:=V HC _ hA;go_wp2_with fail;refine c1m (V K4 _ hB) fun w6 hb6=>?_;have hA:=x0b hA hb6;have hB:=x0b hb0 hA;clear x0 x1 x2 x3 x4 x5 x6 x7;have HF:=O hB;clear KSH KF K1 K2 K3 K4 K5 HC;go_wp2;go_ret;exact⟨rfl,V HF⟩
     | true =>
      cases b5 with
      | false =>
       rw[if_neg M7K];exact r8j
      | true =>
       rw[if_pos M7K];exact r8j
theorem y5j:∀args w,(callFunc 347 args).run prog w=.ok (.enter 347 args) w:=f0h
theorem y5k:∀args w,(callFunc 351 args).run prog w=.ok (.enter 351 args) w:=f0h
theorem y2f:∀args w,(callFunc 354 args).run prog w=.ok (.enter 354 args) w:=f0h
theorem y5i:∀args w,(callFunc 346 args).run prog w=.ok (.enter 346 args) w:=f0h
def z7t:Prop:=∀(r:Rec) (vt:Value) (w:World),Glob w->RecFit r->Sk .i32 w vt r.to->Calls prog 167 #[recV r vt] w (IntB w (Cn.right r))
theorem z0c:z7t:=by
 intro r m w C X U
 have e:Cn.right r=if Cn.fam r.kind=0 then 60 else if(plB r&&(tarB r.kind r&&(numB r.kind r&&(namB r.kind r&&weiB r.kind r))))=true then 0 else 61:=by
  by_cases E:Cn.fam r.kind=0
  ·rw[if_pos E];unfold Cn.right;rw[if_pos E]
  ·rw[if_neg E,right_eq r E];rfl
 rw[e];have D:∀W,Bw w W->Calls prog 184 #[shV r.kind] W (IntB W (Cn.fam r.kind)):=fun W h=>x4y r.kind W (C.on h) X.kind;have o:∀W,Bw w W->Calls prog 338 #[shV r.kind,recV r m] W (x0c W (tarB r.kind r)):=fun W h=>y1v r.kind r m W (C.on h) X.kind (U.below h);have G:∀W,Bw w W->Calls prog 335 #[shV r.kind,recV r m] W (x0c W (numB r.kind r)):=fun W h=>y0R r.kind r m W (C.on h) X.kind X.n;have k:∀W,Bw w W->Calls prog 333 #[shV r.kind,recV r m] W (x0c W (namB r.kind r)):=fun W h=>y9m r.kind r m W (C.on h) X.kind;have P:∀W,Bw w W->Calls prog 339 #[shV r.kind,recV r m] W (x0c W (weiB r.kind r)):=fun W h=>y3h r.kind r m W (C.on h) X.kind X.wt;by_cases H:r.kind=4
 ·have B:plB r=shiftB r:=(by unfold plB;rw[if_pos H]);have A:shape r.kind=.iface 309 (.agg #[.int .i64 r.kind]):=(by unfold shape shV;rw[if_pos H]);rw[B];exact x3z 309 347 r m w (fun W=>A ▸ x1q r.kind W X.kind) D (x7D _) (x7F _) (x5F _) (x5D _) (x9i _) (x6O _) y5j _ _ _ _ _ (fun W h=>x4V r.kind r m W X (U.below h)) o G k P
 ·by_cases p:r.kind=5\/r.kind=7\/r.kind=8\/r.kind=13
  ·have B:plB r=(decide (r.lo=r.hi)&&Cn.scalar r.lo):=(by unfold plB;rw[if_neg H,if_pos p]);have A:shape r.kind=.iface 310 (.agg #[.int .i64 r.kind]):=(by unfold shape shV;rw[if_neg H,if_pos p]);rw[B];exact x3z 310 351 r m w (fun W=>A ▸ x1q r.kind W X.kind) D (x9h _) (x9l _) (x6N _) (x6L _) (y0K _) (x7I _) y5k _ _ _ _ _ (fun W _=>x5I r.kind r m W X) o G k P
  ·by_cases j:r.kind=15
   ·have B:plB r=decide (r.lo=0/\r.hi=0):=(by unfold plB;rw[if_neg H,if_neg p,if_pos j]);have A:shape r.kind=.iface 311 (.agg #[.int .i64 r.kind]):=(by unfold shape shV;rw[if_neg H,if_neg p,if_pos j]);rw[B];exact x3z 311 354 r m w (fun W=>A ▸ x1q r.kind W X.kind) D (x9g _) (x9k _) (x6M _) (x6K _) (y0J _) (x7H _) y2f _ _ _ _ _ (fun W _=>x5H r.kind r m W X) o G k P
   ·have B:plB r=spanB r:=(by unfold plB;rw[if_neg H,if_neg p,if_neg j]);have A:shape r.kind=.iface 307 (.agg #[.int .i64 r.kind]):=(by unfold shape shV;rw[if_neg H,if_neg p,if_neg j]);rw[B];exact x3z 307 346 r m w (fun W=>A ▸ x1q r.kind W X.kind) D (x7E _) (x7G _) (x5G _) (x5E _) (x9j _) (x6P _) y5i _ _ _ _ _ (fun W _=>x2q r.kind r m W X) o G k P
def firstW(rs:List Rec):Nat×Int:=if 4096<rs.length then(0,3)else match Cn.x1f 0 rs with | some x=>x | Option.none=>(0,0)
def x5L(rs:List Rec)(k:Nat):Nat×Int:=match Cn.x1f k (rs.drop k)with | some x=>x | Option.none=>(0,0)
theorem z9K{rs k}(G:k<rs.length)(h:Cn.right (rs.getD k Cn.none)≠0):x5L rs k=(k,Cn.right (rs.getD k Cn.none)):=by
 have e:rs.getD k Cn.none=rs[k]:=(by grind);rw[e]at h ⊢;unfold x5L;rw[List.drop_eq_getElem_cons G,Cn.x1f,if_neg h]
theorem z6U{rs k}(G:k<rs.length)(h:Cn.right (rs.getD k Cn.none)=0):x5L rs k=x5L rs (k+1):=by
 have e:rs.getD k Cn.none=rs[k]:=(by grind);rw[e]at h;unfold x5L;rw[List.drop_eq_getElem_cons G,Cn.x1f,if_pos h]
theorem z9J rs:x5L rs rs.length=(0,0):=by
 unfold x5L;rw[List.drop_length,Cn.x1f]
def y3m(w:World)(x:Nat×Int)(e:Ending)(w':World):Prop:=e=.returned (.tuple #[.int .i64 (x.1:Int),.int .i64 x.2])/\Below w.heap.size w w'
theorem x7z v rs w(C:Glob w)(N:Rcs w v rs):Calls prog 124 #[v] w (y3m w (firstW rs)):=by
 have s:=N.1;by_cases A:4096<rs.length
 ·have e:firstW rs=(0,3):=(by unfold firstW;rw[if_pos A]);rw[e];obtain⟨ao,M,rfl,_,_⟩:=N.shape;go_enter func124,ntmps124;go_wp2;go_ret2;exact⟨rfl,b0r⟩
 ·have ab:Hid (firstW rs=x5L rs 0):=by
   show firstW rs=x5L rs 0;unfold firstW x5L;rw[if_neg A,List.drop_zero]
  have L:Hid (RIn w v rs w):=⟨N,b0r⟩;have HG:=O (fun W (h:Bw w W)=>C.on h);obtain⟨ao,M,rfl,Z,D⟩:=N.shape;generalize firstW rs=B at *;go_enter func124,ntmps124;go_wp2;go_loopw[4,5,6,12] (fun _ _ _ i wr=>∃k:Nat,i=.int .i64 k/\k<=rs.length/\B=x5L rs k/\RIn w (.slice ao rs.length M) rs wr) (fun _ _ _ i _=>rs.length-(intOf i).toNat)
  case atStart=>exact⟨0,rfl,f6J,V ab,V L⟩
  case round =>
   obtain⟨k,rfl,hk,R,X⟩:=hrel;by_cases H:k<rs.length
   ·obtain⟨b,P,J,d,o,q,I⟩:=X.1.place f6J;obtain⟨rfl,rfl⟩:ao=some ⟨b,P,none⟩/\M=J:=V6s;have l:=X.1.fit H;obtain⟨x,u,S,p,⟨vt,g,sk⟩,t,x6,x7⟩:=I k H;have f:Hid (Cn.right (rs.getD k Cn.none)=0->B=x5L rs (k+1)):=fun h=>R.trans (z6U H h);have c:Hid (Cn.right (rs.getD k Cn.none)≠0->B=(k,Cn.right (rs.getD k Cn.none))):=fun h=>R.trans (z9K H h);have KR:Hid (∀W,Bw wr W->Calls prog 167 #[recV (rs.getD k Cn.none) vt] W (IntB W (Cn.right (rs.getD k Cn.none)))):=fun W h=>z0c _ vt W (V HG W (X.on h).2) l (sk.below h);have K:=O X;obtain⟨tq,Y,rfl,_,_⟩:=sk.shape;unfold recV at KR;generalize Cn.right (rs.getD k Cn.none)=y at KR c f;generalize(rs.getD k Cn.none).kind=kd,(rs.getD k Cn.none).lo=lo,(rs.getD k Cn.none).hi=hi,(rs.getD k Cn.none).n=n at *;generalize(rs.getD k Cn.none).name=nm,(rs.getD k Cn.none).other=ot,(rs.getD k Cn.none).wt=wt,(rs.getD k Cn.none).to.length=z at *;have af:∀W a m,(store a (.float .f64 wt) m).run prog W=stored prog W a (.float .f64 wt) m:=fun W a m=>run_store prog W a _ m rfl;go_wp2_with fail;refine(V KR _ ((b0r).alloc (l0r _) _)).mono ?_;rintro e Q ⟨rfl,E⟩;have F:=x0b ((Below.refl wr.heap.size wr).alloc (l0r _) _) E;by_cases U:y=0
    ·have ae:=O (V f U);subst U;have j:=O ((V K).on F);go_wp2;go_round
     case rel=>exact⟨k+1,g2A,f6J,V ae,V j⟩
     case measure=>exact g7T
    ·obtain rfl:=V c U;have G:(y==0)=false:=b0f U;have r:(y != 0)=true:=M1X;have j:=O ((V K).on F).2;go_wp2;go_ret2;exact⟨rfl,V j⟩
   ·obtain rfl:k=rs.length:=f6J;obtain rfl:=R.trans (z9J rs);have T:=O X.2;go_wp2;go_ret2;exact i5v
structure RunOk(lo hi s:Int):Prop where
 l0:0<=lo
 lh:lo<=hi
 h1:hi<=1114111
 s0:1<=s
 s1:s<=64
def fromI(lo s c:Int):Int:=if c<=lo then lo else c+(s-(c-lo)%s)%s
theorem y3I lo hi s c w(h:RunOk lo hi s)(I:0<=c/\c<=1114111):Calls prog 258 #[runV lo hi s,.int .i64 c] w (IntB w (fromI lo s c)):=by
 have Y:Bw w (w.alloc (.cells #[.int .i64 lo,.int .i64 hi,.int .i64 s] 251)):=(b0r).alloc (l0r _) _;obtain⟨t,A,Z,H,N⟩:=h;obtain⟨l,j⟩:=I;unfold runV fromI;by_cases E:c<=lo
 ·rw[if_pos E];have d:=d0t E;go_enter func258,ntmps258;go_wp2;go_ret;exact⟨rfl,Y⟩
 ·rw[if_neg E];have d:=d0f E;have k:=Int.emod_nonneg (c-lo) (f6J:s≠0);have U:=Int.emod_lt_of_pos (c-lo) (f6J:0<s);have J:=Int.emod_nonneg (s-(c-lo)%s) (f6J:s≠0);have S:=Int.emod_lt_of_pos (s-(c-lo)%s) (f6J:0<s);have P:(c-lo).tmod s=(c-lo)%s:=Int.tmod_eq_emod_of_nonneg f6J;have f:(s-(c-lo)%s).tmod s=(s-(c-lo)%s)%s:=Int.tmod_eq_emod_of_nonneg f6J;have Q:IntKind.i64.wrap (c-lo)=c-lo:=IntWalk.i64_in _ ⟨f6J,f6J⟩;have D:IntKind.i64.wrap (s-(c-lo)%s)=s-(c-lo)%s:=IntWalk.i64_in _ ⟨f6J,f6J⟩;have x:IntKind.i64.wrap ((c-lo)%s)=(c-lo)%s:=IntWalk.i64_in _ ⟨f6J,f6J⟩;have G:IntKind.i64.wrap ((s-(c-lo)%s)%s)=(s-(c-lo)%s)%s:=IntWalk.i64_in _ ⟨f6J,f6J⟩;have M:IntKind.i64.wrap (c+(s-(c-lo)%s)%s)=c+(s-(c-lo)%s)%s:=IntWalk.i64_in _ ⟨f6J,f6J⟩;have n:(s==0)=false:=b0f f6J;go_enter func258,ntmps258;go_wp2;go_quiet(fail);go_wp2;go_ret;have C:(s-(c-lo)%s)%s=-((c-lo)%s)%s:=f0k;refine⟨?_,x0b Y (x0k ⟨_,rfl⟩)⟩;show Ending.returned (.int .i64 (wrap64 (c+-((c-lo)%s)%s)))=_;rw[<- C,IntWalk.wrap64_in _ ⟨f6J,f6J⟩]
def mA(s hi:Int)(p:Int->Bool):Nat->Int->Bool
 | 0,_=>false
 | k+1,c=>if hi<c then false else if p c then true else mA s hi p k (c+s)
def y4c(lo hi s lo' hi' s':Int):Bool :=
 if hi<lo'\/hi'<lo then false
 else if s<s' then mA s' hi' (hasB lo hi s) s.toNat (fromI lo' s' lo)
 else mA s hi (hasB lo' hi' s') s'.toNat (fromI lo s lo')
theorem y9g lo hi s lo' hi' s' w(h:RunOk lo hi s)(D:RunOk lo' hi' s'):Calls prog 217 #[runV lo hi s,runV lo' hi' s'] w (x0c w (y4c lo hi s lo' hi' s')):=by
 have ae:=x2P w (.cells #[.int .i64 lo,.int .i64 hi,.int .i64 s] 251) (.cells #[.int .i64 lo',.int .i64 hi',.int .i64 s'] 251);unfold y4c;by_cases ha:hi<lo'
 ·rw[if_pos (.inl ha)];have d:=d0t ha;exact R8s
 ·have d:=d0f ha;by_cases hc:hi'<lo
  ·rw[if_pos (.inr hc)];have d2:=d0t hc;exact R8s
  ·rw[if_neg f6J];have d2:=d0f hc;by_cases U:s<s'
   ·rw[if_pos U];have d3:=d0t U;have z:=x2P w (.cells #[.int .i64 lo',.int .i64 hi',.int .i64 s'] 251) (.cells #[.int .i64 lo,.int .i64 hi,.int .i64 s] 251);have Y:=O (y3I lo' hi' s' lo ((w.alloc (.cells #[.int .i64 lo',.int .i64 hi',.int .i64 s'] 251)).alloc (.cells #[.int .i64 lo,.int .i64 hi,.int .i64 s] 251)) D ⟨h.l0,g0J⟩);have P:Hid (∀c W,-10<=c/\c<=2000000->Calls prog 183 #[.agg #[.int .i64 lo,.int .i64 hi,.int .i64 s],.int .i64 c] W (x0c W (hasB lo hi s c))):=fun c W hc=>y2r lo hi s c W ⟨by have:=h.l0;exact f6J,g0J⟩ ⟨t8K,by have:=h.h1;exact f6J⟩ ⟨by have:=h.s0;exact f6J,u6j⟩ ⟨f6J,f6J⟩
    have r:Hid (∀W,Below ((w.alloc (.cells #[.int .i64 lo',.int .i64 hi',.int .i64 s'] 251)).alloc (.cells #[.int .i64 lo,.int .i64 hi,.int .i64 s] 251)).heap.size ((w.alloc (.cells #[.int .i64 lo',.int .i64 hi',.int .i64 s'] 251)).alloc (.cells #[.int .i64 lo,.int .i64 hi,.int .i64 s] 251)) W->W.cell? ⟨w.heap.size,1,none⟩=some (.int .i64 hi')/\W.cell? ⟨w.heap.size,2,none⟩=some (.int .i64 s')):=fun W h=>by
     have h0:((w.alloc (.cells #[.int .i64 lo',.int .i64 hi',.int .i64 s'] 251)).alloc (.cells #[.int .i64 lo,.int .i64 hi,.int .i64 s] 251)).heap[w.heap.size]?=some (.cells #[.int .i64 lo',.int .i64 hi',.int .i64 s'] 251 (0,0)):=e5s
     exact G9P
    have HY:Hid (∀W,Below ((w.alloc (.cells #[.int .i64 lo',.int .i64 hi',.int .i64 s'] 251)).alloc (.cells #[.int .i64 lo,.int .i64 hi,.int .i64 s] 251)).heap.size ((w.alloc (.cells #[.int .i64 lo',.int .i64 hi',.int .i64 s'] 251)).alloc (.cells #[.int .i64 lo,.int .i64 hi,.int .i64 s] 251)) W->W.cell? ⟨w.heap.size+1,0,none⟩=some (.int .i64 lo)/\W.cell? ⟨w.heap.size+1,1,none⟩=some (.int .i64 hi)/\W.cell? ⟨w.heap.size+1,2,none⟩=some (.int .i64 s)):=fun W h=>⟨x0i (j:=0) h rfl,x0i (j:=1) h rfl,x0i (j:=2) h rfl⟩;obtain⟨N,hN⟩:∃N:Nat,s=(N:Int):=⟨s.toNat,by have:=h.s0;exact f6J⟩;have af:N<=64:=u6j;have ht:s.toNat=N:=f6J
    have n:0<=fromI lo' s' lo/\fromI lo' s' lo<=1114300:=by
     obtain⟨a0,a1,a2,a3,a4⟩:=D;obtain⟨b0,b1,m,b3,X⟩:=h;unfold fromI;split
     ·omega
     ·have:=Int.emod_nonneg (s' - (lo-lo')%s') (f6J:s'≠0);have:=Int.emod_lt_of_pos (s' - (lo-lo')%s') (f6J:0<s');omega
    have G:0<=hi'/\hi'<=1114111:=⟨R8d,D.h1⟩;have ag:1<=s'/\s'<=64:=⟨D.s0,D.s1⟩;rw[ht];have f:=O hN;clear h D ae ht hN;generalize hfm:fromI lo' s' lo=c0 at *;clear hfm;generalize hhas:hasB lo hi s=p at *;clear hhas;generalize hr0:mA s' hi' p N c0=B at *;have ab:=O hr0.symm;clear hr0;unfold runV at *;go_enter func217,ntmps217;go_wp2_with fail;refine c0m Y fun Q E=>?_;have a:=(V HY Q E).2.2;rw[V f]at a;have z:=x0b z E;have r:=O (fun W (h:Bw Q W)=>V r W (x0b E h));have HY:=O (fun W (h:Bw Q W)=>V HY W (x0b E h));clear Y E f;go_wp2;go_loopw[5,31] (fun b Z wr=>∃(k:Nat) (c:Int),b=.int .i64 c/\Z=.int .i64 k/\k<=N/\0<=c/\c<=1114300/\B=mA s' hi' p (N-k) c/\Bw Q wr) (fun _ Z _=>N-(intOf Z).toNat)
    case atStart=>exact⟨0,c0,rfl,rfl,f6J,n.1,n.2,V ab,b0r⟩
    case round =>
     obtain⟨k,c,rfl,rfl,hk,L,o,R,l⟩:=hrel;clear ab a;by_cases H:k<N
     ·obtain⟨M,C⟩:∃M,N-k=M+1:=⟨N-k-1,f6J⟩;rw[C,mA]at R;obtain⟨u,S⟩:=V r wr l;obtain⟨t,J,g⟩:=V HY wr l;by_cases q:hi'<c
      ·exact F5z
      ·rw[if_neg q]at R;have x:=d0f q;have A:=O (V P c wr ⟨f6J,f6J⟩);have I:=O l;clear P l
       cases hp:p c with
       | true =>exact e2R
       | false =>
        rw[hp,if_neg e8P]at R;rw[hp]at A;have K:Hid (B=mA s' hi' p (N-(k+1)) (c+s')):=F6r;have v:Hid (∀W,Bw wr W->W.cell? ⟨w.heap.size,2,none⟩=some (.int .i64 s')):=fun W h=>(V r W (x0b (V I) h)).2;clear C r HY R;go_wp2_with fail;refine c0m A fun w2 F=>?_;have y:=V v w2 F;have i:=O (x0b (V I) F);have hw:IntKind.i64.wrap (c+s')=c+s':=IntWalk.i64_in _ ⟨f6J,f6J⟩;clear A F I v u S t J g;go_wp2;go_round
        case rel=>exact⟨k+1,c+s',g2A,g2A,f6J,f6J,f6J,V K,V i⟩
        case measure=>simp[intOf];omega
     ·exact p0L
   ·rw[if_neg U];have d3:=d0f U;have z:=x2P w (.cells #[.int .i64 lo,.int .i64 hi,.int .i64 s] 251) (.cells #[.int .i64 lo',.int .i64 hi',.int .i64 s'] 251);have Y:=O (y3I lo hi s lo' ((w.alloc (.cells #[.int .i64 lo,.int .i64 hi,.int .i64 s] 251)).alloc (.cells #[.int .i64 lo',.int .i64 hi',.int .i64 s'] 251)) h ⟨D.l0,R1B⟩);have P:Hid (∀c W,-10<=c/\c<=2000000->Calls prog 183 #[.agg #[.int .i64 lo',.int .i64 hi',.int .i64 s'],.int .i64 c] W (x0c W (hasB lo' hi' s' c))):=fun c W hc=>y2r lo' hi' s' c W ⟨by have:=D.l0;exact f6J,R1B⟩ ⟨R8d,by have:=D.h1;exact f6J⟩ ⟨by have:=D.s0;exact f6J,by have:=D.s1;exact f6J⟩ ⟨f6J,f6J⟩
    have r:Hid (∀W,Below ((w.alloc (.cells #[.int .i64 lo,.int .i64 hi,.int .i64 s] 251)).alloc (.cells #[.int .i64 lo',.int .i64 hi',.int .i64 s'] 251)).heap.size ((w.alloc (.cells #[.int .i64 lo,.int .i64 hi,.int .i64 s] 251)).alloc (.cells #[.int .i64 lo',.int .i64 hi',.int .i64 s'] 251)) W->W.cell? ⟨w.heap.size,1,none⟩=some (.int .i64 hi)/\W.cell? ⟨w.heap.size,2,none⟩=some (.int .i64 s)):=fun W h=>by
     have h0:((w.alloc (.cells #[.int .i64 lo,.int .i64 hi,.int .i64 s] 251)).alloc (.cells #[.int .i64 lo',.int .i64 hi',.int .i64 s'] 251)).heap[w.heap.size]?=some (.cells #[.int .i64 lo,.int .i64 hi,.int .i64 s] 251 (0,0)):=e5s
     exact G9P
    have HY:Hid (∀W,Below ((w.alloc (.cells #[.int .i64 lo,.int .i64 hi,.int .i64 s] 251)).alloc (.cells #[.int .i64 lo',.int .i64 hi',.int .i64 s'] 251)).heap.size ((w.alloc (.cells #[.int .i64 lo,.int .i64 hi,.int .i64 s] 251)).alloc (.cells #[.int .i64 lo',.int .i64 hi',.int .i64 s'] 251)) W->W.cell? ⟨w.heap.size+1,0,none⟩=some (.int .i64 lo')/\W.cell? ⟨w.heap.size+1,1,none⟩=some (.int .i64 hi')/\W.cell? ⟨w.heap.size+1,2,none⟩=some (.int .i64 s')):=fun W h=>⟨x0i (j:=0) h rfl,x0i (j:=1) h rfl,x0i (j:=2) h rfl⟩;obtain⟨N,hN⟩:∃N:Nat,s'=(N:Int):=⟨s'.toNat,by have:=D.s0;exact f6J⟩;have af:N<=64:=(by have:=D.s1;exact f6J);have ht:s'.toNat=N:=f6J
    have n:0<=fromI lo s lo'/\fromI lo s lo'<=1114300:=by
     obtain⟨a0,a1,a2,a3,a4⟩:=h;obtain⟨b0,b1,m,b3,X⟩:=D;unfold fromI;split
     ·omega
     ·have:=Int.emod_nonneg (s-(lo' - lo)%s) (f6J:s≠0);have:=Int.emod_lt_of_pos (s-(lo' - lo)%s) (f6J:0<s);omega
    have G:0<=hi/\hi<=1114111:=⟨t8K,h.h1⟩;have ag:1<=s/\s<=64:=⟨h.s0,h.s1⟩;rw[ht];have f:=O hN;clear h D ae ht hN;generalize hfm:fromI lo s lo'=c0 at *;clear hfm;generalize hhas:hasB lo' hi' s'=p at *;clear hhas;generalize hr0:mA s hi p N c0=B at *;have ab:=O hr0.symm;clear hr0;unfold runV at *;go_enter func217,ntmps217;go_wp2_with fail;refine c0m Y fun Q E=>?_;have a:=(V HY Q E).2.2;rw[V f]at a;have z:=x0b z E;have r:=O (fun W (h:Bw Q W)=>V r W (x0b E h));have HY:=O (fun W (h:Bw Q W)=>V HY W (x0b E h));clear Y E f;go_wp2;go_loopw[5,31] (fun b Z wr=>∃(k:Nat) (c:Int),b=.int .i64 c/\Z=.int .i64 k/\k<=N/\0<=c/\c<=1114300/\B=mA s hi p (N-k) c/\Bw Q wr) (fun _ Z _=>N-(intOf Z).toNat)
    case atStart=>exact⟨0,c0,rfl,rfl,f6J,n.1,n.2,V ab,b0r⟩
    case round =>
     obtain⟨k,c,rfl,rfl,hk,L,o,R,l⟩:=hrel;clear ab a;by_cases H:k<N
     ·obtain⟨M,C⟩:∃M,N-k=M+1:=⟨N-k-1,f6J⟩;rw[C,mA]at R;obtain⟨u,S⟩:=V r wr l;obtain⟨t,J,g⟩:=V HY wr l;by_cases q:hi<c
      ·exact F5z
      ·rw[if_neg q]at R;have x:=d0f q;have A:=O (V P c wr ⟨f6J,f6J⟩);have I:=O l;clear P l
       cases hp:p c with
       | true =>exact e2R
       | false =>
        rw[hp,if_neg e8P]at R;rw[hp]at A;have K:Hid (B=mA s hi p (N-(k+1)) (c+s)):=F6r;have v:Hid (∀W,Bw wr W->W.cell? ⟨w.heap.size,2,none⟩=some (.int .i64 s)):=fun W h=>(V r W (x0b (V I) h)).2;clear C r HY R;go_wp2_with fail;refine c0m A fun w2 F=>?_;have y:=V v w2 F;have i:=O (x0b (V I) F);have hw:IntKind.i64.wrap (c+s)=c+s:=IntWalk.i64_in _ ⟨f6J,f6J⟩;clear A F I v u S t J g;go_wp2;go_round
        case rel=>exact⟨k+1,c+s,g2A,g2A,f6J,f6J,f6J,V K,V i⟩
        case measure=>simp[intOf];omega
     ·exact p0L
