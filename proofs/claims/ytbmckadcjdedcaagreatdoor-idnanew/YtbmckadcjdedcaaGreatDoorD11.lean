/- TbM7 TbO7 TbP7 TbQ7 -/
import Derived.Test.YtbmckadcjdedcaaGreatDoorD10
import Derived.Deep.QuietTactic
import Derived.BigQuiet
set_option maxHeartbeats 8000000
set_option maxRecDepth 20000
namespace Go.Proofs.YtbmckadcjdedcaaGreatDoor
open Go.Proofs.Tryz
open Go.RowKit
section
variable{p:Prop}
theorem r8j(h:p:=by go_enter func167,ntmps167;go_wp2_with fail;refine c1m (V KSH _) fun w1 hb1=>?_;have hB:=x0b hb0 hb1;have HC1:Hid _:=V HC w1 hb1;go_wp2_with fail;refine c1m (V KF _ hB) fun w2 hb2=>?_;have hA:=x0b hb1 hb2;have hB:=x0b hb0 hA;obtain⟨x0,x1,x2,x3,x4,x5,x6,x7⟩:=V HC _ hA;go_wp2_with fail;refine c1m (V K1 _ hB) fun w3 hb3=>?_;have hA:=x0b hA hb3;have hB:=x0b hb0 hA;clear x0 x1 x2 x3 x4 x5 x6 x7;obtain⟨x0,x1,x2,x3,x4,x5,x6,x7⟩:=V HC _ hA;go_wp2_with fail;refine c1m (V K2 _ hB) fun w4 hb4=>?_;have hA:=x0b hA hb4;have hB:=x0b hb0 hA;clear x0 x1 x2 x3 x4 x5 x6 x7;obtain⟨x0,x1,x2,x3,x4,x5,x6,x7⟩:=V HC _ hA;go_wp2_with fail;refine c1m (V K3 _ hB) fun w5 hb5=>?_;have hA:=x0b hA hb5;have hB:=x0b hb0 hA;clear x0 x1 x2 x3 x4 x5 x6 x7;obtain⟨x0,x1,x2,x3,x4,x5,x6,x7⟩:=V HC _ hA;go_wp2_with fail;refine c1m (V K4 _ hB) fun w6 hb6=>?_;have hA:=x0b hA hb6;have hB:=x0b hb0 hA;clear x0 x1 x2 x3 x4 x5 x6 x7;obtain⟨x0,x1,x2,x3,x4,x5,x6,x7⟩:=V HC _ hA;go_wp2_with fail;refine c1m (V K5 _ hB) fun w7 hb7=>?_;have hA:=x0b hA hb7;have hB:=x0b hb0 hA;clear x0 x1 x2 x3 x4 x5 x6 x7;have HF:=O hB;clear KSH KF K1 K2 K3 K4 K5 HC;go_wp2;go_ret;exact⟨rfl,V HF⟩):p:=h
theorem f6M(h:p:=by have q:¬Cn.fam r.kind=0:=m9n;have N:=x1F e rfl rfl;have f:=x1g e rfl rfl;have E:=x0D e rfl;have I:=x0P e rfl;have d:plB r=(spanB r):=(by unfold plB;rw[if_neg f6J,if_neg f6J,if_neg f6J]);unfold okB;rw[N,f,E,I,d];unfold Cn.right;rw[if_neg q];rw[if_neg (f6J:¬r.kind=15)];rw[if_pos (f6J:r.kind=1\/r.kind=2\/r.kind=11)];rw[x1l];unfold Cn.bare;have S:∀x y:Bool,x=y->(if x=true then(0:Int)else 61)=if y=true then 0 else 61:=fun x y J=>W6A;refine S _ _ ?_;generalize spanB r=C;generalize decide (r.n=0)=H;generalize decide (r.to.length=0)=R;generalize decide (r.name.size=0)=z;generalize decide (r.other.size=0)=F;generalize decide (r.wt=0)=A;cases C<;>cases H<;>cases R<;>cases z<;>cases F<;>cases A<;>rfl):p:=h
theorem N9E(h:p:=by unfold plB;rw[if_neg f6J,if_neg f6J,if_neg f6J]):p:=h
theorem m9m(h:p:=by rw[h];exact e8N):p:=h
theorem N1O(h:p:=by unfold plB;rw[if_neg f6J,if_pos f6J]):p:=h
theorem m9n(h:p:=by rw[h];exact e8N):p:=h
theorem M2t(h:p:=by rw[hp,if_pos rfl]at R;subst R;rw[hp]at Z;clear P L x;go_wp2_with fail;refine c0m Z fun A F=>?_;have T:x0c w true (.returned (.bool true)) A:=⟨rfl,x0b (x0b z (V I)) F⟩;clear Z F I u x2 z0 z1 X;go_wp2;go_ret;exact T):p:=h
theorem v7z(h:p:=by unfold weiB;rw[e];exact if_pos rfl):p:=h
theorem i5I(h:p:=by rw[if_pos J]at R;subst R;have dg:=d0t J;have T:x0c w false (.returned (.bool false)) wr:=⟨rfl,x0b z l⟩;clear G L x l P;exact U7I):p:=h
theorem t7t(h:p:=by have H:N-k=0:=f6J;rw[H,mA]at R;subst R;have T:x0c w false (.returned (.bool false)) wr:=⟨rfl,x0b z l⟩;clear G L x l;exact U7I):p:=h
theorem G9P(h:p:=by have h2:W.heap[w.heap.size]?=_:=(h.block _ P8P).trans h0;exact⟨cell_of (j:=1) h2 (by simp),cell_of (j:=2) h2 (by simp)⟩):p:=h
theorem e5x(h:p:=by show((w.heap.push _).push _)[w.heap.size]?=_;rw[Array.getElem?_push_lt (by simp)];simp):p:=h
theorem p9m(h:p:=by unfold runV;go_enter func217,ntmps217;go_wp2;go_ret;exact⟨rfl,U⟩):p:=h
theorem u6j(h:p:=by have:=h.s1;exact f6J):p:=h
theorem R7U(h:p:=by have:=D.l0;have:=D.lh;exact f6J):p:=h
theorem R1B(h:p:=by have:=D.lh;have:=D.h1;exact f6J):p:=h
theorem t8K(h:p:=by have:=h.l0;have:=h.lh;exact f6J):p:=h
theorem g0J(h:p:=by have:=h.lh;have:=h.h1;exact f6J):p:=h
theorem F6r(h:p:=by rw[(f6J:N-(k+1)=M)];exact R):p:=h
end
def plB(r:Rec):Bool:=if r.kind=4 then shiftB r else if r.kind=5\/r.kind=7\/r.kind=8\/r.kind=13 then decide (r.lo=r.hi)&&Cn.scalar r.lo else if r.kind=15 then decide (r.lo=0/\r.hi=0)else spanB r
def okB(r:Rec):Bool:=plB r&&(tarB r.kind r&&(numB r.kind r&&(namB r.kind r&&weiB r.kind r)))
theorem x1b{k:Int}{n:Nat}(h:k=n)(E:n<16):Cn.rowK k=Cn.rowT n:=by
 subst h;unfold Cn.rowK;rw[if_neg f6J,Int.toNat_natCast]
theorem x1F{r:Rec}{q:Row9}(e:Cn.rowK r.kind=q)(D:q.least=0)(Z:q.most=0):tarB r.kind r=decide (r.to.length=0):=by
 unfold tarB;rw[e,D,Z,Bool.eq_iff_iff,Bool.and_eq_true,decide_eq_true_eq,decide_eq_true_eq];constructor
 ·rintro⟨h,_⟩;omega
 ·grind
theorem x3k{r:Rec}{q:Row9}{a b:Nat}(e:Cn.rowK r.kind=q)(D:q.least=a)(Z:q.most=b):tarB r.kind r=Cn.list r.to a b:=by
 unfold tarB Cn.list;rw[e,D,Z];congr 1;rw[decide_eq_decide];omega
theorem x1g{r:Rec}{q:Row9}(e:Cn.rowK r.kind=q)(D:q.low=0)(Z:q.high=0):numB r.kind r=decide (r.n=0):=by
 unfold numB;rw[e,D,Z,decide_eq_decide];omega
theorem x8A{r:Rec}{q:Row9}{a b:Int}(e:Cn.rowK r.kind=q)(D:q.low=a)(Z:q.high=b):numB r.kind r=decide (a<=r.n/\r.n<=b):=by
 unfold numB;rw[e,D,Z]
theorem x0D{r:Rec}{q:Row9}(e:Cn.rowK r.kind=q)(D:q.scr=0):namB r.kind r=(decide (r.name.size=0)&&decide (r.other.size=0)):=by
 unfold namB;rw[e,D,if_neg e8M,if_neg e8M]
theorem x0P{r:Rec}{q:Row9}(e:Cn.rowK r.kind=q)(D:q.wei=false):weiB r.kind r=decide (r.wt=0):=by
 unfold weiB;rw[e,D,if_neg e8M]
theorem x1l(r:Rec):decide (0<=r.lo/\r.lo<=r.hi/\r.hi<=1114111)=spanB r:=by
 unfold spanB;rw[decide_eq_decide];omega
theorem z2B{r:Rec}(S:Cn.list r.to 1 1=true)(X:spanB r=true):decide (r.to.getD 0 0+r.hi-r.lo<=1114111/\(r.to.getD 0 0+r.hi-r.lo<55296\/57343<r.to.getD 0 0))=shiftB r:=by
 obtain⟨D,Z⟩:(1<=r.to.length/\r.to.length<=1)/\r.to.all Cn.scalar=true:=by
  unfold Cn.list at S;rw[Bool.and_eq_true]at S;exact⟨o0d S.1,S.2⟩
 obtain⟨a,L⟩:∃a,r.to=[a]:=List.length_eq_one_iff.1 f6J;have P:0<=r.lo/\r.lo<=1114111/\0<=r.hi/\r.hi<=1114111/\r.lo<=r.hi:=o0d X;have A:Cn.scalar a=true:=(by grind);have C:0<=a/\a<=1114111/\¬(55296<=a/\a<=57343):=o0d A;unfold shiftB;rw[X,L];show decide (a+r.hi-r.lo<=1114111/\(a+r.hi-r.lo<55296\/57343<a))=(true&&(decide (1=1)&&(Cn.scalar a&&(Cn.scalar (a+r.hi-r.lo)&&(decide (a<55296)==decide (a+r.hi-r.lo<55296))))));rw[A];have B:a<=a+r.hi-r.lo:=f6J;simp only[Bool.true_and,decide_true];unfold Cn.scalar;rw[Bool.eq_iff_iff,Bool.and_eq_true,decide_eq_true_eq,decide_eq_true_eq,beq_iff_eq,decide_eq_decide];omega
theorem x4t(r:Rec)(b:Bool):(spanB r&&(decide (r.lo=r.hi)&&Cn.scalar r.lo&&b))=(decide (r.lo=r.hi)&&Cn.scalar r.lo&&b):=by
 by_cases h:r.lo=r.hi
 ·cases hs:Cn.scalar r.lo with
  | false=>simp
  | true =>
   have:0<=r.lo/\r.lo<=1114111/\¬(55296<=r.lo/\r.lo<=57343):=o0d hs;have A:spanB r=true:=d0t f6J;rw[A];simp
 ·rw[d0f h];simp
theorem y5N(r:Rec)(h:spanB r=false):shiftB r=false:=by
 unfold shiftB;rw[h];rfl
theorem z8v{r:Rec}(h:r.kind=1):Cn.right r=if okB r=true then 0 else 61:=by
 have e:Cn.rowK r.kind=Cn.rowT 1:=x1b h e8N;exact f6M
theorem z8w{r:Rec}(h:r.kind=2):Cn.right r=if okB r=true then 0 else 61:=by
 have e:Cn.rowK r.kind=Cn.rowT 2:=x1b h e8N;exact f6M
theorem z8x{r:Rec}(h:r.kind=3):Cn.right r=if okB r=true then 0 else 61:=by
 have e:Cn.rowK r.kind=Cn.rowT 3:=x1b h e8N;have q:¬Cn.fam r.kind=0:=m9n;have N:=x3k (a:=1) (b:=24) e rfl rfl;have f:=x1g e rfl rfl;have E:=x0D e rfl;have I:=x0P e rfl;have d:plB r=(spanB r):=N9E;unfold okB;rw[N,f,E,I,d];unfold Cn.right;rw[if_neg q];rw[if_neg (f6J:¬r.kind=15)];rw[if_neg (f6J:¬(r.kind=1\/r.kind=2\/r.kind=11))];rw[if_pos (f6J:r.kind=3)];rw[x1l];unfold Cn.bare;have S:∀x y:Bool,x=y->(if x=true then(0:Int)else 61)=if y=true then 0 else 61:=fun x y J=>W6A;refine S _ _ ?_;generalize spanB r=C;generalize decide (r.n=0)=H;generalize Cn.list r.to 1 24=R;generalize decide (r.to.length=0)=z;generalize decide (r.name.size=0)=F;generalize decide (r.other.size=0)=A;generalize decide (r.wt=0)=B;cases C<;>cases H<;>cases R<;>cases z<;>cases F<;>cases A<;>cases B<;>rfl
theorem z8y{r:Rec}(h:r.kind=4):Cn.right r=if okB r=true then 0 else 61:=by
 have e:Cn.rowK r.kind=Cn.rowT 4:=x1b h e8N;have q:¬Cn.fam r.kind=0:=m9m;have N:=x3k (a:=1) (b:=1) e rfl rfl;have f:=x8A (a:=1) (b:=64) e rfl rfl;have E:=x0D e rfl;have I:=x0P e rfl;have d:plB r=(shiftB r):=(by unfold plB;rw[if_pos h]);unfold okB;rw[N,f,E,I,d];unfold Cn.right;rw[if_neg q];rw[if_neg (f6J:¬r.kind=15)];rw[if_neg (f6J:¬(r.kind=1\/r.kind=2\/r.kind=11))];rw[if_neg (f6J:¬(r.kind=3))];rw[if_pos (f6J:r.kind=4)];rw[x1l];unfold Cn.bare;have S:∀x y:Bool,x=y->(if x=true then(0:Int)else 61)=if y=true then 0 else 61:=fun x y J=>W6A;refine S _ _ ?_
 cases hsp:spanB r with
 | false=>rw[y5N r hsp];rfl
 | true =>
  cases hl:Cn.list r.to 1 1 with
  | false=>simp
  | true =>
   rw[z2B hl hsp];generalize shiftB r=C;generalize decide (1<=r.n/\r.n<=64)=H;generalize decide (r.name.size=0)=R;generalize decide (r.other.size=0)=z;generalize decide (r.wt=0)=F;generalize decide (r.n=0)=A;generalize decide (r.to.length=0)=B;cases C<;>cases H<;>cases R<;>cases z<;>cases F<;>cases A<;>cases B<;>rfl
theorem z8z{r:Rec}(h:r.kind=5):Cn.right r=if okB r=true then 0 else 61:=by
 have e:Cn.rowK r.kind=Cn.rowT 5:=x1b h e8N;have q:¬Cn.fam r.kind=0:=m9m;have N:=x3k (a:=0) (b:=24) e rfl rfl;have f:=x1g e rfl rfl;have E:=x0D e rfl;have I:=x0P e rfl;have d:plB r=(decide (r.lo=r.hi)&&Cn.scalar r.lo):=N1O;unfold okB;rw[N,f,E,I,d];unfold Cn.right;rw[if_neg q];rw[if_neg (f6J:¬r.kind=15)];rw[if_neg (f6J:¬(r.kind=1\/r.kind=2\/r.kind=11))];rw[if_neg (f6J:¬(r.kind=3))];rw[if_neg (f6J:¬(r.kind=4))];rw[if_pos (f6J:r.kind=5)];rw[x1l];unfold Cn.bare;have S:∀x y:Bool,x=y->(if x=true then(0:Int)else 61)=if y=true then 0 else 61:=fun x y J=>W6A;refine S _ _ ?_;have X:=x4t r (((false||decide (r.n=0))&&(true||decide (r.to.length=0))&&(false||decide (r.name.size=0))&&(false||decide (r.other.size=0))&&(false||decide (r.wt=0)))&&Cn.list r.to 0 24);revert X;generalize spanB r=C;generalize decide (r.lo=r.hi)=H;generalize Cn.scalar r.lo=R;generalize decide (r.n=0)=z;generalize Cn.list r.to 0 24=F;generalize decide (r.to.length=0)=A;generalize decide (r.name.size=0)=B;generalize decide (r.other.size=0)=G;generalize decide (r.wt=0)=D;cases C<;>cases H<;>cases R<;>cases z<;>cases F<;>cases A<;>cases B<;>cases G<;>cases D<;>decide
theorem z8A{r:Rec}(h:r.kind=6):Cn.right r=if okB r=true then 0 else 61:=by
 have e:Cn.rowK r.kind=Cn.rowT 6:=x1b h e8N;have q:¬Cn.fam r.kind=0:=m9n;have N:=x1F e rfl rfl;have f:=x8A (a:=1) (b:=254) e rfl rfl;have E:=x0D e rfl;have I:=x0P e rfl;have d:plB r=(spanB r):=N9E;unfold okB;rw[N,f,E,I,d];unfold Cn.right;rw[if_neg q];rw[if_neg (f6J:¬r.kind=15)];rw[if_neg (f6J:¬(r.kind=1\/r.kind=2\/r.kind=11))];rw[if_neg (f6J:¬(r.kind=3))];rw[if_neg (f6J:¬(r.kind=4))];rw[if_neg (f6J:¬(r.kind=5))];rw[if_neg (f6J:¬(r.kind=13))];rw[if_pos (f6J:r.kind=6)];rw[x1l];unfold Cn.bare;have S:∀x y:Bool,x=y->(if x=true then(0:Int)else 61)=if y=true then 0 else 61:=fun x y J=>W6A;refine S _ _ ?_;generalize spanB r=C;generalize decide (1<=r.n/\r.n<=254)=H;generalize decide (r.n=0)=R;generalize decide (r.to.length=0)=z;generalize decide (r.name.size=0)=F;generalize decide (r.other.size=0)=A;generalize decide (r.wt=0)=B;cases C<;>cases H<;>cases R<;>cases z<;>cases F<;>cases A<;>cases B<;>rfl
theorem z8B{r:Rec}(h:r.kind=7):Cn.right r=if okB r=true then 0 else 61:=by
 have e:Cn.rowK r.kind=Cn.rowT 7:=x1b h e8N;have q:¬Cn.fam r.kind=0:=m9m;have N:=x3k (a:=2) (b:=2) e rfl rfl;have f:=x1g e rfl rfl;have E:=x0D e rfl;have I:=x0P e rfl;have d:plB r=(decide (r.lo=r.hi)&&Cn.scalar r.lo):=N1O;unfold okB;rw[N,f,E,I,d];unfold Cn.right;rw[if_neg q];rw[if_neg (f6J:¬r.kind=15)];rw[if_neg (f6J:¬(r.kind=1\/r.kind=2\/r.kind=11))];rw[if_neg (f6J:¬(r.kind=3))];rw[if_neg (f6J:¬(r.kind=4))];rw[if_neg (f6J:¬(r.kind=5))];rw[if_neg (f6J:¬(r.kind=13))];rw[if_neg (f6J:¬(r.kind=6))];rw[if_pos (f6J:r.kind=7)];rw[x1l];unfold Cn.bare;have S:∀x y:Bool,x=y->(if x=true then(0:Int)else 61)=if y=true then 0 else 61:=fun x y J=>W6A;refine S _ _ ?_;have X:=x4t r (((false||decide (r.n=0))&&(true||decide (r.to.length=0))&&(false||decide (r.name.size=0))&&(false||decide (r.other.size=0))&&(false||decide (r.wt=0)))&&Cn.list r.to 2 2);revert X;generalize spanB r=C;generalize decide (r.lo=r.hi)=H;generalize Cn.scalar r.lo=R;generalize decide (r.n=0)=z;generalize Cn.list r.to 2 2=F;generalize decide (r.to.length=0)=A;generalize decide (r.name.size=0)=B;generalize decide (r.other.size=0)=G;generalize decide (r.wt=0)=D;cases C<;>cases H<;>cases R<;>cases z<;>cases F<;>cases A<;>cases B<;>cases G<;>cases D<;>decide
theorem z8C{r:Rec}(h:r.kind=8):Cn.right r=if okB r=true then 0 else 61:=by
 have e:Cn.rowK r.kind=Cn.rowT 8:=x1b h e8N;have q:¬Cn.fam r.kind=0:=m9m;have N:=x3k (a:=1) (b:=2) e rfl rfl;have f:=x1g e rfl rfl;have E:=x0D e rfl;have I:=x0P e rfl;have d:plB r=(decide (r.lo=r.hi)&&Cn.scalar r.lo):=N1O;unfold okB;rw[N,f,E,I,d];unfold Cn.right;rw[if_neg q];rw[if_neg (f6J:¬r.kind=15)];rw[if_neg (f6J:¬(r.kind=1\/r.kind=2\/r.kind=11))];rw[if_neg (f6J:¬(r.kind=3))];rw[if_neg (f6J:¬(r.kind=4))];rw[if_neg (f6J:¬(r.kind=5))];rw[if_neg (f6J:¬(r.kind=13))];rw[if_neg (f6J:¬(r.kind=6))];rw[if_neg (f6J:¬(r.kind=7))];rw[if_pos (f6J:r.kind=8)];rw[x1l];unfold Cn.bare;have S:∀x y:Bool,x=y->(if x=true then(0:Int)else 61)=if y=true then 0 else 61:=fun x y J=>W6A;refine S _ _ ?_;have X:=x4t r (((false||decide (r.n=0))&&(true||decide (r.to.length=0))&&(false||decide (r.name.size=0))&&(false||decide (r.other.size=0))&&(false||decide (r.wt=0)))&&Cn.list r.to 1 2);revert X;generalize spanB r=C;generalize decide (r.lo=r.hi)=H;generalize Cn.scalar r.lo=R;generalize decide (r.n=0)=z;generalize Cn.list r.to 1 2=F;generalize decide (r.to.length=0)=A;generalize decide (r.name.size=0)=B;generalize decide (r.other.size=0)=G;generalize decide (r.wt=0)=D;cases C<;>cases H<;>cases R<;>cases z<;>cases F<;>cases A<;>cases B<;>cases G<;>cases D<;>decide
theorem z8D{r:Rec}(h:r.kind=9):Cn.right r=if okB r=true then 0 else 61:=by
 have e:Cn.rowK r.kind=Cn.rowT 9:=x1b h e8N;have q:¬Cn.fam r.kind=0:=m9n;have N:=x1F e rfl rfl;have f:=x8A (a:=0) (b:=10) e rfl rfl;have E:=x0D e rfl;have I:=x0P e rfl;have d:plB r=(spanB r):=N9E;unfold okB;rw[N,f,E,I,d];unfold Cn.right;rw[if_neg q];rw[if_neg (f6J:¬r.kind=15)];rw[if_neg (f6J:¬(r.kind=1\/r.kind=2\/r.kind=11))];rw[if_neg (f6J:¬(r.kind=3))];rw[if_neg (f6J:¬(r.kind=4))];rw[if_neg (f6J:¬(r.kind=5))];rw[if_neg (f6J:¬(r.kind=13))];rw[if_neg (f6J:¬(r.kind=6))];rw[if_neg (f6J:¬(r.kind=7))];rw[if_neg (f6J:¬(r.kind=8))];rw[if_pos (f6J:r.kind=9)];rw[x1l];unfold Cn.bare;have S:∀x y:Bool,x=y->(if x=true then(0:Int)else 61)=if y=true then 0 else 61:=fun x y J=>W6A;refine S _ _ ?_;generalize spanB r=C;generalize decide (0<=r.n/\r.n<=10)=H;generalize decide (r.n=0)=R;generalize decide (r.to.length=0)=z;generalize decide (r.name.size=0)=F;generalize decide (r.other.size=0)=A;generalize decide (r.wt=0)=B;cases C<;>cases H<;>cases R<;>cases z<;>cases F<;>cases A<;>cases B<;>rfl
theorem z5U{r:Rec}(h:r.kind=10):Cn.right r=if okB r=true then 0 else 61:=by
 have e:Cn.rowK r.kind=Cn.rowT 10:=x1b h e8N;have q:¬Cn.fam r.kind=0:=m9n;have N:=x1F e rfl rfl;have f:=x8A (a:=0) (b:=5) e rfl rfl;have E:=x0D e rfl;have I:=x0P e rfl;have d:plB r=(spanB r):=N9E;unfold okB;rw[N,f,E,I,d];unfold Cn.right;rw[if_neg q];rw[if_neg (f6J:¬r.kind=15)];rw[if_neg (f6J:¬(r.kind=1\/r.kind=2\/r.kind=11))];rw[if_neg (f6J:¬(r.kind=3))];rw[if_neg (f6J:¬(r.kind=4))];rw[if_neg (f6J:¬(r.kind=5))];rw[if_neg (f6J:¬(r.kind=13))];rw[if_neg (f6J:¬(r.kind=6))];rw[if_neg (f6J:¬(r.kind=7))];rw[if_neg (f6J:¬(r.kind=8))];rw[if_neg (f6J:¬(r.kind=9))];rw[if_pos (f6J:r.kind=10)];rw[x1l];unfold Cn.bare;have S:∀x y:Bool,x=y->(if x=true then(0:Int)else 61)=if y=true then 0 else 61:=fun x y J=>W6A;refine S _ _ ?_;generalize spanB r=C;generalize decide (0<=r.n/\r.n<=5)=H;generalize decide (r.n=0)=R;generalize decide (r.to.length=0)=z;generalize decide (r.name.size=0)=F;generalize decide (r.other.size=0)=A;generalize decide (r.wt=0)=B;cases C<;>cases H<;>cases R<;>cases z<;>cases F<;>cases A<;>cases B<;>rfl
theorem z5V{r:Rec}(h:r.kind=11):Cn.right r=if okB r=true then 0 else 61:=by
 have e:Cn.rowK r.kind=Cn.rowT 11:=x1b h e8N;exact f6M
theorem z5W{r:Rec}(h:r.kind=12):Cn.right r=if okB r=true then 0 else 61:=by
 have e:Cn.rowK r.kind=Cn.rowT 12:=x1b h e8N;have q:¬Cn.fam r.kind=0:=m9n;have N:=x1F e rfl rfl;have f:=x1g e rfl rfl;have E:namB r.kind r=(Cn.nameL r.name&&decide (r.other.size=0)):=(by unfold namB;rw[e];exact if_pos rfl);have I:=x0P e rfl;have d:plB r=(spanB r):=N9E;unfold okB;rw[N,f,E,I,d];unfold Cn.right;rw[if_neg q];rw[if_neg (f6J:¬r.kind=15)];rw[if_neg (f6J:¬(r.kind=1\/r.kind=2\/r.kind=11))];rw[if_neg (f6J:¬(r.kind=3))];rw[if_neg (f6J:¬(r.kind=4))];rw[if_neg (f6J:¬(r.kind=5))];rw[if_neg (f6J:¬(r.kind=13))];rw[if_neg (f6J:¬(r.kind=6))];rw[if_neg (f6J:¬(r.kind=7))];rw[if_neg (f6J:¬(r.kind=8))];rw[if_neg (f6J:¬(r.kind=9))];rw[if_neg (f6J:¬(r.kind=10))];rw[if_pos (f6J:r.kind=12)];rw[x1l];unfold Cn.bare;have S:∀x y:Bool,x=y->(if x=true then(0:Int)else 61)=if y=true then 0 else 61:=fun x y J=>W6A;refine S _ _ ?_;generalize spanB r=C;generalize decide (r.n=0)=H;generalize decide (r.to.length=0)=R;generalize Cn.nameL r.name=z;generalize decide (r.name.size=0)=F;generalize decide (r.other.size=0)=A;generalize decide (r.wt=0)=B;cases C<;>cases H<;>cases R<;>cases z<;>cases F<;>cases A<;>cases B<;>rfl
theorem z5X{r:Rec}(h:r.kind=13):Cn.right r=if okB r=true then 0 else 61:=by
 have e:Cn.rowK r.kind=Cn.rowT 13:=x1b h e8N;have q:¬Cn.fam r.kind=0:=m9m;have N:=x3k (a:=1) (b:=24) e rfl rfl;have f:=x1g e rfl rfl;have E:=x0D e rfl;have I:=x0P e rfl;have d:plB r=(decide (r.lo=r.hi)&&Cn.scalar r.lo):=N1O;unfold okB;rw[N,f,E,I,d];unfold Cn.right;rw[if_neg q];rw[if_neg (f6J:¬r.kind=15)];rw[if_neg (f6J:¬(r.kind=1\/r.kind=2\/r.kind=11))];rw[if_neg (f6J:¬(r.kind=3))];rw[if_neg (f6J:¬(r.kind=4))];rw[if_neg (f6J:¬(r.kind=5))];rw[if_pos (f6J:r.kind=13)];rw[x1l];unfold Cn.bare;have S:∀x y:Bool,x=y->(if x=true then(0:Int)else 61)=if y=true then 0 else 61:=fun x y J=>W6A;refine S _ _ ?_;have X:=x4t r (((false||decide (r.n=0))&&(true||decide (r.to.length=0))&&(false||decide (r.name.size=0))&&(false||decide (r.other.size=0))&&(false||decide (r.wt=0)))&&Cn.list r.to 1 24);revert X;generalize spanB r=C;generalize decide (r.lo=r.hi)=H;generalize Cn.scalar r.lo=R;generalize decide (r.n=0)=z;generalize Cn.list r.to 1 24=F;generalize decide (r.to.length=0)=A;generalize decide (r.name.size=0)=B;generalize decide (r.other.size=0)=G;generalize decide (r.wt=0)=D;cases C<;>cases H<;>cases R<;>cases z<;>cases F<;>cases A<;>cases B<;>cases G<;>cases D<;>decide
theorem z5Y{r:Rec}(h:r.kind=14):Cn.right r=if okB r=true then 0 else 61:=by
 have e:Cn.rowK r.kind=Cn.rowT 14:=x1b h e8N;have q:¬Cn.fam r.kind=0:=m9n;have N:=x1F e rfl rfl;have f:=x1g e rfl rfl;have E:=x0D e rfl;have I:weiB r.kind r=Cn.weight r.wt:=v7z;have d:plB r=(spanB r):=N9E;unfold okB;rw[N,f,E,I,d];unfold Cn.right;rw[if_neg q];rw[if_neg (f6J:¬r.kind=15)];rw[if_neg (f6J:¬(r.kind=1\/r.kind=2\/r.kind=11))];rw[if_neg (f6J:¬(r.kind=3))];rw[if_neg (f6J:¬(r.kind=4))];rw[if_neg (f6J:¬(r.kind=5))];rw[if_neg (f6J:¬(r.kind=13))];rw[if_neg (f6J:¬(r.kind=6))];rw[if_neg (f6J:¬(r.kind=7))];rw[if_neg (f6J:¬(r.kind=8))];rw[if_neg (f6J:¬(r.kind=9))];rw[if_neg (f6J:¬(r.kind=10))];rw[if_neg (f6J:¬(r.kind=12))];rw[x1l];unfold Cn.bare;have S:∀x y:Bool,x=y->(if x=true then(0:Int)else 61)=if y=true then 0 else 61:=fun x y J=>W6A;refine S _ _ ?_;generalize spanB r=C;generalize decide (r.n=0)=H;generalize decide (r.to.length=0)=R;generalize decide (r.name.size=0)=z;generalize decide (r.other.size=0)=F;generalize Cn.weight r.wt=A;generalize decide (r.wt=0)=B;cases C<;>cases H<;>cases R<;>cases z<;>cases F<;>cases A<;>cases B<;>rfl
theorem z5Z{r:Rec}(h:r.kind=15):Cn.right r=if okB r=true then 0 else 61:=by
 have e:Cn.rowK r.kind=Cn.rowT 15:=x1b h e8N;have q:¬Cn.fam r.kind=0:=m9m;have N:=x1F e rfl rfl;have f:=x1g e rfl rfl;have E:namB r.kind r=(Cn.nameL r.name&&(Cn.nameL r.other&&decide (r.name≠r.other))):=(by unfold namB;rw[e];exact(if_neg e8N).trans (if_pos rfl));have I:weiB r.kind r=Cn.weight r.wt:=v7z;have d:plB r=(decide (r.lo=0/\r.hi=0)):=(by unfold plB;rw[if_neg f6J,if_neg f6J,if_pos h]);unfold okB;rw[N,f,E,I,d];unfold Cn.right;rw[if_neg q];rw[if_pos h];unfold Cn.bare;have S:(r.lo=0/\r.hi=0/\(((false||decide (r.n=0))&&(false||decide (r.to.length=0))&&(true||decide (r.name.size=0))&&(true||decide (r.other.size=0))&&(true||decide (r.wt=0)))=true)/\Cn.nameL r.name=true/\Cn.nameL r.other=true/\r.name≠r.other/\Cn.weight r.wt=true)↔(decide (r.lo=0/\r.hi=0)&&(decide (r.to.length=0)&&(decide (r.n=0)&&((Cn.nameL r.name&&(Cn.nameL r.other&&decide (r.name≠r.other)))&&Cn.weight r.wt))))=true:=(by grind);by_cases L:(decide (r.lo=0/\r.hi=0)&&(decide (r.to.length=0)&&(decide (r.n=0)&&((Cn.nameL r.name&&(Cn.nameL r.other&&decide (r.name≠r.other)))&&Cn.weight r.wt))))=true
 ·rw[if_pos L,if_pos (S.2 L)]
 ·grind
theorem right_eq(r:Rec)(z:¬Cn.fam r.kind=0):Cn.right r=if okB r=true then 0 else 61:=by
 have G:1<=r.kind/\r.kind<=15:=by
  unfold Cn.fam at z;split at z
  ·exact absurd rfl z
  ·omega
 obtain h | h | h | h | h | h | h | h | h | h | h | h | h | h | h:r.kind=1\/r.kind=2\/r.kind=3\/r.kind=4\/r.kind=5\/r.kind=6\/r.kind=7\/r.kind=8\/r.kind=9\/r.kind=10\/r.kind=11\/r.kind=12\/r.kind=13\/r.kind=14\/r.kind=15:=f6J
 ·exact z8v h
 ·exact z8w h
 ·exact z8x h
 ·exact z8y h
 ·exact z8z h
 ·exact z8A h
 ·exact z8B h
 ·exact z8C h
 ·exact z8D h
 ·exact z5U h
 ·exact z5V h
 ·exact z5W h
 ·exact z5X h
 ·exact z5Y h
 ·exact z5Z h
theorem x3s(T fp:Nat)(r:Rec)(vt:Value)(w:World)
  (KSH:∀W,Calls prog 182 #[.int .i64 r.kind] W (fun e w'=>e=.returned (.iface T (.agg #[.int .i64 r.kind]))/\Bw W w'))
  (KF:∀W,Bw w W->Calls prog 184 #[shV r.kind] W (IntB W (Cn.fam r.kind)))
  (m0 : ∀ W, (method 499 T (.agg #[.int .i64 r.kind]) "endonym/table.family").run Tryz.prog W = .ok (184, .agg #[.int .i64 r.kind]) W)
  (m1 : ∀ W, (method 499 T (.agg #[.int .i64 r.kind]) "endonym/table.placed").run Tryz.prog W = .ok (fp, .agg #[.int .i64 r.kind]) W)
  (m2 : ∀ W, (method 499 T (.agg #[.int .i64 r.kind]) "endonym/table.targeted").run Tryz.prog W = .ok (338, .agg #[.int .i64 r.kind]) W)
  (m3 : ∀ W, (method 499 T (.agg #[.int .i64 r.kind]) "endonym/table.numbered").run Tryz.prog W = .ok (335, .agg #[.int .i64 r.kind]) W)
  (m4 : ∀ W, (method 499 T (.agg #[.int .i64 r.kind]) "endonym/table.named").run Tryz.prog W = .ok (333, .agg #[.int .i64 r.kind]) W)
  (m5 : ∀ W, (method 499 T (.agg #[.int .i64 r.kind]) "endonym/table.weighed").run Tryz.prog W = .ok (339, .agg #[.int .i64 r.kind]) W)
  (eg:∀args W,(callFunc fp args).run prog W=.ok (.enter fp args) W)
  (b1 b2 b3 b4 b5:Bool)
  (K1:∀W,Bw w W->Calls prog fp #[shV r.kind,recV r vt] W (x0c W b1))
  (K2:∀W,Bw w W->Calls prog 338 #[shV r.kind,recV r vt] W (x0c W b2))
  (K3:∀W,Bw w W->Calls prog 335 #[shV r.kind,recV r vt] W (x0c W b3))
  (K4:∀W,Bw w W->Calls prog 333 #[shV r.kind,recV r vt] W (x0c W b4))
  (K5:∀W,Bw w W->Calls prog 339 #[shV r.kind,recV r vt] W (x0c W b5))
  : Calls prog 167 #[recV r vt] w (IntB w (if Cn.fam r.kind=0 then 60 else if(b1&&(b2&&(b3&&(b4&&b5))))=true then 0 else 61)):=by
 have hb0:Bw w (w.alloc (.cells #[.int .i64 r.kind,.int .i64 r.lo,.int .i64 r.hi,.int .i64 r.n,vt,.string r.name,.string r.other,.float .f64 r.wt] 67)):=(b0r).alloc (l0r _) _
 have HC:Hid (∀W,Below (w.alloc (.cells #[.int .i64 r.kind,.int .i64 r.lo,.int .i64 r.hi,.int .i64 r.n,vt,.string r.name,.string r.other,.float .f64 r.wt] 67)).heap.size (w.alloc (.cells #[.int .i64 r.kind,.int .i64 r.lo,.int .i64 r.hi,.int .i64 r.n,vt,.string r.name,.string r.other,.float .f64 r.wt] 67)) W->W.cell? ⟨w.heap.size,0,none⟩=some (.int .i64 r.kind)/\W.cell? ⟨w.heap.size,1,none⟩=some (.int .i64 r.lo)/\W.cell? ⟨w.heap.size,2,none⟩=some (.int .i64 r.hi)/\W.cell? ⟨w.heap.size,3,none⟩=some (.int .i64 r.n)/\W.cell? ⟨w.heap.size,4,none⟩=some (vt)/\W.cell? ⟨w.heap.size,5,none⟩=some (.string r.name)/\W.cell? ⟨w.heap.size,6,none⟩=some (.string r.other)/\W.cell? ⟨w.heap.size,7,none⟩=some (.float .f64 r.wt)):=fun W h=>by
  have h0:(w.alloc (.cells #[.int .i64 r.kind,.int .i64 r.lo,.int .i64 r.hi,.int .i64 r.n,vt,.string r.name,.string r.other,.float .f64 r.wt] 67)).heap[w.heap.size]?=some (.cells #[.int .i64 r.kind,.int .i64 r.lo,.int .i64 r.hi,.int .i64 r.n,vt,.string r.name,.string r.other,.float .f64 r.wt] 67 (0,0)):=R0n
  have h2:W.heap[w.heap.size]?=_:=(h.block _ M7K).trans h0;exact⟨cell_of (j:=0) h2 M7K,cell_of (j:=1) h2 M7K,cell_of (j:=2) h2 M7K,cell_of (j:=3) h2 M7K,cell_of (j:=4) h2 M7K,cell_of (j:=5) h2 M7K,cell_of (j:=6) h2 M7K,cell_of (j:=7) h2 M7K⟩
 have KSH:=O KSH;have KF:=O KF;have K1:=O K1;have K2:=O K2;have K3:=O K3;have K4:=O K4;have K5:=O K5;have mm0:=m0;have mm1:=m1;have mm2:=m2;have mm3:=m3;have mm4:=m4;have mm5:=m5;clear m0 m1 m2 m3 m4 m5;unfold recV shV at *;generalize Cn.fam r.kind=fr at *;generalize r.kind=kd at *;generalize r.n=n,r.lo=lo at *;generalize r.hi=hi,r.name=nm at *;generalize r.other=ot,r.wt=wt at *;by_cases h0:fr=0
 ·subst h0;rw[if_pos rfl];go_enter func167,ntmps167;go_wp2_with fail;refine c1m (V KSH _) fun w1 hb1=>?_;have hB:=x0b hb0 hb1;have HC1:Hid _:=V HC w1 hb1;go_wp2_with fail;refine c1m (V KF _ hB) fun w2 hb2=>?_;have hA:=x0b hb1 hb2;have hB:=x0b hb0 hA;have HF:=O hB;clear KSH KF K1 K2 K3 K4 K5 HC;go_wp2;go_ret;exact⟨rfl,V HF⟩
 ·rw[if_neg h0];have q0:(fr==0)=false:=b0f h0
  cases b1 with
  | false =>
   rw[if_neg M7K];go_enter func167,ntmps167;go_wp2_with fail;refine c1m (V KSH _) fun w1 hb1=>?_;have hB:=x0b hb0 hb1;have HC1:Hid _:=V HC w1 hb1;go_wp2_with fail;refine c1m (V KF _ hB) fun w2 hb2=>?_;have hA:=x0b hb1 hb2;have hB:=x0b hb0 hA;obtain⟨x0,x1,x2,x3,x4,x5,x6,x7⟩:=V HC _ hA;go_wp2_with fail;refine c1m (V K1 _ hB) fun w3 hb3=>?_;have hA:=x0b hA hb3;have hB:=x0b hb0 hA;clear x0 x1 x2 x3 x4 x5 x6 x7;have HF:=O hB;clear KSH KF K1 K2 K3 K4 K5 HC;go_wp2;go_ret;exact⟨rfl,V HF⟩
  | true =>
   cases b2 with
   | false =>
    rw[if_neg M7K];go_enter func167,ntmps167;go_wp2_with fail;refine c1m (V KSH _) fun w1 hb1=>?_;have hB:=x0b hb0 hb1;have HC1:Hid _:=V HC w1 hb1;go_wp2_with fail;refine c1m (V KF _ hB) fun w2 hb2=>?_;have hA:=x0b hb1 hb2;have hB:=x0b hb0 hA;obtain⟨x0,x1,x2,x3,x4,x5,x6,x7⟩:=V HC _ hA;go_wp2_with fail;refine c1m (V K1 _ hB) fun w3 hb3=>?_;have hA:=x0b hA hb3;have hB:=x0b hb0 hA;clear x0 x1 x2 x3 x4 x5 x6 x7;obtain⟨x0,x1,x2,x3,x4,x5,x6,x7⟩:=V HC _ hA;go_wp2_with fail;refine c1m (V K2 _ hB) fun w4 hb4=>?_;have hA:=x0b hA hb4;have hB:=x0b hb0 hA;clear x0 x1 x2 x3 x4 x5 x6 x7;have HF:=O hB;clear KSH KF K1 K2 K3 K4 K5 HC;go_wp2;go_ret;exact⟨rfl,V HF⟩
   | true =>
    cases b3 with
    | false =>
     rw[if_neg M7K];go_enter func167,ntmps167;go_wp2_with fail;refine c1m (V KSH _) fun w1 hb1=>?_;have hB:=x0b hb0 hb1;have HC1:Hid _:=V HC w1 hb1;go_wp2_with fail;refine c1m (V KF _ hB) fun w2 hb2=>?_;have hA:=x0b hb1 hb2;have hB:=x0b hb0 hA;obtain⟨x0,x1,x2,x3,x4,x5,x6,x7⟩:=V HC _ hA;go_wp2_with fail;refine c1m (V K1 _ hB) fun w3 hb3=>?_;have hA:=x0b hA hb3;have hB:=x0b hb0 hA;clear x0 x1 x2 x3 x4 x5 x6 x7;obtain⟨x0,x1,x2,x3,x4,x5,x6,x7⟩:=V HC _ hA;go_wp2_with fail;refine c1m (V K2 _ hB) fun w4 hb4=>?_;have hA:=x0b hA hb4;have hB:=x0b hb0 hA;clear x0 x1 x2 x3 x4 x5 x6 x7;obtain⟨x0,x1,x2,x3,x4,x5,x6,x7⟩:=V HC _ hA;go_wp2_with fail;refine c1m (V K3 _ hB) fun w5 hb5=>?_;have hA:=x0b hA hb5;have hB:=x0b hb0 hA;clear x0 x1 x2 x3 x4 x5 x6 x7;have HF:=O hB;clear KSH KF K1 K2 K3 K4 K5 HC;go_wp2;go_ret;exact⟨rfl,V HF⟩
    | true =>
     cases b4 with
     | false =>
      rw[if_neg M7K];go_enter func167,ntmps167;go_wp2_with fail;refine c1m (V KSH _) fun w1 hb1=>?_;have hB:=x0b hb0 hb1;have HC1:Hid _:=V HC w1 hb1;go_wp2_with fail;refine c1m (V KF _ hB) fun w2 hb2=>?_;have hA:=x0b hb1 hb2;have hB:=x0b hb0 hA;obtain⟨x0,x1,x2,x3,x4,x5,x6,x7⟩:=V HC _ hA;go_wp2_with fail;refine c1m (V K1 _ hB) fun w3 hb3=>?_;have hA:=x0b hA hb3;have hB:=x0b hb0 hA;clear x0 x1 x2 x3 x4 x5 x6 x7;obtain⟨x0,x1,x2,x3,x4,x5,x6,x7⟩:=V HC _ hA;go_wp2_with fail;refine c1m (V K2 _ hB) fun w4 hb4=>?_;have hA:=x0b hA hb4;have hB:=x0b hb0 hA;clear x0 x1 x2 x3 x4 x5 x6 x7;obtain⟨x0,x1,x2,x3,x4,x5,x6,x7⟩:=V HC _ hA;go_wp2_with fail;refine c1m (V K3 _ hB) fun w5 hb5=>?_;have hA:=x0b hA hb5;have hB:=x0b hb0 hA;clear x0 x1 x2 x3 x4 x5 x6 x7;obtain⟨x0,x1,x2,x3,x4,x5,x6,x7⟩:=V HC _ hA;go_wp2_with fail;refine c1m (V K4 _ hB) fun w6 hb6=>?_;have hA:=x0b hA hb6;have hB:=x0b hb0 hA;clear x0 x1 x2 x3 x4 x5 x6 x7;have HF:=O hB;clear KSH KF K1 K2 K3 K4 K5 HC;go_wp2;go_ret;exact⟨rfl,V HF⟩
     | true =>
      cases b5 with
      | false =>
       rw[if_neg M7K];exact r8j
      | true =>
       rw[if_pos M7K];exact r8j
theorem y4I:∀args w,(callFunc 347 args).run prog w=.ok (.enter 347 args) w:=f0h
theorem y4J:∀args w,(callFunc 351 args).run prog w=.ok (.enter 351 args) w:=f0h
theorem y1O:∀args w,(callFunc 354 args).run prog w=.ok (.enter 354 args) w:=f0h
theorem y4H:∀args w,(callFunc 346 args).run prog w=.ok (.enter 346 args) w:=f0h
def z6K:Prop:=∀(r:Rec) (vt:Value) (w:World),Glob w->RecFit r->Sk .i32 w vt r.to->Calls prog 167 #[recV r vt] w (IntB w (Cn.right r))
theorem y9B:z6K:=by
 intro r A w Y z X
 have e:Cn.right r=if Cn.fam r.kind=0 then 60 else if(plB r&&(tarB r.kind r&&(numB r.kind r&&(namB r.kind r&&weiB r.kind r))))=true then 0 else 61:=by
  by_cases T:Cn.fam r.kind=0
  ·rw[if_pos T];unfold Cn.right;rw[if_pos T]
  ·rw[if_neg T,right_eq r T];rfl
 rw[e];have D:∀W,Bw w W->Calls prog 184 #[shV r.kind] W (IntB W (Cn.fam r.kind)):=fun W h=>x4s r.kind W (Y.on h) z.kind;have j:∀W,Bw w W->Calls prog 338 #[shV r.kind,recV r A] W (x0c W (tarB r.kind r)):=fun W h=>y1g r.kind r A W (Y.on h) z.kind (X.below h);have S:∀W,Bw w W->Calls prog 335 #[shV r.kind,recV r A] W (x0c W (numB r.kind r)):=fun W h=>y0D r.kind r A W (Y.on h) z.kind z.n;have U:∀W,Bw w W->Calls prog 333 #[shV r.kind,recV r A] W (x0c W (namB r.kind r)):=fun W h=>y8L r.kind r A W (Y.on h) z.kind;have y:∀W,Bw w W->Calls prog 339 #[shV r.kind,recV r A] W (x0c W (weiB r.kind r)):=fun W h=>y2K r.kind r A W (Y.on h) z.kind z.wt;by_cases H:r.kind=4
 ·have B:plB r=shiftB r:=(by unfold plB;rw[if_pos H]);have C:shape r.kind=.iface 309 (.agg #[.int .i64 r.kind]):=(by unfold shape shV;rw[if_pos H]);rw[B];exact x3s 309 347 r A w (fun W=>C ▸ x1q r.kind W z.kind) D (x7v _) (x7x _) (x5A _) (x5y _) (x9b _) (x6J _) y4I _ _ _ _ _ (fun W h=>x4P r.kind r A W z (X.below h)) j S U y
 ·by_cases p:r.kind=5\/r.kind=7\/r.kind=8\/r.kind=13
  ·have B:plB r=(decide (r.lo=r.hi)&&Cn.scalar r.lo):=(by unfold plB;rw[if_neg H,if_pos p]);have C:shape r.kind=.iface 310 (.agg #[.int .i64 r.kind]):=(by unfold shape shV;rw[if_neg H,if_pos p]);rw[B];exact x3s 310 351 r A w (fun W=>C ▸ x1q r.kind W z.kind) D (x9a _) (x9e _) (x6I _) (x6G _) (y0x _) (x7A _) y4J _ _ _ _ _ (fun W _=>x5D r.kind r A W z) j S U y
  ·by_cases f:r.kind=15
   ·have B:plB r=decide (r.lo=0/\r.hi=0):=(by unfold plB;rw[if_neg H,if_neg p,if_pos f]);have C:shape r.kind=.iface 311 (.agg #[.int .i64 r.kind]):=(by unfold shape shV;rw[if_neg H,if_neg p,if_pos f]);rw[B];exact x3s 311 354 r A w (fun W=>C ▸ x1q r.kind W z.kind) D (x8Z _) (x9d _) (x6H _) (x6F _) (y0w _) (x7z _) y1O _ _ _ _ _ (fun W _=>x5C r.kind r A W z) j S U y
   ·have B:plB r=spanB r:=(by unfold plB;rw[if_neg H,if_neg p,if_neg f]);have C:shape r.kind=.iface 307 (.agg #[.int .i64 r.kind]):=(by unfold shape shV;rw[if_neg H,if_neg p,if_neg f]);rw[B];exact x3s 307 346 r A w (fun W=>C ▸ x1q r.kind W z.kind) D (x7w _) (x7y _) (x5B _) (x5z _) (x9c _) (x6K _) y4H _ _ _ _ _ (fun W _=>x2j r.kind r A W z) j S U y
def firstW(rs:List Rec):Nat×Int:=if 4096<rs.length then(0,3)else match Cn.x1f 0 rs with | some x=>x | Option.none=>(0,0)
def x5G(rs:List Rec)(k:Nat):Nat×Int:=match Cn.x1f k (rs.drop k)with | some x=>x | Option.none=>(0,0)
theorem z9b{rs:List Rec}{k:Nat}(G:k<rs.length)(h:Cn.right (rs.getD k Cn.none)≠0):x5G rs k=(k,Cn.right (rs.getD k Cn.none)):=by
 have e:rs.getD k Cn.none=rs[k]:=(by grind);rw[e]at h ⊢;unfold x5G;rw[List.drop_eq_getElem_cons G,Cn.x1f,if_neg h]
theorem z6l{rs:List Rec}{k:Nat}(G:k<rs.length)(h:Cn.right (rs.getD k Cn.none)=0):x5G rs k=x5G rs (k+1):=by
 have e:rs.getD k Cn.none=rs[k]:=(by grind);rw[e]at h;unfold x5G;rw[List.drop_eq_getElem_cons G,Cn.x1f,if_pos h]
theorem z9a(rs:List Rec):x5G rs rs.length=(0,0):=by
 unfold x5G;rw[List.drop_length,Cn.x1f]
def y2P(w:World)(x:Nat×Int)(e:Ending)(w':World):Prop:=e=.returned (.tuple #[.int .i64 (x.1:Int),.int .i64 x.2])/\Below w.heap.size w w'
theorem x7r(v:Value)(rs:List Rec)(w:World)(Y:Glob w)(N:Rcs w v rs):Calls prog 124 #[v] w (y2P w (firstW rs)):=by
 have d:=N.1;by_cases ab:4096<rs.length
 ·have e:firstW rs=(0,3):=(by unfold firstW;rw[if_pos ab]);rw[e];obtain⟨s,M,rfl,_,_⟩:=N.shape;go_enter func124,ntmps124;go_wp2;go_ret2;exact⟨rfl,b0r⟩
 ·have o:Hid (firstW rs=x5G rs 0):=by
   show firstW rs=x5G rs 0;unfold firstW x5G;rw[if_neg ab,List.drop_zero]
  have L:Hid (RIn w v rs w):=⟨N,b0r⟩;have HG:=O (fun W (h:Bw w W)=>Y.on h);obtain⟨s,M,rfl,D,Z⟩:=N.shape;generalize firstW rs=t at *;go_enter func124,ntmps124;go_wp2;go_loopw[4,5,6,12] (fun _ _ _ i wr=>∃k:Nat,i=.int .i64 k/\k<=rs.length/\t=x5G rs k/\RIn w (.slice s rs.length M) rs wr) (fun _ _ _ i _=>rs.length-(intOf i).toNat)
  case atStart=>exact⟨0,rfl,f6J,V o,V L⟩
  case round =>
   obtain⟨k,rfl,G,R,X⟩:=hrel;by_cases H:k<rs.length
   ·obtain⟨b,P,J,q,f,Q,I⟩:=X.1.place f6J;obtain⟨rfl,rfl⟩:s=some ⟨b,P,none⟩/\M=J:=W3N;have ae:=X.1.fit H;obtain⟨x0,u,p,x3,⟨A,x4,sk⟩,j,g,x7⟩:=I k H;have B:Hid (Cn.right (rs.getD k Cn.none)=0->t=x5G rs (k+1)):=fun h=>R.trans (z6l H h);have c:Hid (Cn.right (rs.getD k Cn.none)≠0->t=(k,Cn.right (rs.getD k Cn.none))):=fun h=>R.trans (z9b H h);have KR:Hid (∀W,Bw wr W->Calls prog 167 #[recV (rs.getD k Cn.none) A] W (IntB W (Cn.right (rs.getD k Cn.none)))):=fun W h=>y9B _ A W (V HG W (X.on h).2) ae (sk.below h);have S:=O X;obtain⟨C,tc,rfl,_,_⟩:=sk.shape;unfold recV at KR;generalize Cn.right (rs.getD k Cn.none)=y at KR c B;generalize(rs.getD k Cn.none).kind=kd,(rs.getD k Cn.none).lo=lo,(rs.getD k Cn.none).hi=hi,(rs.getD k Cn.none).n=n at *;generalize(rs.getD k Cn.none).name=nm,(rs.getD k Cn.none).other=ot,(rs.getD k Cn.none).wt=wt,(rs.getD k Cn.none).to.length=tl at *;have l:∀W a m,(store a (.float .f64 wt) m).run prog W=stored prog W a (.float .f64 wt) m:=fun W a m=>run_store prog W a _ m rfl;go_wp2_with fail;refine(V KR _ ((b0r).alloc (l0r _) _)).mono ?_;rintro e w1 ⟨rfl,E⟩;have F:=x0b ((Below.refl wr.heap.size wr).alloc (l0r _) _) E;by_cases x:y=0
    ·have U:=O (V B x);subst x;have HI:=O ((V S).on F);go_wp2;go_round
     case rel=>exact⟨k+1,g2A,f6J,V U,V HI⟩
     case measure=>exact g7T
    ·obtain rfl:=V c x;have K:(y==0)=false:=b0f x;have r:(y != 0)=true:=v5I;have HI:=O ((V S).on F).2;go_wp2;go_ret2;exact⟨rfl,V HI⟩
   ·obtain rfl:k=rs.length:=f6J;obtain rfl:=R.trans (z9a rs);have T:=O X.2;go_wp2;go_ret2;exact i5u
structure RunOk(lo hi s:Int):Prop where
 l0:0<=lo
 lh:lo<=hi
 h1:hi<=1114111
 s0:1<=s
 s1:s<=64
def fromI(lo s c:Int):Int:=if c<=lo then lo else c+(s-(c-lo)%s)%s
theorem y3j(lo hi s c:Int)(w:World)(h:RunOk lo hi s)(I:0<=c/\c<=1114111):Calls prog 258 #[runV lo hi s,.int .i64 c] w (IntB w (fromI lo s c)):=by
 have C:Bw w (w.alloc (.cells #[.int .i64 lo,.int .i64 hi,.int .i64 s] 251)):=(b0r).alloc (l0r _) _;obtain⟨Z,B,D,T,J⟩:=h;obtain⟨Y,o⟩:=I;unfold runV fromI;by_cases H:c<=lo
 ·rw[if_pos H];have d:=d0t H;go_enter func258,ntmps258;go_wp2;go_ret;exact⟨rfl,C⟩
 ·rw[if_neg H];have d:=d0f H;have F:=Int.emod_nonneg (c-lo) (f6J:s≠0);have S:=Int.emod_lt_of_pos (c-lo) (f6J:0<s);have R:=Int.emod_nonneg (s-(c-lo)%s) (f6J:s≠0);have t:=Int.emod_lt_of_pos (s-(c-lo)%s) (f6J:0<s);have N:(c-lo).tmod s=(c-lo)%s:=Int.tmod_eq_emod_of_nonneg f6J;have f:(s-(c-lo)%s).tmod s=(s-(c-lo)%s)%s:=Int.tmod_eq_emod_of_nonneg f6J;have Q:IntKind.i64.wrap (c-lo)=c-lo:=IntWalk.i64_in _ ⟨f6J,f6J⟩;have A:IntKind.i64.wrap (s-(c-lo)%s)=s-(c-lo)%s:=IntWalk.i64_in _ ⟨f6J,f6J⟩;have u:IntKind.i64.wrap ((c-lo)%s)=(c-lo)%s:=IntWalk.i64_in _ ⟨f6J,f6J⟩;have X:IntKind.i64.wrap ((s-(c-lo)%s)%s)=(s-(c-lo)%s)%s:=IntWalk.i64_in _ ⟨f6J,f6J⟩;have k:IntKind.i64.wrap (c+(s-(c-lo)%s)%s)=c+(s-(c-lo)%s)%s:=IntWalk.i64_in _ ⟨f6J,f6J⟩;have x:(s==0)=false:=b0f f6J;go_enter func258,ntmps258;go_wp2;go_quiet(fail);go_wp2;go_ret;have E:(s-(c-lo)%s)%s=-((c-lo)%s)%s:=f0k;refine⟨?_,x0b C (x0k ⟨_,rfl⟩)⟩;show Ending.returned (.int .i64 (wrap64 (c+-((c-lo)%s)%s)))=_;rw[<- E,IntWalk.wrap64_in _ ⟨f6J,f6J⟩]
def mA(s hi:Int)(p:Int->Bool):Nat->Int->Bool
 | 0,_=>false
 | k+1,c=>if hi<c then false else if p c then true else mA s hi p k (c+s)
def y3A(lo hi s lo' hi' s':Int):Bool :=
 if hi<lo'\/hi'<lo then false
 else if s<s' then mA s' hi' (hasB lo hi s) s.toNat (fromI lo' s' lo)
 else mA s hi (hasB lo' hi' s') s'.toNat (fromI lo s lo')
theorem y8F(lo hi s C g b:Int)(w:World)(h:RunOk lo hi s)(D:RunOk C g b):Calls prog 217 #[runV lo hi s,runV C g b] w (x0c w (y3A lo hi s C g b)):=by
 have U:=x2J w (.cells #[.int .i64 lo,.int .i64 hi,.int .i64 s] 251) (.cells #[.int .i64 C,.int .i64 g,.int .i64 b] 251);unfold y3A;by_cases ha:hi<C
 ·rw[if_pos (.inl ha)];have d:=d0t ha;exact p9m
 ·have d:=d0f ha;by_cases hc:g<lo
  ·rw[if_pos (.inr hc)];have d2:=d0t hc;exact p9m
  ·rw[if_neg f6J];have d2:=d0f hc;by_cases hs:s<b
   ·rw[if_pos hs];have d3:=d0t hs;have z:=x2J w (.cells #[.int .i64 C,.int .i64 g,.int .i64 b] 251) (.cells #[.int .i64 lo,.int .i64 hi,.int .i64 s] 251);have n:=O (y3j C g b lo ((w.alloc (.cells #[.int .i64 C,.int .i64 g,.int .i64 b] 251)).alloc (.cells #[.int .i64 lo,.int .i64 hi,.int .i64 s] 251)) D ⟨h.l0,g0J⟩);have G:Hid (∀c W,-10<=c/\c<=2000000->Calls prog 183 #[.agg #[.int .i64 lo,.int .i64 hi,.int .i64 s],.int .i64 c] W (x0c W (hasB lo hi s c))):=fun c W hc=>y1Z lo hi s c W ⟨by have:=h.l0;exact f6J,g0J⟩ ⟨t8K,by have:=h.h1;exact f6J⟩ ⟨by have:=h.s0;exact f6J,u6j⟩ ⟨f6J,f6J⟩
    have L:Hid (∀W,Below ((w.alloc (.cells #[.int .i64 C,.int .i64 g,.int .i64 b] 251)).alloc (.cells #[.int .i64 lo,.int .i64 hi,.int .i64 s] 251)).heap.size ((w.alloc (.cells #[.int .i64 C,.int .i64 g,.int .i64 b] 251)).alloc (.cells #[.int .i64 lo,.int .i64 hi,.int .i64 s] 251)) W->W.cell? ⟨w.heap.size,1,none⟩=some (.int .i64 g)/\W.cell? ⟨w.heap.size,2,none⟩=some (.int .i64 b)):=fun W h=>by
     have h0:((w.alloc (.cells #[.int .i64 C,.int .i64 g,.int .i64 b] 251)).alloc (.cells #[.int .i64 lo,.int .i64 hi,.int .i64 s] 251)).heap[w.heap.size]?=some (.cells #[.int .i64 C,.int .i64 g,.int .i64 b] 251 (0,0)):=e5x
     exact G9P
    have x:Hid (∀W,Below ((w.alloc (.cells #[.int .i64 C,.int .i64 g,.int .i64 b] 251)).alloc (.cells #[.int .i64 lo,.int .i64 hi,.int .i64 s] 251)).heap.size ((w.alloc (.cells #[.int .i64 C,.int .i64 g,.int .i64 b] 251)).alloc (.cells #[.int .i64 lo,.int .i64 hi,.int .i64 s] 251)) W->W.cell? ⟨w.heap.size+1,0,none⟩=some (.int .i64 lo)/\W.cell? ⟨w.heap.size+1,1,none⟩=some (.int .i64 hi)/\W.cell? ⟨w.heap.size+1,2,none⟩=some (.int .i64 s)):=fun W h=>⟨x0i (j:=0) h rfl,x0i (j:=1) h rfl,x0i (j:=2) h rfl⟩;obtain⟨N,hN⟩:∃N:Nat,s=(N:Int):=⟨s.toNat,by have:=h.s0;exact f6J⟩;have af:N<=64:=u6j;have K:s.toNat=N:=f6J
    have ab:0<=fromI C b lo/\fromI C b lo<=1114300:=by
     obtain⟨a0,a1,a2,a3,a4⟩:=D;obtain⟨i,b1,m,b3,b4⟩:=h;unfold fromI;split
     ·omega
     ·have:=Int.emod_nonneg (b-(lo-C)%b) (f6J:b≠0);have:=Int.emod_lt_of_pos (b-(lo-C)%b) (f6J:0<b);omega
    have aj:0<=g/\g<=1114111:=⟨R7U,D.h1⟩;have ai:1<=b/\b<=64:=⟨D.s0,D.s1⟩;rw[K];have B:=O hN;clear h D U K hN;generalize hfm:fromI C b lo=Y at *;clear hfm;generalize hhas:hasB lo hi s=p at *;clear hhas;generalize hr0:mA b g p N Y=t at *;have a:=O hr0.symm;clear hr0;unfold runV at *;go_enter func217,ntmps217;go_wp2_with fail;refine c0m n fun Q E=>?_;have q:=(V x Q E).2.2;rw[V B]at q;have z:=x0b z E;have L:=O (fun W (h:Bw Q W)=>V L W (x0b E h));have x:=O (fun W (h:Bw Q W)=>V x W (x0b E h));clear n E B;go_wp2;go_loopw[5,31] (fun cv S wr=>∃(k:Nat) (c:Int),cv=.int .i64 c/\S=.int .i64 k/\k<=N/\0<=c/\c<=1114300/\t=mA b g p (N-k) c/\Bw Q wr) (fun _ S _=>N-(intOf S).toNat)
    case atStart=>exact⟨0,Y,rfl,rfl,f6J,ab.1,ab.2,V a,b0r⟩
    case round =>
     obtain⟨k,c,rfl,rfl,hk,r,f,R,l⟩:=hrel;clear a q;by_cases ag:k<N
     ·obtain⟨M,P⟩:∃M,N-k=M+1:=⟨N-k-1,f6J⟩;rw[P,mA]at R;obtain⟨u,x2⟩:=V L wr l;obtain⟨z0,z1,X⟩:=V x wr l;by_cases J:g<c
      ·exact i5I
      ·rw[if_neg J]at R;have dg:=d0f J;have Z:=O (V G c wr ⟨f6J,f6J⟩);have I:=O l;clear G l
       cases hp:p c with
       | true =>exact M2t
       | false =>
        rw[hp,if_neg e8S]at R;rw[hp]at Z;have o:Hid (t=mA b g p (N-(k+1)) (c+b)):=F6r;have v:Hid (∀W,Bw wr W->W.cell? ⟨w.heap.size,2,none⟩=some (.int .i64 b)):=fun W h=>(V L W (x0b (V I) h)).2;clear P L x R;go_wp2_with fail;refine c0m Z fun A F=>?_;have y:=V v A F;have ae:=O (x0b (V I) F);have hw:IntKind.i64.wrap (c+b)=c+b:=IntWalk.i64_in _ ⟨f6J,f6J⟩;clear Z F I v u x2 z0 z1 X;go_wp2;go_round
        case rel=>exact⟨k+1,c+b,g2A,g2A,f6J,f6J,f6J,V o,V ae⟩
        case measure=>exact g7V
     ·exact t7t
   ·rw[if_neg hs];have d3:=d0f hs;have z:=x2J w (.cells #[.int .i64 lo,.int .i64 hi,.int .i64 s] 251) (.cells #[.int .i64 C,.int .i64 g,.int .i64 b] 251);have n:=O (y3j lo hi s C ((w.alloc (.cells #[.int .i64 lo,.int .i64 hi,.int .i64 s] 251)).alloc (.cells #[.int .i64 C,.int .i64 g,.int .i64 b] 251)) h ⟨D.l0,R1B⟩);have G:Hid (∀c W,-10<=c/\c<=2000000->Calls prog 183 #[.agg #[.int .i64 C,.int .i64 g,.int .i64 b],.int .i64 c] W (x0c W (hasB C g b c))):=fun c W hc=>y1Z C g b c W ⟨by have:=D.l0;exact f6J,R1B⟩ ⟨R7U,by have:=D.h1;exact f6J⟩ ⟨by have:=D.s0;exact f6J,by have:=D.s1;exact f6J⟩ ⟨f6J,f6J⟩
    have L:Hid (∀W,Below ((w.alloc (.cells #[.int .i64 lo,.int .i64 hi,.int .i64 s] 251)).alloc (.cells #[.int .i64 C,.int .i64 g,.int .i64 b] 251)).heap.size ((w.alloc (.cells #[.int .i64 lo,.int .i64 hi,.int .i64 s] 251)).alloc (.cells #[.int .i64 C,.int .i64 g,.int .i64 b] 251)) W->W.cell? ⟨w.heap.size,1,none⟩=some (.int .i64 hi)/\W.cell? ⟨w.heap.size,2,none⟩=some (.int .i64 s)):=fun W h=>by
     have h0:((w.alloc (.cells #[.int .i64 lo,.int .i64 hi,.int .i64 s] 251)).alloc (.cells #[.int .i64 C,.int .i64 g,.int .i64 b] 251)).heap[w.heap.size]?=some (.cells #[.int .i64 lo,.int .i64 hi,.int .i64 s] 251 (0,0)):=e5x
     exact G9P
    have x:Hid (∀W,Below ((w.alloc (.cells #[.int .i64 lo,.int .i64 hi,.int .i64 s] 251)).alloc (.cells #[.int .i64 C,.int .i64 g,.int .i64 b] 251)).heap.size ((w.alloc (.cells #[.int .i64 lo,.int .i64 hi,.int .i64 s] 251)).alloc (.cells #[.int .i64 C,.int .i64 g,.int .i64 b] 251)) W->W.cell? ⟨w.heap.size+1,0,none⟩=some (.int .i64 C)/\W.cell? ⟨w.heap.size+1,1,none⟩=some (.int .i64 g)/\W.cell? ⟨w.heap.size+1,2,none⟩=some (.int .i64 b)):=fun W h=>⟨x0i (j:=0) h rfl,x0i (j:=1) h rfl,x0i (j:=2) h rfl⟩;obtain⟨N,hN⟩:∃N:Nat,b=(N:Int):=⟨b.toNat,by have:=D.s0;exact f6J⟩;have af:N<=64:=(by have:=D.s1;exact f6J);have K:b.toNat=N:=f6J
    have ab:0<=fromI lo s C/\fromI lo s C<=1114300:=by
     obtain⟨a0,a1,a2,a3,a4⟩:=h;obtain⟨i,b1,m,b3,b4⟩:=D;unfold fromI;split
     ·omega
     ·have:=Int.emod_nonneg (s-(C-lo)%s) (f6J:s≠0);have:=Int.emod_lt_of_pos (s-(C-lo)%s) (f6J:0<s);omega
    have aj:0<=hi/\hi<=1114111:=⟨t8K,h.h1⟩;have ai:1<=s/\s<=64:=⟨h.s0,h.s1⟩;rw[K];have B:=O hN;clear h D U K hN;generalize hfm:fromI lo s C=Y at *;clear hfm;generalize hhas:hasB C g b=p at *;clear hhas;generalize hr0:mA s hi p N Y=t at *;have a:=O hr0.symm;clear hr0;unfold runV at *;go_enter func217,ntmps217;go_wp2_with fail;refine c0m n fun Q E=>?_;have q:=(V x Q E).2.2;rw[V B]at q;have z:=x0b z E;have L:=O (fun W (h:Bw Q W)=>V L W (x0b E h));have x:=O (fun W (h:Bw Q W)=>V x W (x0b E h));clear n E B;go_wp2;go_loopw[5,31] (fun cv S wr=>∃(k:Nat) (c:Int),cv=.int .i64 c/\S=.int .i64 k/\k<=N/\0<=c/\c<=1114300/\t=mA s hi p (N-k) c/\Bw Q wr) (fun _ S _=>N-(intOf S).toNat)
    case atStart=>exact⟨0,Y,rfl,rfl,f6J,ab.1,ab.2,V a,b0r⟩
    case round =>
     obtain⟨k,c,rfl,rfl,hk,r,f,R,l⟩:=hrel;clear a q;by_cases ag:k<N
     ·obtain⟨M,P⟩:∃M,N-k=M+1:=⟨N-k-1,f6J⟩;rw[P,mA]at R;obtain⟨u,x2⟩:=V L wr l;obtain⟨z0,z1,X⟩:=V x wr l;by_cases J:hi<c
      ·exact i5I
      ·rw[if_neg J]at R;have dg:=d0f J;have Z:=O (V G c wr ⟨f6J,f6J⟩);have I:=O l;clear G l
       cases hp:p c with
       | true =>exact M2t
       | false =>
        rw[hp,if_neg e8S]at R;rw[hp]at Z;have o:Hid (t=mA s hi p (N-(k+1)) (c+s)):=F6r;have v:Hid (∀W,Bw wr W->W.cell? ⟨w.heap.size,2,none⟩=some (.int .i64 s)):=fun W h=>(V L W (x0b (V I) h)).2;clear P L x R;go_wp2_with fail;refine c0m Z fun A F=>?_;have y:=V v A F;have ae:=O (x0b (V I) F);have hw:IntKind.i64.wrap (c+s)=c+s:=IntWalk.i64_in _ ⟨f6J,f6J⟩;clear Z F I v u x2 z0 z1 X;go_wp2;go_round
        case rel=>exact⟨k+1,c+s,g2A,g2A,f6J,f6J,f6J,V o,V ae⟩
        case measure=>exact g7V
     ·exact t7t
