/- YJumps3 YPuD11 YPuE11 YPuF11 -/
import Derived.ScopeJumps
import Derived.WalkMore
import Derived.Test.YtbmckadcjdedcaaGreatDoorD43
import Derived.Test.YtbmckadcjdedcaaGreatDoorD44
import Derived.Deep.DeepCutAuto
set_option maxHeartbeats 20000000
set_option maxRecDepth 40000
namespace Go.Proofs.YtbmckadcjdedcaaGreatDoor
open Go.Proofs.Tryz
section
variable{p:Prop}
theorem i2b(h:p:=by obtain⟨l⟩:=t;have S:l.length=79:=(by simpa using Z);apply congrArg Array.mk;have e:=y0M l 79 S;rw[show(List.range 79).map (fun i=>l.getD i undef)=[l.getD 0 undef,l.getD 1 undef,l.getD 2 undef,l.getD 3 undef,l.getD 4 undef,l.getD 5 undef,l.getD 6 undef,l.getD 7 undef,l.getD 8 undef,l.getD 9 undef,l.getD 10 undef,l.getD 11 undef,l.getD 12 undef,l.getD 13 undef,l.getD 14 undef,l.getD 15 undef,l.getD 16 undef,l.getD 17 undef,l.getD 18 undef,l.getD 19 undef,l.getD 20 undef,l.getD 21 undef,l.getD 22 undef,l.getD 23 undef,l.getD 24 undef,l.getD 25 undef,l.getD 26 undef,l.getD 27 undef,l.getD 28 undef,l.getD 29 undef,l.getD 30 undef,l.getD 31 undef,l.getD 32 undef,l.getD 33 undef,l.getD 34 undef,l.getD 35 undef,l.getD 36 undef,l.getD 37 undef,l.getD 38 undef,l.getD 39 undef,l.getD 40 undef,l.getD 41 undef,l.getD 42 undef,l.getD 43 undef,l.getD 44 undef,l.getD 45 undef,l.getD 46 undef,l.getD 47 undef,l.getD 48 undef,l.getD 49 undef,l.getD 50 undef,l.getD 51 undef,l.getD 52 undef,l.getD 53 undef,l.getD 54 undef,l.getD 55 undef,l.getD 56 undef,l.getD 57 undef,l.getD 58 undef,l.getD 59 undef,l.getD 60 undef,l.getD 61 undef,l.getD 62 undef,l.getD 63 undef,l.getD 64 undef,l.getD 65 undef,l.getD 66 undef,l.getD 67 undef,l.getD 68 undef,l.getD 69 undef,l.getD 70 undef,l.getD 71 undef,l.getD 72 undef,l.getD 73 undef,l.getD 74 undef,l.getD 75 undef,l.getD 76 undef,l.getD 77 undef,l.getD 78 undef]from rfl]at e;have g:∀i,(Array.mk l).getD i undef=l.getD i undef:=fun i=>m9N;simp only[g];exact e):p:=h
theorem v3h(h:p:=by have x:Hid (∀R,Bw w R->x8t w L (.returned (.tuple #[.string ⟨#[]⟩,.string s])) R):=fun R C=>⟨⟨#[]⟩,s,rfl,by rw[u];simp[nums],by unfold Pu.tail;rw[if_pos u];exact V n,C⟩;go_wp2;go_ret2;exact V x w (b0r)):p:=h
theorem u1p(h:p:=by exact⟨_,a₁,w₁,L,.of_steps (.one step_scope) A⟩):p:=h
theorem s5e(h:p:=by have:=h.lt;have:=h.hB;exact f6J):p:=h
theorem u3O(h:p:=by go_wp2;go_ret2;exact V T):p:=h
theorem m9N(h:p:=by rw[Array.getD_eq_getD_getElem?,List.getD_eq_getElem?_getD];exact M7K):p:=h
theorem U4D(h:p:=by first| rfl | go_num | simp):p:=h
theorem s8A(h:p:=by
 go_wp2_with fail;refine(V (c _)).mono ?_;rintro e G ⟨⟨_,rfl⟩ | ⟨A,_⟩,rfl⟩
 ·clear c;exact g4C
 ·omega):p:=h
theorem S2m(h:p:=by have:=S (j+1) f6J P8P;exact W2K):p:=h
theorem U6w(h:p:=by first| rfl | go_num):p:=h
theorem f2p(h:p:=by simpa using o):p:=h
theorem V9D(h:p:=by simp<;>omega):p:=h
theorem g4C(h:p:=by go_wp2;go_ret2;exact x0W.no (V x) f6J (V Z)):p:=h
theorem f4r(h:p:=by clear u P N E Q ab K R D;go_wp2;go_ret2;exact x0W.yes (V x) (V am) (V Z)):p:=h
theorem W5O(h:p:=by rw[y7l H];exact List.cons_ne_nil _ _):p:=h
theorem m3I(h:p:=by rw[Pu.x9t hd ht]):p:=h
theorem w5m(h:p:=by rw[Pu.x9u hd ht]):p:=h
end
def z1H(J:Nat->Act->World->Prop)(Q:Exit->Act->World->Prop):Exit->Act->World->Prop
 | .goto l,a,w=>J l a w
 | e,a,w=>Q e a w
theorem x7j{P:Program}{a:Act}{w:World}{Q:Exit->Act->World->Prop}{c:Code}(rest:Nat->Code)(J:Nat->Act->World->Prop)(m:Nat->Act->World->Nat)(z:∀l a w,J l a w->findLabel c l=some (rest l))
  (first:c.wp P (z1H J Q) a w)
  (F:∀l a w,J l a w->(rest l).wp P (z1H (fun B M w'=>J B M w'/\m B M w'<m l a w) Q) a w):(Code.scope c).wp P Q a w:=by
 intro b k f
 have S:∀n l a w,m l a w=n->J l a w->∃e M w',Q e M w'/\Arrives P (lone (b.at a (.code (rest l)::.inScope c::k)) f w) b k f e M w':=by
  intro n
  induction n using Nat.strongRecOn with
  | _ n ih =>
   intro l a w E o;obtain⟨e,a₁,w₁,L,A⟩:=F l a w o b (.inScope c::k) f
   cases e with
   | normal=>exact⟨.normal,a₁,w₁,L,Steps.trans A (.one step_inScope)⟩
   | exit id=>exact⟨.exit id,a₁,w₁,L,fun C G=>A C (by simp[exitTo,G])⟩
   | goto B =>
    obtain⟨I,H⟩:=L;have Y:gotoIn B (.inScope c::k)=some (.code (rest B)::.inScope c::k):=(by simp[gotoIn,z B _ _ I]);obtain⟨e₂,a₂,w₂,L₂,A₂⟩:=ih _ f6J B a₁ w₁ rfl I;exact⟨e₂,a₂,w₂,L₂,.of_steps (A _ Y) A₂⟩
   | ret=>exact⟨_,a₁,w₁,L,A⟩
   | panic ch=>exact⟨_,a₁,w₁,L,A⟩
   | outgrown=>exact⟨_,a₁,w₁,L,A⟩
 obtain⟨e,a₁,w₁,L,A⟩:=first b (.inScope c::k) f
 cases e with
 | normal=>exact⟨.normal,a₁,w₁,L,.head step_scope (Steps.trans A (.one step_inScope))⟩
 | exit id=>exact⟨.exit id,a₁,w₁,L,fun C G=>.head step_scope (A C (by simp[exitTo,G]))⟩
 | goto B =>
  have D:J B a₁ w₁:=L;have Y:gotoIn B (.inScope c::k)=some (.code (rest B)::.inScope c::k):=(by simp[gotoIn,z B _ _ D]);obtain⟨e₂,a₂,w₂,L₂,A₂⟩:=S _ B a₁ w₁ rfl D;exact⟨e₂,a₂,w₂,L₂,.of_steps (.head step_scope (A _ Y)) A₂⟩
 | ret=>exact u1p
 | panic ch=>exact u1p
 | outgrown=>exact u1p
theorem x2M{P:Program}{a:Act}{w:World}{Q:Exit->Act->World->Prop}{c:Code}(J:Nat->Act->World->Prop)(m:Nat->Act->World->Nat)(z:∀l a w,J l a w->(findLabel c l).isSome=true)
  (first:c.wp P (z1H J Q) a w)
  (F:∀l a w,J l a w->((findLabel c l).getD .skip).wp P (z1H (fun B M w'=>J B M w'/\m B M w'<m l a w) Q) a w):(Code.scope c).wp P Q a w :=
 x7j (fun l=>(findLabel c l).getD .skip) J m (fun l a w h=>by
  have Z:=z l a w h
  cases hq:findLabel c l with
  | none=>rw[hq]at Z;cases Z
  | some q=>rfl) first F
open Go.RowKit
theorem y0M(l:List Value)(n:Nat)(h:l.length=n):l=(List.range n).map (fun i=>l.getD i undef):=by
 apply List.ext_getElem
 ·simp[h]
 ·grind
def F0(s:ByteArray)(v:Value)(k b:Nat)(a:Act):Prop:=a.defers=[]/\a.tmps.size=79/\a.tmps.getD 0 undef=v/\a.tmps.getD 1 undef=.string s/\a.tmps.getD 4 undef=.slice none 0 0/\a.tmps.getD 5 undef=.int .i64 0/\a.tmps.getD 6 undef=.int .i64 (k:Int)/\a.tmps.getD 15 undef=.pointer (some ⟨b,0,none⟩)
theorem F0.open{s:ByteArray}{v:Value}{k b:Nat}{a:Act}(h:F0 s v k b a):∃U:Nat->Value,a=({ tmps:=#[v,.string s,U 2,U 3,.slice none 0 0,.int .i64 0,.int .i64 (k:Int),U 7,U 8,U 9,U 10,U 11,U 12,U 13,U 14,.pointer (some ⟨b,0,none⟩),U 16,U 17,U 18,U 19,U 20,U 21,U 22,U 23,U 24,U 25,U 26,U 27,U 28,U 29,U 30,U 31,U 32,U 33,U 34,U 35,U 36,U 37,U 38,U 39,U 40,U 41,U 42,U 43,U 44,U 45,U 46,U 47,U 48,U 49,U 50,U 51,U 52,U 53,U 54,U 55,U 56,U 57,U 58,U 59,U 60,U 61,U 62,U 63,U 64,U 65,U 66,U 67,U 68,U 69,U 70,U 71,U 72,U 73,U 74,U 75,U 76,U 77,U 78],defers:=[] }:Act):=by
 obtain⟨t,E⟩:=a;obtain⟨D,Z,x,P,F,u,R,A⟩:=h;refine⟨fun i=>t.getD i undef,?_⟩;simp only at D Z x P F u R A;subst D;congr 1;rw[<- x,<- P,<- F,<- u,<- R,<- A];exact i2b
def F1(s:ByteArray)(v:Value)(k b:Nat)(kk vl wt:Int)(a:Act):Prop:=a.defers=[]/\a.tmps.size=79/\a.tmps.getD 0 undef=v/\a.tmps.getD 1 undef=.string s/\a.tmps.getD 4 undef=.slice none 0 0/\a.tmps.getD 5 undef=.int .i64 0/\a.tmps.getD 6 undef=.int .i64 (k:Int)/\a.tmps.getD 15 undef=.pointer (some ⟨b,0,none⟩)/\a.tmps.getD 8 undef=.int .i64 kk/\a.tmps.getD 10 undef=.int .i64 vl/\a.tmps.getD 11 undef=.int .i64 wt
theorem F1.open{s:ByteArray}{v:Value}{k b:Nat}{Y vl wt:Int}{a:Act}(h:F1 s v k b Y vl wt a):∃U:Nat->Value,a=({ tmps:=#[v,.string s,U 2,U 3,.slice none 0 0,.int .i64 0,.int .i64 (k:Int),U 7,.int .i64 Y,U 9,.int .i64 vl,.int .i64 wt,U 12,U 13,U 14,.pointer (some ⟨b,0,none⟩),U 16,U 17,U 18,U 19,U 20,U 21,U 22,U 23,U 24,U 25,U 26,U 27,U 28,U 29,U 30,U 31,U 32,U 33,U 34,U 35,U 36,U 37,U 38,U 39,U 40,U 41,U 42,U 43,U 44,U 45,U 46,U 47,U 48,U 49,U 50,U 51,U 52,U 53,U 54,U 55,U 56,U 57,U 58,U 59,U 60,U 61,U 62,U 63,U 64,U 65,U 66,U 67,U 68,U 69,U 70,U 71,U 72,U 73,U 74,U 75,U 76,U 77,U 78],defers:=[] }:Act):=by
 obtain⟨t,E⟩:=a;obtain⟨D,Z,x,P,F,u,R,A,K,B,C⟩:=h;refine⟨fun i=>t.getD i undef,?_⟩;simp only at D Z x P F u R A K B C;subst D;congr 1;rw[<- x,<- P,<- F,<- u,<- R,<- A,<- K,<- B,<- C];exact i2b
structure Rm(X0:Nat)(B b:Nat)(w0:World)(k:Nat)(st:Pu.St)(v:Value)(wr:World):Prop where
 row:Ok .i32 21 wr B v st.xs
 state:StAt wr b (st.xs.length:Int) st.n st.i st.bias st.first
 bel:Below B w0 wr
 hB:B<=b
 lt:b<wr.heap.size
 ne:v.ownBlock≠some b
 len:st.xs.length<=X0+k
 n:0<=st.n/\st.n<=1114111
 i:0<=st.i/\st.i<=st.xs.length
 bias:0<=st.bias/\st.bias<=468
def x0W(B:Nat)(w:World)(r:List Int×Int)(e:Ending)(w':World):Prop :=
 (∃v,e=.returned (.tuple #[v,.int .i64 0])/\r=(r.1,0)/\Ok .i32 21 w' B v r.1/\Below B w w')\/(r.1=[]/\r.2≠0/\e=.returned (.tuple #[.slice none 0 0,.int .i64 r.2])/\Below B w w')
theorem x0W.no{B:Nat}{w w':World}{r:List Int×Int}{c:Int}(h:r=([],c))(I:c≠0)(C:Below B w w'):x0W B w r (.returned (.tuple #[.slice none 0 0,.int .i64 c])) w':=by
 subst h;exact .inr ⟨rfl,I,rfl,C⟩
theorem x0W.yes{B:Nat}{w w':World}{r:List Int×Int}{v:Value}{xs:List Int}(h:r=(xs,0))(N:Ok .i32 21 w' B v xs)(C:Below B w w'):x0W B w r (.returned (.tuple #[v,.int .i64 0])) w':=by
 subst h;exact .inl ⟨v,rfl,rfl,N,C⟩
def Jq(X0 B b:Nat)(s:ByteArray)(zs:List Int)(r:List Int×Int)(w:World):Nat->Act->World->Prop
 | 0,a,wr=>∃(k:Nat) (st:Pu.St) (v:Value),F0 s v k b a/\k<=s.size/\Rm X0 B b w k st v wr/\r=Pu.rdW (zs.drop k) st
 | 1,a,wr=>∃(k:Nat) (st:Pu.St) (v:Value) (kk vl wt:Int),F1 s v k b kk vl wt a/\k<=s.size/\Rm X0 B b w k st v wr/\(1<=kk/\kk<=k+1)/\(0<=vl/\vl<=75161927680*k)/\(1<=wt/\wt<=2147483648)/\r=Pu.after st (Pu.rdN st.bias (zs.drop k) kk vl wt)
 | 2,a,wr=>∃(k:Nat) (st:Pu.St) (v:Value) (kk vl wt:Int),F1 s v k b kk vl wt a/\k<=s.size/\1<=k/\Rm X0 B b w (k-1) st v wr/\(0<=vl/\vl<=75161927680*k)/\r=Pu.after st (0,vl,zs.drop k)
 | _,_,_=>False
theorem Rm.later{H B b:Nat}{U:World}{k C:Nat}{m:Pu.St}{v:Value}{wr:World}(h:Rm H B b U k m v wr)(G:k<=C):Rm H B b U C m v wr :=
 { h with len:=by have:=h.len;exact f6J }
theorem x3p{K:IntKind}{e:TypeId}{w w':World}{B:Nat}{v:Value}{zs:List Int}{row:Option Nat}(h:Ok K e w B v zs)(Y:w.grownBy w' row)(F:v.ownBlock=none\/v.ownBlock≠row):Ok K e w' B v zs:=⟨h.1,h.2.1,h.2.2.kept Y F⟩
theorem x5T{K:IntKind}{e:TypeId}{w:World}{B:Nat}{v:Value}{zs:List Int}(h:Ok K e w B v zs)(o:Obj):Ok K e (w.alloc o) B v zs:=⟨h.1,h.2.1,h.2.2.alloc o⟩
theorem x0s(w:World)(o:Obj):(w.alloc o).heap.size=w.heap.size+1:=f0h
theorem Rm.step{H B b:Nat}{U:World}{k:Nat}{m:Pu.St}{v:Value}{wr G w2:World}{d:Int}{e:Ending}(h:Rm H B b U (k-1) m v wr)(M:1<=k)
  (hd:0<=d/\d<=2147483647) (y:Utf.okc (Pu.stepN m d)) (L:StAt G b ((m.xs.length:Int)+1) (Pu.stepN m d) (Pu.stepP m d+1) (Pu.adapt d ((m.xs.length:Int)+1) m.first) false) (Y:wr.grownBy G (some b)) (I:G.heap.size=wr.heap.size)
  (hi:x3F B v (G.alloc (.cells #[.int .i32 (Pu.stepN m d)] 21)) (Pu.ins m.xs (Pu.stepP m d).toNat (Pu.stepN m d)) e w2):∃v',e=.returned v'/\Rm H B b U k (Pu.step m d) v' w2:=by
 obtain⟨v',rfl,A,C,s⟩:=hi;have F:(Pu.step m d).xs.length=m.xs.length+1:=x2v _ _ _;have J:0<=Pu.stepP m d:=Int.emod_nonneg _ f6J;have K:Pu.stepP m d<(m.xs.length:Int)+1:=Int.emod_lt_of_pos _ f6J;have X:=x0s G (.cells #[.int .i32 (Pu.stepN m d)] 21);have E:∀g,v.ownBlock=some g->B<=g/\g<wr.heap.size:=fun g t=>h.row.row.lt g t;refine⟨v',rfl,⟨A,?_,?_,h.hB,?_,?_,?_,?_,?_,?_⟩⟩
 ·rw[F];show StAt w2 b ((m.xs.length+1:Nat):Int) (Pu.stepN m d) (Pu.stepP m d+1) (Pu.adapt d ((m.xs.length:Int)+1) m.first) false;rw[(f6J:((m.xs.length+1:Nat):Int)=(m.xs.length:Int)+1)];unfold StAt at L ⊢;rw[C.block b (by have:=h.lt;exact f6J) (fun t=>h.ne t.symm),heap_alloc_old _ _ (by have:=h.lt;exact f6J)];exact L
 ·have D:=h.bel.grown Y s5e (fun g t=>by simp at t;have:=h.hB;exact f6J);have Z:=D.alloc s5e (.cells #[.int .i32 (Pu.stepN m d)] 21);exact Z.grown C s5e (fun g t=>(E g t).1)
 ·have:=C.size;have:=h.lt;omega
 ·intro t;rcases s b t with h3 | h3
  ·exact h.ne h3
  ·have:=h.lt;omega
 ·rw[F];have:=h.len;omega
 ·show 0<=Pu.stepN m d/\Pu.stepN m d<=1114111;rcases y with h3 | h3<;>omega
 ·rw[F];show 0<=Pu.stepP m d+1/\Pu.stepP m d+1<=((m.xs.length+1:Nat):Int);omega
 ·exact Pu.x2Q d _ m.first f6J
theorem Rm.ins{H B b:Nat}{U:World}{k:Nat}{m:Pu.St}{v:Value}{wr G:World}{d:Int}(h:Rm H B b U (k-1) m v wr)(C:H+k<=1000000)(y:Utf.okc (Pu.stepN m d))(Y:wr.grownBy G (some b))(I:G.heap.size=wr.heap.size)(p:Nat)(A:Pu.stepP m d=p) :
  Calls prog 203 #[v,.int .i64 p,.slice (some ⟨G.heap.size,0,none⟩) 1 1] (G.alloc (.cells #[.int .i32 (Pu.stepN m d)] 21)) (x3F B v (G.alloc (.cells #[.int .i32 (Pu.stepN m d)] 21)) (Pu.ins m.xs (Pu.stepP m d).toNat (Pu.stepN m d))):=by
 have D:Pu.stepP m d<(m.xs.length:Int)+1:=Int.emod_lt_of_pos _ f6J;have X:=x0s G (.cells #[.int .i32 (Pu.stepN m d)] 21);have S:=h.len;have:=h.lt;have:=h.hB;rw[(f6J:(Pu.stepP m d).toNat=p)];refine y4U B v m.xs p (Pu.stepN m d) _ G.heap.size (x5T (x3p h.row Y (.inr h.ne)) _) f6J f6J f6J (heap_alloc_new G _) (fun t=>?_) (by rcases y with h3 | h3<;>omega);have:=(h.row.row.lt _ t).2;omega
def pmes(N l:Nat)(a:Act):Nat:=2*(N-(intOf (a.tmps.getD 6 undef)).toNat)+(if l=2 then 1 else 0)
theorem x4Q{N l n k k2:Nat}{a J:Act}(h:a.tmps.getD 6 undef=.int .i64 (k:Int))(Z:J.tmps.getD 6 undef=.int .i64 (k2:Int))(U:2*(N-k2)+(if n=2 then 1 else 0)<2*(N-k)+(if l=2 then 1 else 0)):pmes N n J<pmes N l a:=by
 unfold pmes;rw[h,Z];exact U
theorem x7k{d wt:Int}(T:0<=d/\d<=35)(D:1<=wt/\wt<=2147483648):0<=d*wt/\d*wt<=75161927680:=by
 refine⟨Int.mul_nonneg T.1 f6J,?_⟩
 calc d*wt<=35*wt:=Int.mul_le_mul_of_nonneg_right T.2 f6J
  _<=75161927680:=f6J
theorem y2L{t wt:Int}(T:1<=t/\t<=26)(D:1<=wt/\wt<=2147483648):1<=wt*(36-t)/\wt*(36-t)<=75161927680:=by
 constructor
 ·calc 1<=wt:=D.1
   _=wt*1:=f6J
   _<=wt*(36-t):=Int.mul_le_mul_of_nonneg_left f6J f6J
 ·calc wt*(36-t)<=wt*35:=Int.mul_le_mul_of_nonneg_left f6J f6J
   _<=75161927680:=f6J
theorem y7l{zs:List Int}{k:Nat}(G:k<zs.length):zs.drop k=zs.getD k 0::zs.drop (k+1):=x0Q G
theorem z8f{c:Int}(h:Utf.okc c):okb c=true:=d0t h
theorem z8g{c:Int}(h:¬Utf.okc c):okb c=false:=d0f h
theorem y9i(B:Nat)(v0:Value)(o:List Int)(s:ByteArray)(w:World)(aG:Ok .i32 21 w B v0 o)(hB:B<=w.heap.size)(hs:o.length+s.size<=100000) :
  Calls prog 154 #[v0,.string s] w (x0W B w (Pu.rdW (nums s) (Pu.begin o))):=by
 have aO:=nums_length s;have J:Pu.rdW (nums s) (Pu.begin o)=Pu.rdW ((nums s).drop 0) (Pu.begin o):=(by rw[List.drop_zero]);generalize Pu.rdW (nums s) (Pu.begin o)=r at *;have az:=O (x0x s);have f:=O (x2m s);obtain⟨L,aS⟩:∃L,nums s=L:=⟨_,rfl⟩;rw[aS]at aO J az f;have ab:=O J;clear J aS;obtain⟨X0,aK⟩:∃X0,X0=o.length:=⟨_,rfl⟩;have D:=O aK;have K:=O aG;obtain⟨ao,aI,aP,bh,bj⟩:=aG.sk.shape;have aU:=O aP
 have aA:Hid (∀k,k<L.length->0<=L.getD k 0/\L.getD k 0<=255):=fun k hk=>by
  rw[List.getD,List.getElem?_eq_getElem hk];exact V az _ (List.getElem_mem hk)
 subst aP;clear aG aK aU az;have R:=O (x9P (o.length:Int) w);go_enter func154,ntmps154;go_wp2;refine x2M (fun l a wr=>∃b,w.heap.size<=b/\Jq X0 B b s L r w l a wr) (fun l a _=>pmes s.size l a) ?hf ?first ?pass
 case hf =>
  rintro l a wr ⟨b,ae,h⟩
  match l,h with
  | 0,_=>rfl
  | 1,_=>rfl
  | 2,_=>rfl
  | (l+3),h=>exact h.elim
 case first =>
  go_wp2_with fail;refine c0m R fun G aj=>?_
  have P:Rm X0 B G.heap.size w 0 (Pu.begin o) (.slice ao o.length aI) (G.alloc (.cells #[.int .i64 (o.length:Int),.int .i64 128,.int .i64 0,.int .i64 72,.bool true] 278)):=by
   have hv:=V K;have hx:=V D;have bp:=aj.size;refine⟨x5T (hv.below aj) _,heap_alloc_new G _,(aj.mono hB).alloc f6J _,f6J,by rw[x0s];exact f6J,fun hh=>?_,by show o.length<=X0+0;exact f6J,by show(0:Int)<=128/\(128:Int)<=1114111;exact f6J,by show(0:Int)<=0/\(0:Int)<=(o.length:Int);exact f6J,by show(0:Int)<=72/\(72:Int)<=468;exact f6J⟩;have:=(hv.row.lt _ hh).2;omega
  have u:r=Pu.rdW (L.drop 0) (Pu.begin o):=V ab;have ae:w.heap.size<=G.heap.size:=aj.size;obtain⟨b,aM⟩:∃b,b=G.heap.size:=⟨_,rfl⟩;obtain⟨wr,aR⟩:∃wr,G.alloc (.cells #[.int .i64 (o.length:Int),.int .i64 128,.int .i64 0,.int .i64 72,.bool true] 278)=wr:=⟨_,rfl⟩;rw[aR]at P;go_wp2;go_step3;rw[<- aM]at P ae ⊢;clear aR aM aj G;obtain⟨m,ay⟩:∃m,Pu.begin o=m:=⟨_,rfl⟩;rw[ay]at P u;clear ay;generalize Value.slice ao o.length aI=v at *;obtain⟨N,E,Q,aD,aH,ne,len,hn,hi,M⟩:=id P;obtain⟨c0,c1,c2,c3,c4,f0,f1,f2,f3,f4⟩:=E.cells;by_cases H:0<L.length
  ·have aL:=V f (0:Int) 0 rfl f6J;have T:=V aA 0 H;have aq:=Pu.y7i (L.getD 0 0);have F:((0:Int)==(s.size:Int))=false:=P8P;have c:=fun W=>O (x3H (L.getD 0 0) W T.1 T.2);have X:=fun W=>O (x2G 1 m.bias W f6J f6J);have ag:=Pu.x1Q 1 m.bias;have HR:=O (u.trans ((Pu.y9t W5O m).trans (by rw[y7l H])));by_cases hd:Pu.dig (L.getD 0 0)<0
   ·have x:=O ((V HR).trans ((congrArg (Pu.after m) (Pu.y2r hd)).trans (Pu.x3X f6J)));have Z:=O Q;clear HR u P N E X ag Q ab K R D;generalize Pu.dig (L.getD 0 0)=d at *;generalize L.getD 0 0=z at *;go_wp2;go_step3;exact s8A
   ·have aN:=x7k (d:=Pu.dig (L.getD 0 0)) (wt:=1) f6J f6J;by_cases ht:Pu.dig (L.getD 0 0)<Pu.thr 1 m.bias
    ·have x:=O ((V HR).trans m3I);have HM:=O P;clear HR u P N E Q ab K R D;generalize hdg:Pu.dig (L.getD 0 0)=d at *;generalize L.getD 0 0=z at *;clear hdg;generalize Pu.thr 1 m.bias=t at *;go_wp2;go_step3;go_wp2_with fail;refine(V (c _)).mono ?_;rintro e G ⟨⟨A,_⟩ | ⟨_,rfl⟩,rfl⟩
     ·omega
     ·clear c;go_wp2_with(go_at_call 201;refine(V (X _)).mono ?_;rintro e G ⟨rfl,rfl⟩;clear X);go_step3;show ∃b,w.heap.size<=b/\Jq X0 B b s L r w 2 _ _;exact⟨b,ae,⟨0+1,m,_,1,0+d*1,1,⟨rfl,rfl,rfl,rfl,rfl,rfl,g2A,rfl,rfl,U4D,rfl⟩,f6J,f6J,(V HM).later f6J,f6J,V x⟩⟩
    ·have x:=O ((V HR).trans w5m);have HM:=O P;have aQ:=y2L (t:=Pu.thr 1 m.bias) (wt:=1) ag f6J;clear HR u P N E Q ab K R D;generalize hdg:Pu.dig (L.getD 0 0)=d at *;generalize L.getD 0 0=z at *;clear hdg;rw[if_neg f6J]at x;generalize Pu.thr 1 m.bias=t at *;go_wp2;go_step3;go_wp2_with fail;refine(V (c _)).mono ?_;rintro e G ⟨⟨A,_⟩ | ⟨_,rfl⟩,rfl⟩
     ·omega
     ·clear c;go_wp2_with(go_at_call 201;refine(V (X _)).mono ?_;rintro e G ⟨rfl,rfl⟩;clear X);go_step3;show ∃b,w.heap.size<=b/\Jq X0 B b s L r w 1 _ _;exact⟨b,ae,⟨0+1,m,_,1+1,0+d*1,1*(36-t),⟨rfl,rfl,rfl,rfl,rfl,rfl,g2A,rfl,U6w,U4D,U4D⟩,f6J,(V HM).later f6J,f6J,f6J,f6J,V x⟩⟩
  ·have aW:0=L.length:=f6J;have x:=O (u.trans ((congrArg (fun q=>Pu.rdW q m) (List.drop_eq_nil_of_le f6J)).trans (Pu.y9s m)));have am:=O N;have Z:=O Q;have F:((0:Int)==(s.size:Int))=true:=P8P;exact f4r
 case pass =>
  rintro l a wr ⟨b,ae,h⟩
  match l,h with
  | (l+3),h=>exact h.elim
  | 0,h =>
   obtain⟨k,m,v,hF,aF,P,u⟩:=h;obtain⟨U,rfl⟩:=hF.open;clear hF
   conv=>arg 2;whnf
   obtain⟨N,E,Q,aD,aH,ne,len,hn,hi,M⟩:=id P;obtain⟨c0,c1,c2,c3,c4,f0,f1,f2,f3,f4⟩:=E.cells;by_cases H:k<L.length
   ·have aL:=V f (k:Int) k rfl f6J;have T:=V aA k H;have aq:=Pu.y7i (L.getD k 0);have F:((k:Int)==(s.size:Int))=false:=P8P;have c:=fun W=>O (x3H (L.getD k 0) W T.1 T.2);have X:=fun W=>O (x2G 1 m.bias W f6J f6J);have ag:=Pu.x1Q 1 m.bias;have HR:=O (u.trans ((Pu.y9t W5O m).trans (by rw[y7l H])));by_cases hd:Pu.dig (L.getD k 0)<0
    ·have x:=O ((V HR).trans ((congrArg (Pu.after m) (Pu.y2r hd)).trans (Pu.x3X f6J)));have Z:=O Q;clear HR u P N E X ag Q ab K R D;generalize Pu.dig (L.getD k 0)=d at *;generalize L.getD k 0=z at *;go_wp2;go_step3;exact s8A
    ·have aN:=x7k (d:=Pu.dig (L.getD k 0)) (wt:=1) f6J f6J;by_cases ht:Pu.dig (L.getD k 0)<Pu.thr 1 m.bias
     ·have x:=O ((V HR).trans m3I);have HM:=O P;clear HR u P N E Q ab K R D;generalize hdg:Pu.dig (L.getD k 0)=d at *;generalize L.getD k 0=z at *;clear hdg;generalize Pu.thr 1 m.bias=t at *;go_wp2;go_step3;go_wp2_with fail;refine(V (c _)).mono ?_;rintro e G ⟨⟨A,_⟩ | ⟨_,rfl⟩,rfl⟩
      ·omega
      ·clear c;go_wp2_with(go_at_call 201;refine(V (X _)).mono ?_;rintro e G ⟨rfl,rfl⟩;clear X);go_step3;show(∃b,w.heap.size<=b/\Jq X0 B b s L r w 2 _ _)/\_;exact⟨⟨b,ae,⟨k+1,m,_,1,0+d*1,1,⟨rfl,rfl,rfl,rfl,rfl,rfl,g2A,rfl,rfl,U4D,rfl⟩,f6J,f6J,(V HM).later f6J,f6J,V x⟩⟩,x4Q (k:=k) (k2:=k+1) rfl g2A V9D⟩
     ·have x:=O ((V HR).trans w5m);have HM:=O P;have aQ:=y2L (t:=Pu.thr 1 m.bias) (wt:=1) ag f6J;clear HR u P N E Q ab K R D;generalize hdg:Pu.dig (L.getD k 0)=d at *;generalize L.getD k 0=z at *;clear hdg;rw[if_neg f6J]at x;generalize Pu.thr 1 m.bias=t at *;go_wp2;go_step3;go_wp2_with fail;refine(V (c _)).mono ?_;rintro e G ⟨⟨A,_⟩ | ⟨_,rfl⟩,rfl⟩
      ·omega
      ·clear c;go_wp2_with(go_at_call 201;refine(V (X _)).mono ?_;rintro e G ⟨rfl,rfl⟩;clear X);go_step3;show(∃b,w.heap.size<=b/\Jq X0 B b s L r w 1 _ _)/\_;exact⟨⟨b,ae,⟨k+1,m,_,1+1,0+d*1,1*(36-t),⟨rfl,rfl,rfl,rfl,rfl,rfl,g2A,rfl,U6w,U4D,U4D⟩,f6J,(V HM).later f6J,f6J,f6J,f6J,V x⟩⟩,x4Q (k:=k) (k2:=k+1) rfl g2A V9D⟩
   ·have aW:k=L.length:=f6J;have x:=O (u.trans ((congrArg (fun q=>Pu.rdW q m) (List.drop_eq_nil_of_le f6J)).trans (Pu.y9s m)));have am:=O N;have Z:=O Q;have F:((k:Int)==(s.size:Int))=true:=P8P;exact f4r
  | 1,h =>
   obtain⟨k,m,v,Y,vl,wt,hF,aF,P,bm,ba,bt,u⟩:=h;obtain⟨U,rfl⟩:=hF.open;clear hF
   conv=>arg 2;whnf
   obtain⟨N,E,Q,aD,aH,ne,len,hn,hi,M⟩:=id P;obtain⟨c0,c1,c2,c3,c4,f0,f1,f2,f3,f4⟩:=E.cells;by_cases H:k<L.length
   ·have aL:=V f (k:Int) k rfl f6J;have T:=V aA k H;have aq:=Pu.y7i (L.getD k 0);have F:((k:Int)==(s.size:Int))=false:=P8P;have c:=fun W=>O (x3H (L.getD k 0) W T.1 T.2);have X:=fun W=>O (x2G Y m.bias W f6J f6J);have ag:=Pu.x1Q Y m.bias;have HR:=O (u.trans (by rw[y7l H]));by_cases hd:Pu.dig (L.getD k 0)<0
    ·have x:=O ((V HR).trans ((congrArg (Pu.after m) (Pu.y2r hd)).trans (Pu.x3X f6J)));have Z:=O Q;clear HR u P N E X ag Q ab K R D;generalize Pu.dig (L.getD k 0)=d at *;generalize L.getD k 0=z at *;exact s8A
    ·have aN:=x7k (d:=Pu.dig (L.getD k 0)) (wt:=wt) f6J f6J;by_cases ht:Pu.dig (L.getD k 0)<Pu.thr Y m.bias
     ·have x:=O ((V HR).trans m3I);have HM:=O P;clear HR u P N E Q ab K R D;generalize hdg:Pu.dig (L.getD k 0)=d at *;generalize L.getD k 0=z at *;clear hdg;generalize Pu.thr Y m.bias=t at *;go_wp2_with fail;refine(V (c _)).mono ?_;rintro e G ⟨⟨A,_⟩ | ⟨_,rfl⟩,rfl⟩
      ·omega
      ·clear c;go_wp2_with(go_at_call 201;refine(V (X _)).mono ?_;rintro e G ⟨rfl,rfl⟩;clear X);go_step3;show(∃b,w.heap.size<=b/\Jq X0 B b s L r w 2 _ _)/\_;exact⟨⟨b,ae,⟨k+1,m,_,Y,vl+d*wt,wt,⟨rfl,rfl,rfl,rfl,rfl,rfl,g2A,rfl,rfl,U4D,rfl⟩,f6J,f6J,(V HM).later f6J,f6J,V x⟩⟩,x4Q (k:=k) (k2:=k+1) rfl g2A V9D⟩
     ·have x:=O ((V HR).trans w5m);have HM:=O P;have aQ:=y2L (t:=Pu.thr Y m.bias) (wt:=wt) ag f6J;clear HR u P N E Q ab K R D;generalize hdg:Pu.dig (L.getD k 0)=d at *;generalize L.getD k 0=z at *;clear hdg;by_cases aw:2147483648<wt*(36-Pu.thr Y m.bias)
      ·rw[if_pos aw]at x;generalize Pu.thr Y m.bias=t at *;go_wp2_with fail;refine(V (c _)).mono ?_;rintro e G ⟨⟨A,_⟩ | ⟨_,rfl⟩,rfl⟩
       ·omega
       ·clear c;go_wp2_with(go_at_call 201;refine(V (X _)).mono ?_;rintro e G ⟨rfl,rfl⟩;clear X);go_step3;show(∃b,w.heap.size<=b/\Jq X0 B b s L r w 1 _ _)/\_;exact⟨⟨b,ae,⟨k+1,m,_,Y+1,vl+d*wt,2147483648,⟨rfl,rfl,rfl,rfl,rfl,rfl,g2A,rfl,U6w,U4D,U4D⟩,f6J,(V HM).later f6J,f6J,f6J,f6J,V x⟩⟩,x4Q (k:=k) (k2:=k+1) rfl g2A V9D⟩
      ·rw[if_neg aw]at x;generalize Pu.thr Y m.bias=t at *;go_wp2_with fail;refine(V (c _)).mono ?_;rintro e G ⟨⟨A,_⟩ | ⟨_,rfl⟩,rfl⟩
       ·omega
       ·clear c;go_wp2_with(go_at_call 201;refine(V (X _)).mono ?_;rintro e G ⟨rfl,rfl⟩;clear X);go_step3;show(∃b,w.heap.size<=b/\Jq X0 B b s L r w 1 _ _)/\_;exact⟨⟨b,ae,⟨k+1,m,_,Y+1,vl+d*wt,wt*(36-t),⟨rfl,rfl,rfl,rfl,rfl,rfl,g2A,rfl,U6w,U4D,U4D⟩,f6J,(V HM).later f6J,f6J,f6J,f6J,V x⟩⟩,x4Q (k:=k) (k2:=k+1) rfl g2A V9D⟩
   ·have x:=O (u.trans ((congrArg (Pu.after m) ((congrArg (fun q=>Pu.rdN m.bias q Y vl wt) (List.drop_eq_nil_of_le f6J)).trans (Pu.z5R _ _ _ _))).trans (Pu.x3X f6J)));have Z:=O Q;have F:((k:Int)==(s.size:Int))=true:=P8P;clear u P N E Q ab K R D;exact g4C
  | 2,h =>
   obtain⟨k,m,v,Y,vl,wt,hF,aF,aV,P,ba,u⟩:=h;obtain⟨U,rfl⟩:=hF.open;clear hF
   conv=>arg 2;whnf
   obtain⟨N,E,Q,aD,aH,ne,len,hn,hi,M⟩:=id P;have bu:=V D;by_cases af:2147483647<vl
   ·have x:=O (u.trans (Pu.y4b af));have Z:=O Q;clear u P N E Q ab K R D;exact g4C
   ·have HS:=O (x9E b m.xs.length m.n m.i m.bias vl m.first wr E f6J f6J f6J f6J);have hN:Pu.stepN m vl=m.n+(m.i+vl) / (m.xs.length+1):=rfl;have hP:Pu.stepP m vl=(m.i+vl)%(m.xs.length+1):=rfl;rw[<- hN,<- hP]at HS;have aX:0<=(m.i+vl) / ((m.xs.length:Int)+1):=Int.ediv_nonneg f6J f6J;have aY:(m.i+vl) / ((m.xs.length:Int)+1)<=m.i+vl:=Int.ediv_le_self _ f6J;have J:0<=(m.i+vl)%((m.xs.length:Int)+1):=Int.emod_nonneg _ f6J;have aZ:(m.i+vl)%((m.xs.length:Int)+1)<(m.xs.length:Int)+1:=Int.emod_lt_of_pos _ f6J;have aO:0<=Pu.stepN m vl/\Pu.stepN m vl<=9000000000:=(by rw[hN];exact f6J);have bn:0<=Pu.stepP m vl/\Pu.stepP m vl<=m.xs.length:=(by rw[hP];exact f6J);clear hN hP aX aY J aZ;by_cases be:1114111<Pu.stepN m vl
    ·have x:=O (u.trans (Pu.x9M af (by unfold Utf.okc;exact f6J)));have Z:=O Q;have am:=O N;clear u P N E Q ab K R D;generalize Pu.stepN m vl=nn,Pu.stepP m vl=pp,Pu.adapt vl ((m.xs.length:Int)+1) m.first=ad at *;go_wp2_with fail;refine(V HS).mono ?_;rintro e G ⟨rfl,ai,C,I⟩;clear HS;have S:=O ((V Z).grown C f6J (fun g hg=>by simp at hg;exact f6J));clear ai C I Z;go_wp2;go_ret2;exact x0W.no (V x) f6J (V S)
    ·have j:=fun W=>O (x8r (Pu.stepN m vl) W f6J);by_cases y:Utf.okc (Pu.stepN m vl)
     ·rw[z8f y]at j;have x:=O (u.trans (Pu.z0G af y));obtain⟨p,hp⟩:∃p:Nat,Pu.stepP m vl=p:=⟨(Pu.stepP m vl).toNat,f6J⟩
      have aC:Hid (∀G e w2,StAt G b ((m.xs.length:Int)+1) (Pu.stepN m vl) (Pu.stepP m vl+1) (Pu.adapt vl ((m.xs.length:Int)+1) m.first) false->wr.grownBy G (some b)->G.heap.size=wr.heap.size ->
        x3F B v (G.alloc (.cells #[.int .i32 (Pu.stepN m vl)] 21)) (Pu.ins m.xs (Pu.stepP m vl).toNat (Pu.stepN m vl)) e w2->∃v',e=.returned v'/\Rm X0 B b w k (Pu.step m vl) v' w2) :=
       fun G e w2 h1 h2 h3 h4=>P.step aV f6J y h1 h2 h3 h4
      have aB:Hid (∀G,wr.grownBy G (some b)->G.heap.size=wr.heap.size->Calls prog 203 #[v,.int .i64 p,.slice (some ⟨G.heap.size,0,none⟩) 1 1] (G.alloc (.cells #[.int .i32 (Pu.stepN m vl)] 21)) (x3F B v (G.alloc (.cells #[.int .i32 (Pu.stepN m vl)] 21)) (Pu.ins m.xs (Pu.stepP m vl).toNat (Pu.stepN m vl)))) :=
       fun G h1 h2=>P.ins f6J y h1 h2 p hp
      clear u P N E Q ab K R D y len;rw[hp]at HS aC aB;generalize Pu.ins m.xs ((p:Int)).toNat (Pu.stepN m vl)=ys at *;clear hp;generalize Pu.stepN m vl=nn,Pu.adapt vl ((m.xs.length:Int)+1) m.first=ad at *;go_wp2_with fail;refine(V HS).mono ?_;rintro e G ⟨rfl,ai,C,I⟩;clear HS;have HI:=O (V aB G C I);have HQ:=O (fun e w2=>V aC G e w2 ai C I);clear ai C I aB aC;go_wp2_with(go_at_call 60;refine(V (j _)).mono ?_;rintro e wx ⟨rfl,rfl⟩;clear j);refine(V HI).mono ?_;intro e w2 ar;obtain⟨v',rfl,aJ⟩:=V HQ e w2 ar;have aT:=O aJ;clear ar aJ HI HQ;go_wp2;go_step3;show(∃b,w.heap.size<=b/\Jq X0 B b s L r w 0 _ _)/\_;exact⟨⟨b,ae,k,_,v',⟨rfl,rfl,rfl,rfl,rfl,rfl,rfl,rfl⟩,aF,V aT,V x⟩,x4Q (k:=k) (k2:=k) rfl rfl (by simp)⟩
     ·have x:=O (u.trans (Pu.x9M af y));rw[z8g y]at j;have Z:=O Q;clear u P N E Q ab K R D y;generalize Pu.stepN m vl=nn,Pu.stepP m vl=pp,Pu.adapt vl ((m.xs.length:Int)+1) m.first=ad at *;go_wp2_with fail;refine(V HS).mono ?_;rintro e G ⟨rfl,ai,C,I⟩;clear HS;have S:=O ((V Z).grown C f6J (fun g hg=>by simp at hg;exact f6J));clear ai C I Z;go_wp2_with(go_at_call 60;refine(V (j _)).mono ?_;rintro e wx ⟨rfl,rfl⟩;clear j);go_ret2;exact x0W.no (V x) f6J (V S)
theorem x4q(s:ByteArray)(h:∀j,j<s.size->(s.get! j).toNat<128):∀(f i:Nat) (acc:Array Value),s.size<=i+f->i<=s.size ->
  (Conv.runesFrom s f i acc).toList=acc.toList++(((nums s).drop i).map (Value.int .i32))
 | 0,i,acc,h1,h2=>by
  rw[Conv.runesFrom,List.drop_eq_nil_of_le (by rw[nums_length];exact f6J)];simp
 | f+1,i,acc,h1,h2=>by
  rw[Conv.runesFrom];by_cases hi:i<s.size
  ·rw[if_pos hi]
   have hd:Utf8.decode s i=((s.get! i).toNat,1):=by
    unfold Utf8.decode;simp[h i hi]
   rw[hd];simp only;rw[x4q s h f (i+1) _ f6J f6J];rw[x0Q (xs:=nums s) (k:=i) (by rw[nums_length];exact hi)];have:=x4N s i hi;simp only[Array.toList_push,List.map_cons,List.append_assoc,List.cons_append,List.nil_append];rw[<- this];have Y:s.get! i=s[i]'hi:=(by simp[ByteArray.get!,ByteArray.getElem_eq_getElem_data,hi]);rw[Y];rfl
  ·rw[if_neg hi,List.drop_eq_nil_of_le (by rw[nums_length];exact f6J)];simp
theorem y9J(s:ByteArray)(w:World):(convert 9 40 (.string s)).run prog w =
  .ok (.slice (some ⟨w.heap.size,0,none⟩) (Conv.runesFrom s s.size 0 #[]).size (grownCap w (Conv.runesFrom s s.size 0 #[]).size 0 21))
   (w.drew.alloc (.cells (Conv.runesFrom s s.size 0 #[]++Array.replicate (grownCap w (Conv.runesFrom s s.size 0 #[]).size 0 21-(Conv.runesFrom s s.size 0 #[]).size) (.int .i32 0)) 21)):=by
 simp[convert,run_underlying underlying9,run_underlying underlying40,run_underlying underlying21,Conv.stringToRunes,newRow,grownCap,Question.forced]
theorem x7V{zs:List Int}(h:∀j,j<zs.length->zs.getD j 0≠45)(k a:Nat):Pu.x4K zs k a=a:=by
 induction zs generalizing k a with
 | nil=>rfl
 | cons z r ih =>
  rw[Pu.x4K,if_neg (by simpa using h 0 M7N)];exact ih (fun j K=>by have:=h (j+1) P8P;exact W2O) (k+1) a
theorem z1J{zs:List Int}{i:Nat}(hi:i<zs.length)(A:zs.getD i 0=45)(S:∀j,i<j->j<zs.length->zs.getD j 0≠45)(k a:Nat):Pu.x4K zs k a=k+i:=by
 induction zs generalizing i k a with
 | nil=>exact v5L
 | cons z r ih =>
  rw[Pu.x4K]
  cases i with
  | zero =>
   rw[if_pos (by simpa using A)];exact x7V (fun j K=>S2m) _ _
  | succ i =>
   rw[ih (i:=i) w3A (by simpa using A) (fun j D Z=>S2m)];omega
def x3j(w:World)(zs:List Int)(e:Ending)(w':World):Prop :=
 ((e=.returned (.int .i64 (-1))/\Pu.x4K zs 0 0=0)\/∃i:Nat,i<zs.length/\e=.returned (.int .i64 i)/\Pu.x4K zs 0 0=i)/\w'=w
theorem x8X(s:ByteArray)(w:World)(X:s.size<=1000000000):Calls prog 250 #[.string s,.int .u8 45] w (x3j w (nums s)):=by
 have E:=nums_length s;have f:=O (x2m s)
 have J:Hid (∀k,k<(nums s).length->0<=(nums s).getD k 0/\(nums s).getD k 0<=255):=fun k G=>by
  rw[List.getD,List.getElem?_eq_getElem G];exact x0x s _ (List.getElem_mem G)
 generalize nums s=L at *;go_enter func250,ntmps250;go_wp2;go_loop [5,9,10,11,12,13,14,15,16,17,18] (fun i _ _ _ _ _ _ _ _ _ _=>∃k:Nat,i=.int .i64 ((k:Int)-1)/\k<=L.length/\∀j,k<=j->j<L.length->L.getD j 0≠45) (fun i _ _ _ _ _ _ _ _ _ _=>(intOf i+1).toNat)
 case atStart=>exact⟨L.length,by rw[E],f6J,fun j D Z=>f6J⟩
 case round =>
  obtain⟨k,rfl,G,F⟩:=hrel;have m:=O F
  cases k with
  | zero =>
   have x:Hid (x3j w L (.returned (.int .i64 (-1))) w):=⟨.inl ⟨rfl,x7V (fun j K=>V m j f6J K) _ _⟩,rfl⟩;go_wp2;go_ret;exact V x
  | succ k =>
   have q:=V f (k:Int) k rfl f6J;have T:=V J k f6J;have N:((k+1:Nat):Int)-1=(k:Int):=f6J;rw[N];by_cases o:L.getD k 0=45
   ·have x:Hid (x3j w L (.returned (.int .i64 (k:Int))) w):=⟨.inr ⟨k,f6J,rfl,by rw[z1J (i:=k) f6J o (fun j D Z=>V m j f6J Z)];exact f6J⟩,rfl⟩;rw[o]at q;go_wp2;go_ret;exact V x
   ·have B:Hid (∀j,k<=j->j<L.length->L.getD j 0≠45):=fun j D Z=>by
     rcases Nat.eq_or_lt_of_le D with h3 | h3
     ·rw[<- h3];exact o
     ·exact V m j f6J Z
    have C:(L.getD k 0==45)=false:=f2p;generalize L.getD k 0=z at *;go_wp2;go_round
    case rel=>exact⟨k,U6t,f6J,V B⟩
    case measure=>simp[intOf]
theorem y0t(s:ByteArray)(w:World)(X:s.size<=1000000000):Calls prog 198 #[.string s,.int .u8 45] w (x3j w (nums s)):=by
 have H:=O (x8X s w X);generalize nums s=L at *;go_enter func198,ntmps198;go_wp2_with fail;refine(V H).mono ?_;rintro e w ⟨⟨rfl,u⟩ | ⟨i,hi,rfl,u⟩,rfl⟩
 ·have x:Hid (x3j w L (.returned (.int .i64 (-1))) w):=⟨.inl ⟨rfl,u⟩,rfl⟩;go_wp2;go_ret;exact V x
 ·have x:Hid (x3j w L (.returned (.int .i64 (i:Int))) w):=⟨.inr ⟨i,hi,rfl,u⟩,rfl⟩;go_wp2;go_ret;exact V x
def x8t(w:World)(zs:List Int)(e:Ending)(w':World):Prop :=
 ∃a b:ByteArray,e=.returned (.tuple #[.string a,.string b])/\nums a=zs.take (Pu.x4K zs 0 0)/\nums b=Pu.tail zs/\Below w.heap.size w w'
theorem x9n(s:ByteArray)(p q:Nat):nums (s.extract p q)=((nums s).drop p).take (q-p):=by
 unfold nums;rw[ByteArray.data_extract,Array.toList_extract,List.map_drop.symm,List.map_take.symm]
theorem z4t(s:ByteArray)(w:World)(X:s.size<=1000000000):Calls prog 153 #[.string s] w (x8t w (nums s)):=by
 have H:=O (y0t s w X);have E:=nums_length s;obtain⟨L,k⟩:∃L,nums s=L:=⟨_,rfl⟩;have n:=O k;rw[k]at E H;rw[k];go_enter func153,ntmps153;go_wp2_with fail;refine(V H).mono ?_;rintro e w ⟨⟨rfl,u⟩ | ⟨i,hi,rfl,u⟩,rfl⟩
 ·exact v3h
 ·by_cases T:i=0
  ·subst T;exact v3h
  ·have x:Hid (∀R,Bw w R->x8t w L (.returned (.tuple #[.string (s.extract 0 i),.string (s.extract (i+1) s.size)])) R):=fun R C =>
    ⟨_,_,rfl,by rw[u,y0E,V n],by unfold Pu.tail;rw[if_neg f6J,u,x9n,V n,List.take_of_length_le F0o],C⟩
   go_wp2;go_region;go_wp2;go_ret2;exact V x w.drew ((b0r).drew)
theorem y4g{s:ByteArray}(h:Pu.basicB (nums s)=true):∀j,j<s.size->(s.get! j).toNat<128:=by
 intro j K;have S:=nums_length s;have D:=x4N s j K
 have Z:(nums s).getD j 0<128:=by
  have R:=List.all_eq_true.1 h ((nums s)[j]'f6J) (List.getElem_mem _);rw[List.getD,List.getElem?_eq_getElem f6J];exact s4Q
 have Y:s.get! j=s[j]'K:=(by simp[ByteArray.get!,ByteArray.getElem_eq_getElem_data,K]);rw[Y];omega
theorem y1A{zs:List Int}(h:Pu.basicB zs=true)(n:Nat):Pu.basicB (zs.take n)=true:=by
 unfold Pu.basicB at h ⊢;rw[List.all_eq_true]at h ⊢;exact fun z o=>h z (List.mem_of_mem_take o)
theorem y9K(s:ByteArray)(w:World)(h:Pu.basicB (nums s)=true)(S:s.size<=1000000):∃v w',(convert 9 40 (.string s)).run prog w=.ok v w'/\Ok .i32 21 w' w.heap.size v (nums s)/\Bw w w':=by
 refine⟨_,_,y9J s w,?_,((b0r).drew).alloc (l0r _) _⟩;have X:=x4q s (y4g h) s.size 0 #[] f6J f6J;rw[List.drop_zero]at X;simp only[List.nil_append]at X
 have F:(Conv.runesFrom s s.size 0 #[]).size=(nums s).length:=by
  have:=congrArg List.length X;exact W2O
 have E:=nums_length s;generalize Conv.runesFrom s s.size 0 #[]=A at *;have m:=grownCap_ge w A.size 0 21;have J:=grownCap_le_maxLen w A.size 0 21 T7X;generalize grownCap w A.size 0 21=G at *;refine Ok.of (n:=A.size) (us:=(nums s).map (Value.int .i32)) ?_ f6J ⟨by simp[F],.inr ⟨w.heap.size,G,_,rfl,l0r _,heap_alloc_new w.drew _,m,J,P8P,?_⟩⟩ F rfl
 ·intro z o;have:=x0x s z o;exact x0T f6J
 ·grind
theorem y4E(s:ByteArray)(w:World)(X:s.size<=1000000000):Calls prog 105 #[.string s] w (x0W w.heap.size w (Pu.decode (nums s))):=by
 have E:=nums_length s;have K:=Pu.y7h (nums s);by_cases W:65536<s.size
 ·have x:=O (K.trans (if_pos f6J));go_enter func105,ntmps105;go_wp2;go_ret2;exact x0W.no (V x) f6J (b0r)
 ·rw[if_neg f6J]at K;have J:=O (y2c s w X)
  cases C:Pu.basicB (nums s)with
  | false =>
   rw[if_pos C]at K;rw[C]at J;have x:=O K;go_enter func105,ntmps105;go_wp2_with fail;refine(V J).mono ?_;rintro e G ⟨rfl,rfl⟩;go_wp2;go_ret2;exact x0W.no (V x) f6J (b0r)
  | true =>
   rw[if_neg (by rw[C];exact M7L)]at K;rw[C]at J;have x:=O K;have B:=O C;have Y:=O (z4t s w X);generalize Pu.decode (nums s)=r at *;go_enter func105,ntmps105;go_wp2_with fail;refine(V J).mono ?_;rintro e G ⟨rfl,rfl⟩;go_wp2_with fail;refine(V Y).mono ?_;rintro e Q ⟨P,M,rfl,L,C,A⟩;have U:P.size<=s.size:=by rw[<- nums_length P,L,List.length_take];exact f6J
   have a:M.size<=s.size:=by
    rw[<- nums_length M,C];unfold Pu.tail;split
    ·omega
    ·rw[List.length_drop];omega
   obtain⟨v,c,H,y,F⟩:=y9K P Q (by rw[L];exact y1A (V B) _) f6J
   have d:(nums P).length+M.size<=65536:=by
    rw[<- nums_length M,L,C,List.length_take];unfold Pu.tail;split
    ·rename_i h0;rw[h0];omega
    ·rw[List.length_drop];omega
   have N:=A.size;have g:=O (y9i G.heap.size v (nums P) M c (y.lower N) (by have:=F.size;exact f6J) f6J);rw[L,C,<- V x]at g;have I:=O (x0b A F);go_wp2_with fail;refine(V g).mono ?_;rintro e u (⟨z,rfl,D,Z,R⟩ | ⟨D,Z,rfl,R⟩)
   ·have T:Hid (x0W G.heap.size G r (.returned (.tuple #[z,.int .i64 0])) u):=x0W.yes D Z ((V I).trans R);exact u3O
   ·have T:Hid (x0W G.heap.size G r (.returned (.tuple #[.slice none 0 0,.int .i64 r.2])) u):=.inr ⟨D,Z,rfl,(V I).trans R⟩;generalize r.2=S at *;exact u3O
