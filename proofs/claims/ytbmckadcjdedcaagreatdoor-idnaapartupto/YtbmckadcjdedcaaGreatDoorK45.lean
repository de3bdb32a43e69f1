/- Lemmas. -/
import Derived.ScopeJumps
import Derived.WalkMore
import Derived.Test.YtbmckadcjdedcaaGreatDoorK43
import Derived.Test.YtbmckadcjdedcaaGreatDoorK44
import Derived.Deep.DeepCutAuto
set_option maxHeartbeats 20000000
set_option maxRecDepth 40000
namespace Go.Proofs.YtbmckadcjdedcaaGreatDoor
open Go.Proofs.Tryz
section
variable{p:Prop}
theorem t9s(h:p:=by obtain⟨l⟩:=t;have S:l.length=79:=(by simpa using D);apply congrArg Array.mk;have e:=y0R l 79 S;rw[show(List.range 79).map (fun i=>l.getD i undef)=[l.getD 0 undef,l.getD 1 undef,l.getD 2 undef,l.getD 3 undef,l.getD 4 undef,l.getD 5 undef,l.getD 6 undef,l.getD 7 undef,l.getD 8 undef,l.getD 9 undef,l.getD 10 undef,l.getD 11 undef,l.getD 12 undef,l.getD 13 undef,l.getD 14 undef,l.getD 15 undef,l.getD 16 undef,l.getD 17 undef,l.getD 18 undef,l.getD 19 undef,l.getD 20 undef,l.getD 21 undef,l.getD 22 undef,l.getD 23 undef,l.getD 24 undef,l.getD 25 undef,l.getD 26 undef,l.getD 27 undef,l.getD 28 undef,l.getD 29 undef,l.getD 30 undef,l.getD 31 undef,l.getD 32 undef,l.getD 33 undef,l.getD 34 undef,l.getD 35 undef,l.getD 36 undef,l.getD 37 undef,l.getD 38 undef,l.getD 39 undef,l.getD 40 undef,l.getD 41 undef,l.getD 42 undef,l.getD 43 undef,l.getD 44 undef,l.getD 45 undef,l.getD 46 undef,l.getD 47 undef,l.getD 48 undef,l.getD 49 undef,l.getD 50 undef,l.getD 51 undef,l.getD 52 undef,l.getD 53 undef,l.getD 54 undef,l.getD 55 undef,l.getD 56 undef,l.getD 57 undef,l.getD 58 undef,l.getD 59 undef,l.getD 60 undef,l.getD 61 undef,l.getD 62 undef,l.getD 63 undef,l.getD 64 undef,l.getD 65 undef,l.getD 66 undef,l.getD 67 undef,l.getD 68 undef,l.getD 69 undef,l.getD 70 undef,l.getD 71 undef,l.getD 72 undef,l.getD 73 undef,l.getD 74 undef,l.getD 75 undef,l.getD 76 undef,l.getD 77 undef,l.getD 78 undef]from rfl]at e;have g:∀i,(Array.mk l).getD i undef=l.getD i undef:=fun i=>m9O;simp only[g];exact e):p:=h
theorem G3z(h:p:=by have x:Hid (∀l,Bw w l->x8y w L (.returned (.tuple #[.string ⟨#[]⟩,.string s])) l):=fun l Q=>⟨⟨#[]⟩,s,rfl,by rw[u];simp[nums],by unfold Pu.tail;rw[if_pos u];exact V n,Q⟩;go_wp2;go_ret2;exact V x w (b0r)):p:=h
theorem m8f(h:p:=by exact⟨_,a₁,w₁,X,.of_steps (.one step_scope) A⟩):p:=h
theorem s5e(h:p:=by have:=h.lt;have:=h.hB;exact f6J):p:=h
theorem R5v(h:p:=by go_wp2;go_ret2;exact V Y):p:=h
theorem m9O(h:p:=by rw[Array.getD_eq_getD_getElem?,List.getD_eq_getElem?_getD];exact M7K):p:=h
theorem U4D(h:p:=by first| rfl | go_num | simp):p:=h
theorem G5W(h:p:=by
 go_wp2_with fail;refine(V (HD _)).mono ?_;rintro e G ⟨⟨_,rfl⟩ | ⟨X,_⟩,rfl⟩
 ·clear HD;exact m5O
 ·omega):p:=h
theorem S2m(h:p:=by have:=S (j+1) f6J P8P;exact W2K):p:=h
theorem U6v(h:p:=by first| rfl | go_num):p:=h
theorem V9D(h:p:=by simp<;>omega):p:=h
theorem m5O(h:p:=by go_wp2;go_ret2;exact x0Y.no (V x) f6J (V R)):p:=h
theorem e6x(h:p:=by clear u J D A C o j Q m;go_wp2;go_ret2;exact x0Y.yes (V x) (V aq) (V R)):p:=h
theorem r9n(h:p:=by rw[y7I H];exact List.cons_ne_nil _ _):p:=h
theorem i9s(h:p:=by rw[Pu.x9w hd ht]):p:=h
theorem V0w(h:p:=by rw[Pu.x9x hd ht]):p:=h
end
def z2g(J:Nat->Act->World->Prop)(Q:Exit->Act->World->Prop):Exit->Act->World->Prop
 | .goto l,a,w=>J l a w
 | e,a,w=>Q e a w
theorem x7p{P a w Q}{c}(rest:Nat->Code)(J:Nat->Act->World->Prop)(m:Nat->Act->World->Nat)(U:∀l a w,J l a w->findLabel c l=some (rest l))
  (first:c.wp P (z2g J Q) a w)
  (F:∀l a w,J l a w->(rest l).wp P (z2g (fun B L w'=>J B L w'/\m B L w'<m l a w) Q) a w):(Code.scope c).wp P Q a w:=by
 intro b k Y
 have S:∀n l a w,m l a w=n->J l a w->∃e L w',Q e L w'/\Arrives P (lone (b.at a (.code (rest l)::.inScope c::k)) Y w) b k Y e L w':=by
  intro n
  induction n using Nat.strongRecOn with
  | _ n ih =>
   intro l a w E r;obtain⟨e,a₁,w₁,X,A⟩:=F l a w r b (.inScope c::k) Y
   cases e with
   | normal=>exact⟨.normal,a₁,w₁,X,Steps.trans A (.one step_inScope)⟩
   | exit id=>exact⟨.exit id,a₁,w₁,X,fun R G=>A R (by simp[exitTo,G])⟩
   | goto B =>
    obtain⟨D,H⟩:=X;have C:gotoIn B (.inScope c::k)=some (.code (rest B)::.inScope c::k):=(by simp[gotoIn,U B _ _ D]);obtain⟨e₂,a₂,w₂,X₂,A₂⟩:=ih _ f6J B a₁ w₁ rfl D;exact⟨e₂,a₂,w₂,X₂,.of_steps (A _ C) A₂⟩
   | ret=>exact⟨_,a₁,w₁,X,A⟩
   | panic ch=>exact⟨_,a₁,w₁,X,A⟩
   | outgrown=>exact⟨_,a₁,w₁,X,A⟩
 obtain⟨e,a₁,w₁,X,A⟩:=first b (.inScope c::k) Y
 cases e with
 | normal=>exact⟨.normal,a₁,w₁,X,.head step_scope (Steps.trans A (.one step_inScope))⟩
 | exit id=>exact⟨.exit id,a₁,w₁,X,fun R G=>.head step_scope (A R (by simp[exitTo,G]))⟩
 | goto B =>
  have j:J B a₁ w₁:=X;have C:gotoIn B (.inScope c::k)=some (.code (rest B)::.inScope c::k):=(by simp[gotoIn,U B _ _ j]);obtain⟨e₂,a₂,w₂,X₂,A₂⟩:=S _ B a₁ w₁ rfl j;exact⟨e₂,a₂,w₂,X₂,.of_steps (.head step_scope (A _ C)) A₂⟩
 | ret=>exact m8f
 | panic ch=>exact m8f
 | outgrown=>exact m8f
theorem x2P{P a w Q}{c}(J:Nat->Act->World->Prop)(m:Nat->Act->World->Nat)(U:∀l a w,J l a w->(findLabel c l).isSome=true)
  (first:c.wp P (z2g J Q) a w)
  (F:∀l a w,J l a w->((findLabel c l).getD .skip).wp P (z2g (fun B L w'=>J B L w'/\m B L w'<m l a w) Q) a w):(Code.scope c).wp P Q a w :=
 x7p (fun l=>(findLabel c l).getD .skip) J m (fun l a w h=>by
  have D:=U l a w h
  cases hq:findLabel c l with
  | none=>rw[hq]at D;cases D
  | some q=>rfl) first F
open Go.RowKit
theorem y0R l n(h:l.length=n):l=(List.range n).map (fun i=>l.getD i undef):=by
 apply List.ext_getElem
 ·simp[h]
 ·grind
def F0(s:ByteArray)(v:Value)(k b:Nat)(a:Act):Prop:=a.defers=[]/\a.tmps.size=79/\a.tmps.getD 0 undef=v/\a.tmps.getD 1 undef=.string s/\a.tmps.getD 4 undef=.slice none 0 0/\a.tmps.getD 5 undef=.int .i64 0/\a.tmps.getD 6 undef=.int .i64 (k:Int)/\a.tmps.getD 15 undef=.pointer (some ⟨b,0,none⟩)
theorem F0.open{s v k b a}(h:F0 s v k b a):∃U:Nat->Value,a=({ tmps:=#[v,.string s,U 2,U 3,.slice none 0 0,.int .i64 0,.int .i64 (k:Int),U 7,U 8,U 9,U 10,U 11,U 12,U 13,U 14,.pointer (some ⟨b,0,none⟩),U 16,U 17,U 18,U 19,U 20,U 21,U 22,U 23,U 24,U 25,U 26,U 27,U 28,U 29,U 30,U 31,U 32,U 33,U 34,U 35,U 36,U 37,U 38,U 39,U 40,U 41,U 42,U 43,U 44,U 45,U 46,U 47,U 48,U 49,U 50,U 51,U 52,U 53,U 54,U 55,U 56,U 57,U 58,U 59,U 60,U 61,U 62,U 63,U 64,U 65,U 66,U 67,U 68,U 69,U 70,U 71,U 72,U 73,U 74,U 75,U 76,U 77,U 78],defers:=[] }:Act):=by
 obtain⟨t,B⟩:=a;obtain⟨Z,D,R,L,X,F,c,A⟩:=h;refine⟨fun i=>t.getD i undef,?_⟩;simp only at Z D R L X F c A;subst Z;congr 1;rw[<- R,<- L,<- X,<- F,<- c,<- A];exact t9s
def F1(s:ByteArray)(v:Value)(k b:Nat)(kk vl wt:Int)(a:Act):Prop:=a.defers=[]/\a.tmps.size=79/\a.tmps.getD 0 undef=v/\a.tmps.getD 1 undef=.string s/\a.tmps.getD 4 undef=.slice none 0 0/\a.tmps.getD 5 undef=.int .i64 0/\a.tmps.getD 6 undef=.int .i64 (k:Int)/\a.tmps.getD 15 undef=.pointer (some ⟨b,0,none⟩)/\a.tmps.getD 8 undef=.int .i64 kk/\a.tmps.getD 10 undef=.int .i64 vl/\a.tmps.getD 11 undef=.int .i64 wt
theorem F1.open{s v k b kk vl wt}{a}(h:F1 s v k b kk vl wt a):∃U:Nat->Value,a=({ tmps:=#[v,.string s,U 2,U 3,.slice none 0 0,.int .i64 0,.int .i64 (k:Int),U 7,.int .i64 kk,U 9,.int .i64 vl,.int .i64 wt,U 12,U 13,U 14,.pointer (some ⟨b,0,none⟩),U 16,U 17,U 18,U 19,U 20,U 21,U 22,U 23,U 24,U 25,U 26,U 27,U 28,U 29,U 30,U 31,U 32,U 33,U 34,U 35,U 36,U 37,U 38,U 39,U 40,U 41,U 42,U 43,U 44,U 45,U 46,U 47,U 48,U 49,U 50,U 51,U 52,U 53,U 54,U 55,U 56,U 57,U 58,U 59,U 60,U 61,U 62,U 63,U 64,U 65,U 66,U 67,U 68,U 69,U 70,U 71,U 72,U 73,U 74,U 75,U 76,U 77,U 78],defers:=[] }:Act):=by
 obtain⟨t,B⟩:=a;obtain⟨Z,D,R,L,X,F,c,A,d,C,E⟩:=h;refine⟨fun i=>t.getD i undef,?_⟩;simp only at Z D R L X F c A d C E;subst Z;congr 1;rw[<- R,<- L,<- X,<- F,<- c,<- A,<- d,<- C,<- E];exact t9s
structure Rm(X0:Nat)(B b:Nat)(w0:World)(k:Nat)(st:Pu.St)(v:Value)(wr:World):Prop where
 row:Ok .i32 21 wr B v st.xs
 state:StAt wr b (st.xs.length:Int) st.n st.i st.bias st.first
 bel:Below B w0 wr
 hB:B<=b
 lt:b<wr.heap.size
 ne:v.ownBlock≠some b
 len:st.xs.length<=X0+k
 n:0<=st.n/\st.n<=1114111
 i:0<=st.i/\st.i<=st.xs.length
 bias:0<=st.bias/\st.bias<=468
def x0Y(B:Nat)(w:World)(r:List Int×Int)(e:Ending)(w':World):Prop :=
 (∃v,e=.returned (.tuple #[v,.int .i64 0])/\r=(r.1,0)/\Ok .i32 21 w' B v r.1/\Below B w w')\/(r.1=[]/\r.2≠0/\e=.returned (.tuple #[.slice none 0 0,.int .i64 r.2])/\Below B w w')
theorem x0Y.no{B w w' r c}(h:r=([],c))(T:c≠0)(Q:Below B w w'):x0Y B w r (.returned (.tuple #[.slice none 0 0,.int .i64 c])) w':=by
 subst h;exact .inr ⟨rfl,T,rfl,Q⟩
theorem x0Y.yes{B w w' r v}{xs}(h:r=(xs,0))(N:Ok .i32 21 w' B v xs)(Q:Below B w w'):x0Y B w r (.returned (.tuple #[v,.int .i64 0])) w':=by
 subst h;exact .inl ⟨v,rfl,rfl,N,Q⟩
def Jq(X0 B b:Nat)(s:ByteArray)(zs:List Int)(r:List Int×Int)(w:World):Nat->Act->World->Prop
 | 0,a,wr=>∃(k:Nat) (st:Pu.St) (v:Value),F0 s v k b a/\k<=s.size/\Rm X0 B b w k st v wr/\r=Pu.rdW (zs.drop k) st
 | 1,a,wr=>∃(k:Nat) (st:Pu.St) (v:Value) (kk vl wt:Int),F1 s v k b kk vl wt a/\k<=s.size/\Rm X0 B b w k st v wr/\(1<=kk/\kk<=k+1)/\(0<=vl/\vl<=75161927680*k)/\(1<=wt/\wt<=2147483648)/\r=Pu.after st (Pu.rdN st.bias (zs.drop k) kk vl wt)
 | 2,a,wr=>∃(k:Nat) (st:Pu.St) (v:Value) (kk vl wt:Int),F1 s v k b kk vl wt a/\k<=s.size/\1<=k/\Rm X0 B b w (k-1) st v wr/\(0<=vl/\vl<=75161927680*k)/\r=Pu.after st (0,vl,zs.drop k)
 | _,_,_=>False
theorem Rm.later{X0 B b w0 k k'}{M:Pu.St}{v wr}(h:Rm X0 B b w0 k M v wr)(G:k<=k'):Rm X0 B b w0 k' M v wr :=
 { h with len:=by have:=h.len;exact f6J }
theorem x3t{K e w w' B}{v zs row}(h:Ok K e w B v zs)(C:w.grownBy w' row)(F:v.ownBlock=none\/v.ownBlock≠row):Ok K e w' B v zs:=⟨h.1,h.2.1,h.2.2.kept C F⟩
theorem x6b{K e w B}{v zs}(h:Ok K e w B v zs) o:Ok K e (w.alloc o) B v zs:=⟨h.1,h.2.1,h.2.2.alloc o⟩
theorem x0s(w:World) o:(w.alloc o).heap.size=w.heap.size+1:=f0h
theorem Rm.step{X0 B b w0 k}{M:Pu.St}{v wr wq w2 d e}(h:Rm X0 B b w0 (k-1) M v wr)(G:1<=k)
  (hd:0<=d/\d<=2147483647) (y:Utf.okc (Pu.stepN M d)) (m:StAt wq b ((M.xs.length:Int)+1) (Pu.stepN M d) (Pu.stepP M d+1) (Pu.adapt d ((M.xs.length:Int)+1) M.first) false) (C:wr.grownBy wq (some b)) (a:wq.heap.size=wr.heap.size)
  (hi:x3J B v (wq.alloc (.cells #[.int .i32 (Pu.stepN M d)] 21)) (Pu.ins M.xs (Pu.stepP M d).toNat (Pu.stepN M d)) e w2):∃v',e=.returned v'/\Rm X0 B b w0 k (Pu.step M d) v' w2:=by
 obtain⟨v',rfl,A,F,E⟩:=hi;have s:(Pu.step M d).xs.length=M.xs.length+1:=x2z _ _ _;have I:0<=Pu.stepP M d:=Int.emod_nonneg _ f6J;have K:Pu.stepP M d<(M.xs.length:Int)+1:=Int.emod_lt_of_pos _ f6J;have X:=x0s wq (.cells #[.int .i32 (Pu.stepN M d)] 21);have L:∀g,v.ownBlock=some g->B<=g/\g<wr.heap.size:=fun g Y=>h.row.row.lt g Y;refine⟨v',rfl,⟨A,?_,?_,h.hB,?_,?_,?_,?_,?_,?_⟩⟩
 ·rw[s];show StAt w2 b ((M.xs.length+1:Nat):Int) (Pu.stepN M d) (Pu.stepP M d+1) (Pu.adapt d ((M.xs.length:Int)+1) M.first) false;rw[(f6J:((M.xs.length+1:Nat):Int)=(M.xs.length:Int)+1)];unfold StAt at m ⊢;rw[F.block b (by have:=h.lt;exact f6J) (fun Y=>h.ne Y.symm),heap_alloc_old _ _ (by have:=h.lt;exact f6J)];exact m
 ·have Z:=h.bel.grown C s5e (fun g Y=>by simp at Y;have:=h.hB;exact f6J);have D:=Z.alloc s5e (.cells #[.int .i32 (Pu.stepN M d)] 21);exact D.grown F s5e (fun g Y=>(L g Y).1)
 ·have:=F.size;have:=h.lt;omega
 ·intro Y;rcases E b Y with h3 | h3
  ·exact h.ne h3
  ·have:=h.lt;omega
 ·rw[s];have:=h.len;omega
 ·show 0<=Pu.stepN M d/\Pu.stepN M d<=1114111;rcases y with h3 | h3<;>omega
 ·rw[s];show 0<=Pu.stepP M d+1/\Pu.stepP M d+1<=((M.xs.length+1:Nat):Int);omega
 ·exact Pu.x2U d _ M.first f6J
theorem Rm.ins{X0 B b w0 k}{M:Pu.St}{v wr wq d}(h:Rm X0 B b w0 (k-1) M v wr)(D:X0+k<=1000000)(y:Utf.okc (Pu.stepN M d))(C:wr.grownBy wq (some b))(a:wq.heap.size=wr.heap.size)(p:Nat)(L:Pu.stepP M d=p) :
  Calls prog 203 #[v,.int .i64 p,.slice (some ⟨wq.heap.size,0,none⟩) 1 1] (wq.alloc (.cells #[.int .i32 (Pu.stepN M d)] 21)) (x3J B v (wq.alloc (.cells #[.int .i32 (Pu.stepN M d)] 21)) (Pu.ins M.xs (Pu.stepP M d).toNat (Pu.stepN M d))):=by
 have K:Pu.stepP M d<(M.xs.length:Int)+1:=Int.emod_lt_of_pos _ f6J;have X:=x0s wq (.cells #[.int .i32 (Pu.stepN M d)] 21);have S:=h.len;have:=h.lt;have:=h.hB;rw[(f6J:(Pu.stepP M d).toNat=p)];refine y5k B v M.xs p (Pu.stepN M d) _ wq.heap.size (x6b (x3t h.row C (.inr h.ne)) _) f6J f6J f6J (heap_alloc_new wq _) (fun Y=>?_) (by rcases y with h3 | h3<;>omega);have:=(h.row.row.lt _ Y).2;omega
def pmes(N l:Nat)(a:Act):Nat:=2*(N-(intOf (a.tmps.getD 6 undef)).toNat)+(if l=2 then 1 else 0)
theorem x4Z{N l s k k2:Nat}{a a2}(h:a.tmps.getD 6 undef=.int .i64 (k:Int))(D:a2.tmps.getD 6 undef=.int .i64 (k2:Int))(y:2*(N-k2)+(if s=2 then 1 else 0)<2*(N-k)+(if l=2 then 1 else 0)):pmes N s a2<pmes N l a:=by
 unfold pmes;rw[h,D];exact y
theorem x7q{d wt:Int}(A:0<=d/\d<=35)(Z:1<=wt/\wt<=2147483648):0<=d*wt/\d*wt<=75161927680:=by
 refine⟨Int.mul_nonneg A.1 f6J,?_⟩
 calc d*wt<=35*wt:=Int.mul_le_mul_of_nonneg_right A.2 f6J
  _<=75161927680:=f6J
theorem y2Y{t wt:Int}(A:1<=t/\t<=26)(Z:1<=wt/\wt<=2147483648):1<=wt*(36-t)/\wt*(36-t)<=75161927680:=by
 constructor
 ·calc 1<=wt:=Z.1
   _=wt*1:=f6J
   _<=wt*(36-t):=Int.mul_le_mul_of_nonneg_left f6J f6J
 ·calc wt*(36-t)<=wt*35:=Int.mul_le_mul_of_nonneg_left f6J f6J
   _<=75161927680:=f6J
theorem y7I{zs:List Int}{k}(G:k<zs.length):zs.drop k=zs.getD k 0::zs.drop (k+1):=x0T G
theorem z8O{c}(h:Utf.okc c):okb c=true:=d0t h
theorem z8P{c}(h:¬Utf.okc c):okb c=false:=d0f h
theorem y9E B v0 xs0 s w(aD:Ok .i32 21 w B v0 xs0)(hB:B<=w.heap.size)(hs:xs0.length+s.size<=100000) :
  Calls prog 154 #[v0,.string s] w (x0Y B w (Pu.rdW (nums s) (Pu.begin xs0))):=by
 have aM:=nums_length s;have I:Pu.rdW (nums s) (Pu.begin xs0)=Pu.rdW ((nums s).drop 0) (Pu.begin xs0):=(by rw[List.drop_zero]);generalize Pu.rdW (nums s) (Pu.begin xs0)=r at *;have S:=O (x0u s);have am:=O (x2q s);obtain⟨L,aQ⟩:∃L,nums s=L:=⟨_,rfl⟩;rw[aQ]at aM I S am;have o:=O I;clear I aQ;obtain⟨X0,aI⟩:∃X0,X0=xs0.length:=⟨_,rfl⟩;have m:=O aI;have j:=O aD;obtain⟨ao,aG,aN,ba,be⟩:=aD.sk.shape;have aS:=O aN
 have az:Hid (∀k,k<L.length->0<=L.getD k 0/\L.getD k 0<=255):=fun k hk=>by
  rw[List.getD,List.getElem?_eq_getElem hk];exact V S _ (List.getElem_mem hk)
 subst aN;clear aD aI aS S;have Q:=O (x9T (xs0.length:Int) w);go_enter func154,ntmps154;go_wp2;refine x2P (fun l a wr=>∃b,w.heap.size<=b/\Jq X0 B b s L r w l a wr) (fun l a _=>pmes s.size l a) ?hf ?first ?pass
 case hf =>
  rintro l a wr ⟨b,T,h⟩
  match l,h with
  | 0,_=>rfl
  | 1,_=>rfl
  | 2,_=>rfl
  | (l+3),h=>exact h.elim
 case first =>
  go_wp2_with fail;refine c0m Q fun G ai=>?_
  have J:Rm X0 B G.heap.size w 0 (Pu.begin xs0) (.slice ao xs0.length aG) (G.alloc (.cells #[.int .i64 (xs0.length:Int),.int .i64 128,.int .i64 0,.int .i64 72,.bool true] 278)):=by
   have hv:=V j;have hx:=V m;have bm:=ai.size;refine⟨x6b (hv.below ai) _,heap_alloc_new G _,(ai.mono hB).alloc f6J _,f6J,by rw[x0s];exact f6J,fun hh=>?_,by show xs0.length<=X0+0;exact f6J,by show(0:Int)<=128/\(128:Int)<=1114111;exact f6J,by show(0:Int)<=0/\(0:Int)<=(xs0.length:Int);exact f6J,by show(0:Int)<=72/\(72:Int)<=468;exact f6J⟩;have:=(hv.row.lt _ hh).2;omega
  have u:r=Pu.rdW (L.drop 0) (Pu.begin xs0):=V o;have T:w.heap.size<=G.heap.size:=ai.size;obtain⟨b,aK⟩:∃b,b=G.heap.size:=⟨_,rfl⟩;obtain⟨wr,aP⟩:∃wr,G.alloc (.cells #[.int .i64 (xs0.length:Int),.int .i64 128,.int .i64 0,.int .i64 72,.bool true] 278)=wr:=⟨_,rfl⟩;rw[aP]at J;go_wp2;go_step3;rw[<- aK]at J T ⊢;clear aP aK ai G;obtain⟨M,Z⟩:∃M,Pu.begin xs0=M:=⟨_,rfl⟩;rw[Z]at J u;clear Z;generalize Value.slice ao xs0.length aG=v at *;obtain⟨D,A,C,aB,aF,ne,len,hn,hi,F⟩:=id J;obtain⟨c0,c1,c2,c3,c4,f0,f1,f2,f3,f4⟩:=A.cells;by_cases H:0<L.length
  ·have aJ:=V am (0:Int) 0 rfl f6J;have ae:=V az 0 H;have ar:=Pu.y7D (L.getD 0 0);have aj:((0:Int)==(s.size:Int))=false:=P8P;have HD:=fun W=>O (x3L (L.getD 0 0) W ae.1 ae.2);have P:=fun W=>O (x2J 1 M.bias W f6J f6J);have af:=Pu.x1R 1 M.bias;have HR:=O (u.trans ((Pu.y9N r9n M).trans (by rw[y7I H])));by_cases hd:Pu.dig (L.getD 0 0)<0
   ·have x:=O ((V HR).trans ((congrArg (Pu.after M) (Pu.y2C hd)).trans (Pu.x3Z f6J)));have R:=O C;clear HR u J D A P af C o j Q m;generalize Pu.dig (L.getD 0 0)=d at *;generalize L.getD 0 0=z at *;go_wp2;go_step3;exact G5W
   ·have aL:=x7q (d:=Pu.dig (L.getD 0 0)) (wt:=1) f6J f6J;by_cases ht:Pu.dig (L.getD 0 0)<Pu.thr 1 M.bias
    ·have x:=O ((V HR).trans i9s);have HM:=O J;clear HR u J D A C o j Q m;generalize hdg:Pu.dig (L.getD 0 0)=d at *;generalize L.getD 0 0=z at *;clear hdg;generalize Pu.thr 1 M.bias=t at *;go_wp2;go_step3;go_wp2_with fail;refine(V (HD _)).mono ?_;rintro e G ⟨⟨X,_⟩ | ⟨_,rfl⟩,rfl⟩
     ·omega
     ·clear HD;go_wp2_with(go_at_call 201;refine(V (P _)).mono ?_;rintro e G ⟨rfl,rfl⟩;clear P);go_step3;show ∃b,w.heap.size<=b/\Jq X0 B b s L r w 2 _ _;exact⟨b,T,⟨0+1,M,_,1,0+d*1,1,⟨rfl,rfl,rfl,rfl,rfl,rfl,g2A,rfl,rfl,U4D,rfl⟩,f6J,f6J,(V HM).later f6J,f6J,V x⟩⟩
    ·have x:=O ((V HR).trans V0w);have HM:=O J;have aO:=y2Y (t:=Pu.thr 1 M.bias) (wt:=1) af f6J;clear HR u J D A C o j Q m;generalize hdg:Pu.dig (L.getD 0 0)=d at *;generalize L.getD 0 0=z at *;clear hdg;rw[if_neg f6J]at x;generalize Pu.thr 1 M.bias=t at *;go_wp2;go_step3;go_wp2_with fail;refine(V (HD _)).mono ?_;rintro e G ⟨⟨X,_⟩ | ⟨_,rfl⟩,rfl⟩
     ·omega
     ·clear HD;go_wp2_with(go_at_call 201;refine(V (P _)).mono ?_;rintro e G ⟨rfl,rfl⟩;clear P);go_step3;show ∃b,w.heap.size<=b/\Jq X0 B b s L r w 1 _ _;exact⟨b,T,⟨0+1,M,_,1+1,0+d*1,1*(36-t),⟨rfl,rfl,rfl,rfl,rfl,rfl,g2A,rfl,U6v,U4D,U4D⟩,f6J,(V HM).later f6J,f6J,f6J,f6J,V x⟩⟩
  ·have aU:0=L.length:=f6J;have x:=O (u.trans ((congrArg (fun q=>Pu.rdW q M) (List.drop_eq_nil_of_le f6J)).trans (Pu.y9M M)));have aq:=O D;have R:=O C;have aj:((0:Int)==(s.size:Int))=true:=P8P;exact e6x
 case pass =>
  rintro l a wr ⟨b,T,h⟩
  match l,h with
  | (l+3),h=>exact h.elim
  | 0,h =>
   obtain⟨k,M,v,N,aC,J,u⟩:=h;obtain⟨U,rfl⟩:=N.open;clear N
   conv=>arg 2;whnf
   obtain⟨D,A,C,aB,aF,ne,len,hn,hi,F⟩:=id J;obtain⟨c0,c1,c2,c3,c4,f0,f1,f2,f3,f4⟩:=A.cells;by_cases H:k<L.length
   ·have aJ:=V am (k:Int) k rfl f6J;have ae:=V az k H;have ar:=Pu.y7D (L.getD k 0);have aj:((k:Int)==(s.size:Int))=false:=P8P;have HD:=fun W=>O (x3L (L.getD k 0) W ae.1 ae.2);have P:=fun W=>O (x2J 1 M.bias W f6J f6J);have af:=Pu.x1R 1 M.bias;have HR:=O (u.trans ((Pu.y9N r9n M).trans (by rw[y7I H])));by_cases hd:Pu.dig (L.getD k 0)<0
    ·have x:=O ((V HR).trans ((congrArg (Pu.after M) (Pu.y2C hd)).trans (Pu.x3Z f6J)));have R:=O C;clear HR u J D A P af C o j Q m;generalize Pu.dig (L.getD k 0)=d at *;generalize L.getD k 0=z at *;go_wp2;go_step3;exact G5W
    ·have aL:=x7q (d:=Pu.dig (L.getD k 0)) (wt:=1) f6J f6J;by_cases ht:Pu.dig (L.getD k 0)<Pu.thr 1 M.bias
     ·have x:=O ((V HR).trans i9s);have HM:=O J;clear HR u J D A C o j Q m;generalize hdg:Pu.dig (L.getD k 0)=d at *;generalize L.getD k 0=z at *;clear hdg;generalize Pu.thr 1 M.bias=t at *;go_wp2;go_step3;go_wp2_with fail;refine(V (HD _)).mono ?_;rintro e G ⟨⟨X,_⟩ | ⟨_,rfl⟩,rfl⟩
      ·omega
      ·clear HD;go_wp2_with(go_at_call 201;refine(V (P _)).mono ?_;rintro e G ⟨rfl,rfl⟩;clear P);go_step3;show(∃b,w.heap.size<=b/\Jq X0 B b s L r w 2 _ _)/\_;exact⟨⟨b,T,⟨k+1,M,_,1,0+d*1,1,⟨rfl,rfl,rfl,rfl,rfl,rfl,g2A,rfl,rfl,U4D,rfl⟩,f6J,f6J,(V HM).later f6J,f6J,V x⟩⟩,x4Z (k:=k) (k2:=k+1) rfl g2A V9D⟩
     ·have x:=O ((V HR).trans V0w);have HM:=O J;have aO:=y2Y (t:=Pu.thr 1 M.bias) (wt:=1) af f6J;clear HR u J D A C o j Q m;generalize hdg:Pu.dig (L.getD k 0)=d at *;generalize L.getD k 0=z at *;clear hdg;rw[if_neg f6J]at x;generalize Pu.thr 1 M.bias=t at *;go_wp2;go_step3;go_wp2_with fail;refine(V (HD _)).mono ?_;rintro e G ⟨⟨X,_⟩ | ⟨_,rfl⟩,rfl⟩
      ·omega
      ·clear HD;go_wp2_with(go_at_call 201;refine(V (P _)).mono ?_;rintro e G ⟨rfl,rfl⟩;clear P);go_step3;show(∃b,w.heap.size<=b/\Jq X0 B b s L r w 1 _ _)/\_;exact⟨⟨b,T,⟨k+1,M,_,1+1,0+d*1,1*(36-t),⟨rfl,rfl,rfl,rfl,rfl,rfl,g2A,rfl,U6v,U4D,U4D⟩,f6J,(V HM).later f6J,f6J,f6J,f6J,V x⟩⟩,x4Z (k:=k) (k2:=k+1) rfl g2A V9D⟩
   ·have aU:k=L.length:=f6J;have x:=O (u.trans ((congrArg (fun q=>Pu.rdW q M) (List.drop_eq_nil_of_le f6J)).trans (Pu.y9M M)));have aq:=O D;have R:=O C;have aj:((k:Int)==(s.size:Int))=true:=P8P;exact e6x
  | 1,h =>
   obtain⟨k,M,v,kk,vl,wt,N,aC,J,bh,aY,bn,u⟩:=h;obtain⟨U,rfl⟩:=N.open;clear N
   conv=>arg 2;whnf
   obtain⟨D,A,C,aB,aF,ne,len,hn,hi,F⟩:=id J;obtain⟨c0,c1,c2,c3,c4,f0,f1,f2,f3,f4⟩:=A.cells;by_cases H:k<L.length
   ·have aJ:=V am (k:Int) k rfl f6J;have ae:=V az k H;have ar:=Pu.y7D (L.getD k 0);have aj:((k:Int)==(s.size:Int))=false:=P8P;have HD:=fun W=>O (x3L (L.getD k 0) W ae.1 ae.2);have P:=fun W=>O (x2J kk M.bias W f6J f6J);have af:=Pu.x1R kk M.bias;have HR:=O (u.trans (by rw[y7I H]));by_cases hd:Pu.dig (L.getD k 0)<0
    ·have x:=O ((V HR).trans ((congrArg (Pu.after M) (Pu.y2C hd)).trans (Pu.x3Z f6J)));have R:=O C;clear HR u J D A P af C o j Q m;generalize Pu.dig (L.getD k 0)=d at *;generalize L.getD k 0=z at *;exact G5W
    ·have aL:=x7q (d:=Pu.dig (L.getD k 0)) (wt:=wt) f6J f6J;by_cases ht:Pu.dig (L.getD k 0)<Pu.thr kk M.bias
     ·have x:=O ((V HR).trans i9s);have HM:=O J;clear HR u J D A C o j Q m;generalize hdg:Pu.dig (L.getD k 0)=d at *;generalize L.getD k 0=z at *;clear hdg;generalize Pu.thr kk M.bias=t at *;go_wp2_with fail;refine(V (HD _)).mono ?_;rintro e G ⟨⟨X,_⟩ | ⟨_,rfl⟩,rfl⟩
      ·omega
      ·clear HD;go_wp2_with(go_at_call 201;refine(V (P _)).mono ?_;rintro e G ⟨rfl,rfl⟩;clear P);go_step3;show(∃b,w.heap.size<=b/\Jq X0 B b s L r w 2 _ _)/\_;exact⟨⟨b,T,⟨k+1,M,_,kk,vl+d*wt,wt,⟨rfl,rfl,rfl,rfl,rfl,rfl,g2A,rfl,rfl,U4D,rfl⟩,f6J,f6J,(V HM).later f6J,f6J,V x⟩⟩,x4Z (k:=k) (k2:=k+1) rfl g2A V9D⟩
     ·have x:=O ((V HR).trans V0w);have HM:=O J;have aO:=y2Y (t:=Pu.thr kk M.bias) (wt:=wt) af f6J;clear HR u J D A C o j Q m;generalize hdg:Pu.dig (L.getD k 0)=d at *;generalize L.getD k 0=z at *;clear hdg;by_cases aw:2147483648<wt*(36-Pu.thr kk M.bias)
      ·rw[if_pos aw]at x;generalize Pu.thr kk M.bias=t at *;go_wp2_with fail;refine(V (HD _)).mono ?_;rintro e G ⟨⟨X,_⟩ | ⟨_,rfl⟩,rfl⟩
       ·omega
       ·clear HD;go_wp2_with(go_at_call 201;refine(V (P _)).mono ?_;rintro e G ⟨rfl,rfl⟩;clear P);go_step3;show(∃b,w.heap.size<=b/\Jq X0 B b s L r w 1 _ _)/\_;exact⟨⟨b,T,⟨k+1,M,_,kk+1,vl+d*wt,2147483648,⟨rfl,rfl,rfl,rfl,rfl,rfl,g2A,rfl,U6v,U4D,U4D⟩,f6J,(V HM).later f6J,f6J,f6J,f6J,V x⟩⟩,x4Z (k:=k) (k2:=k+1) rfl g2A V9D⟩
      ·rw[if_neg aw]at x;generalize Pu.thr kk M.bias=t at *;go_wp2_with fail;refine(V (HD _)).mono ?_;rintro e G ⟨⟨X,_⟩ | ⟨_,rfl⟩,rfl⟩
       ·omega
       ·clear HD;go_wp2_with(go_at_call 201;refine(V (P _)).mono ?_;rintro e G ⟨rfl,rfl⟩;clear P);go_step3;show(∃b,w.heap.size<=b/\Jq X0 B b s L r w 1 _ _)/\_;exact⟨⟨b,T,⟨k+1,M,_,kk+1,vl+d*wt,wt*(36-t),⟨rfl,rfl,rfl,rfl,rfl,rfl,g2A,rfl,U6v,U4D,U4D⟩,f6J,(V HM).later f6J,f6J,f6J,f6J,V x⟩⟩,x4Z (k:=k) (k2:=k+1) rfl g2A V9D⟩
   ·have x:=O (u.trans ((congrArg (Pu.after M) ((congrArg (fun q=>Pu.rdN M.bias q kk vl wt) (List.drop_eq_nil_of_le f6J)).trans (Pu.z6y _ _ _ _))).trans (Pu.x3Z f6J)));have R:=O C;have aj:((k:Int)==(s.size:Int))=true:=P8P;clear u J D A C o j Q m;exact m5O
  | 2,h =>
   obtain⟨k,M,v,kk,vl,wt,N,aC,aT,J,aY,u⟩:=h;obtain⟨U,rfl⟩:=N.open;clear N
   conv=>arg 2;whnf
   obtain⟨D,A,C,aB,aF,ne,len,hn,hi,F⟩:=id J;have bp:=V m;by_cases Y:2147483647<vl
   ·have x:=O (u.trans (Pu.y4q Y));have R:=O C;clear u J D A C o j Q m;exact m5O
   ·have c:=O (x9H b M.xs.length M.n M.i M.bias vl M.first wr A f6J f6J f6J f6J);have hN:Pu.stepN M vl=M.n+(M.i+vl) / (M.xs.length+1):=rfl;have hP:Pu.stepP M vl=(M.i+vl)%(M.xs.length+1):=rfl;rw[<- hN,<- hP]at c;have aV:0<=(M.i+vl) / ((M.xs.length:Int)+1):=Int.ediv_nonneg f6J f6J;have aW:(M.i+vl) / ((M.xs.length:Int)+1)<=M.i+vl:=Int.ediv_le_self _ f6J;have I:0<=(M.i+vl)%((M.xs.length:Int)+1):=Int.emod_nonneg _ f6J;have aX:(M.i+vl)%((M.xs.length:Int)+1)<(M.xs.length:Int)+1:=Int.emod_lt_of_pos _ f6J;have aM:0<=Pu.stepN M vl/\Pu.stepN M vl<=9000000000:=(by rw[hN];exact f6J);have bj:0<=Pu.stepP M vl/\Pu.stepP M vl<=M.xs.length:=(by rw[hP];exact f6J);clear hN hP aV aW I aX;by_cases aZ:1114111<Pu.stepN M vl
    ·have x:=O (u.trans (Pu.x9Q Y (by unfold Utf.okc;exact f6J)));have R:=O C;have aq:=O D;clear u J D A C o j Q m;generalize Pu.stepN M vl=nn,Pu.stepP M vl=pp,Pu.adapt vl ((M.xs.length:Int)+1) M.first=ad at *;go_wp2_with fail;refine(V c).mono ?_;rintro e G ⟨rfl,E,ab,ag⟩;clear c;have ay:=O ((V R).grown ab f6J (fun g hg=>by simp at hg;exact f6J));clear E ab ag R;go_wp2;go_ret2;exact x0Y.no (V x) f6J (V ay)
    ·have HV:=fun W=>O (x8w (Pu.stepN M vl) W f6J);by_cases y:Utf.okc (Pu.stepN M vl)
     ·rw[z8O y]at HV;have x:=O (u.trans (Pu.z1e Y y));obtain⟨p,hp⟩:∃p:Nat,Pu.stepP M vl=p:=⟨(Pu.stepP M vl).toNat,f6J⟩
      have f:Hid (∀G e w2,StAt G b ((M.xs.length:Int)+1) (Pu.stepN M vl) (Pu.stepP M vl+1) (Pu.adapt vl ((M.xs.length:Int)+1) M.first) false->wr.grownBy G (some b)->G.heap.size=wr.heap.size ->
        x3J B v (G.alloc (.cells #[.int .i32 (Pu.stepN M vl)] 21)) (Pu.ins M.xs (Pu.stepP M vl).toNat (Pu.stepN M vl)) e w2->∃v',e=.returned v'/\Rm X0 B b w k (Pu.step M vl) v' w2) :=
       fun G e w2 h1 h2 h3 h4=>J.step aT f6J y h1 h2 h3 h4
      have aA:Hid (∀G,wr.grownBy G (some b)->G.heap.size=wr.heap.size->Calls prog 203 #[v,.int .i64 p,.slice (some ⟨G.heap.size,0,none⟩) 1 1] (G.alloc (.cells #[.int .i32 (Pu.stepN M vl)] 21)) (x3J B v (G.alloc (.cells #[.int .i32 (Pu.stepN M vl)] 21)) (Pu.ins M.xs (Pu.stepP M vl).toNat (Pu.stepN M vl)))) :=
       fun G h1 h2=>J.ins f6J y h1 h2 p hp
      clear u J D A C o j Q m y len;rw[hp]at c f aA;generalize Pu.ins M.xs ((p:Int)).toNat (Pu.stepN M vl)=ys at *;clear hp;generalize Pu.stepN M vl=nn,Pu.adapt vl ((M.xs.length:Int)+1) M.first=ad at *;go_wp2_with fail;refine(V c).mono ?_;rintro e G ⟨rfl,E,ab,ag⟩;clear c;have HI:=O (V aA G ab ag);have HQ:=O (fun e w2=>V f G e w2 E ab ag);clear E ab ag aA f;go_wp2_with(go_at_call 60;refine(V (HV _)).mono ?_;rintro e wx ⟨rfl,rfl⟩;clear HV);refine(V HI).mono ?_;intro e w2 K;obtain⟨v',rfl,aH⟩:=V HQ e w2 K;have aR:=O aH;clear K aH HI HQ;go_wp2;go_step3;show(∃b,w.heap.size<=b/\Jq X0 B b s L r w 0 _ _)/\_;exact⟨⟨b,T,k,_,v',⟨rfl,rfl,rfl,rfl,rfl,rfl,rfl,rfl⟩,aC,V aR,V x⟩,x4Z (k:=k) (k2:=k) rfl rfl (by simp)⟩
     ·have x:=O (u.trans (Pu.x9Q Y y));rw[z8P y]at HV;have R:=O C;clear u J D A C o j Q m y;generalize Pu.stepN M vl=nn,Pu.stepP M vl=pp,Pu.adapt vl ((M.xs.length:Int)+1) M.first=ad at *;go_wp2_with fail;refine(V c).mono ?_;rintro e G ⟨rfl,E,ab,ag⟩;clear c;have ay:=O ((V R).grown ab f6J (fun g hg=>by simp at hg;exact f6J));clear E ab ag R;go_wp2_with(go_at_call 60;refine(V (HV _)).mono ?_;rintro e wx ⟨rfl,rfl⟩;clear HV);go_ret2;exact x0Y.no (V x) f6J (V ay)
theorem x4x(s:ByteArray)(h:∀j,j<s.size->(s.get! j).toNat<128):∀(f i:Nat) (acc:Array Value),s.size<=i+f->i<=s.size ->
  (Conv.runesFrom s f i acc).toList=acc.toList++(((nums s).drop i).map (Value.int .i32))
 | 0,i,acc,h1,h2=>by
  rw[Conv.runesFrom,List.drop_eq_nil_of_le (by rw[nums_length];exact f6J)];simp
 | f+1,i,acc,h1,h2=>by
  rw[Conv.runesFrom];by_cases hi:i<s.size
  ·rw[if_pos hi]
   have hd:Utf8.decode s i=((s.get! i).toNat,1):=by
    unfold Utf8.decode;simp[h i hi]
   rw[hd];simp only;rw[x4x s h f (i+1) _ f6J f6J];rw[x0T (xs:=nums s) (k:=i) (by rw[nums_length];exact hi)];have:=x4V s i hi;simp only[Array.toList_push,List.map_cons,List.append_assoc,List.cons_append,List.nil_append];rw[<- this];have C:s.get! i=s[i]'hi:=(by simp[ByteArray.get!,ByteArray.getElem_eq_getElem_data,hi]);rw[C];rfl
  ·rw[if_neg hi,List.drop_eq_nil_of_le (by rw[nums_length];exact f6J)];simp
theorem z0f s w:(convert 9 40 (.string s)).run prog w =
  .ok (.slice (some ⟨w.heap.size,0,none⟩) (Conv.runesFrom s s.size 0 #[]).size (grownCap w (Conv.runesFrom s s.size 0 #[]).size 0 21))
   (w.drew.alloc (.cells (Conv.runesFrom s s.size 0 #[]++Array.replicate (grownCap w (Conv.runesFrom s s.size 0 #[]).size 0 21-(Conv.runesFrom s s.size 0 #[]).size) (.int .i32 0)) 21)):=by
 simp[convert,run_underlying underlying9,run_underlying underlying40,run_underlying underlying21,Conv.stringToRunes,newRow,grownCap,Question.forced]
theorem x8b{zs}(h:∀j,j<zs.length->zs.getD j 0≠45) k a:Pu.x4S zs k a=a:=by
 induction zs generalizing k a with
 | nil=>rfl
 | cons z r ih =>
  rw[Pu.x4S,if_neg (by simpa using h 0 M7M)];exact ih (fun j K=>by have:=h (j+1) P8P;exact W2P) (k+1) a
theorem z2i{zs i}(hi:i<zs.length)(A:zs.getD i 0=45)(S:∀j,i<j->j<zs.length->zs.getD j 0≠45) k a:Pu.x4S zs k a=k+i:=by
 induction zs generalizing i k a with
 | nil=>exact v5G
 | cons z r ih =>
  rw[Pu.x4S]
  cases i with
  | zero =>
   rw[if_pos N6t];exact x8b (fun j K=>S2m) _ _
  | succ i =>
   rw[ih (i:=i) w3D N6t (fun j Z D=>S2m)];omega
def x3n(w:World)(zs:List Int)(e:Ending)(w':World):Prop :=
 ((e=.returned (.int .i64 (-1))/\Pu.x4S zs 0 0=0)\/∃i:Nat,i<zs.length/\e=.returned (.int .i64 i)/\Pu.x4S zs 0 0=i)/\w'=w
theorem x9a s w(X:s.size<=1000000000):Calls prog 250 #[.string s,.int .u8 45] w (x3n w (nums s)):=by
 have E:=nums_length s;have B:=O (x2q s)
 have P:Hid (∀k,k<(nums s).length->0<=(nums s).getD k 0/\(nums s).getD k 0<=255):=fun k G=>by
  rw[List.getD,List.getElem?_eq_getElem G];exact x0u s _ (List.getElem_mem G)
 generalize nums s=L at *;go_enter func250,ntmps250;go_wp2;go_loop [5,9,10,11,12,13,14,15,16,17,18] (fun i _ _ _ _ _ _ _ _ _ _=>∃k:Nat,i=.int .i64 ((k:Int)-1)/\k<=L.length/\∀j,k<=j->j<L.length->L.getD j 0≠45) (fun i _ _ _ _ _ _ _ _ _ _=>(intOf i+1).toNat)
 case atStart=>exact⟨L.length,by rw[E],f6J,fun j Z D=>f6J⟩
 case round =>
  obtain⟨k,rfl,G,p⟩:=hrel;have l:=O p
  cases k with
  | zero =>
   have x:Hid (x3n w L (.returned (.int .i64 (-1))) w):=⟨.inl ⟨rfl,x8b (fun j K=>V l j f6J K) _ _⟩,rfl⟩;go_wp2;go_ret;exact V x
  | succ k =>
   have N:=V B (k:Int) k rfl f6J;have C:=V P k f6J;have I:((k+1:Nat):Int)-1=(k:Int):=f6J;rw[I];by_cases o:L.getD k 0=45
   ·have x:Hid (x3n w L (.returned (.int .i64 (k:Int))) w):=⟨.inr ⟨k,f6J,rfl,by rw[z2i (i:=k) f6J o (fun j Z D=>V l j f6J D)];exact f6J⟩,rfl⟩;rw[o]at N;go_wp2;go_ret;exact V x
   ·have f:Hid (∀j,k<=j->j<L.length->L.getD j 0≠45):=fun j Z D=>by
     rcases Nat.eq_or_lt_of_le Z with h3 | h3
     ·rw[<- h3];exact o
     ·exact V l j f6J D
    have A:(L.getD k 0==45)=false:=(by simpa using o);generalize L.getD k 0=z at *;go_wp2;go_round
    case rel=>exact⟨k,U6t,f6J,V f⟩
    case measure=>simp[intOf]
theorem y0w s w(X:s.size<=1000000000):Calls prog 198 #[.string s,.int .u8 45] w (x3n w (nums s)):=by
 have H:=O (x9a s w X);generalize nums s=L at *;go_enter func198,ntmps198;go_wp2_with fail;refine(V H).mono ?_;rintro e w ⟨⟨rfl,u⟩ | ⟨i,hi,rfl,u⟩,rfl⟩
 ·have x:Hid (x3n w L (.returned (.int .i64 (-1))) w):=⟨.inl ⟨rfl,u⟩,rfl⟩;go_wp2;go_ret;exact V x
 ·have x:Hid (x3n w L (.returned (.int .i64 (i:Int))) w):=⟨.inr ⟨i,hi,rfl,u⟩,rfl⟩;go_wp2;go_ret;exact V x
def x8y(w:World)(zs:List Int)(e:Ending)(w':World):Prop :=
 ∃a b:ByteArray,e=.returned (.tuple #[.string a,.string b])/\nums a=zs.take (Pu.x4S zs 0 0)/\nums b=Pu.tail zs/\Below w.heap.size w w'
theorem x9p s p q:nums (s.extract p q)=((nums s).drop p).take (q-p):=by
 unfold nums;rw[ByteArray.data_extract,Array.toList_extract,List.map_drop.symm,List.map_take.symm]
theorem z4X s w(X:s.size<=1000000000):Calls prog 153 #[.string s] w (x8y w (nums s)):=by
 have H:=O (y0w s w X);have E:=nums_length s;obtain⟨L,k⟩:∃L,nums s=L:=⟨_,rfl⟩;have n:=O k;rw[k]at E H;rw[k];go_enter func153,ntmps153;go_wp2_with fail;refine(V H).mono ?_;rintro e w ⟨⟨rfl,u⟩ | ⟨i,hi,rfl,u⟩,rfl⟩
 ·exact G3z
 ·by_cases A:i=0
  ·subst A;exact G3z
  ·have x:Hid (∀l,Bw w l->x8y w L (.returned (.tuple #[.string (s.extract 0 i),.string (s.extract (i+1) s.size)])) l):=fun l Q =>
    ⟨_,_,rfl,by rw[u,y0J,V n],by unfold Pu.tail;rw[if_neg f6J,u,x9p,V n,List.take_of_length_le F0o],Q⟩
   go_wp2;go_region;go_wp2;go_ret2;exact V x w.drew ((b0r).drew)
theorem y4v{s}(h:Pu.basicB (nums s)=true):∀j,j<s.size->(s.get! j).toNat<128:=by
 intro j K;have S:=nums_length s;have Z:=x4V s j K
 have D:(nums s).getD j 0<128:=by
  have R:=List.all_eq_true.1 h ((nums s)[j]'f6J) (List.getElem_mem _);rw[List.getD,List.getElem?_eq_getElem f6J];simpa using R
 have C:s.get! j=s[j]'K:=(by simp[ByteArray.get!,ByteArray.getElem_eq_getElem_data,K]);rw[C];omega
theorem y1F{zs}(h:Pu.basicB zs=true) n:Pu.basicB (zs.take n)=true:=by
 unfold Pu.basicB at h ⊢;rw[List.all_eq_true]at h ⊢;exact fun z o=>h z (List.mem_of_mem_take o)
theorem z0g s w(h:Pu.basicB (nums s)=true)(S:s.size<=1000000):∃v w',(convert 9 40 (.string s)).run prog w=.ok v w'/\Ok .i32 21 w' w.heap.size v (nums s)/\Bw w w':=by
 refine⟨_,_,z0f s w,?_,((b0r).drew).alloc (l0r _) _⟩;have X:=x4x s (y4v h) s.size 0 #[] f6J f6J;rw[List.drop_zero]at X;simp only[List.nil_append]at X
 have K:(Conv.runesFrom s s.size 0 #[]).size=(nums s).length:=by
  have:=congrArg List.length X;exact W2P
 have E:=nums_length s;generalize Conv.runesFrom s s.size 0 #[]=A at *;have B:=grownCap_ge w A.size 0 21;have C:=grownCap_le_maxLen w A.size 0 21 T7X;generalize grownCap w A.size 0 21=G at *;refine Ok.of (n:=A.size) (us:=(nums s).map (Value.int .i32)) ?_ f6J ⟨by simp[K],.inr ⟨w.heap.size,G,_,rfl,l0r _,heap_alloc_new w.drew _,B,C,P8P,?_⟩⟩ K rfl
 ·intro z o;have:=x0u s z o;exact x0V f6J
 ·grind
theorem y4U s w(X:s.size<=1000000000):Calls prog 105 #[.string s] w (x0Y w.heap.size w (Pu.decode (nums s))):=by
 have E:=nums_length s;have J:=Pu.y7C (nums s);by_cases n:65536<s.size
 ·have x:=O (J.trans (if_pos f6J));go_enter func105,ntmps105;go_wp2;go_ret2;exact x0Y.no (V x) f6J (b0r)
 ·rw[if_neg f6J]at J;have S:=O (y2m s w X)
  cases Q:Pu.basicB (nums s)with
  | false =>
   rw[if_pos Q]at J;rw[Q]at S;have x:=O J;go_enter func105,ntmps105;go_wp2_with fail;refine(V S).mono ?_;rintro e G ⟨rfl,rfl⟩;go_wp2;go_ret2;exact x0Y.no (V x) f6J (b0r)
  | true =>
   rw[if_neg (by rw[Q];exact M7L)]at J;rw[Q]at S;have x:=O J;have t:=O Q;have B:=O (z4X s w X);generalize Pu.decode (nums s)=r at *;go_enter func105,ntmps105;go_wp2_with fail;refine(V S).mono ?_;rintro e G ⟨rfl,rfl⟩;go_wp2_with fail;refine(V B).mono ?_;rintro e I ⟨U,M,rfl,H,Q,A⟩;have L:U.size<=s.size:=by rw[<- nums_length U,H,List.length_take];exact f6J
   have W:M.size<=s.size:=by
    rw[<- nums_length M,Q];unfold Pu.tail;split
    ·omega
    ·rw[List.length_drop];omega
   obtain⟨v,d,C,y,F⟩:=z0g U I (by rw[H];exact y1F (V t) _) f6J
   have f:(nums U).length+M.size<=65536:=by
    rw[<- nums_length M,H,Q,List.length_take];unfold Pu.tail;split
    ·rename_i h0;rw[h0];omega
    ·rw[List.length_drop];omega
   have N:=A.size;have a:=O (y9E G.heap.size v (nums U) M d (y.lower N) (by have:=F.size;exact f6J) f6J);rw[H,Q,<- V x]at a;have T:=O (x0b A F);go_wp2_with fail;refine(V a).mono ?_;rintro e P (⟨K,rfl,Z,D,R⟩ | ⟨Z,D,rfl,R⟩)
   ·have Y:Hid (x0Y G.heap.size G r (.returned (.tuple #[K,.int .i64 0])) P):=x0Y.yes Z D ((V T).trans R);exact R5v
   ·have Y:Hid (x0Y G.heap.size G r (.returned (.tuple #[.slice none 0 0,.int .i64 r.2])) P):=.inr ⟨Z,D,rfl,(V T).trans R⟩;generalize r.2=b at *;exact R5v
