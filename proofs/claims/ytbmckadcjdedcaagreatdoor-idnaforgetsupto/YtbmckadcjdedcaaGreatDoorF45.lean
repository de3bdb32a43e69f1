import Derived.ScopeJumps
import Derived.WalkMore
import Derived.Test.YtbmckadcjdedcaaGreatDoorF43
import Derived.Test.YtbmckadcjdedcaaGreatDoorF44
import Derived.Deep.DeepCutAuto
set_option maxHeartbeats 20000000
set_option maxRecDepth 40000
namespace Go.Proofs.YtbmckadcjdedcaaGreatDoor
open Go.Proofs.Tryz
section
variable{p:Prop}
theorem g6w(h:p:=by obtain⟨l⟩:=t;have S:l.length=79:=(by simpa using D);apply congrArg Array.mk;have e:=y1a l 79 S;rw[show(List.range 79).map (fun i=>l.getD i undef)=[l.getD 0 undef,l.getD 1 undef,l.getD 2 undef,l.getD 3 undef,l.getD 4 undef,l.getD 5 undef,l.getD 6 undef,l.getD 7 undef,l.getD 8 undef,l.getD 9 undef,l.getD 10 undef,l.getD 11 undef,l.getD 12 undef,l.getD 13 undef,l.getD 14 undef,l.getD 15 undef,l.getD 16 undef,l.getD 17 undef,l.getD 18 undef,l.getD 19 undef,l.getD 20 undef,l.getD 21 undef,l.getD 22 undef,l.getD 23 undef,l.getD 24 undef,l.getD 25 undef,l.getD 26 undef,l.getD 27 undef,l.getD 28 undef,l.getD 29 undef,l.getD 30 undef,l.getD 31 undef,l.getD 32 undef,l.getD 33 undef,l.getD 34 undef,l.getD 35 undef,l.getD 36 undef,l.getD 37 undef,l.getD 38 undef,l.getD 39 undef,l.getD 40 undef,l.getD 41 undef,l.getD 42 undef,l.getD 43 undef,l.getD 44 undef,l.getD 45 undef,l.getD 46 undef,l.getD 47 undef,l.getD 48 undef,l.getD 49 undef,l.getD 50 undef,l.getD 51 undef,l.getD 52 undef,l.getD 53 undef,l.getD 54 undef,l.getD 55 undef,l.getD 56 undef,l.getD 57 undef,l.getD 58 undef,l.getD 59 undef,l.getD 60 undef,l.getD 61 undef,l.getD 62 undef,l.getD 63 undef,l.getD 64 undef,l.getD 65 undef,l.getD 66 undef,l.getD 67 undef,l.getD 68 undef,l.getD 69 undef,l.getD 70 undef,l.getD 71 undef,l.getD 72 undef,l.getD 73 undef,l.getD 74 undef,l.getD 75 undef,l.getD 76 undef,l.getD 77 undef,l.getD 78 undef]from rfl]at e;have g:∀i,(Array.mk l).getD i undef=l.getD i undef:=fun i=>m9N;simp only[g];exact e):p:=h
theorem W9q(h:p:=by have L:Hid (∀l,Bw w l->x8B w y (.returned (.tuple #[.string ⟨#[]⟩,.string s])) l):=fun l Y=>⟨⟨#[]⟩,s,rfl,by rw[u];simp[nums],by unfold Pu.tail;rw[if_pos u];exact V C,Y⟩;go_wp2;go_ret2;exact V L w (b0r)):p:=h
theorem W0c(h:p:=by exact⟨_,a₁,w₁,Z,.of_steps (.one step_scope) A⟩):p:=h
theorem s5e(h:p:=by have:=h.lt;have:=h.hB;exact f6J):p:=h
theorem u3e(h:p:=by rw[nums_length];exact f6J):p:=h
theorem u3O(h:p:=by go_wp2;go_ret2;exact V T):p:=h
theorem m9N(h:p:=by rw[Array.getD_eq_getD_getElem?,List.getD_eq_getElem?_getD];exact M7K):p:=h
theorem U4D(h:p:=by first| rfl | go_num | simp):p:=h
theorem W6U(h:p:=by
 go_wp2_with fail;refine(V (S _)).mono ?_;rintro e G ⟨⟨_,rfl⟩|⟨j,_⟩,rfl⟩
 ·clear S;exact F2k
 ·omega):p:=h
theorem S2m(h:p:=by have:=S (j+1) f6J P8P;exact W2K):p:=h
theorem U6w(h:p:=by first| rfl | go_num):p:=h
theorem V9D(h:p:=by simp<;>omega):p:=h
theorem F2k(h:p:=by go_wp2;go_ret2;exact x0W.no (V L) f6J (V Z)):p:=h
theorem M6J(h:p:=by clear u C D A P F x R f;go_wp2;go_ret2;exact x0W.yes (V L) (V am) (V Z)):p:=h
theorem W8Y(h:p:=by rw[y7O H];exact List.cons_ne_nil _ _):p:=h
theorem p8S(h:p:=by rw[Pu.x9A hd ht]):p:=h
theorem i7e(h:p:=by rw[Pu.x9B hd ht]):p:=h
end
def z2j(J:Nat->Act->World->Prop)(Q:Exit->Act->World->Prop):Exit->Act->World->Prop
 | .goto l,a,w=>J l a w
 | e,a,w=>Q e a w
theorem x7r{P a w Q}{c}(rest:Nat->Code)(J:Nat->Act->World->Prop)(m:Nat->Act->World->Nat)(X:∀l a w,J l a w->findLabel c l=some (rest l))
  (first:c.wp P (z2j J Q) a w)
  (F:∀l a w,J l a w->(rest l).wp P (z2j (fun B T w'=>J B T w'/\m B T w'<m l a w) Q) a w):(Code.scope c).wp P Q a w:=by
 intro b k f
 have S:∀n l a w,m l a w=n->J l a w->∃e T w',Q e T w'/\Arrives P (lone (b.at a (.code (rest l)::.inScope c::k)) f w) b k f e T w':=by
  intro n
  induction n using Nat.strongRecOn with
  | _ n ih =>
   intro l a w E L;obtain⟨e,a₁,w₁,Z,A⟩:=F l a w L b (.inScope c::k) f
   cases e with
   | normal=>exact⟨.normal,a₁,w₁,Z,Steps.trans A (.one step_inScope)⟩
   | exit id=>exact⟨.exit id,a₁,w₁,Z,fun I G=>A I (by simp[exitTo,G])⟩
   | goto B =>
    obtain⟨D,H⟩:=Z;have C:gotoIn B (.inScope c::k)=some (.code (rest B)::.inScope c::k):=(by simp[gotoIn,X B _ _ D]);obtain⟨e₂,a₂,w₂,Z₂,A₂⟩:=ih _ f6J B a₁ w₁ rfl D;exact⟨e₂,a₂,w₂,Z₂,.of_steps (A _ C) A₂⟩
   | ret=>exact⟨_,a₁,w₁,Z,A⟩
   | panic ch=>exact⟨_,a₁,w₁,Z,A⟩
   | outgrown=>exact⟨_,a₁,w₁,Z,A⟩
 obtain⟨e,a₁,w₁,Z,A⟩:=first b (.inScope c::k) f
 cases e with
 | normal=>exact⟨.normal,a₁,w₁,Z,.head step_scope (Steps.trans A (.one step_inScope))⟩
 | exit id=>exact⟨.exit id,a₁,w₁,Z,fun I G=>.head step_scope (A I (by simp[exitTo,G]))⟩
 | goto B =>
  have Y:J B a₁ w₁:=Z;have C:gotoIn B (.inScope c::k)=some (.code (rest B)::.inScope c::k):=(by simp[gotoIn,X B _ _ Y]);obtain⟨e₂,a₂,w₂,Z₂,A₂⟩:=S _ B a₁ w₁ rfl Y;exact⟨e₂,a₂,w₂,Z₂,.of_steps (.head step_scope (A _ C)) A₂⟩
 | ret=>exact W0c
 | panic ch=>exact W0c
 | outgrown=>exact W0c
theorem x2R{P a w Q}{c}(J:Nat->Act->World->Prop)(m:Nat->Act->World->Nat)(X:∀l a w,J l a w->(findLabel c l).isSome=true)
  (first:c.wp P (z2j J Q) a w)
  (F:∀l a w,J l a w->((findLabel c l).getD .skip).wp P (z2j (fun B T w'=>J B T w'/\m B T w'<m l a w) Q) a w):(Code.scope c).wp P Q a w :=
 x7r (fun l=>(findLabel c l).getD .skip) J m (fun l a w h=>by
  have D:=X l a w h
  cases hq:findLabel c l with
  | none=>rw[hq]at D;cases D
  | some q=>rfl) first F
open Go.RowKit
theorem y1a l n(h:l.length=n):l=(List.range n).map (fun i=>l.getD i undef):=by
 apply List.ext_getElem
 ·simp[h]
 ·grind
def F0(s:ByteArray)(v:Value)(k b:Nat)(a:Act):Prop:=a.defers=[]/\a.tmps.size=79/\a.tmps.getD 0 undef=v/\a.tmps.getD 1 undef=.string s/\a.tmps.getD 4 undef=.slice none 0 0/\a.tmps.getD 5 undef=.int .i64 0/\a.tmps.getD 6 undef=.int .i64 (k:Int)/\a.tmps.getD 15 undef=.pointer (some ⟨b,0,none⟩)
theorem F0.open{s v k b a}(h:F0 s v k b a):∃U:Nat->Value,a=({ tmps:=#[v,.string s,U 2,U 3,.slice none 0 0,.int .i64 0,.int .i64 (k:Int),U 7,U 8,U 9,U 10,U 11,U 12,U 13,U 14,.pointer (some ⟨b,0,none⟩),U 16,U 17,U 18,U 19,U 20,U 21,U 22,U 23,U 24,U 25,U 26,U 27,U 28,U 29,U 30,U 31,U 32,U 33,U 34,U 35,U 36,U 37,U 38,U 39,U 40,U 41,U 42,U 43,U 44,U 45,U 46,U 47,U 48,U 49,U 50,U 51,U 52,U 53,U 54,U 55,U 56,U 57,U 58,U 59,U 60,U 61,U 62,U 63,U 64,U 65,U 66,U 67,U 68,U 69,U 70,U 71,U 72,U 73,U 74,U 75,U 76,U 77,U 78],defers:=[] }:Act):=by
 obtain⟨t,E⟩:=a;obtain⟨Z,D,n,C,N,c,R,F⟩:=h;refine⟨fun i=>t.getD i undef,?_⟩;simp only at Z D n C N c R F;subst Z;congr 1;rw[<- n,<- C,<- N,<- c,<- R,<- F];exact g6w
def F1(s:ByteArray)(v:Value)(k b:Nat)(kk vl wt:Int)(a:Act):Prop:=a.defers=[]/\a.tmps.size=79/\a.tmps.getD 0 undef=v/\a.tmps.getD 1 undef=.string s/\a.tmps.getD 4 undef=.slice none 0 0/\a.tmps.getD 5 undef=.int .i64 0/\a.tmps.getD 6 undef=.int .i64 (k:Int)/\a.tmps.getD 15 undef=.pointer (some ⟨b,0,none⟩)/\a.tmps.getD 8 undef=.int .i64 kk/\a.tmps.getD 10 undef=.int .i64 vl/\a.tmps.getD 11 undef=.int .i64 wt
theorem F1.open{s v k b kk vl wt}{a}(h:F1 s v k b kk vl wt a):∃U:Nat->Value,a=({ tmps:=#[v,.string s,U 2,U 3,.slice none 0 0,.int .i64 0,.int .i64 (k:Int),U 7,.int .i64 kk,U 9,.int .i64 vl,.int .i64 wt,U 12,U 13,U 14,.pointer (some ⟨b,0,none⟩),U 16,U 17,U 18,U 19,U 20,U 21,U 22,U 23,U 24,U 25,U 26,U 27,U 28,U 29,U 30,U 31,U 32,U 33,U 34,U 35,U 36,U 37,U 38,U 39,U 40,U 41,U 42,U 43,U 44,U 45,U 46,U 47,U 48,U 49,U 50,U 51,U 52,U 53,U 54,U 55,U 56,U 57,U 58,U 59,U 60,U 61,U 62,U 63,U 64,U 65,U 66,U 67,U 68,U 69,U 70,U 71,U 72,U 73,U 74,U 75,U 76,U 77,U 78],defers:=[] }:Act):=by
 obtain⟨t,E⟩:=a;obtain⟨Z,D,n,C,N,c,R,F,K,A,B⟩:=h;refine⟨fun i=>t.getD i undef,?_⟩;simp only at Z D n C N c R F K A B;subst Z;congr 1;rw[<- n,<- C,<- N,<- c,<- R,<- F,<- K,<- A,<- B];exact g6w
structure Rm(X0:Nat)(B b:Nat)(w0:World)(k:Nat)(st:Pu.St)(v:Value)(wr:World):Prop where
 row:Ok .i32 21 wr B v st.xs
 state:StAt wr b (st.xs.length:Int) st.n st.i st.bias st.first
 bel:Below B w0 wr
 hB:B<=b
 lt:b<wr.heap.size
 ne:v.ownBlock≠some b
 len:st.xs.length<=X0+k
 n:0<=st.n/\st.n<=1114111
 i:0<=st.i/\st.i<=st.xs.length
 bias:0<=st.bias/\st.bias<=468
def x0W(B:Nat)(w:World)(r:List Int×Int)(e:Ending)(w':World):Prop :=
 (∃v,e=.returned (.tuple #[v,.int .i64 0])/\r=(r.1,0)/\Ok .i32 21 w' B v r.1/\Below B w w')\/(r.1=[]/\r.2≠0/\e=.returned (.tuple #[.slice none 0 0,.int .i64 r.2])/\Below B w w')
theorem x0W.no{B w w' r c}(h:r=([],c))(I:c≠0)(Y:Below B w w'):x0W B w r (.returned (.tuple #[.slice none 0 0,.int .i64 c])) w':=by
 subst h;exact .inr ⟨rfl,I,rfl,Y⟩
theorem x0W.yes{B w w' r v}{xs}(h:r=(xs,0))(N:Ok .i32 21 w' B v xs)(Y:Below B w w'):x0W B w r (.returned (.tuple #[v,.int .i64 0])) w':=by
 subst h;exact .inl ⟨v,rfl,rfl,N,Y⟩
def Jq(X0 B b:Nat)(s:ByteArray)(zs:List Int)(r:List Int×Int)(w:World):Nat->Act->World->Prop
 | 0,a,wr=>∃(k:Nat) (st:Pu.St) (v:Value),F0 s v k b a/\k<=s.size/\Rm X0 B b w k st v wr/\r=Pu.rdW (zs.drop k) st
 | 1,a,wr=>∃(k:Nat) (st:Pu.St) (v:Value) (kk vl wt:Int),F1 s v k b kk vl wt a/\k<=s.size/\Rm X0 B b w k st v wr/\(1<=kk/\kk<=k+1)/\(0<=vl/\vl<=75161927680*k)/\(1<=wt/\wt<=2147483648)/\r=Pu.after st (Pu.rdN st.bias (zs.drop k) kk vl wt)
 | 2,a,wr=>∃(k:Nat) (st:Pu.St) (v:Value) (kk vl wt:Int),F1 s v k b kk vl wt a/\k<=s.size/\1<=k/\Rm X0 B b w (k-1) st v wr/\(0<=vl/\vl<=75161927680*k)/\r=Pu.after st (0,vl,zs.drop k)
 | _,_,_=>False
theorem Rm.later{X0 B b w0 k k'}{M:Pu.St}{v wr}(h:Rm X0 B b w0 k M v wr)(G:k<=k'):Rm X0 B b w0 k' M v wr :=
 { h with len:=by have:=h.len;exact f6J }
theorem x3w{K e w w' B}{v zs row}(h:Ok K e w B v zs)(C:w.grownBy w' row)(F:v.ownBlock=none\/v.ownBlock≠row):Ok K e w' B v zs:=⟨h.1,h.2.1,h.2.2.kept C F⟩
theorem x5Y{K e w B}{v zs}(h:Ok K e w B v zs) o:Ok K e (w.alloc o) B v zs:=⟨h.1,h.2.1,h.2.2.alloc o⟩
theorem x0t(w:World) o:(w.alloc o).heap.size=w.heap.size+1:=f0h
theorem Rm.step{X0 B b w0 k}{M:Pu.St}{v wr wq w2 d e}(h:Rm X0 B b w0 (k-1) M v wr)(G:1<=k)
  (hd:0<=d/\d<=2147483647) (X:Utf.okc (Pu.stepN M d)) (m:StAt wq b ((M.xs.length:Int)+1) (Pu.stepN M d) (Pu.stepP M d+1) (Pu.adapt d ((M.xs.length:Int)+1) M.first) false) (C:wr.grownBy wq (some b)) (q:wq.heap.size=wr.heap.size)
  (hi:x3M B v (wq.alloc (.cells #[.int .i32 (Pu.stepN M d)] 21)) (Pu.ins M.xs (Pu.stepP M d).toNat (Pu.stepN M d)) e w2):∃v',e=.returned v'/\Rm X0 B b w0 k (Pu.step M d) v' w2:=by
 obtain⟨v',rfl,A,E,R⟩:=hi;have s:(Pu.step M d).xs.length=M.xs.length+1:=x2C _ _ _;have Q:0<=Pu.stepP M d:=Int.emod_nonneg _ f6J;have F:Pu.stepP M d<(M.xs.length:Int)+1:=Int.emod_lt_of_pos _ f6J;have U:=x0t wq (.cells #[.int .i32 (Pu.stepN M d)] 21);have H:∀g,v.ownBlock=some g->B<=g/\g<wr.heap.size:=fun g a=>h.row.row.lt g a;refine⟨v',rfl,⟨A,?_,?_,h.hB,?_,?_,?_,?_,?_,?_⟩⟩
 ·rw[s];show StAt w2 b ((M.xs.length+1:Nat):Int) (Pu.stepN M d) (Pu.stepP M d+1) (Pu.adapt d ((M.xs.length:Int)+1) M.first) false;rw[(f6J:((M.xs.length+1:Nat):Int)=(M.xs.length:Int)+1)];unfold StAt at m ⊢;rw[E.block b (by have:=h.lt;exact f6J) (fun a=>h.ne a.symm),heap_alloc_old _ _ (by have:=h.lt;exact f6J)];exact m
 ·have Z:=h.bel.grown C s5e (fun g a=>by simp at a;have:=h.hB;exact f6J);have D:=Z.alloc s5e (.cells #[.int .i32 (Pu.stepN M d)] 21);exact D.grown E s5e (fun g a=>(H g a).1)
 ·have:=E.size;have:=h.lt;omega
 ·intro a;rcases R b a with h3|h3
  ·exact h.ne h3
  ·have:=h.lt;omega
 ·rw[s];have:=h.len;omega
 ·show 0<=Pu.stepN M d/\Pu.stepN M d<=1114111;rcases X with h3|h3<;>omega
 ·rw[s];show 0<=Pu.stepP M d+1/\Pu.stepP M d+1<=((M.xs.length+1:Nat):Int);omega
 ·exact Pu.x2W d _ M.first f6J
theorem Rm.ins{X0 B b w0 k}{M:Pu.St}{v wr wq d}(h:Rm X0 B b w0 (k-1) M v wr)(D:X0+k<=1000000)(X:Utf.okc (Pu.stepN M d))(C:wr.grownBy wq (some b))(q:wq.heap.size=wr.heap.size)(p:Nat)(L:Pu.stepP M d=p) :
  Calls prog 203 #[v,.int .i64 p,.slice (some ⟨wq.heap.size,0,none⟩) 1 1] (wq.alloc (.cells #[.int .i32 (Pu.stepN M d)] 21)) (x3M B v (wq.alloc (.cells #[.int .i32 (Pu.stepN M d)] 21)) (Pu.ins M.xs (Pu.stepP M d).toNat (Pu.stepN M d))):=by
 have F:Pu.stepP M d<(M.xs.length:Int)+1:=Int.emod_lt_of_pos _ f6J;have U:=x0t wq (.cells #[.int .i32 (Pu.stepN M d)] 21);have S:=h.len;have:=h.lt;have:=h.hB;rw[(f6J:(Pu.stepP M d).toNat=p)];refine y5u B v M.xs p (Pu.stepN M d) _ wq.heap.size (x5Y (x3w h.row C (.inr h.ne)) _) f6J f6J f6J (heap_alloc_new wq _) (fun a=>?_) (by rcases X with h3|h3<;>omega);have:=(h.row.row.lt _ a).2;omega
def pmes(N l:Nat)(a:Act):Nat:=2*(N-(intOf (a.tmps.getD 6 undef)).toNat)+(if l=2 then 1 else 0)
theorem x4W{N l X k k2:Nat}{a a2}(h:a.tmps.getD 6 undef=.int .i64 (k:Int))(D:a2.tmps.getD 6 undef=.int .i64 (k2:Int))(z:2*(N-k2)+(if X=2 then 1 else 0)<2*(N-k)+(if l=2 then 1 else 0)):pmes N X a2<pmes N l a:=by
 unfold pmes;rw[h,D];exact z
theorem x7s{d wt:Int}(A:0<=d/\d<=35)(Z:1<=wt/\wt<=2147483648):0<=d*wt/\d*wt<=75161927680:=by
 refine⟨Int.mul_nonneg A.1 f6J,?_⟩
 calc d*wt<=35*wt:=Int.mul_le_mul_of_nonneg_right A.2 f6J
  _<=75161927680:=f6J
theorem y3i{t wt:Int}(A:1<=t/\t<=26)(Z:1<=wt/\wt<=2147483648):1<=wt*(36-t)/\wt*(36-t)<=75161927680:=by
 constructor
 ·calc 1<=wt:=Z.1
   _=wt*1:=f6J
   _<=wt*(36-t):=Int.mul_le_mul_of_nonneg_left f6J f6J
 ·calc wt*(36-t)<=wt*35:=Int.mul_le_mul_of_nonneg_left f6J f6J
   _<=75161927680:=f6J
theorem y7O{zs:List Int}{k}(G:k<zs.length):zs.drop k=zs.getD k 0::zs.drop (k+1):=x0R G
theorem z8N{c}(h:Utf.okc c):okb c=true:=d0t h
theorem z8O{c}(h:¬Utf.okc c):okb c=false:=d0f h
theorem y9J B v0 xs0 s w(aD:Ok .i32 21 w B v0 xs0)(hB:B<=w.heap.size)(hs:xs0.length+s.size<=100000) :
  Calls prog 154 #[v0,.string s] w (x0W B w (Pu.rdW (nums s) (Pu.begin xs0))):=by
 have aM:=nums_length s;have Q:Pu.rdW (nums s) (Pu.begin xs0)=Pu.rdW ((nums s).drop 0) (Pu.begin xs0):=(by rw[List.drop_zero]);generalize Pu.rdW (nums s) (Pu.begin xs0)=r at *;have ay:=O (x0w s);have aj:=O (x2t s);obtain⟨y,aQ⟩:∃y,nums s=y:=⟨_,rfl⟩;rw[aQ]at aM Q ay aj;have F:=O Q;clear Q aQ;obtain⟨X0,aI⟩:∃X0,X0=xs0.length:=⟨_,rfl⟩;have f:=O aI;have x:=O aD;obtain⟨ao,aG,aN,ba,be⟩:=aD.sk.shape;have aS:=O aN
 have az:Hid (∀k,k<y.length->0<=y.getD k 0/\y.getD k 0<=255):=fun k hk=>by
  rw[List.getD,List.getElem?_eq_getElem hk];exact V ay _ (List.getElem_mem hk)
 subst aN;clear aD aI aS ay;have R:=O (y0b (xs0.length:Int) w);go_enter func154,ntmps154;go_wp2;refine x2R (fun l a wr=>∃b,w.heap.size<=b/\Jq X0 B b s y r w l a wr) (fun l a _=>pmes s.size l a) ?hf ?first ?pass
 case hf =>
  rintro l a wr ⟨b,I,h⟩
  match l,h with
  | 0,_=>rfl
  | 1,_=>rfl
  | 2,_=>rfl
  | (l+3),h=>exact h.elim
 case first =>
  go_wp2_with fail;refine c0m R fun G ag=>?_
  have C:Rm X0 B G.heap.size w 0 (Pu.begin xs0) (.slice ao xs0.length aG) (G.alloc (.cells #[.int .i64 (xs0.length:Int),.int .i64 128,.int .i64 0,.int .i64 72,.bool true] 278)):=by
   have hv:=V x;have hx:=V f;have bm:=ag.size;refine⟨x5Y (hv.below ag) _,heap_alloc_new G _,(ag.mono hB).alloc f6J _,f6J,by rw[x0t];exact f6J,fun hh=>?_,by show xs0.length<=X0+0;exact f6J,by show(0:Int)<=128/\(128:Int)<=1114111;exact f6J,by show(0:Int)<=0/\(0:Int)<=(xs0.length:Int);exact f6J,by show(0:Int)<=72/\(72:Int)<=468;exact f6J⟩;have:=(hv.row.lt _ hh).2;omega
  have u:r=Pu.rdW (y.drop 0) (Pu.begin xs0):=V F;have I:w.heap.size<=G.heap.size:=ag.size;obtain⟨b,aK⟩:∃b,b=G.heap.size:=⟨_,rfl⟩;obtain⟨wr,aP⟩:∃wr,G.alloc (.cells #[.int .i64 (xs0.length:Int),.int .i64 128,.int .i64 0,.int .i64 72,.bool true] 278)=wr:=⟨_,rfl⟩;rw[aP]at C;go_wp2;go_step3;rw[<- aK]at C I ⊢;clear aP aK ag G;obtain⟨M,m⟩:∃M,Pu.begin xs0=M:=⟨_,rfl⟩;rw[m]at C u;clear m;generalize Value.slice ao xs0.length aG=v at *;obtain⟨D,A,P,aB,aF,ne,len,hn,hi,K⟩:=id C;obtain⟨c0,c1,c2,c3,c4,f0,f1,f2,f3,f4⟩:=A.cells;by_cases H:0<y.length
  ·have aJ:=V aj (0:Int) 0 rfl f6J;have ab:=V az 0 H;have aq:=Pu.y7L (y.getD 0 0);have ai:((0:Int)==(s.size:Int))=false:=P8P;have S:=fun W=>O (x3O (y.getD 0 0) W ab.1 ab.2);have Y:=fun W=>O (x2M 1 M.bias W f6J f6J);have ae:=Pu.x1S 1 M.bias;have HR:=O (u.trans ((Pu.y9U W8Y M).trans (by rw[y7O H])));by_cases hd:Pu.dig (y.getD 0 0)<0
   ·have L:=O ((V HR).trans ((congrArg (Pu.after M) (Pu.y2K hd)).trans (Pu.x4c f6J)));have Z:=O P;clear HR u C D A Y ae P F x R f;generalize Pu.dig (y.getD 0 0)=d at *;generalize y.getD 0 0=z at *;go_wp2;go_step3;exact W6U
   ·have aL:=x7s (d:=Pu.dig (y.getD 0 0)) (wt:=1) f6J f6J;by_cases ht:Pu.dig (y.getD 0 0)<Pu.thr 1 M.bias
    ·have L:=O ((V HR).trans p8S);have HM:=O C;clear HR u C D A P F x R f;generalize hdg:Pu.dig (y.getD 0 0)=d at *;generalize y.getD 0 0=z at *;clear hdg;generalize Pu.thr 1 M.bias=t at *;go_wp2;go_step3;go_wp2_with fail;refine(V (S _)).mono ?_;rintro e G ⟨⟨j,_⟩|⟨_,rfl⟩,rfl⟩
     ·omega
     ·clear S;go_wp2_with(go_at_call 201;refine(V (Y _)).mono ?_;rintro e G ⟨rfl,rfl⟩;clear Y);go_step3;show ∃b,w.heap.size<=b/\Jq X0 B b s y r w 2 _ _;exact⟨b,I,⟨0+1,M,_,1,0+d*1,1,⟨rfl,rfl,rfl,rfl,rfl,rfl,g2A,rfl,rfl,U4D,rfl⟩,f6J,f6J,(V HM).later f6J,f6J,V L⟩⟩
    ·have L:=O ((V HR).trans i7e);have HM:=O C;have aO:=y3i (t:=Pu.thr 1 M.bias) (wt:=1) ae f6J;clear HR u C D A P F x R f;generalize hdg:Pu.dig (y.getD 0 0)=d at *;generalize y.getD 0 0=z at *;clear hdg;rw[if_neg f6J]at L;generalize Pu.thr 1 M.bias=t at *;go_wp2;go_step3;go_wp2_with fail;refine(V (S _)).mono ?_;rintro e G ⟨⟨j,_⟩|⟨_,rfl⟩,rfl⟩
     ·omega
     ·clear S;go_wp2_with(go_at_call 201;refine(V (Y _)).mono ?_;rintro e G ⟨rfl,rfl⟩;clear Y);go_step3;show ∃b,w.heap.size<=b/\Jq X0 B b s y r w 1 _ _;exact⟨b,I,⟨0+1,M,_,1+1,0+d*1,1*(36-t),⟨rfl,rfl,rfl,rfl,rfl,rfl,g2A,rfl,U6w,U4D,U4D⟩,f6J,(V HM).later f6J,f6J,f6J,f6J,V L⟩⟩
  ·have aU:0=y.length:=f6J;have L:=O (u.trans ((congrArg (fun q=>Pu.rdW q M) (List.drop_eq_nil_of_le f6J)).trans (Pu.y9T M)));have am:=O D;have Z:=O P;have ai:((0:Int)==(s.size:Int))=true:=P8P;exact M6J
 case pass =>
  rintro l a wr ⟨b,I,h⟩
  match l,h with
  | (l+3),h=>exact h.elim
  | 0,h =>
   obtain⟨k,M,v,hF,aC,C,u⟩:=h;obtain⟨U,rfl⟩:=hF.open;clear hF
   conv=>arg 2;whnf
   obtain⟨D,A,P,aB,aF,ne,len,hn,hi,K⟩:=id C;obtain⟨c0,c1,c2,c3,c4,f0,f1,f2,f3,f4⟩:=A.cells;by_cases H:k<y.length
   ·have aJ:=V aj (k:Int) k rfl f6J;have ab:=V az k H;have aq:=Pu.y7L (y.getD k 0);have ai:((k:Int)==(s.size:Int))=false:=P8P;have S:=fun W=>O (x3O (y.getD k 0) W ab.1 ab.2);have Y:=fun W=>O (x2M 1 M.bias W f6J f6J);have ae:=Pu.x1S 1 M.bias;have HR:=O (u.trans ((Pu.y9U W8Y M).trans (by rw[y7O H])));by_cases hd:Pu.dig (y.getD k 0)<0
    ·have L:=O ((V HR).trans ((congrArg (Pu.after M) (Pu.y2K hd)).trans (Pu.x4c f6J)));have Z:=O P;clear HR u C D A Y ae P F x R f;generalize Pu.dig (y.getD k 0)=d at *;generalize y.getD k 0=z at *;go_wp2;go_step3;exact W6U
    ·have aL:=x7s (d:=Pu.dig (y.getD k 0)) (wt:=1) f6J f6J;by_cases ht:Pu.dig (y.getD k 0)<Pu.thr 1 M.bias
     ·have L:=O ((V HR).trans p8S);have HM:=O C;clear HR u C D A P F x R f;generalize hdg:Pu.dig (y.getD k 0)=d at *;generalize y.getD k 0=z at *;clear hdg;generalize Pu.thr 1 M.bias=t at *;go_wp2;go_step3;go_wp2_with fail;refine(V (S _)).mono ?_;rintro e G ⟨⟨j,_⟩|⟨_,rfl⟩,rfl⟩
      ·omega
      ·clear S;go_wp2_with(go_at_call 201;refine(V (Y _)).mono ?_;rintro e G ⟨rfl,rfl⟩;clear Y);go_step3;show(∃b,w.heap.size<=b/\Jq X0 B b s y r w 2 _ _)/\_;exact⟨⟨b,I,⟨k+1,M,_,1,0+d*1,1,⟨rfl,rfl,rfl,rfl,rfl,rfl,g2A,rfl,rfl,U4D,rfl⟩,f6J,f6J,(V HM).later f6J,f6J,V L⟩⟩,x4W (k:=k) (k2:=k+1) rfl g2A V9D⟩
     ·have L:=O ((V HR).trans i7e);have HM:=O C;have aO:=y3i (t:=Pu.thr 1 M.bias) (wt:=1) ae f6J;clear HR u C D A P F x R f;generalize hdg:Pu.dig (y.getD k 0)=d at *;generalize y.getD k 0=z at *;clear hdg;rw[if_neg f6J]at L;generalize Pu.thr 1 M.bias=t at *;go_wp2;go_step3;go_wp2_with fail;refine(V (S _)).mono ?_;rintro e G ⟨⟨j,_⟩|⟨_,rfl⟩,rfl⟩
      ·omega
      ·clear S;go_wp2_with(go_at_call 201;refine(V (Y _)).mono ?_;rintro e G ⟨rfl,rfl⟩;clear Y);go_step3;show(∃b,w.heap.size<=b/\Jq X0 B b s y r w 1 _ _)/\_;exact⟨⟨b,I,⟨k+1,M,_,1+1,0+d*1,1*(36-t),⟨rfl,rfl,rfl,rfl,rfl,rfl,g2A,rfl,U6w,U4D,U4D⟩,f6J,(V HM).later f6J,f6J,f6J,f6J,V L⟩⟩,x4W (k:=k) (k2:=k+1) rfl g2A V9D⟩
   ·have aU:k=y.length:=f6J;have L:=O (u.trans ((congrArg (fun q=>Pu.rdW q M) (List.drop_eq_nil_of_le f6J)).trans (Pu.y9T M)));have am:=O D;have Z:=O P;have ai:((k:Int)==(s.size:Int))=true:=P8P;exact M6J
  | 1,h =>
   obtain⟨k,M,v,kk,vl,wt,hF,aC,C,bh,aY,bn,u⟩:=h;obtain⟨U,rfl⟩:=hF.open;clear hF
   conv=>arg 2;whnf
   obtain⟨D,A,P,aB,aF,ne,len,hn,hi,K⟩:=id C;obtain⟨c0,c1,c2,c3,c4,f0,f1,f2,f3,f4⟩:=A.cells;by_cases H:k<y.length
   ·have aJ:=V aj (k:Int) k rfl f6J;have ab:=V az k H;have aq:=Pu.y7L (y.getD k 0);have ai:((k:Int)==(s.size:Int))=false:=P8P;have S:=fun W=>O (x3O (y.getD k 0) W ab.1 ab.2);have Y:=fun W=>O (x2M kk M.bias W f6J f6J);have ae:=Pu.x1S kk M.bias;have HR:=O (u.trans (by rw[y7O H]));by_cases hd:Pu.dig (y.getD k 0)<0
    ·have L:=O ((V HR).trans ((congrArg (Pu.after M) (Pu.y2K hd)).trans (Pu.x4c f6J)));have Z:=O P;clear HR u C D A Y ae P F x R f;generalize Pu.dig (y.getD k 0)=d at *;generalize y.getD k 0=z at *;exact W6U
    ·have aL:=x7s (d:=Pu.dig (y.getD k 0)) (wt:=wt) f6J f6J;by_cases ht:Pu.dig (y.getD k 0)<Pu.thr kk M.bias
     ·have L:=O ((V HR).trans p8S);have HM:=O C;clear HR u C D A P F x R f;generalize hdg:Pu.dig (y.getD k 0)=d at *;generalize y.getD k 0=z at *;clear hdg;generalize Pu.thr kk M.bias=t at *;go_wp2_with fail;refine(V (S _)).mono ?_;rintro e G ⟨⟨j,_⟩|⟨_,rfl⟩,rfl⟩
      ·omega
      ·clear S;go_wp2_with(go_at_call 201;refine(V (Y _)).mono ?_;rintro e G ⟨rfl,rfl⟩;clear Y);go_step3;show(∃b,w.heap.size<=b/\Jq X0 B b s y r w 2 _ _)/\_;exact⟨⟨b,I,⟨k+1,M,_,kk,vl+d*wt,wt,⟨rfl,rfl,rfl,rfl,rfl,rfl,g2A,rfl,rfl,U4D,rfl⟩,f6J,f6J,(V HM).later f6J,f6J,V L⟩⟩,x4W (k:=k) (k2:=k+1) rfl g2A V9D⟩
     ·have L:=O ((V HR).trans i7e);have HM:=O C;have aO:=y3i (t:=Pu.thr kk M.bias) (wt:=wt) ae f6J;clear HR u C D A P F x R f;generalize hdg:Pu.dig (y.getD k 0)=d at *;generalize y.getD k 0=z at *;clear hdg;by_cases ar:2147483648<wt*(36-Pu.thr kk M.bias)
      ·rw[if_pos ar]at L;generalize Pu.thr kk M.bias=t at *;go_wp2_with fail;refine(V (S _)).mono ?_;rintro e G ⟨⟨j,_⟩|⟨_,rfl⟩,rfl⟩
       ·omega
       ·clear S;go_wp2_with(go_at_call 201;refine(V (Y _)).mono ?_;rintro e G ⟨rfl,rfl⟩;clear Y);go_step3;show(∃b,w.heap.size<=b/\Jq X0 B b s y r w 1 _ _)/\_;exact⟨⟨b,I,⟨k+1,M,_,kk+1,vl+d*wt,2147483648,⟨rfl,rfl,rfl,rfl,rfl,rfl,g2A,rfl,U6w,U4D,U4D⟩,f6J,(V HM).later f6J,f6J,f6J,f6J,V L⟩⟩,x4W (k:=k) (k2:=k+1) rfl g2A V9D⟩
      ·rw[if_neg ar]at L;generalize Pu.thr kk M.bias=t at *;go_wp2_with fail;refine(V (S _)).mono ?_;rintro e G ⟨⟨j,_⟩|⟨_,rfl⟩,rfl⟩
       ·omega
       ·clear S;go_wp2_with(go_at_call 201;refine(V (Y _)).mono ?_;rintro e G ⟨rfl,rfl⟩;clear Y);go_step3;show(∃b,w.heap.size<=b/\Jq X0 B b s y r w 1 _ _)/\_;exact⟨⟨b,I,⟨k+1,M,_,kk+1,vl+d*wt,wt*(36-t),⟨rfl,rfl,rfl,rfl,rfl,rfl,g2A,rfl,U6w,U4D,U4D⟩,f6J,(V HM).later f6J,f6J,f6J,f6J,V L⟩⟩,x4W (k:=k) (k2:=k+1) rfl g2A V9D⟩
   ·have L:=O (u.trans ((congrArg (Pu.after M) ((congrArg (fun q=>Pu.rdN M.bias q kk vl wt) (List.drop_eq_nil_of_le f6J)).trans (Pu.z6A _ _ _ _))).trans (Pu.x4c f6J)));have Z:=O P;have ai:((k:Int)==(s.size:Int))=true:=P8P;clear u C D A P F x R f;exact F2k
  | 2,h =>
   obtain⟨k,M,v,kk,vl,wt,hF,aC,aT,C,aY,u⟩:=h;obtain⟨U,rfl⟩:=hF.open;clear hF
   conv=>arg 2;whnf
   obtain⟨D,A,P,aB,aF,ne,len,hn,hi,K⟩:=id C;have bp:=V f;by_cases o:2147483647<vl
   ·have L:=O (u.trans (Pu.y4C o));have Z:=O P;clear u C D A P F x R f;exact F2k
   ·have c:=O (x9O b M.xs.length M.n M.i M.bias vl M.first wr A f6J f6J f6J f6J);have hN:Pu.stepN M vl=M.n+(M.i+vl) / (M.xs.length+1):=rfl;have hP:Pu.stepP M vl=(M.i+vl)%(M.xs.length+1):=rfl;rw[<- hN,<- hP]at c;have aV:0<=(M.i+vl) / ((M.xs.length:Int)+1):=Int.ediv_nonneg f6J f6J;have aW:(M.i+vl) / ((M.xs.length:Int)+1)<=M.i+vl:=Int.ediv_le_self _ f6J;have Q:0<=(M.i+vl)%((M.xs.length:Int)+1):=Int.emod_nonneg _ f6J;have aX:(M.i+vl)%((M.xs.length:Int)+1)<(M.xs.length:Int)+1:=Int.emod_lt_of_pos _ f6J;have aM:0<=Pu.stepN M vl/\Pu.stepN M vl<=9000000000:=(by rw[hN];exact f6J);have bj:0<=Pu.stepP M vl/\Pu.stepP M vl<=M.xs.length:=(by rw[hP];exact f6J);clear hN hP aV aW Q aX;by_cases aZ:1114111<Pu.stepN M vl
    ·have L:=O (u.trans (Pu.x9Y o (by unfold Utf.okc;exact f6J)));have Z:=O P;have am:=O D;clear u C D A P F x R f;generalize Pu.stepN M vl=nn,Pu.stepP M vl=pp,Pu.adapt vl ((M.xs.length:Int)+1) M.first=ad at *;go_wp2_with fail;refine(V c).mono ?_;rintro e G ⟨rfl,J,E,af⟩;clear c;have aw:=O ((V Z).grown E f6J (fun g hg=>by simp at hg;exact f6J));clear J E af Z;go_wp2;go_ret2;exact x0W.no (V L) f6J (V aw)
    ·have HV:=fun W=>O (x8z (Pu.stepN M vl) W f6J);by_cases X:Utf.okc (Pu.stepN M vl)
     ·rw[z8N X]at HV;have L:=O (u.trans (Pu.z1h o X));obtain⟨p,hp⟩:∃p:Nat,Pu.stepP M vl=p:=⟨(Pu.stepP M vl).toNat,f6J⟩
      have T:Hid (∀G e w2,StAt G b ((M.xs.length:Int)+1) (Pu.stepN M vl) (Pu.stepP M vl+1) (Pu.adapt vl ((M.xs.length:Int)+1) M.first) false->wr.grownBy G (some b)->G.heap.size=wr.heap.size ->
        x3M B v (G.alloc (.cells #[.int .i32 (Pu.stepN M vl)] 21)) (Pu.ins M.xs (Pu.stepP M vl).toNat (Pu.stepN M vl)) e w2->∃v',e=.returned v'/\Rm X0 B b w k (Pu.step M vl) v' w2) :=
       fun G e w2 h1 h2 h3 h4=>C.step aT f6J X h1 h2 h3 h4
      have aA:Hid (∀G,wr.grownBy G (some b)->G.heap.size=wr.heap.size->Calls prog 203 #[v,.int .i64 p,.slice (some ⟨G.heap.size,0,none⟩) 1 1] (G.alloc (.cells #[.int .i32 (Pu.stepN M vl)] 21)) (x3M B v (G.alloc (.cells #[.int .i32 (Pu.stepN M vl)] 21)) (Pu.ins M.xs (Pu.stepP M vl).toNat (Pu.stepN M vl)))) :=
       fun G h1 h2=>C.ins f6J X h1 h2 p hp
      clear u C D A P F x R f X len;rw[hp]at c T aA;generalize Pu.ins M.xs ((p:Int)).toNat (Pu.stepN M vl)=ys at *;clear hp;generalize Pu.stepN M vl=nn,Pu.adapt vl ((M.xs.length:Int)+1) M.first=ad at *;go_wp2_with fail;refine(V c).mono ?_;rintro e G ⟨rfl,J,E,af⟩;clear c;have HI:=O (V aA G E af);have HQ:=O (fun e w2=>V T G e w2 J E af);clear J E af aA T;go_wp2_with(go_at_call 60;refine(V (HV _)).mono ?_;rintro e wx ⟨rfl,rfl⟩;clear HV);refine(V HI).mono ?_;intro e w2 N;obtain⟨v',rfl,aH⟩:=V HQ e w2 N;have aR:=O aH;clear N aH HI HQ;go_wp2;go_step3;show(∃b,w.heap.size<=b/\Jq X0 B b s y r w 0 _ _)/\_;exact⟨⟨b,I,k,_,v',⟨rfl,rfl,rfl,rfl,rfl,rfl,rfl,rfl⟩,aC,V aR,V L⟩,x4W (k:=k) (k2:=k) rfl rfl (by simp)⟩
     ·have L:=O (u.trans (Pu.x9Y o X));rw[z8O X]at HV;have Z:=O P;clear u C D A P F x R f X;generalize Pu.stepN M vl=nn,Pu.stepP M vl=pp,Pu.adapt vl ((M.xs.length:Int)+1) M.first=ad at *;go_wp2_with fail;refine(V c).mono ?_;rintro e G ⟨rfl,J,E,af⟩;clear c;have aw:=O ((V Z).grown E f6J (fun g hg=>by simp at hg;exact f6J));clear J E af Z;go_wp2_with(go_at_call 60;refine(V (HV _)).mono ?_;rintro e wx ⟨rfl,rfl⟩;clear HV);go_ret2;exact x0W.no (V L) f6J (V aw)
theorem x4v(s:ByteArray)(h:∀j,j<s.size->(s.get! j).toNat<128):∀(f i:Nat) (acc:Array Value),s.size<=i+f->i<=s.size ->
  (Conv.runesFrom s f i acc).toList=acc.toList++(((nums s).drop i).map (Value.int .i32))
 | 0,i,acc,h1,h2=>by
  rw[Conv.runesFrom,List.drop_eq_nil_of_le u3e];simp
 | f+1,i,acc,h1,h2=>by
  rw[Conv.runesFrom];by_cases hi:i<s.size
  ·rw[if_pos hi]
   have hd:Utf8.decode s i=((s.get! i).toNat,1):=by
    unfold Utf8.decode;simp[h i hi]
   rw[hd];simp only;rw[x4v s h f (i+1) _ f6J f6J];rw[x0R (xs:=nums s) (k:=i) (by rw[nums_length];exact hi)];have:=x4T s i hi;simp only[Array.toList_push,List.map_cons,List.append_assoc,List.cons_append,List.nil_append];rw[<- this];have C:s.get! i=s[i]'hi:=(by simp[ByteArray.get!,ByteArray.getElem_eq_getElem_data,hi]);rw[C];rfl
  ·rw[if_neg hi,List.drop_eq_nil_of_le u3e];simp
theorem z0k s w:(convert 9 40 (.string s)).run prog w =
  .ok (.slice (some ⟨w.heap.size,0,none⟩) (Conv.runesFrom s s.size 0 #[]).size (grownCap w (Conv.runesFrom s s.size 0 #[]).size 0 21))
   (w.drew.alloc (.cells (Conv.runesFrom s s.size 0 #[]++Array.replicate (grownCap w (Conv.runesFrom s s.size 0 #[]).size 0 21-(Conv.runesFrom s s.size 0 #[]).size) (.int .i32 0)) 21)):=by
 simp[convert,run_underlying underlying9,run_underlying underlying40,run_underlying underlying21,Conv.stringToRunes,newRow,grownCap,Question.forced]
theorem x8f{zs}(h:∀j,j<zs.length->zs.getD j 0≠45) k a:Pu.x4Q zs k a=a:=by
 induction zs generalizing k a with
 | nil=>rfl
 | cons z r ih =>
  rw[Pu.x4Q,if_neg (by simpa using h 0 M7M)];exact ih (fun j K=>by have:=h (j+1) P8P;exact W2O) (k+1) a
theorem z2l{zs i}(hi:i<zs.length)(A:zs.getD i 0=45)(S:∀j,i<j->j<zs.length->zs.getD j 0≠45) k a:Pu.x4Q zs k a=k+i:=by
 induction zs generalizing i k a with
 | nil=>exact v5E
 | cons z r ih =>
  rw[Pu.x4Q]
  cases i with
  | zero =>
   rw[if_pos N6t];exact x8f (fun j K=>S2m) _ _
  | succ i =>
   rw[ih (i:=i) w3D N6t (fun j Z D=>S2m)];omega
def x3q(w:World)(zs:List Int)(e:Ending)(w':World):Prop :=
 ((e=.returned (.int .i64 (-1))/\Pu.x4Q zs 0 0=0)\/∃i:Nat,i<zs.length/\e=.returned (.int .i64 i)/\Pu.x4Q zs 0 0=i)/\w'=w
theorem x9e s w(U:s.size<=1000000000):Calls prog 250 #[.string s,.int .u8 45] w (x3q w (nums s)):=by
 have E:=nums_length s;have I:=O (x2t s)
 have J:Hid (∀k,k<(nums s).length->0<=(nums s).getD k 0/\(nums s).getD k 0<=255):=fun k G=>by
  rw[List.getD,List.getElem?_eq_getElem G];exact x0w s _ (List.getElem_mem G)
 generalize nums s=y at *;go_enter func250,ntmps250;go_wp2;go_loop [5,9,10,11,12,13,14,15,16,17,18] (fun i _ _ _ _ _ _ _ _ _ _=>∃k:Nat,i=.int .i64 ((k:Int)-1)/\k<=y.length/\∀j,k<=j->j<y.length->y.getD j 0≠45) (fun i _ _ _ _ _ _ _ _ _ _=>(intOf i+1).toNat)
 case atStart=>exact⟨y.length,by rw[E],f6J,fun j Z D=>f6J⟩
 case round =>
  obtain⟨k,rfl,G,X⟩:=hrel;have l:=O X
  cases k with
  | zero =>
   have L:Hid (x3q w y (.returned (.int .i64 (-1))) w):=⟨.inl ⟨rfl,x8f (fun j K=>V l j f6J K) _ _⟩,rfl⟩;go_wp2;go_ret;exact V L
  | succ k =>
   have N:=V I (k:Int) k rfl f6J;have S:=V J k f6J;have u:((k+1:Nat):Int)-1=(k:Int):=f6J;rw[u];by_cases o:y.getD k 0=45
   ·have L:Hid (x3q w y (.returned (.int .i64 (k:Int))) w):=⟨.inr ⟨k,f6J,rfl,by rw[z2l (i:=k) f6J o (fun j Z D=>V l j f6J D)];exact f6J⟩,rfl⟩;rw[o]at N;go_wp2;go_ret;exact V L
   ·have f:Hid (∀j,k<=j->j<y.length->y.getD j 0≠45):=fun j Z D=>by
     rcases Nat.eq_or_lt_of_le Z with h3|h3
     ·rw[<- h3];exact o
     ·exact V l j f6J D
    have F:(y.getD k 0==45)=false:=(by simpa using o);generalize y.getD k 0=z at *;go_wp2;go_round
    case rel=>exact⟨k,U6t,f6J,V f⟩
    case measure=>simp[intOf]
theorem y0F s w(U:s.size<=1000000000):Calls prog 198 #[.string s,.int .u8 45] w (x3q w (nums s)):=by
 have H:=O (x9e s w U);generalize nums s=y at *;go_enter func198,ntmps198;go_wp2_with fail;refine(V H).mono ?_;rintro e w ⟨⟨rfl,u⟩|⟨i,hi,rfl,u⟩,rfl⟩
 ·have L:Hid (x3q w y (.returned (.int .i64 (-1))) w):=⟨.inl ⟨rfl,u⟩,rfl⟩;go_wp2;go_ret;exact V L
 ·have L:Hid (x3q w y (.returned (.int .i64 (i:Int))) w):=⟨.inr ⟨i,hi,rfl,u⟩,rfl⟩;go_wp2;go_ret;exact V L
def x8B(w:World)(zs:List Int)(e:Ending)(w':World):Prop :=
 ∃a b:ByteArray,e=.returned (.tuple #[.string a,.string b])/\nums a=zs.take (Pu.x4Q zs 0 0)/\nums b=Pu.tail zs/\Below w.heap.size w w'
theorem x9v s p q:nums (s.extract p q)=((nums s).drop p).take (q-p):=by
 unfold nums;rw[ByteArray.data_extract,Array.toList_extract,List.map_drop.symm,List.map_take.symm]
theorem z5a s w(U:s.size<=1000000000):Calls prog 153 #[.string s] w (x8B w (nums s)):=by
 have H:=O (y0F s w U);have E:=nums_length s;obtain⟨y,k⟩:∃y,nums s=y:=⟨_,rfl⟩;have C:=O k;rw[k]at E H;rw[k];go_enter func153,ntmps153;go_wp2_with fail;refine(V H).mono ?_;rintro e w ⟨⟨rfl,u⟩|⟨i,hi,rfl,u⟩,rfl⟩
 ·exact W9q
 ·by_cases A:i=0
  ·subst A;exact W9q
  ·have L:Hid (∀l,Bw w l->x8B w y (.returned (.tuple #[.string (s.extract 0 i),.string (s.extract (i+1) s.size)])) l):=fun l Y =>
    ⟨_,_,rfl,by rw[u,y0S,V C],by unfold Pu.tail;rw[if_neg f6J,u,x9v,V C,List.take_of_length_le F0o],Y⟩
   go_wp2;go_region;go_wp2;go_ret2;exact V L w.drew ((b0r).drew)
theorem y4H{s}(h:Pu.basicB (nums s)=true):∀j,j<s.size->(s.get! j).toNat<128:=by
 intro j K;have S:=nums_length s;have Z:=x4T s j K
 have D:(nums s).getD j 0<128:=by
  have R:=List.all_eq_true.1 h ((nums s)[j]'f6J) (List.getElem_mem _);rw[List.getD,List.getElem?_eq_getElem f6J];exact s4P
 have C:s.get! j=s[j]'K:=(by simp[ByteArray.get!,ByteArray.getElem_eq_getElem_data,K]);rw[C];omega
theorem y1Q{zs}(h:Pu.basicB zs=true) n:Pu.basicB (zs.take n)=true:=by
 unfold Pu.basicB at h ⊢;rw[List.all_eq_true]at h ⊢;exact fun z o=>h z (List.mem_of_mem_take o)
theorem z0l s w(h:Pu.basicB (nums s)=true)(S:s.size<=1000000):∃v w',(convert 9 40 (.string s)).run prog w=.ok v w'/\Ok .i32 21 w' w.heap.size v (nums s)/\Bw w w':=by
 refine⟨_,_,z0k s w,?_,((b0r).drew).alloc (l0r _) _⟩;have F:=x4v s (y4H h) s.size 0 #[] f6J f6J;rw[List.drop_zero]at F;simp only[List.nil_append]at F
 have y:(Conv.runesFrom s s.size 0 #[]).size=(nums s).length:=by
  have:=congrArg List.length F;exact W2O
 have E:=nums_length s;generalize Conv.runesFrom s s.size 0 #[]=A at *;have T:=grownCap_ge w A.size 0 21;have t:=grownCap_le_maxLen w A.size 0 21 T7X;generalize grownCap w A.size 0 21=G at *;refine Ok.of (n:=A.size) (us:=(nums s).map (Value.int .i32)) ?_ f6J ⟨by simp[y],.inr ⟨w.heap.size,G,_,rfl,l0r _,heap_alloc_new w.drew _,T,t,P8P,?_⟩⟩ y rfl
 ·intro z o;have:=x0w s z o;exact x0T f6J
 ·grind
theorem y5f s w(U:s.size<=1000000000):Calls prog 105 #[.string s] w (x0W w.heap.size w (Pu.decode (nums s))):=by
 have E:=nums_length s;have K:=Pu.y7K (nums s);by_cases P:65536<s.size
 ·have L:=O (K.trans (if_pos f6J));go_enter func105,ntmps105;go_wp2;go_ret2;exact x0W.no (V L) f6J (b0r)
 ·rw[if_neg f6J]at K;have j:=O (y2u s w U)
  cases Y:Pu.basicB (nums s)with
  | false =>
   rw[if_pos Y]at K;rw[Y]at j;have L:=O K;go_enter func105,ntmps105;go_wp2_with fail;refine(V j).mono ?_;rintro e G ⟨rfl,rfl⟩;go_wp2;go_ret2;exact x0W.no (V L) f6J (b0r)
  | true =>
   rw[if_neg (by rw[Y];exact M7L)]at K;rw[Y]at j;have L:=O K;have B:=O Y;have C:=O (z5a s w U);generalize Pu.decode (nums s)=r at *;go_enter func105,ntmps105;go_wp2_with fail;refine(V j).mono ?_;rintro e G ⟨rfl,rfl⟩;go_wp2_with fail;refine(V C).mono ?_;rintro e Q ⟨N,M,rfl,g,Y,A⟩;have W:N.size<=s.size:=by rw[<- nums_length N,g,List.length_take];exact f6J
   have S:M.size<=s.size:=by
    rw[<- nums_length M,Y];unfold Pu.tail;split
    ·omega
    ·rw[List.length_drop];omega
   obtain⟨v,d,H,X,F⟩:=z0l N Q (by rw[g];exact y1Q (V B) _) f6J
   have i:(nums N).length+M.size<=65536:=by
    rw[<- nums_length M,g,Y,List.length_take];unfold Pu.tail;split
    ·rename_i h0;rw[h0];omega
    ·rw[List.length_drop];omega
   have f:=A.size;have a:=O (y9J G.heap.size v (nums N) M d (X.lower f) (by have:=F.size;exact f6J) f6J);rw[g,Y,<- V L]at a;have I:=O (x0b A F);go_wp2_with fail;refine(V a).mono ?_;rintro e x (⟨J,rfl,Z,D,R⟩|⟨Z,D,rfl,R⟩)
   ·have T:Hid (x0W G.heap.size G r (.returned (.tuple #[J,.int .i64 0])) x):=x0W.yes Z D ((V I).trans R);exact u3O
   ·have T:Hid (x0W G.heap.size G r (.returned (.tuple #[.slice none 0 0,.int .i64 r.2])) x):=.inr ⟨Z,D,rfl,(V I).trans R⟩;generalize r.2=b at *;exact u3O
