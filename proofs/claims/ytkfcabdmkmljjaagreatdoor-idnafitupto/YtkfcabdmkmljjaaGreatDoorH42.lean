/- Lemmas. -/
import Derived.ScopeJumps
import Derived.WalkMore
import Derived.Test.YtkfcabdmkmljjaaGreatDoorH40
import Derived.Test.YtkfcabdmkmljjaaGreatDoorH41
import Derived.Deep.DeepCutAuto
set_option maxHeartbeats 20000000
set_option maxRecDepth 40000
namespace Go.Proofs.YtkfcabdmkmljjaaGreatDoor
open Go.Proofs.Tryz
section
variable{p:Prop}
theorem t5K(h:p:=by obtain⟨l⟩:=t;have S:l.length=79:=(by simpa using D);apply congrArg Array.mk;have e:=y1u l 79 S;rw[show(List.range 79).map (fun i=>l.getD i undef)=[l.getD 0 undef,l.getD 1 undef,l.getD 2 undef,l.getD 3 undef,l.getD 4 undef,l.getD 5 undef,l.getD 6 undef,l.getD 7 undef,l.getD 8 undef,l.getD 9 undef,l.getD 10 undef,l.getD 11 undef,l.getD 12 undef,l.getD 13 undef,l.getD 14 undef,l.getD 15 undef,l.getD 16 undef,l.getD 17 undef,l.getD 18 undef,l.getD 19 undef,l.getD 20 undef,l.getD 21 undef,l.getD 22 undef,l.getD 23 undef,l.getD 24 undef,l.getD 25 undef,l.getD 26 undef,l.getD 27 undef,l.getD 28 undef,l.getD 29 undef,l.getD 30 undef,l.getD 31 undef,l.getD 32 undef,l.getD 33 undef,l.getD 34 undef,l.getD 35 undef,l.getD 36 undef,l.getD 37 undef,l.getD 38 undef,l.getD 39 undef,l.getD 40 undef,l.getD 41 undef,l.getD 42 undef,l.getD 43 undef,l.getD 44 undef,l.getD 45 undef,l.getD 46 undef,l.getD 47 undef,l.getD 48 undef,l.getD 49 undef,l.getD 50 undef,l.getD 51 undef,l.getD 52 undef,l.getD 53 undef,l.getD 54 undef,l.getD 55 undef,l.getD 56 undef,l.getD 57 undef,l.getD 58 undef,l.getD 59 undef,l.getD 60 undef,l.getD 61 undef,l.getD 62 undef,l.getD 63 undef,l.getD 64 undef,l.getD 65 undef,l.getD 66 undef,l.getD 67 undef,l.getD 68 undef,l.getD 69 undef,l.getD 70 undef,l.getD 71 undef,l.getD 72 undef,l.getD 73 undef,l.getD 74 undef,l.getD 75 undef,l.getD 76 undef,l.getD 77 undef,l.getD 78 undef]from rfl]at e;have g:∀i,(Array.mk l).getD i undef=l.getD i undef:=fun i=>m9N;simp only[g];exact e):p:=h
theorem G7d(h:p:=by have D:Hid (∀a,Bw w a->x8S w m (.returned (.tuple #[.string ⟨#[]⟩,.string s])) a):=fun a Y=>⟨⟨#[]⟩,s,rfl,by rw[u];simp[nums],by unfold Pu.tail;rw[if_pos u];exact V c,Y⟩;go_wp2;go_ret2;exact V D w (b0r)):p:=h
theorem R5N(h:p:=by exact⟨_,a₁,w₁,y,.of_steps (.one step_scope) B⟩):p:=h
theorem s5e(h:p:=by have:=h.lt;have:=h.hB;exact f6J):p:=h
theorem u3d(h:p:=by rw[nums_length];exact f6J):p:=h
theorem N8p(h:p:=by go_wp2;go_ret2;exact V U):p:=h
theorem m9N(h:p:=by rw[Array.getD_eq_getD_getElem?,List.getD_eq_getElem?_getD];exact M7K):p:=h
theorem S2m(h:p:=by have:=S (j+1) f6J P8P;exact W2K):p:=h
theorem U4D(h:p:=by first| rfl | go_num | simp):p:=h
theorem U6x(h:p:=by first| rfl | go_num):p:=h
theorem W2O(h:p:=by simpa using this):p:=h
theorem f8L(h:p:=by go_wp2;go_ret2;exact x1b.no (V HE) f6J (V D)):p:=h
theorem V9D(h:p:=by simp<;>omega):p:=h
end
def y2K(J:Nat->Act->World->Prop)(Q:Exit->Act->World->Prop):Exit->Act->World->Prop
 | .goto l,a,w=>J l a w
 | e,a,w=>Q e a w
theorem x7G{P a w Q}{c}(rest:Nat->Code)(J:Nat->Act->World->Prop)(m:Nat->Act->World->Nat)(z:∀l a w,J l a w->findLabel c l=some (rest l))
  (first:c.wp P (y2K J Q) a w)
  (D:∀l a w,J l a w->(rest l).wp P (y2K (fun A M w'=>J A M w'/\m A M w'<m l a w) Q) a w):(Code.scope c).wp P Q a w:=by
 intro b k Y
 have S:∀n l a w,m l a w=n->J l a w->∃e M w',Q e M w'/\Arrives P (lone (b.at a (.code (rest l)::.inScope c::k)) Y w) b k Y e M w':=by
  intro n
  induction n using Nat.strongRecOn with
  | _ n ih =>
   intro l a w F N;obtain⟨e,a₁,w₁,y,B⟩:=D l a w N b (.inScope c::k) Y
   cases e with
   | normal=>exact⟨.normal,a₁,w₁,y,Steps.trans B (.one step_inScope)⟩
   | exit id=>exact⟨.exit id,a₁,w₁,y,fun I G=>B I (by simp[exitTo,G])⟩
   | goto A =>
    obtain⟨H,E⟩:=y;have C:gotoIn A (.inScope c::k)=some (.code (rest A)::.inScope c::k):=(by simp[gotoIn,z A _ _ H]);obtain⟨e₂,a₂,w₂,y₂,B₂⟩:=ih _ f6J A a₁ w₁ rfl H;exact⟨e₂,a₂,w₂,y₂,.of_steps (B _ C) B₂⟩
   | ret=>exact⟨_,a₁,w₁,y,B⟩
   | panic ch=>exact⟨_,a₁,w₁,y,B⟩
   | outgrown=>exact⟨_,a₁,w₁,y,B⟩
 obtain⟨e,a₁,w₁,y,B⟩:=first b (.inScope c::k) Y
 cases e with
 | normal=>exact⟨.normal,a₁,w₁,y,.head step_scope (Steps.trans B (.one step_inScope))⟩
 | exit id=>exact⟨.exit id,a₁,w₁,y,fun I G=>.head step_scope (B I (by simp[exitTo,G]))⟩
 | goto A =>
  have L:J A a₁ w₁:=y;have C:gotoIn A (.inScope c::k)=some (.code (rest A)::.inScope c::k):=(by simp[gotoIn,z A _ _ L]);obtain⟨e₂,a₂,w₂,y₂,B₂⟩:=S _ A a₁ w₁ rfl L;exact⟨e₂,a₂,w₂,y₂,.of_steps (.head step_scope (B _ C)) B₂⟩
 | ret=>exact R5N
 | panic ch=>exact R5N
 | outgrown=>exact R5N
def after:Code->Nat->Code
 | .seq (.label k) b,l=>if k==l then b else after b l
 | .seq _ b,l=>after b l
 | _,_=>.skip
theorem wp_scope_jumps{P a w Q}{c}(J:Nat->Act->World->Prop)(m:Nat->Act->World->Nat)(z:∀l a w,J l a w->findLabel c l=some (.seq .skip (after c l)))
  (first:(∀a w,J 0 a w->(after c 0).wp P (y2K J Q) a w)->c.wp P (y2K J Q) a w)
  (D:∀l a w,J l a w->(∀A M w',J A M w'->m A M w'<m l a w->(after c A).wp P (y2K (fun T B w2=>J T B w2/\m T B w2<m l a w) Q) M w')->(after c l).wp P (y2K (fun T B w2=>J T B w2/\m T B w2<m l a w) Q) a w):(Code.scope c).wp P Q a w:=by
 have S:∀n l a w,m l a w=n->J l a w->(after c l).wp P (y2K (fun T B w2=>J T B w2/\m T B w2<n) Q) a w:=by
  intro n
  induction n using Nat.strongRecOn with
  | _ n ih =>
   intro l a w F N;subst F;refine D l a w N fun A M w' H E=>Code.wp_mono (fun e B w2 h=>?_) (ih _ E A M w' rfl H)
   cases e with
   | goto T=>exact⟨h.1,Nat.lt_trans h.2 E⟩
   | _=>exact h
 refine x7G (fun l=>.seq .skip (after c l)) J m z (first fun a w N=>Code.wp_mono (fun e B w2 h=>?_) (S _ 0 a w rfl N)) fun l a w N=>wp_seq (wp_skip (S _ l a w rfl N))
 cases e with
 | goto T=>exact h.1
 | _=>exact h
open Go.RowKit
theorem y1u l n(h:l.length=n):l=(List.range n).map (fun i=>l.getD i undef):=by
 apply List.ext_getElem
 ·simp[h]
 ·grind
def F0(s:ByteArray)(v:Value)(k b:Nat)(a:Act):Prop:=a.defers=[]/\a.tmps.size=79/\a.tmps.getD 0 undef=v/\a.tmps.getD 1 undef=.string s/\a.tmps.getD 4 undef=.slice none 0 0/\a.tmps.getD 5 undef=.int .i64 0/\a.tmps.getD 6 undef=.int .i64 (k:Int)/\a.tmps.getD 15 undef=.pointer (some ⟨b,0,none⟩)
theorem F0.open{s v k b a}(h:F0 s v k b a):∃U:Nat->Value,a=({ tmps:=#[v,.string s,U 2,U 3,.slice none 0 0,.int .i64 0,.int .i64 (k:Int),U 7,U 8,U 9,U 10,U 11,U 12,U 13,U 14,.pointer (some ⟨b,0,none⟩),U 16,U 17,U 18,U 19,U 20,U 21,U 22,U 23,U 24,U 25,U 26,U 27,U 28,U 29,U 30,U 31,U 32,U 33,U 34,U 35,U 36,U 37,U 38,U 39,U 40,U 41,U 42,U 43,U 44,U 45,U 46,U 47,U 48,U 49,U 50,U 51,U 52,U 53,U 54,U 55,U 56,U 57,U 58,U 59,U 60,U 61,U 62,U 63,U 64,U 65,U 66,U 67,U 68,U 69,U 70,U 71,U 72,U 73,U 74,U 75,U 76,U 77,U 78],defers:=[] }:Act):=by
 obtain⟨t,F⟩:=a;obtain⟨Z,D,q,C,f,P,T,E⟩:=h;refine⟨fun i=>t.getD i undef,?_⟩;simp only at Z D q C f P T E;subst Z;congr 1;rw[<- q,<- C,<- f,<- P,<- T,<- E];exact t5K
def F1(s:ByteArray)(v:Value)(k b:Nat)(kk vl wt:Int)(a:Act):Prop:=a.defers=[]/\a.tmps.size=79/\a.tmps.getD 0 undef=v/\a.tmps.getD 1 undef=.string s/\a.tmps.getD 4 undef=.slice none 0 0/\a.tmps.getD 5 undef=.int .i64 0/\a.tmps.getD 6 undef=.int .i64 (k:Int)/\a.tmps.getD 15 undef=.pointer (some ⟨b,0,none⟩)/\a.tmps.getD 8 undef=.int .i64 kk/\a.tmps.getD 10 undef=.int .i64 vl/\a.tmps.getD 11 undef=.int .i64 wt
theorem F1.open{s v k b kk vl wt}{a}(h:F1 s v k b kk vl wt a):∃U:Nat->Value,a=({ tmps:=#[v,.string s,U 2,U 3,.slice none 0 0,.int .i64 0,.int .i64 (k:Int),U 7,.int .i64 kk,U 9,.int .i64 vl,.int .i64 wt,U 12,U 13,U 14,.pointer (some ⟨b,0,none⟩),U 16,U 17,U 18,U 19,U 20,U 21,U 22,U 23,U 24,U 25,U 26,U 27,U 28,U 29,U 30,U 31,U 32,U 33,U 34,U 35,U 36,U 37,U 38,U 39,U 40,U 41,U 42,U 43,U 44,U 45,U 46,U 47,U 48,U 49,U 50,U 51,U 52,U 53,U 54,U 55,U 56,U 57,U 58,U 59,U 60,U 61,U 62,U 63,U 64,U 65,U 66,U 67,U 68,U 69,U 70,U 71,U 72,U 73,U 74,U 75,U 76,U 77,U 78],defers:=[] }:Act):=by
 obtain⟨t,F⟩:=a;obtain⟨Z,D,q,C,f,P,T,E,Q,A,B⟩:=h;refine⟨fun i=>t.getD i undef,?_⟩;simp only at Z D q C f P T E Q A B;subst Z;congr 1;rw[<- q,<- C,<- f,<- P,<- T,<- E,<- Q,<- A,<- B];exact t5K
structure Rm(X0:Nat)(B b:Nat)(w0:World)(k:Nat)(st:Pu.St)(v:Value)(wr:World):Prop where
 row:Ok .i32 21 wr B v st.xs
 state:StAt wr b (st.xs.length:Int) st.n st.i st.bias st.first
 bel:Below B w0 wr
 hB:B<=b
 lt:b<wr.heap.size
 ne:v.ownBlock≠some b
 len:st.xs.length<=X0+k
 n:0<=st.n/\st.n<=1114111
 i:0<=st.i/\st.i<=st.xs.length
 bias:0<=st.bias/\st.bias<=468
def x1b(B:Nat)(w:World)(r:List Int×Int)(e:Ending)(w':World):Prop :=
 (∃v,e=.returned (.tuple #[v,.int .i64 0])/\r=(r.1,0)/\Ok .i32 21 w' B v r.1/\Below B w w')\/(r.1=[]/\r.2≠0/\e=.returned (.tuple #[.slice none 0 0,.int .i64 r.2])/\Below B w w')
theorem x1b.no{B w w' r c}(h:r=([],c))(I:c≠0)(Y:Below B w w'):x1b B w r (.returned (.tuple #[.slice none 0 0,.int .i64 c])) w':=by
 subst h;exact .inr ⟨rfl,I,rfl,Y⟩
theorem x1b.yes{B w w' r v}{xs}(h:r=(xs,0))(N:Ok .i32 21 w' B v xs)(Y:Below B w w'):x1b B w r (.returned (.tuple #[v,.int .i64 0])) w':=by
 subst h;exact .inl ⟨v,rfl,rfl,N,Y⟩
def Jq(X0 B b:Nat)(s:ByteArray)(zs:List Int)(r:List Int×Int)(w:World):Nat->Act->World->Prop
 | 0,a,wr=>∃(k:Nat) (st:Pu.St) (v:Value),F0 s v k b a/\k<=s.size/\Rm X0 B b w k st v wr/\r=Pu.rdW (zs.drop k) st
 | 1,a,wr=>∃(k:Nat) (st:Pu.St) (v:Value) (kk vl wt:Int),F1 s v k b kk vl wt a/\k<=s.size/\Rm X0 B b w k st v wr/\(1<=kk/\kk<=k+1)/\(0<=vl/\vl<=75161927680*k)/\(1<=wt/\wt<=2147483648)/\r=Pu.after st (Pu.rdN st.bias (zs.drop k) kk vl wt)
 | 2,a,wr=>∃(k:Nat) (st:Pu.St) (v:Value) (kk vl wt:Int),F1 s v k b kk vl wt a/\k<=s.size/\1<=k/\Rm X0 B b w (k-1) st v wr/\(0<=vl/\vl<=75161927680*k)/\r=Pu.after st (0,vl,zs.drop k)
 | _,_,_=>False
theorem Rm.later{X0 B b w0 k k'}{X:Pu.St}{v wr}(h:Rm X0 B b w0 k X v wr)(G:k<=k'):Rm X0 B b w0 k' X v wr :=
 { h with len:=by have:=h.len;exact f6J }
theorem x3f{K e w w' B}{v zs row}(h:Ok K e w B v zs)(C:w.grownBy w' row)(t:v.ownBlock=none\/v.ownBlock≠row):Ok K e w' B v zs:=⟨h.1,h.2.1,h.2.2.kept C t⟩
theorem x6g{K e w B}{v zs}(h:Ok K e w B v zs) o:Ok K e (w.alloc o) B v zs:=⟨h.1,h.2.1,h.2.2.alloc o⟩
theorem x0u(w:World) o:(w.alloc o).heap.size=w.heap.size+1:=f0h
theorem Rm.step{X0 B b w0 k}{X:Pu.St}{v wr wq w2 d e}(h:Rm X0 B b w0 (k-1) X v wr)(G:1<=k)
  (hd:0<=d/\d<=2147483647) (o:Utf.okc (Pu.stepN X d)) (y:StAt wq b ((X.xs.length:Int)+1) (Pu.stepN X d) (Pu.stepP X d+1) (Pu.adapt d ((X.xs.length:Int)+1) X.first) false) (C:wr.grownBy wq (some b)) (f:wq.heap.size=wr.heap.size)
  (hi:x3y B v (wq.alloc (.cells #[.int .i32 (Pu.stepN X d)] 21)) (Pu.ins X.xs (Pu.stepP X d).toNat (Pu.stepN X d)) e w2):∃v',e=.returned v'/\Rm X0 B b w0 k (Pu.step X d) v' w2:=by
 obtain⟨v',rfl,E,N,F⟩:=hi;have I:(Pu.step X d).xs.length=X.xs.length+1:=x2n _ _ _;have J:0<=Pu.stepP X d:=Int.emod_nonneg _ f6J;have A:Pu.stepP X d<(X.xs.length:Int)+1:=Int.emod_lt_of_pos _ f6J;have L:=x0u wq (.cells #[.int .i32 (Pu.stepN X d)] 21);have Y:∀g,v.ownBlock=some g->B<=g/\g<wr.heap.size:=fun g H=>h.row.row.lt g H;refine⟨v',rfl,⟨E,?_,?_,h.hB,?_,?_,?_,?_,?_,?_⟩⟩
 ·rw[I];show StAt w2 b ((X.xs.length+1:Nat):Int) (Pu.stepN X d) (Pu.stepP X d+1) (Pu.adapt d ((X.xs.length:Int)+1) X.first) false;rw[(f6J:((X.xs.length+1:Nat):Int)=(X.xs.length:Int)+1)];unfold StAt at y ⊢;rw[N.block b (by have:=h.lt;exact f6J) (fun H=>h.ne H.symm),heap_alloc_old _ _ (by have:=h.lt;exact f6J)];exact y
 ·have Z:=h.bel.grown C s5e (fun g H=>by simp at H;have:=h.hB;exact f6J);have D:=Z.alloc s5e (.cells #[.int .i32 (Pu.stepN X d)] 21);exact D.grown N s5e (fun g H=>(Y g H).1)
 ·have:=N.size;have:=h.lt;omega
 ·intro H;rcases F b H with h3 | h3
  ·exact h.ne h3
  ·have:=h.lt;omega
 ·rw[I];have:=h.len;omega
 ·show 0<=Pu.stepN X d/\Pu.stepN X d<=1114111;rcases o with h3 | h3<;>omega
 ·rw[I];show 0<=Pu.stepP X d+1/\Pu.stepP X d+1<=((X.xs.length+1:Nat):Int);omega
 ·exact Pu.x2E d _ X.first f6J
theorem Rm.ins{X0 B b w0 k}{X:Pu.St}{v wr wq d}(h:Rm X0 B b w0 (k-1) X v wr)(I:X0+k<=1000000)(o:Utf.okc (Pu.stepN X d))(C:wr.grownBy wq (some b))(f:wq.heap.size=wr.heap.size)(p:Nat)(s:Pu.stepP X d=p) :
  Calls prog 63 #[v,.int .i64 p,.slice (some ⟨wq.heap.size,0,none⟩) 1 1] (wq.alloc (.cells #[.int .i32 (Pu.stepN X d)] 21)) (x3y B v (wq.alloc (.cells #[.int .i32 (Pu.stepN X d)] 21)) (Pu.ins X.xs (Pu.stepP X d).toNat (Pu.stepN X d))):=by
 have A:Pu.stepP X d<(X.xs.length:Int)+1:=Int.emod_lt_of_pos _ f6J;have L:=x0u wq (.cells #[.int .i32 (Pu.stepN X d)] 21);have S:=h.len;have:=h.lt;have:=h.hB;rw[(f6J:(Pu.stepP X d).toNat=p)];refine y5Q B v X.xs p (Pu.stepN X d) _ wq.heap.size (x6g (x3f h.row C (.inr h.ne)) _) f6J f6J f6J (heap_alloc_new wq _) (fun H=>?_) (by rcases o with h3 | h3<;>omega);have:=(h.row.row.lt _ H).2;omega
def pmes(N l:Nat)(a:Act):Nat:=3*(N-(intOf (a.tmps.getD 6 undef)).toNat)+(if l=2 then 2 else if l=0 then 1 else 0)
theorem x7k{N l T k k2:Nat}{a a2}(h:a.tmps.getD 6 undef=.int .i64 (k:Int))(D:a2.tmps.getD 6 undef=.int .i64 (k2:Int))(o:3*(N-k2)+(if T=2 then 2 else if T=0 then 1 else 0)<3*(N-k)+(if l=2 then 2 else if l=0 then 1 else 0)):pmes N T a2<pmes N l a:=by
 unfold pmes;rw[h,D];exact o
theorem z1P{d wt:Int}(R:0<=d/\d<=35)(Z:1<=wt/\wt<=2147483648):0<=d*wt/\d*wt<=75161927680:=by
 refine⟨Int.mul_nonneg R.1 f6J,?_⟩
 calc d*wt<=35*wt:=Int.mul_le_mul_of_nonneg_right R.2 f6J
  _<=75161927680:=f6J
theorem z8r{t wt:Int}(R:1<=t/\t<=26)(Z:1<=wt/\wt<=2147483648):1<=wt*(36-t)/\wt*(36-t)<=75161927680:=by
 constructor
 ·calc 1<=wt:=Z.1
   _=wt*1:=f6J
   _<=wt*(36-t):=Int.mul_le_mul_of_nonneg_left f6J f6J
 ·calc wt*(36-t)<=wt*35:=Int.mul_le_mul_of_nonneg_left f6J f6J
   _<=75161927680:=f6J
theorem z9u{zs:List Int}{k}(G:k<zs.length):zs.drop k=zs.getD k 0::zs.drop (k+1):=x0N G
theorem q0p{c}(h:Utf.okc c):okb c=true:=d0t h
theorem q0q{c}(h:¬Utf.okc c):okb c=false:=d0f h
theorem z0v B v0 xs0 s w(aA:Ok .i32 21 w B v0 xs0)(hB:B<=w.heap.size)(hs:xs0.length+s.size<=100000) :
  Calls prog 33 #[v0,.string s] w (x1b B w (Pu.rdW (nums s) (Pu.begin xs0))):=by
 have aI:=nums_length s;have ag:Pu.rdW (nums s) (Pu.begin xs0)=Pu.rdW ((nums s).drop 0) (Pu.begin xs0):=s4M;generalize Pu.rdW (nums s) (Pu.begin xs0)=r at *;have ar:=O (x0T s);have aB:=O (x2A s);obtain⟨m,aL⟩:∃m,nums s=m:=⟨_,rfl⟩;rw[aL]at aI ag ar aB;have ab:=O ag;clear ag aL;obtain⟨M,aH⟩:∃M,M=xs0.length:=⟨_,rfl⟩;have Y:=O aH;have G:=O aA;obtain⟨ao,aD,j,ba,be⟩:=aA.sk.shape;have aP:=O j
 have aN:Hid (∀k,k<m.length->0<=m.getD k 0/\m.getD k 0<=255):=fun k hk=>by
  rw[List.getD,List.getElem?_eq_getElem hk];exact V ar _ (List.getElem_mem hk)
 subst j;clear aA aH aP ar;have A:=O (y0r (xs0.length:Int) w);go_enter func33,ntmps33;go_wp2;refine wp_scope_jumps (fun l a wr=>∃b,w.heap.size<=b/\Jq M B b s m r w l a wr) (fun l a _=>pmes s.size l a) ?hf ?first ?pass
 case hf =>
  rintro l a wr ⟨b,I,h⟩
  match l,h with
  | 0,_=>rfl
  | 1,_=>rfl
  | 2,_=>rfl
  | (l+3),h=>exact h.elim
 case first =>
  intro H;replace H:=O H;go_wp2_with fail;refine c0m A fun Q P=>?_
  have hM:Rm M B Q.heap.size w 0 (Pu.begin xs0) (.slice ao xs0.length aD) (Q.alloc (.cells #[.int .i64 (xs0.length:Int),.int .i64 128,.int .i64 0,.int .i64 72,.bool true] 132)):=by
   have hv:=V G;have hx:=V Y;have bp:=P.size;refine⟨x6g (hv.below P) _,heap_alloc_new Q _,(P.mono hB).alloc f6J _,f6J,by rw[x0u];exact f6J,fun hh=>?_,by show xs0.length<=M+0;exact f6J,by show(0:Int)<=128/\(128:Int)<=1114111;exact f6J,by show(0:Int)<=0/\(0:Int)<=(xs0.length:Int);exact f6J,by show(0:Int)<=72/\(72:Int)<=468;exact f6J⟩;have:=(hv.row.lt _ hh).2;omega
  have u:r=Pu.rdW (m.drop 0) (Pu.begin xs0):=V ab;have I:w.heap.size<=Q.heap.size:=P.size;obtain⟨b,aQ⟩:∃b,b=Q.heap.size:=⟨_,rfl⟩;obtain⟨wr,aW⟩:∃wr,Q.alloc (.cells #[.int .i64 (xs0.length:Int),.int .i64 128,.int .i64 0,.int .i64 72,.bool true] 132)=wr:=⟨_,rfl⟩;rw[aW]at hM;go_wp2;go_step3;rw[<- aQ]at hM I ⊢
  rename_i K hK
  generalize Value.slice ao xs0.length aD=v at *;refine hK _ _ (V H _ _ ?_);exact⟨b,I,0,Pu.begin xs0,v,⟨rfl,rfl,rfl,rfl,rfl,rfl,rfl,rfl⟩,f6J,hM,u⟩
 case pass =>
  rintro l a wr ⟨b,I,h⟩ IH
  match l,h with
  | (l+3),h=>exact h.elim
  | 0,h =>
   obtain⟨k,X,v,y,ai,hM,u⟩:=h;obtain⟨U,rfl⟩:=y.open;clear y
   conv=>arg 2;whnf
   obtain⟨c,F,S,aF,aM,ne,len,hn,hi,x⟩:=id hM;obtain⟨c0,c1,c2,c3,c4,f0,f1,f2,f3,f4⟩:=F.cells;by_cases aj:k<m.length
   ·have az:((k:Int)==(s.size:Int))=false:=P8P;have L:=O (u.trans (Pu.z0G (by rw[z9u aj];exact List.cons_ne_nil _ _) X));have C:=O hM;replace IH:=O IH;clear u hM c F S ab G A Y;go_wp2;go_step3
    rename_i K hK
    refine hK _ _ (V IH 1 _ _ ?_ ?_)
    ·exact⟨b,I,k,X,v,1,0,1,⟨rfl,rfl,rfl,rfl,rfl,rfl,rfl,rfl,rfl,rfl,rfl⟩,ai,V C,f6J,f6J,f6J,V L⟩
    ·exact x7k (k:=k) (k2:=k) rfl rfl M7N
   ·have bh:k=m.length:=f6J;have HE:=O (u.trans ((congrArg (fun q=>Pu.rdW q X) (List.drop_eq_nil_of_le f6J)).trans (Pu.y3b X)));have aC:=O c;have D:=O S;have az:((k:Int)==(s.size:Int))=true:=P8P;clear u hM c F S ab G A Y;go_wp2;go_ret2;exact x1b.yes (V HE) (V aC) (V D)
  | 1,h =>
   clear IH;obtain⟨k,X,v,Z,vl,wt,y,ai,hM,bj,aV,bu,u⟩:=h;obtain⟨U,rfl⟩:=y.open;clear y
   conv=>arg 2;whnf
   obtain⟨c,F,S,aF,aM,ne,len,hn,hi,x⟩:=id hM;obtain⟨c0,c1,c2,c3,c4,f0,f1,f2,f3,f4⟩:=F.cells;by_cases aj:k<m.length
   ·have aZ:=V aB (k:Int) k rfl f6J;have aJ:=V aN k aj;have aY:=Pu.z9r (m.getD k 0);have az:((k:Int)==(s.size:Int))=false:=P8P;have HD:=fun W=>O (y2s (m.getD k 0) W aJ.1 aJ.2);have ae:=fun W=>O (y0g Z X.bias W f6J f6J);have aK:=Pu.x1o Z X.bias;have L:=O (u.trans (by rw[z9u aj]));by_cases hd:Pu.dig (m.getD k 0)<0
    ·have HE:=O ((V L).trans ((congrArg (Pu.after X) (Pu.z7J hd)).trans (Pu.y0p f6J)));have D:=O S;clear L u hM c F ae aK S ab G A Y;generalize Pu.dig (m.getD k 0)=d at *;generalize m.getD k 0=z at *;go_wp2_with fail;refine(V (HD _)).mono ?_;rintro e Q ⟨⟨_,rfl⟩ | ⟨J,_⟩,rfl⟩
     ·clear HD;exact f8L
     ·omega
    ·have bm:=z1P (d:=Pu.dig (m.getD k 0)) (wt:=wt) f6J f6J;by_cases ht:Pu.dig (m.getD k 0)<Pu.thr Z X.bias
     ·have HE:=O ((V L).trans (by rw[Pu.x9S hd ht]));have C:=O hM;clear L u hM c F S ab G A Y;generalize hdg:Pu.dig (m.getD k 0)=d at *;generalize m.getD k 0=z at *;clear hdg;generalize Pu.thr Z X.bias=t at *;go_wp2_with fail;refine(V (HD _)).mono ?_;rintro e Q ⟨⟨J,_⟩ | ⟨_,rfl⟩,rfl⟩
      ·omega
      ·clear HD;go_wp2_with(go_at_call 60;refine(V (ae _)).mono ?_;rintro e Q ⟨rfl,rfl⟩;clear ae);go_step3;show(∃b,w.heap.size<=b/\Jq M B b s m r w 2 _ _)/\_;exact⟨⟨b,I,⟨k+1,X,_,Z,vl+d*wt,wt,⟨rfl,rfl,rfl,rfl,rfl,rfl,g2A,rfl,rfl,U4D,rfl⟩,f6J,f6J,(V C).later f6J,f6J,V HE⟩⟩,x7k (k:=k) (k2:=k+1) rfl g2A V9D⟩
     ·have HE:=O ((V L).trans (by rw[Pu.y4G hd ht]));have C:=O hM;have bt:=z8r (t:=Pu.thr Z X.bias) (wt:=wt) aK f6J;clear L u hM c F S ab G A Y;generalize hdg:Pu.dig (m.getD k 0)=d at *;generalize m.getD k 0=z at *;clear hdg;by_cases am:2147483648<wt*(36-Pu.thr Z X.bias)
      ·rw[if_pos am]at HE;generalize Pu.thr Z X.bias=t at *;go_wp2_with fail;refine(V (HD _)).mono ?_;rintro e Q ⟨⟨J,_⟩ | ⟨_,rfl⟩,rfl⟩
       ·omega
       ·clear HD;go_wp2_with(go_at_call 60;refine(V (ae _)).mono ?_;rintro e Q ⟨rfl,rfl⟩;clear ae);go_step3;show(∃b,w.heap.size<=b/\Jq M B b s m r w 1 _ _)/\_;exact⟨⟨b,I,⟨k+1,X,_,Z+1,vl+d*wt,2147483648,⟨rfl,rfl,rfl,rfl,rfl,rfl,g2A,rfl,U6x,U4D,U4D⟩,f6J,(V C).later f6J,f6J,f6J,f6J,V HE⟩⟩,x7k (k:=k) (k2:=k+1) rfl g2A V9D⟩
      ·rw[if_neg am]at HE;generalize Pu.thr Z X.bias=t at *;go_wp2_with fail;refine(V (HD _)).mono ?_;rintro e Q ⟨⟨J,_⟩ | ⟨_,rfl⟩,rfl⟩
       ·omega
       ·clear HD;go_wp2_with(go_at_call 60;refine(V (ae _)).mono ?_;rintro e Q ⟨rfl,rfl⟩;clear ae);go_step3;show(∃b,w.heap.size<=b/\Jq M B b s m r w 1 _ _)/\_;exact⟨⟨b,I,⟨k+1,X,_,Z+1,vl+d*wt,wt*(36-t),⟨rfl,rfl,rfl,rfl,rfl,rfl,g2A,rfl,U6x,U4D,U4D⟩,f6J,(V C).later f6J,f6J,f6J,f6J,V HE⟩⟩,x7k (k:=k) (k2:=k+1) rfl g2A V9D⟩
   ·have HE:=O (u.trans ((congrArg (Pu.after X) ((congrArg (fun q=>Pu.rdN X.bias q Z vl wt) (List.drop_eq_nil_of_le f6J)).trans (Pu.z7K _ _ _ _))).trans (Pu.y0p f6J)));have D:=O S;have az:((k:Int)==(s.size:Int))=true:=P8P;clear u hM c F S ab G A Y;exact f8L
  | 2,h =>
   clear IH;obtain⟨k,X,v,Z,vl,wt,y,ai,aR,hM,aV,u⟩:=h;obtain⟨U,rfl⟩:=y.open;clear y
   conv=>arg 2;whnf
   obtain⟨c,F,S,aF,aM,ne,len,hn,hi,x⟩:=id hM;have bw:=V Y;by_cases E:2147483647<vl
   ·have HE:=O (u.trans (Pu.y4X E));have D:=O S;clear u hM c F S ab G A Y;exact f8L
   ·have HS:=O (y0d b X.xs.length X.n X.i X.bias vl X.first wr F f6J f6J f6J f6J);have hN:Pu.stepN X vl=X.n+(X.i+vl) / (X.xs.length+1):=rfl;have hP:Pu.stepP X vl=(X.i+vl)%(X.xs.length+1):=rfl;rw[<- hN,<- hP]at HS;have aS:0<=(X.i+vl) / ((X.xs.length:Int)+1):=Int.ediv_nonneg f6J f6J;have aT:(X.i+vl) / ((X.xs.length:Int)+1)<=X.i+vl:=Int.ediv_le_self _ f6J;have ag:0<=(X.i+vl)%((X.xs.length:Int)+1):=Int.emod_nonneg _ f6J;have aU:(X.i+vl)%((X.xs.length:Int)+1)<(X.xs.length:Int)+1:=Int.emod_lt_of_pos _ f6J;have aI:0<=Pu.stepN X vl/\Pu.stepN X vl<=9000000000:=(by rw[hN];exact f6J);have bn:0<=Pu.stepP X vl/\Pu.stepP X vl<=X.xs.length:=(by rw[hP];exact f6J);clear hN hP aS aT ag aU;by_cases aX:1114111<Pu.stepN X vl
    ·have HE:=O (u.trans (Pu.y0o E M1e));have D:=O S;have aC:=O c;clear u hM c F S ab G A Y;generalize Pu.stepN X vl=nn,Pu.stepP X vl=pp,Pu.adapt vl ((X.xs.length:Int)+1) X.first=ad at *;go_wp2_with fail;refine(V HS).mono ?_;rintro e Q ⟨rfl,af,N,f⟩;clear HS;have aq:=O ((V D).grown N f6J (fun g hg=>by simp at hg;exact f6J));clear af N f D;go_wp2;go_ret2;exact x1b.no (V HE) f6J (V aq)
    ·have HV:=fun W=>O (x8R (Pu.stepN X vl) W f6J);by_cases o:Utf.okc (Pu.stepN X vl)
     ·rw[q0p o]at HV;have HE:=O (u.trans (Pu.y3E E o));obtain⟨p,hp⟩:∃p:Nat,Pu.stepP X vl=p:=⟨(Pu.stepP X vl).toNat,f6J⟩
      have aw:Hid (∀Q e w2,StAt Q b ((X.xs.length:Int)+1) (Pu.stepN X vl) (Pu.stepP X vl+1) (Pu.adapt vl ((X.xs.length:Int)+1) X.first) false->wr.grownBy Q (some b)->Q.heap.size=wr.heap.size ->
        x3y B v (Q.alloc (.cells #[.int .i32 (Pu.stepN X vl)] 21)) (Pu.ins X.xs (Pu.stepP X vl).toNat (Pu.stepN X vl)) e w2->∃v',e=.returned v'/\Rm M B b w k (Pu.step X vl) v' w2) :=
       fun Q e w2 h1 h2 h3 h4=>hM.step aR f6J o h1 h2 h3 h4
      have T:Hid (∀Q,wr.grownBy Q (some b)->Q.heap.size=wr.heap.size->Calls prog 63 #[v,.int .i64 p,.slice (some ⟨Q.heap.size,0,none⟩) 1 1] (Q.alloc (.cells #[.int .i32 (Pu.stepN X vl)] 21)) (x3y B v (Q.alloc (.cells #[.int .i32 (Pu.stepN X vl)] 21)) (Pu.ins X.xs (Pu.stepP X vl).toNat (Pu.stepN X vl)))) :=
       fun Q h1 h2=>hM.ins f6J o h1 h2 p hp
      clear u hM c F S ab G A Y o len;rw[hp]at HS aw T;generalize Pu.ins X.xs ((p:Int)).toNat (Pu.stepN X vl)=ys at *;clear hp;generalize Pu.stepN X vl=nn,Pu.adapt vl ((X.xs.length:Int)+1) X.first=ad at *;go_wp2_with fail;refine(V HS).mono ?_;rintro e Q ⟨rfl,af,N,f⟩;clear HS;have HI:=O (V T Q N f);have HQ:=O (fun e w2=>V aw Q e w2 af N f);clear af N f T aw;go_wp2_with(go_at_call 62;refine(V (HV _)).mono ?_;rintro e wx ⟨rfl,rfl⟩;clear HV);refine(V HI).mono ?_;intro e w2 R;obtain⟨v',rfl,aG⟩:=V HQ e w2 R;have aO:=O aG;clear R aG HI HQ;go_wp2;go_step3;show(∃b,w.heap.size<=b/\Jq M B b s m r w 0 _ _)/\_;exact⟨⟨b,I,k,_,v',⟨rfl,rfl,rfl,rfl,rfl,rfl,rfl,rfl⟩,ai,V aO,V HE⟩,x7k (k:=k) (k2:=k) rfl rfl M7N⟩
     ·have HE:=O (u.trans (Pu.y0o E o));rw[q0q o]at HV;have D:=O S;clear u hM c F S ab G A Y o;generalize Pu.stepN X vl=nn,Pu.stepP X vl=pp,Pu.adapt vl ((X.xs.length:Int)+1) X.first=ad at *;go_wp2_with fail;refine(V HS).mono ?_;rintro e Q ⟨rfl,af,N,f⟩;clear HS;have aq:=O ((V D).grown N f6J (fun g hg=>by simp at hg;exact f6J));clear af N f D;go_wp2_with(go_at_call 62;refine(V (HV _)).mono ?_;rintro e wx ⟨rfl,rfl⟩;clear HV);go_ret2;exact x1b.no (V HE) f6J (V aq)
theorem x4s(s:ByteArray)(h:∀j,j<s.size->(s.get! j).toNat<128):∀(f i:Nat) (acc:Array Value),s.size<=i+f->i<=s.size ->
  (Conv.runesFrom s f i acc).toList=acc.toList++(((nums s).drop i).map (Value.int .i32))
 | 0,i,acc,h1,h2=>by
  rw[Conv.runesFrom,List.drop_eq_nil_of_le u3d];simp
 | f+1,i,acc,h1,h2=>by
  rw[Conv.runesFrom];by_cases hi:i<s.size
  ·rw[if_pos hi]
   have hd:Utf8.decode s i=((s.get! i).toNat,1):=by
    unfold Utf8.decode;simp[h i hi]
   rw[hd];simp only;rw[x4s s h f (i+1) _ f6J f6J];rw[x0N (xs:=nums s) (k:=i) (by rw[nums_length];exact hi)];have:=x4T s i hi;simp only[Array.toList_push,List.map_cons,List.append_assoc,List.cons_append,List.nil_append];rw[<- this];have C:s.get! i=s[i]'hi:=(by simp[ByteArray.get!,ByteArray.getElem_eq_getElem_data,hi]);rw[C];rfl
  ·rw[if_neg hi,List.drop_eq_nil_of_le u3d];simp
theorem z0W s w:(convert 9 36 (.string s)).run prog w =
  .ok (.slice (some ⟨w.heap.size,0,none⟩) (Conv.runesFrom s s.size 0 #[]).size (grownCap w (Conv.runesFrom s s.size 0 #[]).size 0 21))
   (w.drew.alloc (.cells (Conv.runesFrom s s.size 0 #[]++Array.replicate (grownCap w (Conv.runesFrom s s.size 0 #[]).size 0 21-(Conv.runesFrom s s.size 0 #[]).size) (.int .i32 0)) 21)):=by
 simp[convert,run_underlying underlying9,run_underlying underlying36,run_underlying underlying21,Conv.stringToRunes,newRow,grownCap,Question.forced]
theorem x4P{zs}(h:∀j,j<zs.length->zs.getD j 0≠45) k a:Pu.x3F zs k a=a:=by
 induction zs generalizing k a with
 | nil=>rfl
 | cons z r ih =>
  rw[Pu.x3F,if_neg (by simpa using h 0 M7M)];exact ih (fun j X=>by have:=h (j+1) P8P;exact W2O) (k+1) a
theorem y4o{zs i}(hi:i<zs.length)(B:zs.getD i 0=45)(S:∀j,i<j->j<zs.length->zs.getD j 0≠45) k a:Pu.x3F zs k a=k+i:=by
 induction zs generalizing i k a with
 | nil=>exact v5E
 | cons z r ih =>
  rw[Pu.x3F]
  cases i with
  | zero =>
   rw[if_pos (by simpa using B)];exact x4P (fun j X=>S2m) _ _
  | succ i =>
   rw[ih (i:=i) w3A (by simpa using B) (fun j Z D=>S2m)];omega
def x2Z(w:World)(zs:List Int)(e:Ending)(w':World):Prop :=
 ((e=.returned (.int .i64 (-1))/\Pu.x3F zs 0 0=0)\/∃i:Nat,i<zs.length/\e=.returned (.int .i64 i)/\Pu.x3F zs 0 0=i)/\w'=w
theorem x9y s w(L:s.size<=1000000000):Calls prog 106 #[.string s,.int .u8 45] w (x2Z w (nums s)):=by
 have E:=nums_length s;have C:=O (x2A s)
 have Y:Hid (∀k,k<(nums s).length->0<=(nums s).getD k 0/\(nums s).getD k 0<=255):=fun k G=>by
  rw[List.getD,List.getElem?_eq_getElem G];exact x0T s _ (List.getElem_mem G)
 generalize nums s=m at *;go_enter func106,ntmps106;go_wp2;go_loop [5,9,10,11,12,13,14,15,16,17,18] (fun i _ _ _ _ _ _ _ _ _ _=>∃k:Nat,i=.int .i64 ((k:Int)-1)/\k<=m.length/\∀j,k<=j->j<m.length->m.getD j 0≠45) (fun i _ _ _ _ _ _ _ _ _ _=>(intOf i+1).toNat)
 case atStart=>exact⟨m.length,by rw[E],f6J,fun j Z D=>f6J⟩
 case round =>
  obtain⟨k,rfl,G,J⟩:=hrel;have H:=O J
  cases k with
  | zero =>
   have B:Hid (x2Z w m (.returned (.int .i64 (-1))) w):=⟨.inl ⟨rfl,x4P (fun j X=>V H j f6J X) _ _⟩,rfl⟩;go_wp2;go_ret;exact V B
  | succ k =>
   have Q:=V C (k:Int) k rfl f6J;have U:=V Y k f6J;have F:((k+1:Nat):Int)-1=(k:Int):=f6J;rw[F];by_cases T:m.getD k 0=45
   ·have B:Hid (x2Z w m (.returned (.int .i64 (k:Int))) w):=⟨.inr ⟨k,f6J,rfl,by rw[y4o (i:=k) f6J T (fun j Z D=>V H j f6J D)];exact f6J⟩,rfl⟩;rw[T]at Q;go_wp2;go_ret;exact V B
   ·have f:Hid (∀j,k<=j->j<m.length->m.getD j 0≠45):=fun j Z D=>by
     rcases Nat.eq_or_lt_of_le Z with h3 | h3
     ·rw[<- h3];exact T
     ·exact V H j f6J D
    have t:(m.getD k 0==45)=false:=(by simpa using T);generalize m.getD k 0=z at *;go_wp2;go_round
    case rel=>exact⟨k,U6t,f6J,V f⟩
    case measure=>simp[intOf]
theorem y0Z s w(L:s.size<=1000000000):Calls prog 57 #[.string s,.int .u8 45] w (x2Z w (nums s)):=by
 have H:=O (x9y s w L);generalize nums s=m at *;go_enter func57,ntmps57;go_wp2_with fail;refine(V H).mono ?_;rintro e w ⟨⟨rfl,u⟩ | ⟨i,hi,rfl,u⟩,rfl⟩
 ·have D:Hid (x2Z w m (.returned (.int .i64 (-1))) w):=⟨.inl ⟨rfl,u⟩,rfl⟩;go_wp2;go_ret;exact V D
 ·have D:Hid (x2Z w m (.returned (.int .i64 (i:Int))) w):=⟨.inr ⟨i,hi,rfl,u⟩,rfl⟩;go_wp2;go_ret;exact V D
def x8S(w:World)(zs:List Int)(e:Ending)(w':World):Prop :=
 ∃a b:ByteArray,e=.returned (.tuple #[.string a,.string b])/\nums a=zs.take (Pu.x3F zs 0 0)/\nums b=Pu.tail zs/\Below w.heap.size w w'
theorem x1E s p q:nums (s.extract p q)=((nums s).drop p).take (q-p):=by
 unfold nums;rw[ByteArray.data_extract,Array.toList_extract,List.map_drop.symm,List.map_take.symm]
theorem z6i s w(L:s.size<=1000000000):Calls prog 32 #[.string s] w (x8S w (nums s)):=by
 have H:=O (y0Z s w L);have F:=nums_length s;obtain⟨m,P⟩:∃m,nums s=m:=⟨_,rfl⟩;have c:=O P;rw[P]at F H;rw[P];go_enter func32,ntmps32;go_wp2_with fail;refine(V H).mono ?_;rintro e w ⟨⟨rfl,u⟩ | ⟨i,hi,rfl,u⟩,rfl⟩
 ·exact G7d
 ·by_cases R:i=0
  ·subst R;exact G7d
  ·have D:Hid (∀a,Bw w a->x8S w m (.returned (.tuple #[.string (s.extract 0 i),.string (s.extract (i+1) s.size)])) a):=fun a Y =>
    ⟨_,_,rfl,by rw[u,y1m,V c],by unfold Pu.tail;rw[if_neg f6J,u,x1E,V c,List.take_of_length_le F0o],Y⟩
   go_wp2;go_region;go_wp2;go_ret2;exact V D w.drew ((b0r).drew)
theorem y5c{s}(h:Pu.basicB (nums s)=true):∀j,j<s.size->(s.get! j).toNat<128:=by
 intro j X;have S:=nums_length s;have Z:=x4T s j X
 have D:(nums s).getD j 0<128:=by
  have J:=List.all_eq_true.1 h ((nums s)[j]'f6J) (List.getElem_mem _);rw[List.getD,List.getElem?_eq_getElem f6J];exact I8T
 have C:s.get! j=s[j]'X:=(by simp[ByteArray.get!,ByteArray.getElem_eq_getElem_data,X]);rw[C];omega
theorem y2g{zs}(h:Pu.basicB zs=true) n:Pu.basicB (zs.take n)=true:=by
 unfold Pu.basicB at h ⊢;rw[List.all_eq_true]at h ⊢;exact fun z T=>h z (List.mem_of_mem_take T)
theorem z0X s w(h:Pu.basicB (nums s)=true)(S:s.size<=1000000):∃v w',(convert 9 36 (.string s)).run prog w=.ok v w'/\Ok .i32 21 w' w.heap.size v (nums s)/\Bw w w':=by
 refine⟨_,_,z0W s w,?_,((b0r).drew).alloc (l0r _) _⟩;have I:=x4s s (y5c h) s.size 0 #[] f6J f6J;rw[List.drop_zero]at I;simp only[List.nil_append]at I
 have L:(Conv.runesFrom s s.size 0 #[]).size=(nums s).length:=by
  have:=congrArg List.length I;exact W2O
 have F:=nums_length s;generalize Conv.runesFrom s s.size 0 #[]=A at *;have D:=grownCap_ge w A.size 0 21;have m:=grownCap_le_maxLen w A.size 0 21 T7X;generalize grownCap w A.size 0 21=G at *;refine Ok.of (n:=A.size) (us:=(nums s).map (Value.int .i32)) ?_ f6J ⟨by simp[L],.inr ⟨w.heap.size,G,_,rfl,l0r _,heap_alloc_new w.drew _,D,m,P8P,?_⟩⟩ L rfl
 ·intro z T;have:=x0T s z T;exact x1j f6J
 ·grind
theorem x8m s w(a:s.size<=1000000000):Calls prog 13 #[.string s] w (x1b w.heap.size w (Pu.decode (nums s))):=by
 have F:=nums_length s;have A:=Pu.y0B (nums s);by_cases K:65536<s.size
 ·have D:=O (A.trans (if_pos f6J));go_enter func13,ntmps13;go_wp2;go_ret2;exact x1b.no (V D) f6J (b0r)
 ·rw[if_neg f6J]at A;have X:=O (y2J s w a)
  cases Y:Pu.basicB (nums s)with
  | false =>
   rw[if_pos Y]at A;rw[Y]at X;have D:=O A;go_enter func13,ntmps13;go_wp2_with fail;refine(V X).mono ?_;rintro e Q ⟨rfl,rfl⟩;go_wp2;go_ret2;exact x1b.no (V D) f6J (b0r)
  | true =>
   rw[if_neg (by rw[Y];exact M7L)]at A;rw[Y]at X;have D:=O A;have x:=O Y;have C:=O (z6i s w a);generalize Pu.decode (nums s)=r at *;go_enter func13,ntmps13;go_wp2_with fail;refine(V X).mono ?_;rintro e Q ⟨rfl,rfl⟩;go_wp2_with fail;refine(V C).mono ?_;rintro e b ⟨E,k,rfl,g,Y,T⟩;have W:E.size<=s.size:=by rw[<- nums_length E,g,List.length_take];exact f6J
   have P:k.size<=s.size:=by
    rw[<- nums_length k,Y];unfold Pu.tail;split
    ·omega
    ·rw[List.length_drop];omega
   obtain⟨v,t,B,o,H⟩:=z0X E b (by rw[g];exact y2g (V x) _) f6J
   have d:(nums E).length+k.size<=65536:=by
    rw[<- nums_length k,g,Y,List.length_take];unfold Pu.tail;split
    ·rename_i h0;rw[h0];omega
    ·rw[List.length_drop];omega
   have N:=T.size;have L:=O (z0v Q.heap.size v (nums E) k t (o.lower N) (by have:=H.size;exact f6J) f6J);rw[g,Y,<- V D]at L;have I:=O (bthen T H);go_wp2_with fail;refine(V L).mono ?_;rintro e G (⟨u,rfl,Z,S,J⟩ | ⟨Z,S,rfl,J⟩)
   ·have U:Hid (x1b Q.heap.size Q r (.returned (.tuple #[u,.int .i64 0])) G):=x1b.yes Z S ((V I).trans J);exact N8p
   ·have U:Hid (x1b Q.heap.size Q r (.returned (.tuple #[.slice none 0 0,.int .i64 r.2])) G):=.inr ⟨Z,S,rfl,(V I).trans J⟩;generalize r.2=M at *;exact N8p
