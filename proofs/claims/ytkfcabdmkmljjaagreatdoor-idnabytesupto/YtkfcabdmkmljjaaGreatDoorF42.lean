/- Lemmas. -/
import Derived.ScopeJumps
import Derived.WalkMore
import Derived.Test.YtkfcabdmkmljjaaGreatDoorF40
import Derived.Test.YtkfcabdmkmljjaaGreatDoorF41
import Derived.Deep.DeepCutAuto
set_option maxHeartbeats 20000000
set_option maxRecDepth 40000
namespace Go.Proofs.YtkfcabdmkmljjaaGreatDoor
open Go.Proofs.Tryz
section
variable{p:Prop}
theorem t5K(h:p:=by obtain⟨l⟩:=t;have S:l.length=79:=(by simpa using D);apply congrArg Array.mk;have e:=y1u l 79 S;rw[show(List.range 79).map (fun i=>l.getD i undef)=[l.getD 0 undef,l.getD 1 undef,l.getD 2 undef,l.getD 3 undef,l.getD 4 undef,l.getD 5 undef,l.getD 6 undef,l.getD 7 undef,l.getD 8 undef,l.getD 9 undef,l.getD 10 undef,l.getD 11 undef,l.getD 12 undef,l.getD 13 undef,l.getD 14 undef,l.getD 15 undef,l.getD 16 undef,l.getD 17 undef,l.getD 18 undef,l.getD 19 undef,l.getD 20 undef,l.getD 21 undef,l.getD 22 undef,l.getD 23 undef,l.getD 24 undef,l.getD 25 undef,l.getD 26 undef,l.getD 27 undef,l.getD 28 undef,l.getD 29 undef,l.getD 30 undef,l.getD 31 undef,l.getD 32 undef,l.getD 33 undef,l.getD 34 undef,l.getD 35 undef,l.getD 36 undef,l.getD 37 undef,l.getD 38 undef,l.getD 39 undef,l.getD 40 undef,l.getD 41 undef,l.getD 42 undef,l.getD 43 undef,l.getD 44 undef,l.getD 45 undef,l.getD 46 undef,l.getD 47 undef,l.getD 48 undef,l.getD 49 undef,l.getD 50 undef,l.getD 51 undef,l.getD 52 undef,l.getD 53 undef,l.getD 54 undef,l.getD 55 undef,l.getD 56 undef,l.getD 57 undef,l.getD 58 undef,l.getD 59 undef,l.getD 60 undef,l.getD 61 undef,l.getD 62 undef,l.getD 63 undef,l.getD 64 undef,l.getD 65 undef,l.getD 66 undef,l.getD 67 undef,l.getD 68 undef,l.getD 69 undef,l.getD 70 undef,l.getD 71 undef,l.getD 72 undef,l.getD 73 undef,l.getD 74 undef,l.getD 75 undef,l.getD 76 undef,l.getD 77 undef,l.getD 78 undef]from rfl]at e;have g:∀i,(Array.mk l).getD i undef=l.getD i undef:=fun i=>m9N;simp only[g];exact e):p:=h
theorem p4i(h:p:=by have D:Hid (∀C,Bw w C->x8P w m (.returned (.tuple #[.string ⟨#[]⟩,.string s])) C):=fun C Y=>⟨⟨#[]⟩,s,rfl,by rw[X];simp[nums],by unfold Pu.tail;rw[if_pos X];exact V B,Y⟩;go_wp2;go_ret2;exact V D w (b0r)):p:=h
theorem P0Q(h:p:=by exact⟨_,a₁,w₁,d,.of_steps (.one step_scope) A⟩):p:=h
theorem s5e(h:p:=by have:=h.lt;have:=h.hB;exact f6J):p:=h
theorem u3O(h:p:=by go_wp2;go_ret2;exact V T):p:=h
theorem m9N(h:p:=by rw[Array.getD_eq_getD_getElem?,List.getD_eq_getElem?_getD];exact M7K):p:=h
theorem u3f(h:p:=by rw[nums_length];exact f6J):p:=h
theorem S2m(h:p:=by have:=S (j+1) f6J P8P;exact W2K):p:=h
theorem U4D(h:p:=by first| rfl | go_num | simp):p:=h
theorem U6v(h:p:=by first| rfl | go_num):p:=h
theorem n3B(h:p:=by go_wp2;go_ret2;exact x1l.no (V D) f6J (V A)):p:=h
theorem V9D(h:p:=by simp<;>omega):p:=h
end
def y2K(J:Nat->Act->World->Prop)(Q:Exit->Act->World->Prop):Exit->Act->World->Prop
 | .goto l,a,w=>J l a w
 | e,a,w=>Q e a w
theorem x7E{P a w Q}{c}(rest:Nat->Code)(J:Nat->Act->World->Prop)(m:Nat->Act->World->Nat)(C:∀l a w,J l a w->findLabel c l=some (rest l))
  (first:c.wp P (y2K J Q) a w)
  (B:∀l a w,J l a w->(rest l).wp P (y2K (fun M X w'=>J M X w'/\m M X w'<m l a w) Q) a w):(Code.scope c).wp P Q a w:=by
 intro b k Y
 have S:∀n l a w,m l a w=n->J l a w->∃e X w',Q e X w'/\Arrives P (lone (b.at a (.code (rest l)::.inScope c::k)) Y w) b k Y e X w':=by
  intro n
  induction n using Nat.strongRecOn with
  | _ n ih =>
   intro l a w F t;obtain⟨e,a₁,w₁,d,A⟩:=B l a w t b (.inScope c::k) Y
   cases e with
   | normal=>exact⟨.normal,a₁,w₁,d,Steps.trans A (.one step_inScope)⟩
   | exit id=>exact⟨.exit id,a₁,w₁,d,fun I G=>A I (by simp[exitTo,G])⟩
   | goto M =>
    obtain⟨D,E⟩:=d;have H:gotoIn M (.inScope c::k)=some (.code (rest M)::.inScope c::k):=(by simp[gotoIn,C M _ _ D]);obtain⟨e₂,a₂,w₂,d₂,A₂⟩:=ih _ f6J M a₁ w₁ rfl D;exact⟨e₂,a₂,w₂,d₂,.of_steps (A _ H) A₂⟩
   | ret=>exact⟨_,a₁,w₁,d,A⟩
   | panic ch=>exact⟨_,a₁,w₁,d,A⟩
   | outgrown=>exact⟨_,a₁,w₁,d,A⟩
 obtain⟨e,a₁,w₁,d,A⟩:=first b (.inScope c::k) Y
 cases e with
 | normal=>exact⟨.normal,a₁,w₁,d,.head step_scope (Steps.trans A (.one step_inScope))⟩
 | exit id=>exact⟨.exit id,a₁,w₁,d,fun I G=>.head step_scope (A I (by simp[exitTo,G]))⟩
 | goto M =>
  have L:J M a₁ w₁:=d;have H:gotoIn M (.inScope c::k)=some (.code (rest M)::.inScope c::k):=(by simp[gotoIn,C M _ _ L]);obtain⟨e₂,a₂,w₂,d₂,A₂⟩:=S _ M a₁ w₁ rfl L;exact⟨e₂,a₂,w₂,d₂,.of_steps (.head step_scope (A _ H)) A₂⟩
 | ret=>exact P0Q
 | panic ch=>exact P0Q
 | outgrown=>exact P0Q
def after:Code->Nat->Code
 | .seq (.label k) b,l=>if k==l then b else after b l
 | .seq _ b,l=>after b l
 | _,_=>.skip
theorem wp_scope_jumps{P a w Q}{c}(J:Nat->Act->World->Prop)(m:Nat->Act->World->Nat)(G:∀l a w,J l a w->findLabel c l=some (.seq .skip (after c l)))
  (first:(∀a w,J 0 a w->(after c 0).wp P (y2K J Q) a w)->c.wp P (y2K J Q) a w)
  (B:∀l a w,J l a w->(∀M X w',J M X w'->m M X w'<m l a w->(after c M).wp P (y2K (fun C A w2=>J C A w2/\m C A w2<m l a w) Q) X w')->(after c l).wp P (y2K (fun C A w2=>J C A w2/\m C A w2<m l a w) Q) a w):(Code.scope c).wp P Q a w:=by
 have S:∀n l a w,m l a w=n->J l a w->(after c l).wp P (y2K (fun C A w2=>J C A w2/\m C A w2<n) Q) a w:=by
  intro n
  induction n using Nat.strongRecOn with
  | _ n ih =>
   intro l a w F t;subst F;refine B l a w t fun M X w' D E=>Code.wp_mono (fun e A w2 h=>?_) (ih _ E M X w' rfl D)
   cases e with
   | goto C=>exact⟨h.1,Nat.lt_trans h.2 E⟩
   | _=>exact h
 refine x7E (fun l=>.seq .skip (after c l)) J m G (first fun a w t=>Code.wp_mono (fun e A w2 h=>?_) (S _ 0 a w rfl t)) fun l a w t=>wp_seq (wp_skip (S _ l a w rfl t))
 cases e with
 | goto C=>exact h.1
 | _=>exact h
open Go.RowKit
theorem y1u l n(h:l.length=n):l=(List.range n).map (fun i=>l.getD i undef):=by
 apply List.ext_getElem
 ·simp[h]
 ·grind
def F0(s:ByteArray)(v:Value)(k b:Nat)(a:Act):Prop:=a.defers=[]/\a.tmps.size=79/\a.tmps.getD 0 undef=v/\a.tmps.getD 1 undef=.string s/\a.tmps.getD 4 undef=.slice none 0 0/\a.tmps.getD 5 undef=.int .i64 0/\a.tmps.getD 6 undef=.int .i64 (k:Int)/\a.tmps.getD 15 undef=.pointer (some ⟨b,0,none⟩)
theorem F0.open{s v k b a}(h:F0 s v k b a):∃U:Nat->Value,a=({ tmps:=#[v,.string s,U 2,U 3,.slice none 0 0,.int .i64 0,.int .i64 (k:Int),U 7,U 8,U 9,U 10,U 11,U 12,U 13,U 14,.pointer (some ⟨b,0,none⟩),U 16,U 17,U 18,U 19,U 20,U 21,U 22,U 23,U 24,U 25,U 26,U 27,U 28,U 29,U 30,U 31,U 32,U 33,U 34,U 35,U 36,U 37,U 38,U 39,U 40,U 41,U 42,U 43,U 44,U 45,U 46,U 47,U 48,U 49,U 50,U 51,U 52,U 53,U 54,U 55,U 56,U 57,U 58,U 59,U 60,U 61,U 62,U 63,U 64,U 65,U 66,U 67,U 68,U 69,U 70,U 71,U 72,U 73,U 74,U 75,U 76,U 77,U 78],defers:=[] }:Act):=by
 obtain⟨t,E⟩:=a;obtain⟨Z,D,j,y,f,H,C,B⟩:=h;refine⟨fun i=>t.getD i undef,?_⟩;simp only at Z D j y f H C B;subst Z;congr 1;rw[<- j,<- y,<- f,<- H,<- C,<- B];exact t5K
def F1(s:ByteArray)(v:Value)(k b:Nat)(kk vl wt:Int)(a:Act):Prop:=a.defers=[]/\a.tmps.size=79/\a.tmps.getD 0 undef=v/\a.tmps.getD 1 undef=.string s/\a.tmps.getD 4 undef=.slice none 0 0/\a.tmps.getD 5 undef=.int .i64 0/\a.tmps.getD 6 undef=.int .i64 (k:Int)/\a.tmps.getD 15 undef=.pointer (some ⟨b,0,none⟩)/\a.tmps.getD 8 undef=.int .i64 kk/\a.tmps.getD 10 undef=.int .i64 vl/\a.tmps.getD 11 undef=.int .i64 wt
theorem F1.open{s v k b kk vl wt}{a}(h:F1 s v k b kk vl wt a):∃U:Nat->Value,a=({ tmps:=#[v,.string s,U 2,U 3,.slice none 0 0,.int .i64 0,.int .i64 (k:Int),U 7,.int .i64 kk,U 9,.int .i64 vl,.int .i64 wt,U 12,U 13,U 14,.pointer (some ⟨b,0,none⟩),U 16,U 17,U 18,U 19,U 20,U 21,U 22,U 23,U 24,U 25,U 26,U 27,U 28,U 29,U 30,U 31,U 32,U 33,U 34,U 35,U 36,U 37,U 38,U 39,U 40,U 41,U 42,U 43,U 44,U 45,U 46,U 47,U 48,U 49,U 50,U 51,U 52,U 53,U 54,U 55,U 56,U 57,U 58,U 59,U 60,U 61,U 62,U 63,U 64,U 65,U 66,U 67,U 68,U 69,U 70,U 71,U 72,U 73,U 74,U 75,U 76,U 77,U 78],defers:=[] }:Act):=by
 obtain⟨t,E⟩:=a;obtain⟨Z,D,j,y,f,H,C,B,I,A,F⟩:=h;refine⟨fun i=>t.getD i undef,?_⟩;simp only at Z D j y f H C B I A F;subst Z;congr 1;rw[<- j,<- y,<- f,<- H,<- C,<- B,<- I,<- A,<- F];exact t5K
structure Rm(X0:Nat)(B b:Nat)(w0:World)(k:Nat)(st:Pu.St)(v:Value)(wr:World):Prop where
 row:Ok .i32 21 wr B v st.xs
 state:StAt wr b (st.xs.length:Int) st.n st.i st.bias st.first
 bel:Below B w0 wr
 hB:B<=b
 lt:b<wr.heap.size
 ne:v.ownBlock≠some b
 len:st.xs.length<=X0+k
 n:0<=st.n/\st.n<=1114111
 i:0<=st.i/\st.i<=st.xs.length
 bias:0<=st.bias/\st.bias<=468
def x1l(B:Nat)(w:World)(r:List Int×Int)(e:Ending)(w':World):Prop :=
 (∃v,e=.returned (.tuple #[v,.int .i64 0])/\r=(r.1,0)/\Ok .i32 21 w' B v r.1/\Below B w w')\/(r.1=[]/\r.2≠0/\e=.returned (.tuple #[.slice none 0 0,.int .i64 r.2])/\Below B w w')
theorem x1l.no{B w w' r c}(h:r=([],c))(I:c≠0)(Y:Below B w w'):x1l B w r (.returned (.tuple #[.slice none 0 0,.int .i64 c])) w':=by
 subst h;exact .inr ⟨rfl,I,rfl,Y⟩
theorem x1l.yes{B w w' r v}{xs}(h:r=(xs,0))(N:Ok .i32 21 w' B v xs)(Y:Below B w w'):x1l B w r (.returned (.tuple #[v,.int .i64 0])) w':=by
 subst h;exact .inl ⟨v,rfl,rfl,N,Y⟩
def Jq(X0 B b:Nat)(s:ByteArray)(zs:List Int)(r:List Int×Int)(w:World):Nat->Act->World->Prop
 | 0,a,wr=>∃(k:Nat) (st:Pu.St) (v:Value),F0 s v k b a/\k<=s.size/\Rm X0 B b w k st v wr/\r=Pu.rdW (zs.drop k) st
 | 1,a,wr=>∃(k:Nat) (st:Pu.St) (v:Value) (kk vl wt:Int),F1 s v k b kk vl wt a/\k<=s.size/\Rm X0 B b w k st v wr/\(1<=kk/\kk<=k+1)/\(0<=vl/\vl<=75161927680*k)/\(1<=wt/\wt<=2147483648)/\r=Pu.after st (Pu.rdN st.bias (zs.drop k) kk vl wt)
 | 2,a,wr=>∃(k:Nat) (st:Pu.St) (v:Value) (kk vl wt:Int),F1 s v k b kk vl wt a/\k<=s.size/\1<=k/\Rm X0 B b w (k-1) st v wr/\(0<=vl/\vl<=75161927680*k)/\r=Pu.after st (0,vl,zs.drop k)
 | _,_,_=>False
theorem Rm.later{X0 B b w0 k k'}{C:Pu.St}{v wr}(h:Rm X0 B b w0 k C v wr)(G:k<=k'):Rm X0 B b w0 k' C v wr :=
 { h with len:=by have:=h.len;exact f6J }
theorem x3h{K e w w' B}{v zs row}(h:Ok K e w B v zs)(H:w.grownBy w' row)(y:v.ownBlock=none\/v.ownBlock≠row):Ok K e w' B v zs:=⟨h.1,h.2.1,h.2.2.kept H y⟩
theorem x6h{K e w B}{v zs}(h:Ok K e w B v zs) o:Ok K e (w.alloc o) B v zs:=⟨h.1,h.2.1,h.2.2.alloc o⟩
theorem x0w(w:World) o:(w.alloc o).heap.size=w.heap.size+1:=f0h
theorem Rm.step{X0 B b w0 k}{C:Pu.St}{v wr wq w2 d e}(h:Rm X0 B b w0 (k-1) C v wr)(G:1<=k)
  (hd:0<=d/\d<=2147483647) (o:Utf.okc (Pu.stepN C d)) (K:StAt wq b ((C.xs.length:Int)+1) (Pu.stepN C d) (Pu.stepP C d+1) (Pu.adapt d ((C.xs.length:Int)+1) C.first) false) (H:wr.grownBy wq (some b)) (f:wq.heap.size=wr.heap.size)
  (hi:x3z B v (wq.alloc (.cells #[.int .i32 (Pu.stepN C d)] 21)) (Pu.ins C.xs (Pu.stepP C d).toNat (Pu.stepN C d)) e w2):∃v',e=.returned v'/\Rm X0 B b w0 k (Pu.step C d) v' w2:=by
 obtain⟨v',rfl,E,F,l⟩:=hi;have I:(Pu.step C d).xs.length=C.xs.length+1:=x2q _ _ _;have j:0<=Pu.stepP C d:=Int.emod_nonneg _ f6J;have A:Pu.stepP C d<(C.xs.length:Int)+1:=Int.emod_lt_of_pos _ f6J;have L:=x0w wq (.cells #[.int .i32 (Pu.stepN C d)] 21);have J:∀g,v.ownBlock=some g->B<=g/\g<wr.heap.size:=fun g X=>h.row.row.lt g X;refine⟨v',rfl,⟨E,?_,?_,h.hB,?_,?_,?_,?_,?_,?_⟩⟩
 ·rw[I];show StAt w2 b ((C.xs.length+1:Nat):Int) (Pu.stepN C d) (Pu.stepP C d+1) (Pu.adapt d ((C.xs.length:Int)+1) C.first) false;rw[(f6J:((C.xs.length+1:Nat):Int)=(C.xs.length:Int)+1)];unfold StAt at K ⊢;rw[F.block b (by have:=h.lt;exact f6J) (fun X=>h.ne X.symm),heap_alloc_old _ _ (by have:=h.lt;exact f6J)];exact K
 ·have Z:=h.bel.grown H s5e (fun g X=>by simp at X;have:=h.hB;exact f6J);have D:=Z.alloc s5e (.cells #[.int .i32 (Pu.stepN C d)] 21);exact D.grown F s5e (fun g X=>(J g X).1)
 ·have:=F.size;have:=h.lt;omega
 ·intro X;rcases l b X with h3 | h3
  ·exact h.ne h3
  ·have:=h.lt;omega
 ·rw[I];have:=h.len;omega
 ·show 0<=Pu.stepN C d/\Pu.stepN C d<=1114111;rcases o with h3 | h3<;>omega
 ·rw[I];show 0<=Pu.stepP C d+1/\Pu.stepP C d+1<=((C.xs.length+1:Nat):Int);omega
 ·exact Pu.x2H d _ C.first f6J
theorem Rm.ins{X0 B b w0 k}{C:Pu.St}{v wr wq d}(h:Rm X0 B b w0 (k-1) C v wr)(t:X0+k<=1000000)(o:Utf.okc (Pu.stepN C d))(H:wr.grownBy wq (some b))(f:wq.heap.size=wr.heap.size)(p:Nat)(s:Pu.stepP C d=p) :
  Calls prog 63 #[v,.int .i64 p,.slice (some ⟨wq.heap.size,0,none⟩) 1 1] (wq.alloc (.cells #[.int .i32 (Pu.stepN C d)] 21)) (x3z B v (wq.alloc (.cells #[.int .i32 (Pu.stepN C d)] 21)) (Pu.ins C.xs (Pu.stepP C d).toNat (Pu.stepN C d))):=by
 have A:Pu.stepP C d<(C.xs.length:Int)+1:=Int.emod_lt_of_pos _ f6J;have L:=x0w wq (.cells #[.int .i32 (Pu.stepN C d)] 21);have S:=h.len;have:=h.lt;have:=h.hB;rw[(f6J:(Pu.stepP C d).toNat=p)];refine y5K B v C.xs p (Pu.stepN C d) _ wq.heap.size (x6h (x3h h.row H (.inr h.ne)) _) f6J f6J f6J (heap_alloc_new wq _) (fun X=>?_) (by rcases o with h3 | h3<;>omega);have:=(h.row.row.lt _ X).2;omega
def pmes(N l:Nat)(a:Act):Nat:=3*(N-(intOf (a.tmps.getD 6 undef)).toNat)+(if l=2 then 2 else if l=0 then 1 else 0)
theorem x7j{N l C k k2:Nat}{a a2}(h:a.tmps.getD 6 undef=.int .i64 (k:Int))(D:a2.tmps.getD 6 undef=.int .i64 (k2:Int))(o:3*(N-k2)+(if C=2 then 2 else if C=0 then 1 else 0)<3*(N-k)+(if l=2 then 2 else if l=0 then 1 else 0)):pmes N C a2<pmes N l a:=by
 unfold pmes;rw[h,D];exact o
theorem z1M{d wt:Int}(U:0<=d/\d<=35)(Z:1<=wt/\wt<=2147483648):0<=d*wt/\d*wt<=75161927680:=by
 refine⟨Int.mul_nonneg U.1 f6J,?_⟩
 calc d*wt<=35*wt:=Int.mul_le_mul_of_nonneg_right U.2 f6J
  _<=75161927680:=f6J
theorem z8w{t wt:Int}(U:1<=t/\t<=26)(Z:1<=wt/\wt<=2147483648):1<=wt*(36-t)/\wt*(36-t)<=75161927680:=by
 constructor
 ·calc 1<=wt:=Z.1
   _=wt*1:=f6J
   _<=wt*(36-t):=Int.mul_le_mul_of_nonneg_left f6J f6J
 ·calc wt*(36-t)<=wt*35:=Int.mul_le_mul_of_nonneg_left f6J f6J
   _<=75161927680:=f6J
theorem z9A{zs:List Int}{k}(G:k<zs.length):zs.drop k=zs.getD k 0::zs.drop (k+1):=x0t G
theorem q0t{c}(h:Utf.okc c):okb c=true:=d0t h
theorem q0u{c}(h:¬Utf.okc c):okb c=false:=d0f h
theorem z0x B v0 xs0 s w(aF:Ok .i32 21 w B v0 xs0)(hB:B<=w.heap.size)(hs:xs0.length+s.size<=100000) :
  Calls prog 33 #[v0,.string s] w (x1l B w (Pu.rdW (nums s) (Pu.begin xs0))):=by
 have aK:=nums_length s;have j:Pu.rdW (nums s) (Pu.begin xs0)=Pu.rdW ((nums s).drop 0) (Pu.begin xs0):=s4S;generalize Pu.rdW (nums s) (Pu.begin xs0)=r at *;have aC:=O (x0B s);have aG:=O (x1O s);obtain⟨m,aN⟩:∃m,nums s=m:=⟨_,rfl⟩;rw[aN]at aK j aC aG;have Q:=O j;clear j aN;obtain⟨X0,aJ⟩:∃X0,X0=xs0.length:=⟨_,rfl⟩;have ab:=O aJ;have ae:=O aF;obtain⟨ao,aH,P,bh,bj⟩:=aF.sk.shape;have aR:=O P
 have aP:Hid (∀k,k<m.length->0<=m.getD k 0/\m.getD k 0<=255):=fun k hk=>by
  rw[List.getD,List.getElem?_eq_getElem hk];exact V aC _ (List.getElem_mem hk)
 subst P;clear aF aJ aR aC;have x:=O (y0r (xs0.length:Int) w);go_enter func33,ntmps33;go_wp2;refine wp_scope_jumps (fun l a wr=>∃b,w.heap.size<=b/\Jq X0 B b s m r w l a wr) (fun l a _=>pmes s.size l a) ?hf ?first ?pass
 case hf =>
  rintro l a wr ⟨b,I,h⟩
  match l,h with
  | 0,_=>rfl
  | 1,_=>rfl
  | 2,_=>rfl
  | (l+3),h=>exact h.elim
 case first =>
  intro H;replace H:=O H;go_wp2_with fail;refine c0m x fun R aq=>?_
  have hM:Rm X0 B R.heap.size w 0 (Pu.begin xs0) (.slice ao xs0.length aH) (R.alloc (.cells #[.int .i64 (xs0.length:Int),.int .i64 128,.int .i64 0,.int .i64 72,.bool true] 132)):=by
   have hv:=V ae;have hx:=V ab;have bu:=aq.size;refine⟨x6h (hv.below aq) _,heap_alloc_new R _,(aq.mono hB).alloc f6J _,f6J,by rw[x0w];exact f6J,fun hh=>?_,by show xs0.length<=X0+0;exact f6J,by show(0:Int)<=128/\(128:Int)<=1114111;exact f6J,by show(0:Int)<=0/\(0:Int)<=(xs0.length:Int);exact f6J,by show(0:Int)<=72/\(72:Int)<=468;exact f6J⟩;have:=(hv.row.lt _ hh).2;omega
  have X:r=Pu.rdW (m.drop 0) (Pu.begin xs0):=V Q;have I:w.heap.size<=R.heap.size:=aq.size;obtain⟨b,aS⟩:∃b,b=R.heap.size:=⟨_,rfl⟩;obtain⟨wr,aY⟩:∃wr,R.alloc (.cells #[.int .i64 (xs0.length:Int),.int .i64 128,.int .i64 0,.int .i64 72,.bool true] 132)=wr:=⟨_,rfl⟩;rw[aY]at hM;go_wp2;go_step3;rw[<- aS]at hM I ⊢
  rename_i K hK
  generalize Value.slice ao xs0.length aH=v at *;refine hK _ _ (V H _ _ ?_);exact⟨b,I,0,Pu.begin xs0,v,⟨rfl,rfl,rfl,rfl,rfl,rfl,rfl,rfl⟩,f6J,hM,X⟩
 case pass =>
  rintro l a wr ⟨b,I,h⟩ S
  match l,h with
  | (l+3),h=>exact h.elim
  | 0,h =>
   obtain⟨k,C,v,L,ar,hM,X⟩:=h;obtain⟨U,rfl⟩:=L.open;clear L
   conv=>arg 2;whnf
   obtain⟨c,J,N,T,aO,ne,len,hn,hi,Y⟩:=id hM;obtain⟨c0,c1,c2,c3,c4,f0,f1,f2,f3,f4⟩:=J.cells;by_cases aw:k<m.length
   ·have y:((k:Int)==(s.size:Int))=false:=P8P;have HR:=O (X.trans (Pu.z7P (by rw[z9A aw];exact List.cons_ne_nil _ _) C));have HM:=O hM;replace S:=O S;clear X hM c J N Q ae x ab;go_wp2;go_step3
    rename_i K hK
    refine hK _ _ (V S 1 _ _ ?_ ?_)
    ·exact⟨b,I,k,C,v,1,0,1,⟨rfl,rfl,rfl,rfl,rfl,rfl,rfl,rfl,rfl,rfl,rfl⟩,ar,V HM,f6J,f6J,f6J,V HR⟩
    ·exact x7j (k:=k) (k2:=k) rfl rfl M7P
   ·have bm:k=m.length:=f6J;have D:=O (X.trans ((congrArg (fun q=>Pu.rdW q C) (List.drop_eq_nil_of_le f6J)).trans (Pu.z7O C)));have M:=O c;have A:=O N;have y:((k:Int)==(s.size:Int))=true:=P8P;clear X hM c J N Q ae x ab;go_wp2;go_ret2;exact x1l.yes (V D) (V M) (V A)
  | 1,h =>
   clear S;obtain⟨k,C,v,kk,vl,wt,L,ar,hM,bn,aX,bA,X⟩:=h;obtain⟨U,rfl⟩:=L.open;clear L
   conv=>arg 2;whnf
   obtain⟨c,J,N,T,aO,ne,len,hn,hi,Y⟩:=id hM;obtain⟨c0,c1,c2,c3,c4,f0,f1,f2,f3,f4⟩:=J.cells;by_cases aw:k<m.length
   ·have be:=V aG (k:Int) k rfl f6J;have aL:=V aP k aw;have ba:=Pu.z9x (m.getD k 0);have y:((k:Int)==(s.size:Int))=false:=P8P;have HD:=fun W=>O (y2r (m.getD k 0) W aL.1 aL.2);have aj:=fun W=>O (y0d kk C.bias W f6J f6J);have aM:=Pu.x3n kk C.bias;have HR:=O (X.trans (by rw[z9A aw]));by_cases hd:Pu.dig (m.getD k 0)<0
    ·have D:=O ((V HR).trans ((congrArg (Pu.after C) (Pu.z7M hd)).trans (Pu.y0p f6J)));have A:=O N;clear HR X hM c J aj aM N Q ae x ab;generalize Pu.dig (m.getD k 0)=d at *;generalize m.getD k 0=z at *;go_wp2_with fail;refine(V (HD _)).mono ?_;rintro e R ⟨⟨_,rfl⟩ | ⟨G,_⟩,rfl⟩
     ·clear HD;exact n3B
     ·omega
    ·have bp:=z1M (d:=Pu.dig (m.getD k 0)) (wt:=wt) f6J f6J;by_cases ht:Pu.dig (m.getD k 0)<Pu.thr kk C.bias
     ·have D:=O ((V HR).trans (by rw[Pu.z3Y hd ht]));have HM:=O hM;clear HR X hM c J N Q ae x ab;generalize hdg:Pu.dig (m.getD k 0)=d at *;generalize m.getD k 0=z at *;clear hdg;generalize Pu.thr kk C.bias=t at *;go_wp2_with fail;refine(V (HD _)).mono ?_;rintro e R ⟨⟨G,_⟩ | ⟨_,rfl⟩,rfl⟩
      ·omega
      ·clear HD;go_wp2_with(go_at_call 60;refine(V (aj _)).mono ?_;rintro e R ⟨rfl,rfl⟩;clear aj);go_step3;show(∃b,w.heap.size<=b/\Jq X0 B b s m r w 2 _ _)/\_;exact⟨⟨b,I,⟨k+1,C,_,kk,vl+d*wt,wt,⟨rfl,rfl,rfl,rfl,rfl,rfl,g2A,rfl,rfl,U4D,rfl⟩,f6J,f6J,(V HM).later f6J,f6J,V D⟩⟩,x7j (k:=k) (k2:=k+1) rfl g2A V9D⟩
     ·have D:=O ((V HR).trans (by rw[Pu.z3Z hd ht]));have HM:=O hM;have bw:=z8w (t:=Pu.thr kk C.bias) (wt:=wt) aM f6J;clear HR X hM c J N Q ae x ab;generalize hdg:Pu.dig (m.getD k 0)=d at *;generalize m.getD k 0=z at *;clear hdg;by_cases aA:2147483648<wt*(36-Pu.thr kk C.bias)
      ·rw[if_pos aA]at D;generalize Pu.thr kk C.bias=t at *;go_wp2_with fail;refine(V (HD _)).mono ?_;rintro e R ⟨⟨G,_⟩ | ⟨_,rfl⟩,rfl⟩
       ·omega
       ·clear HD;go_wp2_with(go_at_call 60;refine(V (aj _)).mono ?_;rintro e R ⟨rfl,rfl⟩;clear aj);go_step3;show(∃b,w.heap.size<=b/\Jq X0 B b s m r w 1 _ _)/\_;exact⟨⟨b,I,⟨k+1,C,_,kk+1,vl+d*wt,2147483648,⟨rfl,rfl,rfl,rfl,rfl,rfl,g2A,rfl,U6v,U4D,U4D⟩,f6J,(V HM).later f6J,f6J,f6J,f6J,V D⟩⟩,x7j (k:=k) (k2:=k+1) rfl g2A V9D⟩
      ·rw[if_neg aA]at D;generalize Pu.thr kk C.bias=t at *;go_wp2_with fail;refine(V (HD _)).mono ?_;rintro e R ⟨⟨G,_⟩ | ⟨_,rfl⟩,rfl⟩
       ·omega
       ·clear HD;go_wp2_with(go_at_call 60;refine(V (aj _)).mono ?_;rintro e R ⟨rfl,rfl⟩;clear aj);go_step3;show(∃b,w.heap.size<=b/\Jq X0 B b s m r w 1 _ _)/\_;exact⟨⟨b,I,⟨k+1,C,_,kk+1,vl+d*wt,wt*(36-t),⟨rfl,rfl,rfl,rfl,rfl,rfl,g2A,rfl,U6v,U4D,U4D⟩,f6J,(V HM).later f6J,f6J,f6J,f6J,V D⟩⟩,x7j (k:=k) (k2:=k+1) rfl g2A V9D⟩
   ·have D:=O (X.trans ((congrArg (Pu.after C) ((congrArg (fun q=>Pu.rdN C.bias q kk vl wt) (List.drop_eq_nil_of_le f6J)).trans (Pu.z7N _ _ _ _))).trans (Pu.y0p f6J)));have A:=O N;have y:((k:Int)==(s.size:Int))=true:=P8P;clear X hM c J N Q ae x ab;exact n3B
  | 2,h =>
   clear S;obtain⟨k,C,v,kk,vl,wt,L,ar,aT,hM,aX,X⟩:=h;obtain⟨U,rfl⟩:=L.open;clear L
   conv=>arg 2;whnf
   obtain⟨c,J,N,T,aO,ne,len,hn,hi,Y⟩:=id hM;have bB:=V ab;by_cases E:2147483647<vl
   ·have D:=O (X.trans (Pu.y4S E));have A:=O N;clear X hM c J N Q ae x ab;exact n3B
   ·have HS:=O (y0a b C.xs.length C.n C.i C.bias vl C.first wr J f6J f6J f6J f6J);have hN:Pu.stepN C vl=C.n+(C.i+vl) / (C.xs.length+1):=rfl;have hP:Pu.stepP C vl=(C.i+vl)%(C.xs.length+1):=rfl;rw[<- hN,<- hP]at HS;have aU:0<=(C.i+vl) / ((C.xs.length:Int)+1):=Int.ediv_nonneg f6J f6J;have aV:(C.i+vl) / ((C.xs.length:Int)+1)<=C.i+vl:=Int.ediv_le_self _ f6J;have j:0<=(C.i+vl)%((C.xs.length:Int)+1):=Int.emod_nonneg _ f6J;have aW:(C.i+vl)%((C.xs.length:Int)+1)<(C.xs.length:Int)+1:=Int.emod_lt_of_pos _ f6J;have aK:0<=Pu.stepN C vl/\Pu.stepN C vl<=9000000000:=(by rw[hN];exact f6J);have bt:0<=Pu.stepP C vl/\Pu.stepP C vl<=C.xs.length:=(by rw[hP];exact f6J);clear hN hP aU aV j aW;by_cases aZ:1114111<Pu.stepN C vl
    ·have D:=O (X.trans (Pu.y0o E M1e));have A:=O N;have M:=O c;clear X hM c J N Q ae x ab;generalize Pu.stepN C vl=nn,Pu.stepP C vl=pp,Pu.adapt vl ((C.xs.length:Int)+1) C.first=ad at *;go_wp2_with fail;refine(V HS).mono ?_;rintro e R ⟨rfl,am,F,f⟩;clear HS;have aB:=O ((V A).grown F f6J (fun g hg=>by simp at hg;exact f6J));clear am F f A;go_wp2;go_ret2;exact x1l.no (V D) f6J (V aB)
    ·have HV:=fun W=>O (x8O (Pu.stepN C vl) W f6J);by_cases o:Utf.okc (Pu.stepN C vl)
     ·rw[q0t o]at HV;have D:=O (X.trans (Pu.z1X E o));obtain⟨p,hp⟩:∃p:Nat,Pu.stepP C vl=p:=⟨(Pu.stepP C vl).toNat,f6J⟩
      have Z:Hid (∀R e u,StAt R b ((C.xs.length:Int)+1) (Pu.stepN C vl) (Pu.stepP C vl+1) (Pu.adapt vl ((C.xs.length:Int)+1) C.first) false->wr.grownBy R (some b)->R.heap.size=wr.heap.size ->
        x3z B v (R.alloc (.cells #[.int .i32 (Pu.stepN C vl)] 21)) (Pu.ins C.xs (Pu.stepP C vl).toNat (Pu.stepN C vl)) e u->∃v',e=.returned v'/\Rm X0 B b w k (Pu.step C vl) v' u) :=
       fun R e u h1 h2 h3 h4=>hM.step aT f6J o h1 h2 h3 h4
      have aD:Hid (∀R,wr.grownBy R (some b)->R.heap.size=wr.heap.size->Calls prog 63 #[v,.int .i64 p,.slice (some ⟨R.heap.size,0,none⟩) 1 1] (R.alloc (.cells #[.int .i32 (Pu.stepN C vl)] 21)) (x3z B v (R.alloc (.cells #[.int .i32 (Pu.stepN C vl)] 21)) (Pu.ins C.xs (Pu.stepP C vl).toNat (Pu.stepN C vl)))) :=
       fun R h1 h2=>hM.ins f6J o h1 h2 p hp
      clear X hM c J N Q ae x ab o len;rw[hp]at HS Z aD;generalize Pu.ins C.xs ((p:Int)).toNat (Pu.stepN C vl)=ys at *;clear hp;generalize Pu.stepN C vl=nn,Pu.adapt vl ((C.xs.length:Int)+1) C.first=ad at *;go_wp2_with fail;refine(V HS).mono ?_;rintro e R ⟨rfl,am,F,f⟩;clear HS;have HI:=O (V aD R F f);have HQ:=O (fun e u=>V Z R e u am F f);clear am F f aD Z;go_wp2_with(go_at_call 62;refine(V (HV _)).mono ?_;rintro e wx ⟨rfl,rfl⟩;clear HV);refine(V HI).mono ?_;intro e u ay;obtain⟨v',rfl,aI⟩:=V HQ e u ay;have aQ:=O aI;clear ay aI HI HQ;go_wp2;go_step3;show(∃b,w.heap.size<=b/\Jq X0 B b s m r w 0 _ _)/\_;exact⟨⟨b,I,k,_,v',⟨rfl,rfl,rfl,rfl,rfl,rfl,rfl,rfl⟩,ar,V aQ,V D⟩,x7j (k:=k) (k2:=k) rfl rfl M7P⟩
     ·have D:=O (X.trans (Pu.y0o E o));rw[q0u o]at HV;have A:=O N;clear X hM c J N Q ae x ab o;generalize Pu.stepN C vl=nn,Pu.stepP C vl=pp,Pu.adapt vl ((C.xs.length:Int)+1) C.first=ad at *;go_wp2_with fail;refine(V HS).mono ?_;rintro e R ⟨rfl,am,F,f⟩;clear HS;have aB:=O ((V A).grown F f6J (fun g hg=>by simp at hg;exact f6J));clear am F f A;go_wp2_with(go_at_call 62;refine(V (HV _)).mono ?_;rintro e wx ⟨rfl,rfl⟩;clear HV);go_ret2;exact x1l.no (V D) f6J (V aB)
theorem x4r(s:ByteArray)(h:∀j,j<s.size->(s.get! j).toNat<128):∀(f i:Nat) (acc:Array Value),s.size<=i+f->i<=s.size ->
  (Conv.runesFrom s f i acc).toList=acc.toList++(((nums s).drop i).map (Value.int .i32))
 | 0,i,acc,h1,h2=>by
  rw[Conv.runesFrom,List.drop_eq_nil_of_le u3f];simp
 | f+1,i,acc,h1,h2=>by
  rw[Conv.runesFrom];by_cases hi:i<s.size
  ·rw[if_pos hi]
   have hd:Utf8.decode s i=((s.get! i).toNat,1):=by
    unfold Utf8.decode;simp[h i hi]
   rw[hd];simp only;rw[x4r s h f (i+1) _ f6J f6J];rw[x0t (xs:=nums s) (k:=i) (by rw[nums_length];exact hi)];have:=x4Q s i hi;simp only[Array.toList_push,List.map_cons,List.append_assoc,List.cons_append,List.nil_append];rw[<- this];have H:s.get! i=s[i]'hi:=(by simp[ByteArray.get!,ByteArray.getElem_eq_getElem_data,hi]);rw[H];rfl
  ·rw[if_neg hi,List.drop_eq_nil_of_le u3f];simp
theorem z0W s w:(convert 9 36 (.string s)).run prog w =
  .ok (.slice (some ⟨w.heap.size,0,none⟩) (Conv.runesFrom s s.size 0 #[]).size (grownCap w (Conv.runesFrom s s.size 0 #[]).size 0 21))
   (w.drew.alloc (.cells (Conv.runesFrom s s.size 0 #[]++Array.replicate (grownCap w (Conv.runesFrom s s.size 0 #[]).size 0 21-(Conv.runesFrom s s.size 0 #[]).size) (.int .i32 0)) 21)):=by
 simp[convert,run_underlying underlying9,run_underlying underlying36,run_underlying underlying21,Conv.stringToRunes,newRow,grownCap,Question.forced]
theorem x8r{zs}(h:∀j,j<zs.length->zs.getD j 0≠45) k a:Pu.x4M zs k a=a:=by
 induction zs generalizing k a with
 | nil=>rfl
 | cons z r ih =>
  rw[Pu.x4M,if_neg (by simpa using h 0 M7M)];exact ih (fun j R=>by have:=h (j+1) P8P;exact W2O) (k+1) a
theorem z3n{zs i}(hi:i<zs.length)(A:zs.getD i 0=45)(S:∀j,i<j->j<zs.length->zs.getD j 0≠45) k a:Pu.x4M zs k a=k+i:=by
 induction zs generalizing i k a with
 | nil=>exact v5F
 | cons z r ih =>
  rw[Pu.x4M]
  cases i with
  | zero =>
   rw[if_pos (by simpa using A)];exact x8r (fun j R=>S2m) _ _
  | succ i =>
   rw[ih (i:=i) w3A (by simpa using A) (fun j Z D=>S2m)];omega
def x3a(w:World)(zs:List Int)(e:Ending)(w':World):Prop :=
 ((e=.returned (.int .i64 (-1))/\Pu.x4M zs 0 0=0)\/∃i:Nat,i<zs.length/\e=.returned (.int .i64 i)/\Pu.x4M zs 0 0=i)/\w'=w
theorem x9u s w(L:s.size<=1000000000):Calls prog 106 #[.string s,.int .u8 45] w (x3a w (nums s)):=by
 have F:=nums_length s;have Y:=O (x1O s)
 have W:Hid (∀k,k<(nums s).length->0<=(nums s).getD k 0/\(nums s).getD k 0<=255):=fun k G=>by
  rw[List.getD,List.getElem?_eq_getElem G];exact x0B s _ (List.getElem_mem G)
 generalize nums s=m at *;go_enter func106,ntmps106;go_wp2;go_loop [5,9,10,11,12,13,14,15,16,17,18] (fun i _ _ _ _ _ _ _ _ _ _=>∃k:Nat,i=.int .i64 ((k:Int)-1)/\k<=m.length/\∀j,k<=j->j<m.length->m.getD j 0≠45) (fun i _ _ _ _ _ _ _ _ _ _=>(intOf i+1).toNat)
 case atStart=>exact⟨m.length,by rw[F],f6J,fun j Z D=>f6J⟩
 case round =>
  obtain⟨k,rfl,G,X⟩:=hrel;have B:=O X
  cases k with
  | zero =>
   have E:Hid (x3a w m (.returned (.int .i64 (-1))) w):=⟨.inl ⟨rfl,x8r (fun j R=>V B j f6J R) _ _⟩,rfl⟩;go_wp2;go_ret;exact V E
  | succ k =>
   have U:=V Y (k:Int) k rfl f6J;have T:=V W k f6J;have C:((k+1:Nat):Int)-1=(k:Int):=f6J;rw[C];by_cases u:m.getD k 0=45
   ·have E:Hid (x3a w m (.returned (.int .i64 (k:Int))) w):=⟨.inr ⟨k,f6J,rfl,by rw[z3n (i:=k) f6J u (fun j Z D=>V B j f6J D)];exact f6J⟩,rfl⟩;rw[u]at U;go_wp2;go_ret;exact V E
   ·have f:Hid (∀j,k<=j->j<m.length->m.getD j 0≠45):=fun j Z D=>by
     rcases Nat.eq_or_lt_of_le Z with h3 | h3
     ·rw[<- h3];exact u
     ·exact V B j f6J D
    have S:(m.getD k 0==45)=false:=U3E;generalize m.getD k 0=z at *;go_wp2;go_round
    case rel=>exact⟨k,U6t,f6J,V f⟩
    case measure=>simp[intOf]
theorem y0X s w(L:s.size<=1000000000):Calls prog 57 #[.string s,.int .u8 45] w (x3a w (nums s)):=by
 have H:=O (x9u s w L);generalize nums s=m at *;go_enter func57,ntmps57;go_wp2_with fail;refine(V H).mono ?_;rintro e w ⟨⟨rfl,X⟩ | ⟨i,hi,rfl,X⟩,rfl⟩
 ·have D:Hid (x3a w m (.returned (.int .i64 (-1))) w):=⟨.inl ⟨rfl,X⟩,rfl⟩;go_wp2;go_ret;exact V D
 ·have D:Hid (x3a w m (.returned (.int .i64 (i:Int))) w):=⟨.inr ⟨i,hi,rfl,X⟩,rfl⟩;go_wp2;go_ret;exact V D
def x8P(w:World)(zs:List Int)(e:Ending)(w':World):Prop :=
 ∃a b:ByteArray,e=.returned (.tuple #[.string a,.string b])/\nums a=zs.take (Pu.x4M zs 0 0)/\nums b=Pu.tail zs/\Below w.heap.size w w'
theorem x9K s p q:nums (s.extract p q)=((nums s).drop p).take (q-p):=by
 unfold nums;rw[ByteArray.data_extract,Array.toList_extract,List.map_drop.symm,List.map_take.symm]
theorem z6k s w(L:s.size<=1000000000):Calls prog 32 #[.string s] w (x8P w (nums s)):=by
 have H:=O (y0X s w L);have F:=nums_length s;obtain⟨m,P⟩:∃m,nums s=m:=⟨_,rfl⟩;have B:=O P;rw[P]at F H;rw[P];go_enter func32,ntmps32;go_wp2_with fail;refine(V H).mono ?_;rintro e w ⟨⟨rfl,X⟩ | ⟨i,hi,rfl,X⟩,rfl⟩
 ·exact p4i
 ·by_cases U:i=0
  ·subst U;exact p4i
  ·have D:Hid (∀C,Bw w C->x8P w m (.returned (.tuple #[.string (s.extract 0 i),.string (s.extract (i+1) s.size)])) C):=fun C Y =>
    ⟨_,_,rfl,by rw[X,y1k,V B],by unfold Pu.tail;rw[if_neg f6J,X,x9K,V B,List.take_of_length_le F0o],Y⟩
   go_wp2;go_region;go_wp2;go_ret2;exact V D w.drew ((b0r).drew)
theorem y4X{s}(h:Pu.basicB (nums s)=true):∀j,j<s.size->(s.get! j).toNat<128:=by
 intro j R;have S:=nums_length s;have Z:=x4Q s j R
 have D:(nums s).getD j 0<128:=by
  have J:=List.all_eq_true.1 h ((nums s)[j]'f6J) (List.getElem_mem _);rw[List.getD,List.getElem?_eq_getElem f6J];exact I8X
 have H:s.get! j=s[j]'R:=(by simp[ByteArray.get!,ByteArray.getElem_eq_getElem_data,R]);rw[H];omega
theorem y2f{zs}(h:Pu.basicB zs=true) n:Pu.basicB (zs.take n)=true:=by
 unfold Pu.basicB at h ⊢;rw[List.all_eq_true]at h ⊢;exact fun z u=>h z (List.mem_of_mem_take u)
theorem z0X s w(h:Pu.basicB (nums s)=true)(S:s.size<=1000000):∃v w',(convert 9 36 (.string s)).run prog w=.ok v w'/\Ok .i32 21 w' w.heap.size v (nums s)/\Bw w w':=by
 refine⟨_,_,z0W s w,?_,((b0r).drew).alloc (l0r _) _⟩;have x:=x4r s (y4X h) s.size 0 #[] f6J f6J;rw[List.drop_zero]at x;simp only[List.nil_append]at x
 have a:(Conv.runesFrom s s.size 0 #[]).size=(nums s).length:=by
  have:=congrArg List.length x;exact W2O
 have F:=nums_length s;generalize Conv.runesFrom s s.size 0 #[]=A at *;have D:=grownCap_ge w A.size 0 21;have m:=grownCap_le_maxLen w A.size 0 21 T7X;generalize grownCap w A.size 0 21=G at *;refine Ok.of (n:=A.size) (us:=(nums s).map (Value.int .i32)) ?_ f6J ⟨by simp[a],.inr ⟨w.heap.size,G,_,rfl,l0r _,heap_alloc_new w.drew _,D,m,P8P,?_⟩⟩ a rfl
 ·intro z u;have:=x0B s z u;exact x0O f6J
 ·grind
theorem y5v s w(L:s.size<=1000000000):Calls prog 13 #[.string s] w (x1l w.heap.size w (Pu.decode (nums s))):=by
 have F:=nums_length s;have A:=Pu.y8n (nums s);by_cases M:65536<s.size
 ·have D:=O (A.trans (if_pos f6J));go_enter func13,ntmps13;go_wp2;go_ret2;exact x1l.no (V D) f6J (b0r)
 ·rw[if_neg f6J]at A;have d:=O (y2J s w L)
  cases Y:Pu.basicB (nums s)with
  | false =>
   rw[if_pos Y]at A;rw[Y]at d;have D:=O A;go_enter func13,ntmps13;go_wp2_with fail;refine(V d).mono ?_;rintro e R ⟨rfl,rfl⟩;go_wp2;go_ret2;exact x1l.no (V D) f6J (b0r)
  | true =>
   rw[if_neg (by rw[Y];exact M7L)]at A;rw[Y]at d;have D:=O A;have x:=O Y;have H:=O (z6k s w L);generalize Pu.decode (nums s)=r at *;go_enter func13,ntmps13;go_wp2_with fail;refine(V d).mono ?_;rintro e R ⟨rfl,rfl⟩;go_wp2_with fail;refine(V H).mono ?_;rintro e Q ⟨K,m,rfl,E,Y,C⟩;have U:K.size<=s.size:=by rw[<- nums_length K,E,List.length_take];exact f6J
   have X:m.size<=s.size:=by
    rw[<- nums_length m,Y];unfold Pu.tail;split
    ·omega
    ·rw[List.length_drop];omega
   obtain⟨v,u,G,o,t⟩:=z0X K Q (by rw[E];exact y2f (V x) _) f6J
   have B:(nums K).length+m.size<=65536:=by
    rw[<- nums_length m,E,Y,List.length_take];unfold Pu.tail;split
    ·rename_i h0;rw[h0];omega
    ·rw[List.length_drop];omega
   have N:=C.size;have a:=O (z0x R.heap.size v (nums K) m u (o.lower N) (by have:=t.size;exact f6J) f6J);rw[E,Y,<- V D]at a;have I:=O (bthen C t);go_wp2_with fail;refine(V a).mono ?_;rintro e c (⟨W,rfl,Z,b,J⟩ | ⟨Z,b,rfl,J⟩)
   ·have T:Hid (x1l R.heap.size R r (.returned (.tuple #[W,.int .i64 0])) c):=x1l.yes Z b ((V I).trans J);exact u3O
   ·have T:Hid (x1l R.heap.size R r (.returned (.tuple #[.slice none 0 0,.int .i64 r.2])) c):=.inr ⟨Z,b,rfl,(V I).trans J⟩;generalize r.2=P at *;exact u3O
