/- Lemmas. -/
import Derived.ScopeJumps
import Derived.WalkMore
import Derived.Test.YtkfcabdmkmljjaaGreatDoorG40
import Derived.Test.YtkfcabdmkmljjaaGreatDoorG41
import Derived.Deep.DeepCutAuto
set_option maxHeartbeats 20000000
set_option maxRecDepth 40000
namespace Go.Proofs.YtkfcabdmkmljjaaGreatDoor
open Go.Proofs.Tryz
section
variable{p:Prop}
theorem S3x(h:p:=by obtain⟨l⟩:=t;have S:l.length=79:=e2X;apply congrArg Array.mk;have e:=y1G l 79 S;rw[show(List.range 79).map (fun i=>l.getD i undef)=[l.getD 0 undef,l.getD 1 undef,l.getD 2 undef,l.getD 3 undef,l.getD 4 undef,l.getD 5 undef,l.getD 6 undef,l.getD 7 undef,l.getD 8 undef,l.getD 9 undef,l.getD 10 undef,l.getD 11 undef,l.getD 12 undef,l.getD 13 undef,l.getD 14 undef,l.getD 15 undef,l.getD 16 undef,l.getD 17 undef,l.getD 18 undef,l.getD 19 undef,l.getD 20 undef,l.getD 21 undef,l.getD 22 undef,l.getD 23 undef,l.getD 24 undef,l.getD 25 undef,l.getD 26 undef,l.getD 27 undef,l.getD 28 undef,l.getD 29 undef,l.getD 30 undef,l.getD 31 undef,l.getD 32 undef,l.getD 33 undef,l.getD 34 undef,l.getD 35 undef,l.getD 36 undef,l.getD 37 undef,l.getD 38 undef,l.getD 39 undef,l.getD 40 undef,l.getD 41 undef,l.getD 42 undef,l.getD 43 undef,l.getD 44 undef,l.getD 45 undef,l.getD 46 undef,l.getD 47 undef,l.getD 48 undef,l.getD 49 undef,l.getD 50 undef,l.getD 51 undef,l.getD 52 undef,l.getD 53 undef,l.getD 54 undef,l.getD 55 undef,l.getD 56 undef,l.getD 57 undef,l.getD 58 undef,l.getD 59 undef,l.getD 60 undef,l.getD 61 undef,l.getD 62 undef,l.getD 63 undef,l.getD 64 undef,l.getD 65 undef,l.getD 66 undef,l.getD 67 undef,l.getD 68 undef,l.getD 69 undef,l.getD 70 undef,l.getD 71 undef,l.getD 72 undef,l.getD 73 undef,l.getD 74 undef,l.getD 75 undef,l.getD 76 undef,l.getD 77 undef,l.getD 78 undef]from rfl]at e;have g:∀i,(Array.mk l).getD i undef=l.getD i undef:=fun i=>m9N;simp only[g];exact e):p:=h
theorem r9p(h:p:=by have P:Hid (∀o,Bw w o->x8Z w A (.returned (.tuple #[.string ⟨#[]⟩,.string s])) o):=fun o Y=>⟨⟨#[]⟩,s,rfl,by rw[u];simp[nums],by unfold Pu.tail;rw[if_pos u];exact V c,Y⟩;go_wp2;go_ret2;exact V P w (b0r)):p:=h
theorem w9t(h:p:=by exact⟨_,a₁,w₁,d,.of_steps (.one step_scope) B⟩):p:=h
theorem s5e(h:p:=by have:=h.lt;have:=h.hB;exact f6J):p:=h
theorem N8p(h:p:=by go_wp2;go_ret2;exact V U):p:=h
theorem m9N(h:p:=by rw[Array.getD_eq_getD_getElem?,List.getD_eq_getElem?_getD];exact M7K):p:=h
theorem S2m(h:p:=by have:=S (j+1) f6J P8P;exact W2K):p:=h
theorem U4D(h:p:=by first| rfl | go_num | simp):p:=h
theorem e2X(h:p:=by simpa using D):p:=h
theorem R4o(h:p:=by go_wp2;go_ret2;exact x1e.no (V P) f6J (V X)):p:=h
theorem W2P(h:p:=by simpa using this):p:=h
theorem V9D(h:p:=by simp<;>omega):p:=h
end
def y2X(J:Nat->Act->World->Prop)(Q:Exit->Act->World->Prop):Exit->Act->World->Prop
 | .goto l,a,w=>J l a w
 | e,a,w=>Q e a w
theorem x7O{P a w Q}{c}(rest:Nat->Code)(J:Nat->Act->World->Prop)(m:Nat->Act->World->Nat)(o:∀l a w,J l a w->findLabel c l=some (rest l))
  (first:c.wp P (y2X J Q) a w)
  (D:∀l a w,J l a w->(rest l).wp P (y2X (fun A I w'=>J A I w'/\m A I w'<m l a w) Q) a w):(Code.scope c).wp P Q a w:=by
 intro b k L
 have S:∀n l a w,m l a w=n->J l a w->∃e I w',Q e I w'/\Arrives P (lone (b.at a (.code (rest l)::.inScope c::k)) L w) b k L e I w':=by
  intro n
  induction n using Nat.strongRecOn with
  | _ n ih =>
   intro l a w F s;obtain⟨e,a₁,w₁,d,B⟩:=D l a w s b (.inScope c::k) L
   cases e with
   | normal=>exact⟨.normal,a₁,w₁,d,Steps.trans B (.one step_inScope)⟩
   | exit id=>exact⟨.exit id,a₁,w₁,d,fun K G=>B K (by simp[exitTo,G])⟩
   | goto A =>
    obtain⟨H,E⟩:=d;have C:gotoIn A (.inScope c::k)=some (.code (rest A)::.inScope c::k):=(by simp[gotoIn,o A _ _ H]);obtain⟨e₂,a₂,w₂,d₂,B₂⟩:=ih _ f6J A a₁ w₁ rfl H;exact⟨e₂,a₂,w₂,d₂,.of_steps (B _ C) B₂⟩
   | ret=>exact⟨_,a₁,w₁,d,B⟩
   | panic ch=>exact⟨_,a₁,w₁,d,B⟩
   | outgrown=>exact⟨_,a₁,w₁,d,B⟩
 obtain⟨e,a₁,w₁,d,B⟩:=first b (.inScope c::k) L
 cases e with
 | normal=>exact⟨.normal,a₁,w₁,d,.head step_scope (Steps.trans B (.one step_inScope))⟩
 | exit id=>exact⟨.exit id,a₁,w₁,d,fun K G=>.head step_scope (B K (by simp[exitTo,G]))⟩
 | goto A =>
  have t:J A a₁ w₁:=d;have C:gotoIn A (.inScope c::k)=some (.code (rest A)::.inScope c::k):=(by simp[gotoIn,o A _ _ t]);obtain⟨e₂,a₂,w₂,d₂,B₂⟩:=S _ A a₁ w₁ rfl t;exact⟨e₂,a₂,w₂,d₂,.of_steps (.head step_scope (B _ C)) B₂⟩
 | ret=>exact w9t
 | panic ch=>exact w9t
 | outgrown=>exact w9t
def after:Code->Nat->Code
 | .seq (.label k) b,l=>if k==l then b else after b l
 | .seq _ b,l=>after b l
 | _,_=>.skip
theorem wp_scope_jumps{P a w Q}{c}(J:Nat->Act->World->Prop)(m:Nat->Act->World->Nat)(o:∀l a w,J l a w->findLabel c l=some (.seq .skip (after c l)))
  (first:(∀a w,J 0 a w->(after c 0).wp P (y2X J Q) a w)->c.wp P (y2X J Q) a w)
  (D:∀l a w,J l a w->(∀A I w',J A I w'->m A I w'<m l a w->(after c A).wp P (y2X (fun v f w2=>J v f w2/\m v f w2<m l a w) Q) I w')->(after c l).wp P (y2X (fun v f w2=>J v f w2/\m v f w2<m l a w) Q) a w):(Code.scope c).wp P Q a w:=by
 have S:∀n l a w,m l a w=n->J l a w->(after c l).wp P (y2X (fun v f w2=>J v f w2/\m v f w2<n) Q) a w:=by
  intro n
  induction n using Nat.strongRecOn with
  | _ n ih =>
   intro l a w F s;subst F;refine D l a w s fun A I w' H E=>Code.wp_mono (fun e f w2 h=>?_) (ih _ E A I w' rfl H)
   cases e with
   | goto v=>exact⟨h.1,Nat.lt_trans h.2 E⟩
   | _=>exact h
 refine x7O (fun l=>.seq .skip (after c l)) J m o (first fun a w s=>Code.wp_mono (fun e f w2 h=>?_) (S _ 0 a w rfl s)) fun l a w s=>wp_seq (wp_skip (S _ l a w rfl s))
 cases e with
 | goto v=>exact h.1
 | _=>exact h
open Go.RowKit
theorem y1G l n(h:l.length=n):l=(List.range n).map (fun i=>l.getD i undef):=by
 apply List.ext_getElem
 ·simp[h]
 ·grind
def F0(s:ByteArray)(v:Value)(k b:Nat)(a:Act):Prop:=a.defers=[]/\a.tmps.size=79/\a.tmps.getD 0 undef=v/\a.tmps.getD 1 undef=.string s/\a.tmps.getD 4 undef=.slice none 0 0/\a.tmps.getD 5 undef=.int .i64 0/\a.tmps.getD 6 undef=.int .i64 (k:Int)/\a.tmps.getD 15 undef=.pointer (some ⟨b,0,none⟩)
theorem F0.open{s v k b a}(h:F0 s v k b a):∃U:Nat->Value,a=({ tmps:=#[v,.string s,U 2,U 3,.slice none 0 0,.int .i64 0,.int .i64 (k:Int),U 7,U 8,U 9,U 10,U 11,U 12,U 13,U 14,.pointer (some ⟨b,0,none⟩),U 16,U 17,U 18,U 19,U 20,U 21,U 22,U 23,U 24,U 25,U 26,U 27,U 28,U 29,U 30,U 31,U 32,U 33,U 34,U 35,U 36,U 37,U 38,U 39,U 40,U 41,U 42,U 43,U 44,U 45,U 46,U 47,U 48,U 49,U 50,U 51,U 52,U 53,U 54,U 55,U 56,U 57,U 58,U 59,U 60,U 61,U 62,U 63,U 64,U 65,U 66,U 67,U 68,U 69,U 70,U 71,U 72,U 73,U 74,U 75,U 76,U 77,U 78],defers:=[] }:Act):=by
 obtain⟨t,E⟩:=a;obtain⟨Z,D,H,C,T,y,N,B⟩:=h;refine⟨fun i=>t.getD i undef,?_⟩;simp only at Z D H C T y N B;subst Z;congr 1;rw[<- H,<- C,<- T,<- y,<- N,<- B];exact S3x
def F1(s:ByteArray)(v:Value)(k b:Nat)(kk vl wt:Int)(a:Act):Prop:=a.defers=[]/\a.tmps.size=79/\a.tmps.getD 0 undef=v/\a.tmps.getD 1 undef=.string s/\a.tmps.getD 4 undef=.slice none 0 0/\a.tmps.getD 5 undef=.int .i64 0/\a.tmps.getD 6 undef=.int .i64 (k:Int)/\a.tmps.getD 15 undef=.pointer (some ⟨b,0,none⟩)/\a.tmps.getD 8 undef=.int .i64 kk/\a.tmps.getD 10 undef=.int .i64 vl/\a.tmps.getD 11 undef=.int .i64 wt
theorem F1.open{s v k b kk vl wt}{a}(h:F1 s v k b kk vl wt a):∃U:Nat->Value,a=({ tmps:=#[v,.string s,U 2,U 3,.slice none 0 0,.int .i64 0,.int .i64 (k:Int),U 7,.int .i64 kk,U 9,.int .i64 vl,.int .i64 wt,U 12,U 13,U 14,.pointer (some ⟨b,0,none⟩),U 16,U 17,U 18,U 19,U 20,U 21,U 22,U 23,U 24,U 25,U 26,U 27,U 28,U 29,U 30,U 31,U 32,U 33,U 34,U 35,U 36,U 37,U 38,U 39,U 40,U 41,U 42,U 43,U 44,U 45,U 46,U 47,U 48,U 49,U 50,U 51,U 52,U 53,U 54,U 55,U 56,U 57,U 58,U 59,U 60,U 61,U 62,U 63,U 64,U 65,U 66,U 67,U 68,U 69,U 70,U 71,U 72,U 73,U 74,U 75,U 76,U 77,U 78],defers:=[] }:Act):=by
 obtain⟨t,E⟩:=a;obtain⟨Z,D,H,C,T,y,N,B,c,A,G⟩:=h;refine⟨fun i=>t.getD i undef,?_⟩;simp only at Z D H C T y N B c A G;subst Z;congr 1;rw[<- H,<- C,<- T,<- y,<- N,<- B,<- c,<- A,<- G];exact S3x
structure Rm(X0:Nat)(B b:Nat)(w0:World)(k:Nat)(st:Pu.St)(v:Value)(wr:World):Prop where
 row:Ok .i32 21 wr B v st.xs
 state:StAt wr b (st.xs.length:Int) st.n st.i st.bias st.first
 bel:Below B w0 wr
 hB:B<=b
 lt:b<wr.heap.size
 ne:v.ownBlock≠some b
 len:st.xs.length<=X0+k
 n:0<=st.n/\st.n<=1114111
 i:0<=st.i/\st.i<=st.xs.length
 bias:0<=st.bias/\st.bias<=468
def x1e(B:Nat)(w:World)(r:List Int×Int)(e:Ending)(w':World):Prop :=
 (∃v,e=.returned (.tuple #[v,.int .i64 0])/\r=(r.1,0)/\Ok .i32 21 w' B v r.1/\Below B w w')\/(r.1=[]/\r.2≠0/\e=.returned (.tuple #[.slice none 0 0,.int .i64 r.2])/\Below B w w')
theorem x1e.no{B w w' r c}(h:r=([],c))(I:c≠0)(Y:Below B w w'):x1e B w r (.returned (.tuple #[.slice none 0 0,.int .i64 c])) w':=by
 subst h;exact .inr ⟨rfl,I,rfl,Y⟩
theorem x1e.yes{B w w' r v}{xs}(h:r=(xs,0))(N:Ok .i32 21 w' B v xs)(Y:Below B w w'):x1e B w r (.returned (.tuple #[v,.int .i64 0])) w':=by
 subst h;exact .inl ⟨v,rfl,rfl,N,Y⟩
def Jq(X0 B b:Nat)(s:ByteArray)(zs:List Int)(r:List Int×Int)(w:World):Nat->Act->World->Prop
 | 0,a,wr=>∃(k:Nat) (st:Pu.St) (v:Value),F0 s v k b a/\k<=s.size/\Rm X0 B b w k st v wr/\r=Pu.rdW (zs.drop k) st
 | 1,a,wr=>∃(k:Nat) (st:Pu.St) (v:Value) (kk vl wt:Int),F1 s v k b kk vl wt a/\k<=s.size/\Rm X0 B b w k st v wr/\(1<=kk/\kk<=k+1)/\(0<=vl/\vl<=75161927680*k)/\(1<=wt/\wt<=2147483648)/\r=Pu.after st (Pu.rdN st.bias (zs.drop k) kk vl wt)
 | 2,a,wr=>∃(k:Nat) (st:Pu.St) (v:Value) (kk vl wt:Int),F1 s v k b kk vl wt a/\k<=s.size/\1<=k/\Rm X0 B b w (k-1) st v wr/\(0<=vl/\vl<=75161927680*k)/\r=Pu.after st (0,vl,zs.drop k)
 | _,_,_=>False
theorem Rm.later{X0 B b w0 k k'}{m:Pu.St}{v wr}(h:Rm X0 B b w0 k m v wr)(G:k<=k'):Rm X0 B b w0 k' m v wr :=
 { h with len:=by have:=h.len;exact f6J }
theorem x3d{K e w w' B}{v zs row}(h:Ok K e w B v zs)(C:w.grownBy w' row)(y:v.ownBlock=none\/v.ownBlock≠row):Ok K e w' B v zs:=⟨h.1,h.2.1,h.2.2.kept C y⟩
theorem x6j{K e w B}{v zs}(h:Ok K e w B v zs) o:Ok K e (w.alloc o) B v zs:=⟨h.1,h.2.1,h.2.2.alloc o⟩
theorem x0u(w:World) o:(w.alloc o).heap.size=w.heap.size+1:=f0h
theorem Rm.step{X0 B b w0 k}{m:Pu.St}{v wr wq w2 d e}(h:Rm X0 B b w0 (k-1) m v wr)(G:1<=k)
  (hd:0<=d/\d<=2147483647) (l:Utf.okc (Pu.stepN m d)) (K:StAt wq b ((m.xs.length:Int)+1) (Pu.stepN m d) (Pu.stepP m d+1) (Pu.adapt d ((m.xs.length:Int)+1) m.first) false) (C:wr.grownBy wq (some b)) (f:wq.heap.size=wr.heap.size)
  (hi:x3x B v (wq.alloc (.cells #[.int .i32 (Pu.stepN m d)] 21)) (Pu.ins m.xs (Pu.stepP m d).toNat (Pu.stepN m d)) e w2):∃v',e=.returned v'/\Rm X0 B b w0 k (Pu.step m d) v' w2:=by
 obtain⟨v',rfl,I,M,F⟩:=hi;have J:(Pu.step m d).xs.length=m.xs.length+1:=x2p _ _ _;have j:0<=Pu.stepP m d:=Int.emod_nonneg _ f6J;have A:Pu.stepP m d<(m.xs.length:Int)+1:=Int.emod_lt_of_pos _ f6J;have L:=x0u wq (.cells #[.int .i32 (Pu.stepN m d)] 21);have E:∀g,v.ownBlock=some g->B<=g/\g<wr.heap.size:=fun g H=>h.row.row.lt g H;refine⟨v',rfl,⟨I,?_,?_,h.hB,?_,?_,?_,?_,?_,?_⟩⟩
 ·rw[J];show StAt w2 b ((m.xs.length+1:Nat):Int) (Pu.stepN m d) (Pu.stepP m d+1) (Pu.adapt d ((m.xs.length:Int)+1) m.first) false;rw[(f6J:((m.xs.length+1:Nat):Int)=(m.xs.length:Int)+1)];unfold StAt at K ⊢;rw[M.block b (by have:=h.lt;exact f6J) (fun H=>h.ne H.symm),heap_alloc_old _ _ (by have:=h.lt;exact f6J)];exact K
 ·have Z:=h.bel.grown C s5e (fun g H=>by simp at H;have:=h.hB;exact f6J);have D:=Z.alloc s5e (.cells #[.int .i32 (Pu.stepN m d)] 21);exact D.grown M s5e (fun g H=>(E g H).1)
 ·have:=M.size;have:=h.lt;omega
 ·intro H;rcases F b H with h3 | h3
  ·exact h.ne h3
  ·have:=h.lt;omega
 ·rw[J];have:=h.len;omega
 ·show 0<=Pu.stepN m d/\Pu.stepN m d<=1114111;rcases l with h3 | h3<;>omega
 ·rw[J];show 0<=Pu.stepP m d+1/\Pu.stepP m d+1<=((m.xs.length+1:Nat):Int);omega
 ·exact Pu.x2C d _ m.first f6J
theorem Rm.ins{X0 B b w0 k}{m:Pu.St}{v wr wq d}(h:Rm X0 B b w0 (k-1) m v wr)(D:X0+k<=1000000)(l:Utf.okc (Pu.stepN m d))(C:wr.grownBy wq (some b))(f:wq.heap.size=wr.heap.size)(p:Nat)(s:Pu.stepP m d=p) :
  Calls prog 63 #[v,.int .i64 p,.slice (some ⟨wq.heap.size,0,none⟩) 1 1] (wq.alloc (.cells #[.int .i32 (Pu.stepN m d)] 21)) (x3x B v (wq.alloc (.cells #[.int .i32 (Pu.stepN m d)] 21)) (Pu.ins m.xs (Pu.stepP m d).toNat (Pu.stepN m d))):=by
 have A:Pu.stepP m d<(m.xs.length:Int)+1:=Int.emod_lt_of_pos _ f6J;have L:=x0u wq (.cells #[.int .i32 (Pu.stepN m d)] 21);have S:=h.len;have:=h.lt;have:=h.hB;rw[(f6J:(Pu.stepP m d).toNat=p)];refine y6e B v m.xs p (Pu.stepN m d) _ wq.heap.size (x6j (x3d h.row C (.inr h.ne)) _) f6J f6J f6J (heap_alloc_new wq _) (fun H=>?_) (by rcases l with h3 | h3<;>omega);have:=(h.row.row.lt _ H).2;omega
def pmes(N l:Nat)(a:Act):Nat:=3*(N-(intOf (a.tmps.getD 6 undef)).toNat)+(if l=2 then 2 else if l=0 then 1 else 0)
theorem x7p{N l v k k2:Nat}{a a2}(h:a.tmps.getD 6 undef=.int .i64 (k:Int))(D:a2.tmps.getD 6 undef=.int .i64 (k2:Int))(z:3*(N-k2)+(if v=2 then 2 else if v=0 then 1 else 0)<3*(N-k)+(if l=2 then 2 else if l=0 then 1 else 0)):pmes N v a2<pmes N l a:=by
 unfold pmes;rw[h,D];exact z
theorem z2a{d wt:Int}(R:0<=d/\d<=35)(Z:1<=wt/\wt<=2147483648):0<=d*wt/\d*wt<=75161927680:=by
 refine⟨Int.mul_nonneg R.1 f6J,?_⟩
 calc d*wt<=35*wt:=Int.mul_le_mul_of_nonneg_right R.2 f6J
  _<=75161927680:=f6J
theorem z8O{t wt:Int}(R:1<=t/\t<=26)(Z:1<=wt/\wt<=2147483648):1<=wt*(36-t)/\wt*(36-t)<=75161927680:=by
 constructor
 ·calc 1<=wt:=Z.1
   _=wt*1:=f6J
   _<=wt*(36-t):=Int.mul_le_mul_of_nonneg_left f6J f6J
 ·calc wt*(36-t)<=wt*35:=Int.mul_le_mul_of_nonneg_left f6J f6J
   _<=75161927680:=f6J
theorem z9R{zs:List Int}{k}(G:k<zs.length):zs.drop k=zs.getD k 0::zs.drop (k+1):=x0Q G
theorem q0I{c}(h:Utf.okc c):okb c=true:=d0t h
theorem q0J{c}(h:¬Utf.okc c):okb c=false:=d0f h
theorem z0G B v0 xs0 s w(aw:Ok .i32 21 w B v0 xs0)(hB:B<=w.heap.size)(hs:xs0.length+s.size<=100000) :
  Calls prog 33 #[v0,.string s] w (x1e B w (Pu.rdW (nums s) (Pu.begin xs0))):=by
 have aF:=nums_length s;have j:Pu.rdW (nums s) (Pu.begin xs0)=Pu.rdW ((nums s).drop 0) (Pu.begin xs0):=s4M;generalize Pu.rdW (nums s) (Pu.begin xs0)=r at *;have S:=O (x0U s);have ay:=O (x4r s);obtain⟨A,aJ⟩:∃A,nums s=A:=⟨_,rfl⟩;rw[aJ]at aF j S ay;have Q:=O j;clear j aJ;obtain⟨L,aD⟩:∃L,L=xs0.length:=⟨_,rfl⟩;have Z:=O aD;have Y:=O aw;obtain⟨ao,aA,aI,aY,aZ⟩:=aw.sk.shape;have aN:=O aI
 have aL:Hid (∀k,k<A.length->0<=A.getD k 0/\A.getD k 0<=255):=fun k hk=>by
  rw[List.getD,List.getElem?_eq_getElem hk];exact V S _ (List.getElem_mem hk)
 subst aI;clear aw aD aN S;have J:=O (y0B (xs0.length:Int) w);go_enter func33,ntmps33;go_wp2;refine wp_scope_jumps (fun l a wr=>∃b,w.heap.size<=b/\Jq L B b s A r w l a wr) (fun l a _=>pmes s.size l a) ?hf ?first ?pass
 case hf =>
  rintro l a wr ⟨b,ab,h⟩
  match l,h with
  | 0,_=>rfl
  | 1,_=>rfl
  | 2,_=>rfl
  | (l+3),h=>exact h.elim
 case first =>
  intro H;replace H:=O H;go_wp2_with fail;refine c0m J fun G E=>?_
  have I:Rm L B G.heap.size w 0 (Pu.begin xs0) (.slice ao xs0.length aA) (G.alloc (.cells #[.int .i64 (xs0.length:Int),.int .i64 128,.int .i64 0,.int .i64 72,.bool true] 132)):=by
   have hv:=V Y;have hx:=V Z;have bm:=E.size;refine⟨x6j (hv.below E) _,heap_alloc_new G _,(E.mono hB).alloc f6J _,f6J,by rw[x0u];exact f6J,fun hh=>?_,by show xs0.length<=L+0;exact f6J,by show(0:Int)<=128/\(128:Int)<=1114111;exact f6J,by show(0:Int)<=0/\(0:Int)<=(xs0.length:Int);exact f6J,by show(0:Int)<=72/\(72:Int)<=468;exact f6J⟩;have:=(hv.row.lt _ hh).2;omega
  have u:r=Pu.rdW (A.drop 0) (Pu.begin xs0):=V Q;have ab:w.heap.size<=G.heap.size:=E.size;obtain⟨b,aO⟩:∃b,b=G.heap.size:=⟨_,rfl⟩;obtain⟨wr,aU⟩:∃wr,G.alloc (.cells #[.int .i64 (xs0.length:Int),.int .i64 128,.int .i64 0,.int .i64 72,.bool true] 132)=wr:=⟨_,rfl⟩;rw[aU]at I;go_wp2;go_step3;rw[<- aO]at I ab ⊢
  rename_i K hK
  generalize Value.slice ao xs0.length aA=v at *;refine hK _ _ (V H _ _ ?_);exact⟨b,ab,0,Pu.begin xs0,v,⟨rfl,rfl,rfl,rfl,rfl,rfl,rfl,rfl⟩,f6J,I,u⟩
 case pass =>
  rintro l a wr ⟨b,ab,h⟩ IH
  match l,h with
  | (l+3),h=>exact h.elim
  | 0,h =>
   obtain⟨k,m,v,N,ai,I,u⟩:=h;obtain⟨U,rfl⟩:=N.open;clear N
   conv=>arg 2;whnf
   obtain⟨c,D,F,aB,aK,ne,len,hn,hi,x⟩:=id I;obtain⟨c0,c1,c2,c3,c4,f0,f1,f2,f3,f4⟩:=D.cells;by_cases aj:k<A.length
   ·have y:((k:Int)==(s.size:Int))=false:=P8P;have HR:=O (u.trans (Pu.z0R (by rw[z9R aj];exact List.cons_ne_nil _ _) m));have HM:=O I;replace IH:=O IH;clear u I c D F Q Y J Z;go_wp2;go_step3
    rename_i K hK
    refine hK _ _ (V IH 1 _ _ ?_ ?_)
    ·exact⟨b,ab,k,m,v,1,0,1,⟨rfl,rfl,rfl,rfl,rfl,rfl,rfl,rfl,rfl,rfl,rfl⟩,ai,V HM,f6J,f6J,f6J,V HR⟩
    ·exact x7p (k:=k) (k2:=k) rfl rfl (by simp)
   ·have ba:k=A.length:=f6J;have P:=O (u.trans ((congrArg (fun q=>Pu.rdW q m) (List.drop_eq_nil_of_le f6J)).trans (Pu.z0Q m)));have az:=O c;have X:=O F;have y:((k:Int)==(s.size:Int))=true:=P8P;clear u I c D F Q Y J Z;go_wp2;go_ret2;exact x1e.yes (V P) (V az) (V X)
  | 1,h =>
   clear IH;obtain⟨k,m,v,kk,vl,wt,N,ai,I,be,aT,bp,u⟩:=h;obtain⟨U,rfl⟩:=N.open;clear N
   conv=>arg 2;whnf
   obtain⟨c,D,F,aB,aK,ne,len,hn,hi,x⟩:=id I;obtain⟨c0,c1,c2,c3,c4,f0,f1,f2,f3,f4⟩:=D.cells;by_cases aj:k<A.length
   ·have aX:=V ay (k:Int) k rfl f6J;have aG:=V aL k aj;have aW:=Pu.z9O (A.getD k 0);have y:((k:Int)==(s.size:Int))=false:=P8P;have HD:=fun W=>O (y2E (A.getD k 0) W aG.1 aG.2);have ag:=fun W=>O (y0q kk m.bias W f6J f6J);have aH:=Pu.x1n kk m.bias;have HR:=O (u.trans (by rw[z9R aj]));by_cases hd:Pu.dig (A.getD k 0)<0
    ·have P:=O ((V HR).trans ((congrArg (Pu.after m) (Pu.z8d hd)).trans (Pu.y0z f6J)));have X:=O F;clear HR u I c D ag aH F Q Y J Z;generalize Pu.dig (A.getD k 0)=d at *;generalize A.getD k 0=z at *;go_wp2_with fail;refine(V (HD _)).mono ?_;rintro e G ⟨⟨_,rfl⟩ | ⟨C,_⟩,rfl⟩
     ·clear HD;exact R4o
     ·omega
    ·have bh:=z2a (d:=Pu.dig (A.getD k 0)) (wt:=wt) f6J f6J;by_cases ht:Pu.dig (A.getD k 0)<Pu.thr kk m.bias
     ·have P:=O ((V HR).trans (by rw[Pu.y0c hd ht]));have HM:=O I;clear HR u I c D F Q Y J Z;generalize hdg:Pu.dig (A.getD k 0)=d at *;generalize A.getD k 0=z at *;clear hdg;generalize Pu.thr kk m.bias=t at *;go_wp2_with fail;refine(V (HD _)).mono ?_;rintro e G ⟨⟨C,_⟩ | ⟨_,rfl⟩,rfl⟩
      ·omega
      ·clear HD;go_wp2_with(go_at_call 60;refine(V (ag _)).mono ?_;rintro e G ⟨rfl,rfl⟩;clear ag);go_step3;show(∃b,w.heap.size<=b/\Jq L B b s A r w 2 _ _)/\_;exact⟨⟨b,ab,⟨k+1,m,_,kk,vl+d*wt,wt,⟨rfl,rfl,rfl,rfl,rfl,rfl,g2B,rfl,rfl,U4D,rfl⟩,f6J,f6J,(V HM).later f6J,f6J,V P⟩⟩,x7p (k:=k) (k2:=k+1) rfl g2B V9D⟩
     ·have P:=O ((V HR).trans (by rw[Pu.y4V hd ht]));have HM:=O I;have bn:=z8O (t:=Pu.thr kk m.bias) (wt:=wt) aH f6J;clear HR u I c D F Q Y J Z;generalize hdg:Pu.dig (A.getD k 0)=d at *;generalize A.getD k 0=z at *;clear hdg;by_cases aq:2147483648<wt*(36-Pu.thr kk m.bias)
      ·rw[if_pos aq]at P;generalize Pu.thr kk m.bias=t at *;go_wp2_with fail;refine(V (HD _)).mono ?_;rintro e G ⟨⟨C,_⟩ | ⟨_,rfl⟩,rfl⟩
       ·omega
       ·clear HD;go_wp2_with(go_at_call 60;refine(V (ag _)).mono ?_;rintro e G ⟨rfl,rfl⟩;clear ag);go_step3;show(∃b,w.heap.size<=b/\Jq L B b s A r w 1 _ _)/\_;exact⟨⟨b,ab,⟨k+1,m,_,kk+1,vl+d*wt,2147483648,⟨rfl,rfl,rfl,rfl,rfl,rfl,g2B,rfl,by first| rfl | go_num,U4D,U4D⟩,f6J,(V HM).later f6J,f6J,f6J,f6J,V P⟩⟩,x7p (k:=k) (k2:=k+1) rfl g2B V9D⟩
      ·rw[if_neg aq]at P;generalize Pu.thr kk m.bias=t at *;go_wp2_with fail;refine(V (HD _)).mono ?_;rintro e G ⟨⟨C,_⟩ | ⟨_,rfl⟩,rfl⟩
       ·omega
       ·clear HD;go_wp2_with(go_at_call 60;refine(V (ag _)).mono ?_;rintro e G ⟨rfl,rfl⟩;clear ag);go_step3;show(∃b,w.heap.size<=b/\Jq L B b s A r w 1 _ _)/\_;exact⟨⟨b,ab,⟨k+1,m,_,kk+1,vl+d*wt,wt*(36-t),⟨rfl,rfl,rfl,rfl,rfl,rfl,g2B,rfl,by first| rfl | go_num,U4D,U4D⟩,f6J,(V HM).later f6J,f6J,f6J,f6J,V P⟩⟩,x7p (k:=k) (k2:=k+1) rfl g2B V9D⟩
   ·have P:=O (u.trans ((congrArg (Pu.after m) ((congrArg (fun q=>Pu.rdN m.bias q kk vl wt) (List.drop_eq_nil_of_le f6J)).trans (Pu.z8e _ _ _ _))).trans (Pu.y0z f6J)));have X:=O F;have y:((k:Int)==(s.size:Int))=true:=P8P;clear u I c D F Q Y J Z;exact R4o
  | 2,h =>
   clear IH;obtain⟨k,m,v,kk,vl,wt,N,ai,aP,I,aT,u⟩:=h;obtain⟨U,rfl⟩:=N.open;clear N
   conv=>arg 2;whnf
   obtain⟨c,D,F,aB,aK,ne,len,hn,hi,x⟩:=id I;have bt:=V Z;by_cases ae:2147483647<vl
   ·have P:=O (u.trans (Pu.y5k ae));have X:=O F;clear u I c D F Q Y J Z;exact R4o
   ·have HS:=O (y0n b m.xs.length m.n m.i m.bias vl m.first wr D f6J f6J f6J f6J);have hN:Pu.stepN m vl=m.n+(m.i+vl) / (m.xs.length+1):=rfl;have hP:Pu.stepP m vl=(m.i+vl)%(m.xs.length+1):=rfl;rw[<- hN,<- hP]at HS;have aQ:0<=(m.i+vl) / ((m.xs.length:Int)+1):=Int.ediv_nonneg f6J f6J;have aR:(m.i+vl) / ((m.xs.length:Int)+1)<=m.i+vl:=Int.ediv_le_self _ f6J;have j:0<=(m.i+vl)%((m.xs.length:Int)+1):=Int.emod_nonneg _ f6J;have aS:(m.i+vl)%((m.xs.length:Int)+1)<(m.xs.length:Int)+1:=Int.emod_lt_of_pos _ f6J;have aF:0<=Pu.stepN m vl/\Pu.stepN m vl<=9000000000:=(by rw[hN];exact f6J);have bj:0<=Pu.stepP m vl/\Pu.stepP m vl<=m.xs.length:=(by rw[hP];exact f6J);clear hN hP aQ aR j aS;by_cases aV:1114111<Pu.stepN m vl
    ·have P:=O (u.trans (Pu.y0y ae M1e));have X:=O F;have az:=O c;clear u I c D F Q Y J Z;generalize Pu.stepN m vl=nn,Pu.stepP m vl=pp,Pu.adapt vl ((m.xs.length:Int)+1) m.first=ad at *;go_wp2_with fail;refine(V HS).mono ?_;rintro e G ⟨rfl,R,M,f⟩;clear HS;have ar:=O ((V X).grown M f6J (fun g hg=>by simp at hg;exact f6J));clear R M f X;go_wp2;go_ret2;exact x1e.no (V P) f6J (V ar)
    ·have HV:=fun W=>O (x8Y (Pu.stepN m vl) W f6J);by_cases af:Utf.okc (Pu.stepN m vl)
     ·rw[q0I af]at HV;have P:=O (u.trans (Pu.y3Q ae af));obtain⟨p,hp⟩:∃p:Nat,Pu.stepP m vl=p:=⟨(Pu.stepP m vl).toNat,f6J⟩
      have o:Hid (∀G e w2,StAt G b ((m.xs.length:Int)+1) (Pu.stepN m vl) (Pu.stepP m vl+1) (Pu.adapt vl ((m.xs.length:Int)+1) m.first) false->wr.grownBy G (some b)->G.heap.size=wr.heap.size ->
        x3x B v (G.alloc (.cells #[.int .i32 (Pu.stepN m vl)] 21)) (Pu.ins m.xs (Pu.stepP m vl).toNat (Pu.stepN m vl)) e w2->∃v',e=.returned v'/\Rm L B b w k (Pu.step m vl) v' w2) :=
       fun G e w2 h1 h2 h3 h4=>I.step aP f6J af h1 h2 h3 h4
      have T:Hid (∀G,wr.grownBy G (some b)->G.heap.size=wr.heap.size->Calls prog 63 #[v,.int .i64 p,.slice (some ⟨G.heap.size,0,none⟩) 1 1] (G.alloc (.cells #[.int .i32 (Pu.stepN m vl)] 21)) (x3x B v (G.alloc (.cells #[.int .i32 (Pu.stepN m vl)] 21)) (Pu.ins m.xs (Pu.stepP m vl).toNat (Pu.stepN m vl)))) :=
       fun G h1 h2=>I.ins f6J af h1 h2 p hp
      clear u I c D F Q Y J Z af len;rw[hp]at HS o T;generalize Pu.ins m.xs ((p:Int)).toNat (Pu.stepN m vl)=ys at *;clear hp;generalize Pu.stepN m vl=nn,Pu.adapt vl ((m.xs.length:Int)+1) m.first=ad at *;go_wp2_with fail;refine(V HS).mono ?_;rintro e G ⟨rfl,R,M,f⟩;clear HS;have HI:=O (V T G M f);have HQ:=O (fun e w2=>V o G e w2 R M f);clear R M f T o;go_wp2_with(go_at_call 62;refine(V (HV _)).mono ?_;rintro e wx ⟨rfl,rfl⟩;clear HV);refine(V HI).mono ?_;intro e w2 am;obtain⟨v',rfl,aC⟩:=V HQ e w2 am;have aM:=O aC;clear am aC HI HQ;go_wp2;go_step3;show(∃b,w.heap.size<=b/\Jq L B b s A r w 0 _ _)/\_;exact⟨⟨b,ab,k,_,v',⟨rfl,rfl,rfl,rfl,rfl,rfl,rfl,rfl⟩,ai,V aM,V P⟩,x7p (k:=k) (k2:=k) rfl rfl (by simp)⟩
     ·have P:=O (u.trans (Pu.y0y ae af));rw[q0J af]at HV;have X:=O F;clear u I c D F Q Y J Z af;generalize Pu.stepN m vl=nn,Pu.stepP m vl=pp,Pu.adapt vl ((m.xs.length:Int)+1) m.first=ad at *;go_wp2_with fail;refine(V HS).mono ?_;rintro e G ⟨rfl,R,M,f⟩;clear HS;have ar:=O ((V X).grown M f6J (fun g hg=>by simp at hg;exact f6J));clear R M f X;go_wp2_with(go_at_call 62;refine(V (HV _)).mono ?_;rintro e wx ⟨rfl,rfl⟩;clear HV);go_ret2;exact x1e.no (V P) f6J (V ar)
theorem x4s(s:ByteArray)(h:∀j,j<s.size->(s.get! j).toNat<128):∀(f i:Nat) (acc:Array Value),s.size<=i+f->i<=s.size ->
  (Conv.runesFrom s f i acc).toList=acc.toList++(((nums s).drop i).map (Value.int .i32))
 | 0,i,acc,h1,h2=>by
  rw[Conv.runesFrom,List.drop_eq_nil_of_le (by rw[nums_length];exact f6J)];simp
 | f+1,i,acc,h1,h2=>by
  rw[Conv.runesFrom];by_cases hi:i<s.size
  ·rw[if_pos hi]
   have hd:Utf8.decode s i=((s.get! i).toNat,1):=by
    unfold Utf8.decode;simp[h i hi]
   rw[hd];simp only;rw[x4s s h f (i+1) _ f6J f6J];rw[x0Q (xs:=nums s) (k:=i) (by rw[nums_length];exact hi)];have:=x4U s i hi;simp only[Array.toList_push,List.map_cons,List.append_assoc,List.cons_append,List.nil_append];rw[<- this];have C:s.get! i=s[i]'hi:=(by simp[ByteArray.get!,ByteArray.getElem_eq_getElem_data,hi]);rw[C];rfl
  ·rw[if_neg hi,List.drop_eq_nil_of_le (by rw[nums_length];exact f6J)];simp
theorem z1j s w:(convert 9 36 (.string s)).run prog w =
  .ok (.slice (some ⟨w.heap.size,0,none⟩) (Conv.runesFrom s s.size 0 #[]).size (grownCap w (Conv.runesFrom s s.size 0 #[]).size 0 21))
   (w.drew.alloc (.cells (Conv.runesFrom s s.size 0 #[]++Array.replicate (grownCap w (Conv.runesFrom s s.size 0 #[]).size 0 21-(Conv.runesFrom s s.size 0 #[]).size) (.int .i32 0)) 21)):=by
 simp[convert,run_underlying underlying9,run_underlying underlying36,run_underlying underlying21,Conv.stringToRunes,newRow,grownCap,Question.forced]
theorem x4P{zs}(h:∀j,j<zs.length->zs.getD j 0≠45) k a:Pu.x3D zs k a=a:=by
 induction zs generalizing k a with
 | nil=>rfl
 | cons z r ih =>
  rw[Pu.x3D,if_neg (by simpa using h 0 M7N)];exact ih (fun j X=>by have:=h (j+1) P8P;exact W2P) (k+1) a
theorem y4D{zs i}(hi:i<zs.length)(A:zs.getD i 0=45)(S:∀j,i<j->j<zs.length->zs.getD j 0≠45) k a:Pu.x3D zs k a=k+i:=by
 induction zs generalizing i k a with
 | nil=>exact v5D
 | cons z r ih =>
  rw[Pu.x3D]
  cases i with
  | zero =>
   rw[if_pos (by simpa using A)];exact x4P (fun j X=>S2m) _ _
  | succ i =>
   rw[ih (i:=i) w3A (by simpa using A) (fun j Z D=>S2m)];omega
def x2W(w:World)(zs:List Int)(e:Ending)(w':World):Prop :=
 ((e=.returned (.int .i64 (-1))/\Pu.x3D zs 0 0=0)\/∃i:Nat,i<zs.length/\e=.returned (.int .i64 i)/\Pu.x3D zs 0 0=i)/\w'=w
theorem x9F s w(L:s.size<=1000000000):Calls prog 106 #[.string s,.int .u8 45] w (x2W w (nums s)):=by
 have F:=nums_length s;have m:=O (x4r s)
 have U:Hid (∀k,k<(nums s).length->0<=(nums s).getD k 0/\(nums s).getD k 0<=255):=fun k G=>by
  rw[List.getD,List.getElem?_eq_getElem G];exact x0U s _ (List.getElem_mem G)
 generalize nums s=A at *;go_enter func106,ntmps106;go_wp2;go_loop [5,9,10,11,12,13,14,15,16,17,18] (fun i _ _ _ _ _ _ _ _ _ _=>∃k:Nat,i=.int .i64 ((k:Int)-1)/\k<=A.length/\∀j,k<=j->j<A.length->A.getD j 0≠45) (fun i _ _ _ _ _ _ _ _ _ _=>(intOf i+1).toNat)
 case atStart=>exact⟨A.length,by rw[F],f6J,fun j Z D=>f6J⟩
 case round =>
  obtain⟨k,rfl,G,W⟩:=hrel;have l:=O W
  cases k with
  | zero =>
   have P:Hid (x2W w A (.returned (.int .i64 (-1))) w):=⟨.inl ⟨rfl,x4P (fun j E=>V l j f6J E) _ _⟩,rfl⟩;go_wp2;go_ret;exact V P
  | succ k =>
   have X:=V m (k:Int) k rfl f6J;have B:=V U k f6J;have M:((k+1:Nat):Int)-1=(k:Int):=f6J;rw[M];by_cases T:A.getD k 0=45
   ·have P:Hid (x2W w A (.returned (.int .i64 (k:Int))) w):=⟨.inr ⟨k,f6J,rfl,by rw[y4D (i:=k) f6J T (fun j Z D=>V l j f6J D)];exact f6J⟩,rfl⟩;rw[T]at X;go_wp2;go_ret;exact V P
   ·have f:Hid (∀j,k<=j->j<A.length->A.getD j 0≠45):=fun j Z D=>by
     rcases Nat.eq_or_lt_of_le Z with h3 | h3
     ·rw[<- h3];exact T
     ·exact V l j f6J D
    have r:(A.getD k 0==45)=false:=(by simpa using T);generalize A.getD k 0=z at *;go_wp2;go_round
    case rel=>exact⟨k,U6t,f6J,V f⟩
    case measure=>simp[intOf]
theorem y1l s w(L:s.size<=1000000000):Calls prog 57 #[.string s,.int .u8 45] w (x2W w (nums s)):=by
 have H:=O (x9F s w L);generalize nums s=A at *;go_enter func57,ntmps57;go_wp2_with fail;refine(V H).mono ?_;rintro e w ⟨⟨rfl,u⟩ | ⟨i,hi,rfl,u⟩,rfl⟩
 ·have P:Hid (x2W w A (.returned (.int .i64 (-1))) w):=⟨.inl ⟨rfl,u⟩,rfl⟩;go_wp2;go_ret;exact V P
 ·have P:Hid (x2W w A (.returned (.int .i64 (i:Int))) w):=⟨.inr ⟨i,hi,rfl,u⟩,rfl⟩;go_wp2;go_ret;exact V P
def x8Z(w:World)(zs:List Int)(e:Ending)(w':World):Prop :=
 ∃a b:ByteArray,e=.returned (.tuple #[.string a,.string b])/\nums a=zs.take (Pu.x3D zs 0 0)/\nums b=Pu.tail zs/\Below w.heap.size w w'
theorem x9V s p q:nums (s.extract p q)=((nums s).drop p).take (q-p):=by
 unfold nums;rw[ByteArray.data_extract,Array.toList_extract,List.map_drop.symm,List.map_take.symm]
theorem z6A s w(L:s.size<=1000000000):Calls prog 32 #[.string s] w (x8Z w (nums s)):=by
 have H:=O (y1l s w L);have F:=nums_length s;obtain⟨A,k⟩:∃A,nums s=A:=⟨_,rfl⟩;have c:=O k;rw[k]at F H;rw[k];go_enter func32,ntmps32;go_wp2_with fail;refine(V H).mono ?_;rintro e w ⟨⟨rfl,u⟩ | ⟨i,hi,rfl,u⟩,rfl⟩
 ·exact r9p
 ·by_cases R:i=0
  ·subst R;exact r9p
  ·have P:Hid (∀o,Bw w o->x8Z w A (.returned (.tuple #[.string (s.extract 0 i),.string (s.extract (i+1) s.size)])) o):=fun o Y =>
    ⟨_,_,rfl,by rw[u,y1y,V c],by unfold Pu.tail;rw[if_neg f6J,u,x9V,V c,List.take_of_length_le F0o],Y⟩
   go_wp2;go_region;go_wp2;go_ret2;exact V P w.drew ((b0r).drew)
theorem y5q{s}(h:Pu.basicB (nums s)=true):∀j,j<s.size->(s.get! j).toNat<128:=by
 intro j X;have S:=nums_length s;have Z:=x4U s j X
 have D:(nums s).getD j 0<128:=by
  have J:=List.all_eq_true.1 h ((nums s)[j]'f6J) (List.getElem_mem _);rw[List.getD,List.getElem?_eq_getElem f6J];exact I8T
 have C:s.get! j=s[j]'X:=(by simp[ByteArray.get!,ByteArray.getElem_eq_getElem_data,X]);rw[C];omega
theorem y2s{zs}(h:Pu.basicB zs=true) n:Pu.basicB (zs.take n)=true:=by
 unfold Pu.basicB at h ⊢;rw[List.all_eq_true]at h ⊢;exact fun z T=>h z (List.mem_of_mem_take T)
theorem z1k s w(h:Pu.basicB (nums s)=true)(S:s.size<=1000000):∃v w',(convert 9 36 (.string s)).run prog w=.ok v w'/\Ok .i32 21 w' w.heap.size v (nums s)/\Bw w w':=by
 refine⟨_,_,z1j s w,?_,((b0r).drew).alloc (l0r _) _⟩;have Q:=x4s s (y5q h) s.size 0 #[] f6J f6J;rw[List.drop_zero]at Q;simp only[List.nil_append]at Q
 have m:(Conv.runesFrom s s.size 0 #[]).size=(nums s).length:=by
  have:=congrArg List.length Q;exact W2P
 have F:=nums_length s;generalize Conv.runesFrom s s.size 0 #[]=A at *;have H:=grownCap_ge w A.size 0 21;have B:=grownCap_le_maxLen w A.size 0 21 T7X;generalize grownCap w A.size 0 21=G at *;refine Ok.of (n:=A.size) (us:=(nums s).map (Value.int .i32)) ?_ f6J ⟨by simp[m],.inr ⟨w.heap.size,G,_,rfl,l0r _,heap_alloc_new w.drew _,H,B,P8P,?_⟩⟩ m rfl
 ·intro z T;have:=x0U s z T;exact x1i f6J
 ·grind
theorem y5O s w(L:s.size<=1000000000):Calls prog 13 #[.string s] w (x1e w.heap.size w (Pu.decode (nums s))):=by
 have F:=nums_length s;have E:=Pu.y0L (nums s);by_cases K:65536<s.size
 ·have P:=O (E.trans (if_pos f6J));go_enter func13,ntmps13;go_wp2;go_ret2;exact x1e.no (V P) f6J (b0r)
 ·rw[if_neg f6J]at E;have o:=O (y2W s w L)
  cases Y:Pu.basicB (nums s)with
  | false =>
   rw[if_pos Y]at E;rw[Y]at o;have P:=O E;go_enter func13,ntmps13;go_wp2_with fail;refine(V o).mono ?_;rintro e G ⟨rfl,rfl⟩;go_wp2;go_ret2;exact x1e.no (V P) f6J (b0r)
  | true =>
   rw[if_neg (by rw[Y];exact M7L)]at E;rw[Y]at o;have P:=O E;have x:=O Y;have C:=O (z6A s w L);generalize Pu.decode (nums s)=r at *;go_enter func13,ntmps13;go_wp2_with fail;refine(V o).mono ?_;rintro e G ⟨rfl,rfl⟩;go_wp2_with fail;refine(V C).mono ?_;rintro e Q ⟨I,k,rfl,d,Y,T⟩;have W:I.size<=s.size:=by rw[<- nums_length I,d,List.length_take];exact f6J
   have S:k.size<=s.size:=by
    rw[<- nums_length k,Y];unfold Pu.tail;split
    ·omega
    ·rw[List.length_drop];omega
   obtain⟨v,f,M,l,H⟩:=z1k I Q (by rw[d];exact y2s (V x) _) f6J
   have B:(nums I).length+k.size<=65536:=by
    rw[<- nums_length k,d,Y,List.length_take];unfold Pu.tail;split
    ·rename_i h0;rw[h0];omega
    ·rw[List.length_drop];omega
   have N:=T.size;have a:=O (z0G G.heap.size v (nums I) k f (l.lower N) (by have:=H.size;exact f6J) f6J);rw[d,Y,<- V P]at a;have X:=O (bthen T H);go_wp2_with fail;refine(V a).mono ?_;rintro e c (⟨A,rfl,Z,D,J⟩ | ⟨Z,D,rfl,J⟩)
   ·have U:Hid (x1e G.heap.size G r (.returned (.tuple #[A,.int .i64 0])) c):=x1e.yes Z D ((V X).trans J);exact N8p
   ·have U:Hid (x1e G.heap.size G r (.returned (.tuple #[.slice none 0 0,.int .i64 r.2])) c):=.inr ⟨Z,D,rfl,(V X).trans J⟩;generalize r.2=R at *;exact N8p
