/- Lemmas. -/
import Derived.Test.YtkfcabdmkmljjaaGreatDoorH42
import Derived.Deep.AppendLies
import Derived.Deep.QuietTactic
import Derived.Laws.MakeOwn
import Derived.Deep.DeepCutAuto
import Derived.Deep.CutBlock
set_option maxHeartbeats 8000000
set_option maxRecDepth 20000
namespace Go.Proofs.YtkfcabdmkmljjaaGreatDoor
open Go.Proofs.Tryz
open Go.RowKit
section
variable{p:Prop}
theorem W4O(h:p:=by rw[u];clear u;go_enter func60,ntmps60;go_wp2;go_ret;exact x0r.mk (by first| rfl | omega)):p:=h
theorem v1L(h:p:=by rw[heap_alloc_old _ _ (Array.getElem?_eq_some_iff.1 h).1];exact h):p:=h
theorem M5t(h:p:=by rw[u];clear u;go_enter func253,ntmps253;go_wp2;go_ret;exact x3Q.mk (by first| rfl | omega)):p:=h
theorem U8D(h:p:=by rw[C.block b (Array.getElem?_eq_some_iff.1 h).1 (fun H=>t H.symm)];exact h):p:=h
theorem r1u(h:p:=by
 clear HQ aI S be M aM;obtain⟨k,T,out,n,i,bias,f,rfl,hk,B,N,H,hn,hi,x,aX,j,hR⟩:=hrel;by_cases E:k<ord.length
 ·obtain⟨b2,o2,cQ,Z,_,_,I⟩:=(V cj).place e2m;rw[x0o]at Z;simp only[Value.slice.injEq]at Z;obtain⟨rfl,h9,rfl⟩:=Z;clear h9
  have ae:wr.cell? ⟨b2,o2+k,none⟩=some (.int .i64 ((ord.getD k 0:Nat):Int)):=by
   have J:=I k (by rw[x0o];exact E);rw[x9N E]at J;exact E8O
  have aU:ord.getD k 0<xs.length:=V cf _ (x1D E);have G:=x4c E;generalize ord.getD k 0=c at *;obtain⟨bx,ox,cw,aw,_,_,r⟩:=(V bK).place f6J;simp only[Value.slice.injEq]at aw;obtain⟨rfl,h9,rfl⟩:=aw;clear h9
  have A:∀nq,(wr.drewN nq).cell? ⟨bx,ox+c,none⟩=some (.int .i32 (xs.getD c 0)):=fun nq=>by
   have J:=r c aU;show wr.cell? _=_;exact E8O
  have F:=A 0;have cH:=V bI c;obtain⟨s1,s2,s3⟩:=B.size;have aC:Pu.Tb 20000 T:=N.le f6J;have cR:=Pu.x5q aC c;rw[G]at j hR;obtain⟨bP,bV,ba⟩:=Pu.y0m j;have p:=fun nq=>O (y0q g T c (wr.drewN nq) (B.t.drewN nq) aC f6J f6J);have D:=fun nq=>O (y4x b ((lo.length:Int)+k) n i bias (xs.getD c 0) (Pu.ahead T c) f (wr.drewN nq) (B.st.drewN nq) f6J hn f6J f6J f6J);rw[H]at p;have aV:(xs.getD c 0-n)*((lo.length:Int)+k+1)+Pu.ahead T c-i=Pu.dlt xs c T ((lo.length:Int)+k) n i:=rfl;rw[aV]at D;have C:=O B;have S:=O N;have K:=O hR;have aB:=O ba;clear B N aC j hR ba G I r aV;generalize hde:Pu.dlt xs c T ((lo.length:Int)+k) n i=d at *;have q:=O hde;clear hde;by_cases P:2147483647<d
  ·have HE:=O ((V K).trans (Pu.x6m (by rw[V q];exact P)));have aH:=O (V C).bel;clear K aB q S C;generalize Pu.ahead T c=ah,xs.getD c 0=z at *;go_wp2;go_quiet(first| (go_at_call 204;exact Calls.quiet_of_same (V (p _)))|(go_at_call 203;exact Calls.quiet_of (V (D _))))
   have HF:Hid (WrP w R (.returned (.tuple #[.string ⟨#[]⟩,.int .i64 113])) (wr.drewN nq)):=by
    refine⟨by rw[V HE];rfl,?_⟩;exact(V l).trans (((V aH).trans ((x0i ⟨nq,rfl⟩:Bw wr _).mono s1)).mono (V l).size)
   clear aH HE p D;go_wp2;go_ret2;exact V HF
  ·have bU:=Pu.x7H (v:=d) (bias:=bias) bP f6J;have HE:=O ((V K).trans (Pu.x4B (by rw[V q];exact P)))
   have bJ:Hid (Pu.wok xs (ord.drop (k+1)) (Pu.add T c) ((lo.length:Int)+k+1) (n+(i+d) / ((lo.length:Int)+k+1)) ((i+d)%((lo.length:Int)+k+1)+1)=true):=by
    rcases V aB with h | h
    ·exact absurd h P
    ·exact h
   rw[V q]at HE;have cW:0<=(i+d)%((lo.length:Int)+k+1):=Int.emod_nonneg _ f6J;have cX:(i+d)%((lo.length:Int)+k+1)<(lo.length:Int)+k+1:=Int.emod_lt_of_pos _ f6J;have aS:=Pu.x2E d ((lo.length:Int)+k+1) f f6J
   have aG:Hid (∀nq,Calls prog 205 #[u8,.int .i64 d,.int .i64 bias] (wr.drewN nq) (GrP Q.heap.size u8 (wr.drewN nq) (out++Pu.wrNum d bias))):=fun nq =>
    x2y Q.heap.size u8 out d bias (wr.drewN nq) ((V C).drewN nq).ob (by show Q.heap.size<=wr.heap.size;exact s1) f6J f6J x
   have am:Hid (∀W bv,Wm Q b g ((lo.length:Int)+k) n i bias f T (out++Pu.wrNum d bias) bv W->Calls prog 61 #[.pointer (some ⟨b,0,none⟩),.int .i64 d] W (x3U W b ((lo.length:Int)+k+1) (n+(i+d) / ((lo.length:Int)+k+1)) ((i+d)%((lo.length:Int)+k+1)+1) (Pu.adapt d ((lo.length:Int)+k+1) f) ((i+d)%((lo.length:Int)+k+1)))):=fun W bv h =>
    y0d b ((lo.length:Int)+k) n i bias d f W h.st f6J f6J f6J f6J
   have ag:Hid (∀W,TAt W g T->Calls prog 202 #[.slice (some ⟨g,0,none⟩) (xs.length+1) (xs.length+1),.int .i64 c] W (AddP W g (Pu.add T c))):=fun W h=>by
    have:=y2d g T c W h ((V S).le f6J) f6J f6J;rwa [H]at this
   have aq:Hid (Pu.Tb ((lo.length:Int)+k+1) (Pu.add T c)):=Pu.y7u (V S) f6J f6J c;have ar:Hid ((Pu.add T c).length=xs.length+1):=(Pu.x3z T c).trans H;clear K aB q S H;generalize hout2:out++Pu.wrNum d bias=X at *;have ai:Hid (X.length<=20000+40*(k+1)):=(by show _<=_;rw[<- hout2];exact P8U);clear hout2;generalize Pu.add T c=T2,Pu.adapt d ((lo.length:Int)+k+1) f=ad,n+(i+d) / ((lo.length:Int)+k+1)=n2,(i+d)%((lo.length:Int)+k+1)=pl2,Pu.ahead T c=ah,xs.getD c 0=z at *;have aL:=O fun nq=>(V C).drewN nq;have bT:=(V C).st.cells;obtain⟨_,_,_,c3,_⟩:=bT;clear C;go_wp2;go_quiet(first| (go_at_call 204;exact Calls.quiet_of_same (V (p _)))|(go_at_call 203;exact Calls.quiet_of (V (D _))));have aN:(wr.drewN nq).cell? ⟨b,3,none⟩=some (.int .i64 bias):=c3;have aA:=O (V aL nq);have Y:=O (V aG nq);have aY:(wr.drewN nq).heap.size=wr.heap.size:=rfl;clear aL aG p D c3 A F ae;obtain⟨wd,aZ⟩:∃wd,wr.drewN nq=wd:=⟨_,rfl⟩;rw[aZ]at aN aA Y aY ⊢;clear aZ;go_wp2_with(go_at_call 205;refine(V Y).mono ?_;rintro e w3 ⟨bL,rfl,aP,aQ,aR⟩);have s:=(V aA).wrote (.inl rfl) aP aQ aR;have aj:=O (V am w3 bL s);have aJ:=O s;clear Y aA aP aQ aR s am aN aY;go_wp2_with(go_at_call 61;refine(V aj).mono ?_;intro e w4 L;have bQ:=L.1;subst bQ);have U:=(V aJ).stepped L;have af:=O (V ag w4 U.t);have aK:=O U;clear L U aJ aj ag;go_wp2_with(go_at_call 202;refine(V af).mono ?_;intro e w5 ab;have bR:=ab.1;subst bR);have aO:=(V aK).added ab;have bG:=O aO;clear ab aO aK af;have u:Hid ((lo.length:Int)+((k+1:Nat):Int)=(lo.length:Int)+k+1):=(by show _=_;exact f6J);go_wp2
   go_roundw
   case rel=>exact⟨k+1,T2,X,n2,pl2+1,ad,false,g2A,f6J,by rw[V u];exact V bG,by rw[V u];exact V aq,V ar,bV,f6J,aS,V ai,by rw[V u];exact V bJ,by rw[V u];exact V HE⟩
   case measure=>exact g7W
 ·have az:k=ord.length:=by omega
  have HE:Hid (R=(out,0)):=by
   show R=_;rw[hR,az,List.drop_length];rfl
  have cT:=B.ob.sk.conv;obtain⟨cO,cP,bO,_,_⟩:=B.ob.sk.shape;have HF:Hid (WrP w R (.returned (.tuple #[.string (strOfNums out),.int .i64 0])) wr):=⟨by rw[V HE],(V l).trans (B.bel.mono (V l).size)⟩;clear B N H j hR az HE;subst bO;generalize strOfNums out=so at *;go_wp2;go_ret2;exact V HF):p:=h
theorem W2J(h:p:=by have:=h.hB;have:=h.hb;have:=h.hw;exact f6J):p:=h
theorem s0M(h:p:=by rw[R];exact f6J):p:=h
theorem T7P(h:p:=by have:=C.size;have:=h.hB;exact f6J):p:=h
theorem p3E(h:p:=by simp[IntKind.min,IntKind.max,IntKind.signed,IntKind.bits];exact f6J):p:=h
theorem s8O(h:p:=by rw[x0u];exact f6J):p:=h
theorem r6W(h:p:=by simp at T;subst T;exact x8Q f6J):p:=h
theorem e8b(h:p:=by
 go_wp2
 go_roundw
 case rel=>exact⟨k+1,g2A,f6J,by rw[V L,V y];exact V f⟩
 case measure=>exact g7T):p:=h
theorem v1c(h:p:=by rw[V I];exact f6J):p:=h
theorem T7F(h:p:=by rw[List.drop_zero,(f6J:(lo.length:Int)+((0:Nat):Int)=(lo.length:Int))];exact V aM):p:=h
theorem e2m(h:p:=by rw[x0o];exact f6J):p:=h
theorem v6U(h:p:=by rw[(f6J:(lo.length:Int)+((0:Nat):Int)=(lo.length:Int))];exact V aI):p:=h
theorem E9J(h:p:=by rw[(f6J:(lo.length:Int)+((0:Nat):Int)=(lo.length:Int))];exact V S):p:=h
theorem r1e(h:p:=by simp at hy;subst hy;exact x8Q f6J):p:=h
theorem E8O(h:p:=by rw[B.bel.cell (x0a J)];exact J):p:=h
theorem e9Q(h:p:=by simp only[Value.ownBlock];intro hh;simp at hh;omega):p:=h
end
namespace Pu
def let1(d:Int):Int:=if d<26 then 97+d else 48+(d-26)
def wrN(bias:Int):Nat->Int->Int->List Int
 | 0,_,v=>[let1 v]
 | f+1,k,v=>if v<thr k bias then[let1 v]else let1 (thr k bias+(v-thr k bias)%(36-thr k bias))::wrN bias f (k+1) ((v-thr k bias) / (36-thr k bias))
def wrNum(v bias:Int):List Int:=wrN bias v.toNat 1 v
theorem x6U{d}(R:0<=d)(Z:d<=35):48<=let1 d/\let1 d<=122:=by unfold let1;exact G7n
theorem x3m{bias f k v}(h:v<thr k bias):wrN bias f k v=[let1 v]:=by cases f with
 | zero=>rfl
 | succ f=>rw[wrN,if_pos h]
theorem x6n{bias f k v}(h:¬v<thr k bias):wrN bias (f+1) k v=let1 (thr k bias+(v-thr k bias)%(36-thr k bias))::wrN bias f (k+1) ((v-thr k bias) / (36-thr k bias)):=by rw[wrN,if_neg h]
def lbi(j:Int):Int:=bits .and .i64 j (-j)
def lbOk:Nat->Bool
 | 0=>true
 | n+1=>decide (1<=lbi (n+1)/\lbi (n+1)<=n+1)&&lbOk n
theorem z3r{n j}(h:lbOk n=true)(Z:1<=j)(D:j<=n):1<=lbi j/\lbi j<=j:=by
 induction n with
 | zero=>omega
 | succ n ih =>
  simp only[lbOk,Bool.and_eq_true,decide_eq_true_eq]at h;rcases Nat.lt_or_ge n j with hj | hj
  ·grind
  ·exact ih h.2 hj
theorem y5Z:lbOk 16600=true:=M3j
theorem x8w{j:Nat}(Z:1<=j)(D:j<=16600):1<=lbi j/\lbi j<=j:=z3r y5Z Z D
def addF:Nat->List Int->Nat->List Int
 | 0,T,_=>T
 | f+1,T,j=>if j<T.length then addF f (T.set j (T.getD j 0+1)) (j+(lbi j).toNat)else T
def x1X:Nat->List Int->Nat->Int->Int
 | 0,_,_,n=>n
 | f+1,T,j,n=>if 0<j then x1X f T (j-(lbi j).toNat) (n+T.getD j 0)else n
def add(T:List Int)(p:Nat):List Int:=addF T.length T (p+1)
def ahead(T:List Int)(p:Nat):Int:=x1X p T p 0
theorem z2a f T j:(addF f T j).length=T.length:=by
 induction f generalizing T j with
 | zero=>rfl
 | succ f ih =>
  rw[addF];split
  ·rw[ih];simp
  ·rfl
theorem x3z T p:(add T p).length=T.length:=z2a _ _ _
def Tb(k:Int)(T:List Int):Prop:=∀t∈T,0<=t/\t<=k
theorem Tb.at{k T}(h:Tb k T)(G:0<=k) j:0<=T.getD j 0/\T.getD j 0<=k:=by
 rcases Nat.lt_or_ge j T.length with hj | hj
 ·rw[List.getD,List.getElem?_eq_getElem hj];exact h _ (List.getElem_mem hj)
 ·grind
def wr2(xs:List Int):List Nat->List Int->Int->Int->Int->Int->Bool->List Int->List Int×Int
 | [],_,_,_,_,_,_,out=>(out,0)
 | c::r,T,p,n,i,bias,first,out =>
  let d:=(xs.getD c 0-n)*(p+1)+ahead T c-i
  if 2147483647<d then([],113)else
   wr2 xs r (add T c) (p+1) (n+(i+d) / (p+1)) ((i+d)%(p+1)+1) (adapt d (p+1) first) false (out++wrNum d bias)
def wr1(xs:List Int):List Nat->List Int->List Int->List Int×List Int
 | [],T,out=>(T,out)
 | c::r,T,out=>wr1 xs r (add T c) (out++[xs.getD c 0])
def idx(xs:List Int)(q:Int->Bool):List Nat:=(List.range xs.length).filter fun k=>q (xs.getD k 0)
def lowq(c:Int):Bool:=decide (c<128)
def write(xs:List Int)(ord:List Nat):List Int×Int :=
 wr2 xs ord (wr1 xs (idx xs lowq) (List.replicate (xs.length+1) 0) []).1 ((idx xs lowq).length:Int) 128 0 72 true
  ((wr1 xs (idx xs lowq) (List.replicate (xs.length+1) 0) []).2++if(idx xs lowq).length=0 then[]else[45])
end Pu
def x3Q(w:World)(z:Int)(e:Ending)(w':World):Prop:=e=.returned (.int .u8 z)/\w'=w
theorem x3Q.mk{w z u}(h:u=z):x3Q w z (.returned (.int .u8 u)) w:=t5o
theorem x8x d w(R:0<=d)(Z:d<=35):Calls prog 253 #[.int .i64 d] w (x3Q w (Pu.let1 d)):=by
 by_cases hd:d<26
 ·have u:Pu.let1 d=97+d:=(by unfold Pu.let1;rw[if_pos hd]);exact M5t
 ·have u:Pu.let1 d=48+(d-26):=(by unfold Pu.let1;rw[if_neg hd]);exact M5t
def NumP(w:World)(z:Int)(e:Ending)(w':World):Prop:=e=.returned (.int .i64 z)/\(w'=w\/w'=w.drew)
theorem y6k b p n i bias c pl f w(h:StAt w b p n i bias f)(B:0<=p/\p<=20000)(F:0<=n/\n<=1114111)(hi:0<=i/\i<=20000)(I:0<=c/\c<=1114111)(G:0<=pl/\pl<=1000000000) :
  Calls prog 203 #[.pointer (some ⟨b,0,none⟩),.int .i32 c,.int .i64 pl] w (NumP w ((c-n)*(p+1)+pl-i)):=by
 obtain⟨X,y,q,K,S,a,s,v,t,o⟩:=h.cells
 have j:(c-n)*(p+1)<=1114111*20001:=by
  calc (c-n)*(p+1)<=1114111*(p+1):=Int.mul_le_mul_of_nonneg_right f6J f6J
   _<=1114111*20001:=f6J
 have N:-(1114111*20001)<=(c-n)*(p+1):=by
  have:(n-c)*(p+1)<=1114111*20001:=by
   calc (n-c)*(p+1)<=1114111*(p+1):=Int.mul_le_mul_of_nonneg_right f6J f6J
    _<=1114111*20001:=f6J
  have e:(n-c)*(p+1)=-((c-n)*(p+1)):=(by grind);omega
 go_enter func203,ntmps203;go_wp2
 all_goals try go_region
 all_goals try go_wp2
 go_ret;exact⟨by first| rfl|(congr 2<;>omega),by first| exact .inl rfl | exact .inr rfl⟩
def TAt(w:World)(g:Nat)(T:List Int):Prop:=w.heap[g]?=some (.cells (T.map (Value.int .i64)).toArray 3 (0,0))
theorem TAt.cell{w g T}(h:TAt w g T){j}(X:j<T.length):w.cell? ⟨g,j,none⟩=some (.int .i64 (T.getD j 0)):=by
 unfold TAt at h;simp[World.cell?,h,List.getD,X]
theorem TAt.frozen{w g T}(h:TAt w g T) j:w.frozen? ⟨g,j,none⟩=false:=by
 unfold TAt at h;simp[World.frozen?,h]
theorem TAt.set{w g T}(h:TAt w g T) j z:TAt (w.setCell ⟨g,j,none⟩ (.int .i64 z)) g (T.set j z):=by
 unfold TAt at h ⊢;rw[x0Y h];simp
theorem y9E{j:Nat}(Z:1<=j)(D:j<=16600):∃q:Nat,bits .and .i64 (j:Int) (-(j:Int))=(q:Int)/\q=(Pu.lbi j).toNat/\1<=q/\q<=j:=by
 have:=Pu.x8w Z D;refine⟨(Pu.lbi j).toNat,?_,rfl,f6J,f6J⟩;show Pu.lbi j=_;omega
theorem y0q g T p w(h:TAt w g T)(Y:Pu.Tb 20000 T)(S:T.length<=16500)(s:p<T.length) :
  Calls prog 204 #[.slice (some ⟨g,0,none⟩) T.length T.length,.int .i64 p] w (x0r w (Pu.ahead T p)):=by
 have C:Hid (∀j,j<T.length->w.cell? ⟨g,j,none⟩=some (.int .i64 (T.getD j 0))):=fun j X=>h.cell X;have x:Hid (∀j,0<=T.getD j 0/\T.getD j 0<=20000):=fun j=>Y.at f6J j;have J:Pu.ahead T p=Pu.x1X p T p 0:=rfl;generalize Pu.ahead T p=r at *;have a:=O J;clear h Y J;go_enter func204,ntmps204;go_wp2;go_loop [5,6] (fun I M=>∃(f j:Nat) (n:Int),I=.int .i64 n/\M=.int .i64 j/\j<=p/\j<=f/\0<=n/\n+20000*j<=20000*p/\r=Pu.x1X f T j n) (fun _ M=>(intOf M).toNat)
 case atStart=>exact⟨p,p,0,rfl,rfl,f6J,f6J,f6J,f6J,V a⟩
 case round =>
  obtain⟨f,j,n,rfl,rfl,E,P,F,N,u⟩:=hrel;by_cases X:0<j
  ·obtain⟨f,rfl⟩:∃g,f=g+1:=⟨f-1,f6J⟩;have L:=O (u.trans (by rw[Pu.x1X,if_pos X]));have K:=V C j f6J;have m:=V x j;obtain⟨q,G,i,R,b⟩:=y9E (j:=j) f6J f6J;rw[<- i]at L;clear i;generalize T.getD j 0=t at *;have A:((j-q:Nat):Int)=(j:Int)-(q:Int):=f6J;have H:=O A;go_wp2;go_round
   case rel=>exact⟨f,j-q,n+t,U6t,by first| rfl|(rw[V H]) | go_num,f6J,f6J,f6J,f6J,V L⟩
   case measure=>exact g7T
  ·have B:j=0:=f6J;subst B
   have D:Hid (n=r):=by
    show n=r;rw[u]
    cases f with
    | zero=>rfl
    | succ f=>rw[Pu.x1X,if_neg f6J]
   clear u;go_wp2;go_ret;exact x0r.mk (V D)
def AddP(w:World)(g:Nat)(T:List Int)(e:Ending)(w':World):Prop:=e=.returned (.tuple #[])/\TAt w' g T/\w.grownBy w' (some g)/\w'.heap.size=w.heap.size
theorem x6d(T:List Int) j m z(X:j<T.length):(T.set j z).getD m 0=if m=j then z else T.getD m 0:=by grind
theorem y2d g T(p:Nat) w(h:TAt w g T)(Y:Pu.Tb 20000 T)(S:T.length<=16500)(s:p<=100000) :
  Calls prog 202 #[.slice (some ⟨g,0,none⟩) T.length T.length,.int .i64 p] w (AddP w g (Pu.add T p)):=by
 have x:Hid (∀j,0<=T.getD j 0/\T.getD j 0<=20000):=fun j=>Y.at f6J j;have J:Pu.add T p=Pu.addF T.length T (p+1):=rfl;generalize Pu.add T p=r at *;have a:=O J;have n:=O h;obtain⟨L,i⟩:∃L,T.length=L:=⟨_,rfl⟩;rw[i];rw[i]at S a;have HL:=O i;go_enter func202,ntmps202;go_wp2;go_loopw[4] (fun M wr=>∃(f j:Nat) (U:List Int),M=.int .i64 j/\1<=j/\j<=103000/\U.length=L/\TAt wr g U/\(∀m,0<=U.getD m 0/\U.getD m 0<=20000+j)/\L<=j+f/\r=Pu.addF f U j/\w.grownBy wr (some g)/\wr.heap.size=w.heap.size) (fun M _=>L-(intOf M).toNat)
 case atStart=>exact⟨L,p+1,T,U6t,f6J,f6J,V HL,V n,fun m=>by have:=V x m;exact f6J,f6J,V a,x1h w _,rfl⟩
 case round =>
  obtain⟨f,j,U,rfl,o,W,I,Q,C,z,u,N,v⟩:=hrel;by_cases X:j<L
  ·obtain⟨f,rfl⟩:∃g,f=g+1:=⟨f-1,f6J⟩;have y:=O (u.trans (by rw[Pu.addF,if_pos f6J]));have K:=Q.cell (j:=j) f6J;have E:=Q.frozen j;have c:=C j;have A:=O (Q.set j (U.getD j 0+1));have B:=O (x1i (j:=j) N (.int .i64 (U.getD j 0+1)));have P:Hid ((wr.setCell ⟨g,j,none⟩ (.int .i64 (U.getD j 0+1))).heap.size=w.heap.size):=(by simp_all);have F:Hid ((U.set j (U.getD j 0+1)).length=L):=by grind
   have k:Hid (∀m,0<=(U.set j (U.getD j 0+1)).getD m 0/\(U.set j (U.getD j 0+1)).getD m 0<=20000+j+1):=fun m=>by
    rw[x6d _ _ _ _ f6J];have Z:=C m;have h2:=C j;exact G7n
   obtain⟨q,G,l,R,b⟩:=y9E (j:=j) f6J f6J;rw[<- l]at y;generalize U.set j (U.getD j 0+1)=H at *;generalize U.getD j 0=t at *;go_wp2
   go_roundw
   case rel=>exact⟨f,j+q,H,U6t,f6J,f6J,V F,V A,fun m=>by have:=V k m;exact f6J,f6J,V y,V B,V P⟩
   case measure=>exact g7T
  ·have D:Hid (AddP w g r (.returned (.tuple #[])) wr):=by
    refine⟨rfl,?_,N,v⟩;rw[u]
    cases f with
    | zero=>exact Q
    | succ f=>rw[Pu.addF,if_neg f6J];exact Q
   go_wp2;go_end0;exact V D
theorem x6N:∃i,prog.info? 5=some i/\i.zero=some (.int .u8 0)/\i.size=1/\i.bytes=1:=by
 have h:(prog.info? 5).map (fun i=>(i.zero,i.size,i.bytes))=some (some (.int .u8 0),1,1):=f4x
 cases hq:prog.info? 5 with
 | none=>rw[hq]at h;simp at h
 | some i=>grind
theorem x0I{w ops rest o}{a Q}(T:o.guard=none)(s x:Operand)
  (X:o.op=.call { callee:=.builtin .append,args:=#[s,x],argTypes:=#[181,181] }) B v xs c H (L:a.eval s=v) (A:a.eval x=.slice (some ⟨H,0,none⟩) 1 1)
  (N:Ok .u8 5 w B v xs) (z:H=w.heap.size) (I:Fit .u8 [c]) (S:xs.length<=10000000000) (m:B<=w.heap.size)
  (h:∀v' w',Ok .u8 5 w' B v' (xs++[c])->(w.alloc (.cells #[.int .u8 c] 5)).grownBy w' v.ownBlock->(∀g,v'.ownBlock=some g->v.ownBlock=some g\/w.heap.size<=g)->wpList prog ops Q rest (a.put o.dst v') w') :
  wpList prog ops Q (o::rest) a (w.alloc (.cells #[.int .u8 c] 5)):=by
 obtain⟨r,hi,d,Y,R⟩:=x6N;subst z;refine wpList_append_lies _ T s x 181 X B 5 r (.int .u8 0) 1 1 underlying181 hi d Y R rfl e8P v _ _ L (N.row.alloc _) ⟨w.heap.size,0,none⟩ 1 1 [.int .u8 c] A rfl (cell_one_new _ _ _) (x1k .u8 _) f6J T7X f6J s8O (w.heap.size+1) (x0u _ _) ?_;intro g M w' Z D h3 C;refine h _ w' (Ok.of (N.1.app I) P8P Z M7N M7N) D (fun k G=>?_);have:k=g:=U8V;subst this;rcases h3 with h3 | h3
 ·exact .inl h3
 ·exact e5w
theorem x6P:∃i,prog.info? 3=some i/\i.zero=some (.int .i64 0)/\i.size=1/\i.bytes=8:=by
 have h:(prog.info? 3).map (fun i=>(i.zero,i.size,i.bytes))=some (some (.int .i64 0),1,8):=f4x
 cases hq:prog.info? 3 with
 | none=>rw[hq]at h;simp at h
 | some i=>grind
theorem x1U{w ops rest o}{a Q}(T:o.guard=none)(s x:Operand)
  (X:o.op=.call { callee:=.builtin .append,args:=#[s,x],argTypes:=#[279,279] }) B v xs c H (L:a.eval s=v) (A:a.eval x=.slice (some ⟨H,0,none⟩) 1 1)
  (N:Ok .i64 3 w B v xs) (z:H=w.heap.size) (I:Fit .i64 [c]) (S:xs.length<=10000000000) (m:B<=w.heap.size)
  (h:∀v' w',Ok .i64 3 w' B v' (xs++[c])->(w.alloc (.cells #[.int .i64 c] 3)).grownBy w' v.ownBlock->(∀g,v'.ownBlock=some g->v.ownBlock=some g\/w.heap.size<=g)->wpList prog ops Q rest (a.put o.dst v') w') :
  wpList prog ops Q (o::rest) a (w.alloc (.cells #[.int .i64 c] 3)):=by
 obtain⟨r,hi,d,Y,R⟩:=x6P;subst z;refine wpList_append_lies _ T s x 279 X B 3 r (.int .i64 0) 1 8 underlying279 hi d Y R rfl e8P v _ _ L (N.row.alloc _) ⟨w.heap.size,0,none⟩ 1 1 [.int .i64 c] A rfl (cell_one_new _ _ _) (x1k .i64 _) f6J T7X f6J s8O (w.heap.size+1) (x0u _ _) ?_;intro g M w' Z D h3 C;refine h _ w' (Ok.of (N.1.app I) P8P Z M7N M7N) D (fun k G=>?_);have:k=g:=U8V;subst this;rcases h3 with h3 | h3
 ·exact .inl h3
 ·exact e5w
def GrP(B:Nat)(v:Value)(w:World)(zs:List Int)(e:Ending)(w':World):Prop :=
 ∃v',e=.returned v'/\Ok .u8 5 w' B v' zs/\w.grownBy w' v.ownBlock/\∀g,v'.ownBlock=some g->v.ownBlock=some g\/w.heap.size<=g
theorem x6K{w1 w2 G:World}{r1 r2}(h:w1.grownBy w2 r1)(k:w2.grownBy G r2)(hr:∀g,r2=some g->r1=some g\/w1.heap.size<=g):w1.grownBy G r1:=by
 refine⟨k.os.trans h.os,k.tape.trans h.tape,k.output.trans h.output,Nat.le_trans h.size k.size,fun g C t=>?_⟩;rw[k.block g (Nat.lt_of_lt_of_le C h.size) (fun H=>?_),h.block g C t];rcases hr g H.symm with h1 | h1
 ·exact t h1.symm
 ·omega
theorem y0h k bias w(G:0<=k/\k<=3000000000)(Y:-1000000<=bias/\bias<=1000000) :
  Calls prog 60 #[.int .i64 k,.int .i64 bias] w (x0r w (Pu.thr k bias)):=by
 by_cases Z:36*k-bias<1
 ·have u:Pu.thr k bias=1:=f0D;exact W4O
 ·by_cases D:26<36*k-bias
  ·have u:Pu.thr k bias=26:=f8v;exact W4O
  ·have u:Pu.thr k bias=36*k-bias:=n7H;exact W4O
theorem x2y B v0 zs0 val bias w(hv:Ok .u8 5 w B v0 zs0)(hB:B<=w.heap.size)(S:zs0.length<=100000000)(ae:0<=val/\val<=2147483647)(x:0<=bias/\bias<=468) :
  Calls prog 205 #[v0,.int .i64 val,.int .i64 bias] w (GrP B v0 w (zs0++Pu.wrNum val bias)):=by
 have J:zs0++Pu.wrNum val bias=zs0++Pu.wrN bias val.toNat 1 val:=rfl;generalize zs0++Pu.wrNum val bias=r at *;have a:=O J;have G:=O hv;have ai:Hid (∀k W,0<=k/\k<=3000000000->Calls prog 60 #[.int .i64 k,.int .i64 bias] W (x0r W (Pu.thr k bias))):=fun k W h=>y0h k bias W h f6J;have H:∀W v m,Ok .u8 5 W B v m->∀g,v.ownBlock=some g->B<=g:=fun W v m h g C=>(h.row.lt g C).1;have A:=O H;go_enter func205,ntmps205;go_wp2;go_loopw[0,1,6,7,8] (fun bv vv _ kk _ wr=>∃(f k:Nat) (y:Int) (m:List Int),vv=.int .i64 y/\kk=.int .i64 ((k:Int)+1)/\0<=y/\y<=f/\k+y<=2147483647/\m.length<=100000000+k/\r=m++Pu.wrN bias f ((k:Int)+1) y/\Ok .u8 5 wr B bv m/\w.grownBy wr v0.ownBlock/\B<=wr.heap.size/\w.heap.size<=wr.heap.size/\∀g,bv.ownBlock=some g->v0.ownBlock=some g\/w.heap.size<=g) (fun _ vv _ _ _ _=>(intOf vv).toNat)
 case atStart=>exact⟨val.toNat,0,val,zs0,rfl,rfl,ae.1,f6J,f6J,f6J,V a,V G,x1h w _,hB,l0r _,fun g C=>.inl C⟩
 case round =>
  obtain⟨f,k,y,m,rfl,rfl,af,aw,K,az,u,o,N,ab,ar,F⟩:=hrel;have s:=Pu.x1o ((k:Int)+1) bias;have n:=fun W=>O (V ai ((k:Int)+1) W f6J);have Q:=O o;have L:=O N;have R:=O F;by_cases E:y<Pu.thr ((k:Int)+1) bias
  ·have P:=Pu.x6U (d:=y) af f6J;have q:=fun W=>O (x8x y W af f6J);have HE:=O (u.trans (by rw[Pu.x3m E]));generalize Pu.let1 y=c at *;go_wp2_with(first| (go_at_call 60;refine(V (n _)).mono ?_;rintro e wq ⟨rfl,rfl⟩;clear n)|(go_at_call 253;refine(V (q _)).mono ?_;rintro e wq ⟨rfl,rfl⟩;clear q)|(at_builtin;refine x0I rfl (.tmp 17) (.tmp 20) rfl B _ m c _ rfl rfl (V Q) rfl (fun z T=>r6W) f6J ab ?_));intro v2 w2 Z D h3;have Y:∀g,u0.ownBlock=some g->B<=g:=fun g C=>V A _ _ _ (V Q) g C
   have U:Hid (GrP B v0 w r (.returned v2) w2):=by
    refine⟨v2,rfl,by rw[V HE];exact Z,?_,?_⟩
    ·exact x6K (x3D (V L) (.cells #[.int .u8 c] 5)) D (V R)
    ·grind
   exact s1g
  ·have X:0<=y-Pu.thr ((k:Int)+1) bias:=f6J;have aj:0<=(y-Pu.thr ((k:Int)+1) bias) / (36-Pu.thr ((k:Int)+1) bias):=Int.ediv_nonneg X f6J;have aq:(y-Pu.thr ((k:Int)+1) bias) / (36-Pu.thr ((k:Int)+1) bias)<=y-Pu.thr ((k:Int)+1) bias:=Int.ediv_le_self _ X;have i:0<=(y-Pu.thr ((k:Int)+1) bias)%(36-Pu.thr ((k:Int)+1) bias):=Int.emod_nonneg _ f6J;have j:(y-Pu.thr ((k:Int)+1) bias)%(36-Pu.thr ((k:Int)+1) bias)<36-Pu.thr ((k:Int)+1) bias:=Int.emod_lt_of_pos _ f6J;obtain⟨f,rfl⟩:∃g,f=g+1:=⟨f-1,f6J⟩;have HE:=O (u.trans (by rw[Pu.x6n E]));have P:=Pu.x6U (d:=Pu.thr ((k:Int)+1) bias+(y-Pu.thr ((k:Int)+1) bias)%(36-Pu.thr ((k:Int)+1) bias)) f6J f6J;have q:=fun W=>O (x8x (Pu.thr ((k:Int)+1) bias+(y-Pu.thr ((k:Int)+1) bias)%(36-Pu.thr ((k:Int)+1) bias)) W f6J f6J);generalize Pu.let1 (Pu.thr ((k:Int)+1) bias+(y-Pu.thr ((k:Int)+1) bias)%(36-Pu.thr ((k:Int)+1) bias))=c at *;generalize Pu.thr ((k:Int)+1) bias=t at *;go_wp2_with(first| (go_at_call 60;refine(V (n _)).mono ?_;rintro e wq ⟨rfl,rfl⟩;clear n)|(go_at_call 253;refine(V (q _)).mono ?_;rintro e wq ⟨rfl,rfl⟩;clear q)|(at_builtin;refine x0I rfl (.tmp 25) (.tmp 33) rfl B _ m c _ rfl rfl (V Q) rfl (fun z T=>r6W) f6J ab ?_));intro v2 w2 Z D h3;have b:w.grownBy w2 v0.ownBlock:=x6K (x3D (V L) (.cells #[.int .u8 c] 5)) D (V R)
   have l:∀g,v2.ownBlock=some g->v0.ownBlock=some g\/w.heap.size<=g:=fun g C=>by
    rcases h3 g C with h4 | h4
    ·exact V R g h4
    ·exact e5w
   have am:w.heap.size<=w2.heap.size:=b.size;have U:=O Z;have ag:=O b;have M:=O l;have I:Hid ((m++[c]).length<=100000000+(k+1)):=(by show _<=_;exact P8P);have p:Hid (r=(m++[c])++Pu.wrN bias f (((k+1:Nat):Int)+1) ((y-t) / (36-t))):=(by grind);go_wp2
   go_roundw
   case rel=>exact⟨f,k+1,(y-t) / (36-t),m++[c],U6x,U6x,aj,f6J,f6J,V I,V p,V U,V ag,f6J,am,V M⟩
   case measure=>exact g7W
namespace Pu
def x5f(xs:List Int)(l:List Nat):List Nat:=l.mergeSort fun a b=>decide (xs.getD a 0<=xs.getD b 0)
theorem z1d xs{l}(h:l.length<=1):x5f xs l=l:=by
 match l,h with
 | [],_=>simp[x5f]
 | [a],_=>simp[x5f]
def x1W(c:Int):Bool:=!lowq c
end Pu
def x0Z(l:List Nat):List Int:=l.map fun(k:Nat)=>(k:Int)
theorem x0o l:(x0Z l).length=l.length:=by simp[x0Z]
def XAt(w:World)(b:Nat)(v:Value):Prop:=w.heap[b]?=some (.cells #[v] 36 (0,0))
theorem XAt.cell{w b v}(h:XAt w b v):w.cell? ⟨b,0,none⟩=some v:=by unfold XAt at h;simp[World.cell?,h]
theorem XAt.grown{w w' b v row}(h:XAt w b v)(C:w.grownBy w' row)(t:row≠some b):XAt w' b v:=by
 unfold XAt at h ⊢;exact U8D
theorem XAt.alloc{w b v}(h:XAt w b v) o:XAt (w.alloc o) b v:=by
 unfold XAt at h ⊢;exact v1L
def y7r(m:Nat):Prop:=∀(xs:List Int) (b B:Nat) (xv v:Value) (l:List Nat) (w0 w:World),XAt w b xv->Sk .i32 w0 xv xs->Below w0.heap.size w0 w->w0.heap.size<=B->xs.length<=100000->l.length<=m->(∀a∈l,a<xs.length)->l.Pairwise (·<·)->Ok .i64 3 w B v (x0Z l)->v.ownBlock≠some b ->
 Calls prog 250 #[v,.func (.func 251) #[] #[.pointer (some ⟨b,0,none⟩)]] w fun e w'=>e=.returned (.tuple #[])/\Ok .i64 3 w' B v (x0Z (Pu.x5f xs l))/\w.grownBy w' v.ownBlock
theorem x7R ao n cap fv w(F:n<=1):Calls prog 297 #[.slice ao n cap,.int .i64 0,.int .i64 n,fv] w fun e w'=>e=.returned (.tuple #[])/\w'=w:=by
 go_enter func297,ntmps297;go_wp2;refine wp_loop_rounds 1 ?_;rw[rounds_succ];go_wp2;go_end0;exact g9S
theorem y3p ao n cap fv w(F:n<=1):Calls prog 286 #[.slice ao n cap,.int .i64 n,fv] w fun e w'=>e=.returned (.tuple #[])/\w'=w:=by
 have X:=fun W=>O (x7R ao n cap fv W F);go_enter func286,ntmps286;go_wp2;refine wp_loop_rounds 1 ?_;rw[rounds_succ];go_wp2_with(go_at_call 297;refine(V (X _)).mono ?_;rintro e Q ⟨rfl,rfl⟩;clear X);refine wp_loop_rounds 1 ?_;rw[rounds_succ];go_wp2;go_end0;exact⟨rfl,rfl⟩
theorem y4M:y7r 1:=by
 intro X b B u v l f w _ _ _ _ _ S _ _ N _;obtain⟨A,M,rfl,_,_⟩:=N.sk.shape;have r:=fun W=>O (y3p A (x0Z l).length M (.func (.func 251) #[] #[.pointer (some ⟨b,0,none⟩)]) W (by rw[x0o];exact S));have U:Hid (Ok .i64 3 w B (.slice A (x0Z l).length M) (x0Z (Pu.x5f X l))):=(by rw[Pu.z1d X S];exact N);go_enter func250,ntmps250;go_wp2_with(go_at_call 286;refine(V (r _)).mono ?_;rintro e Q ⟨rfl,rfl⟩;clear r);go_end0;exact⟨rfl,V U,x1h _ _⟩
namespace Pu
def idxk(xs:List Int)(q:Int->Bool)(k:Nat):List Nat:=(List.range k).filter fun j=>q (xs.getD j 0)
theorem x4h{xs}{q:Int->Bool}{k}(h:q (xs.getD k 0)=true):idxk xs q (k+1)=idxk xs q k++[k]:=by
 unfold idxk;rw[List.range_succ,List.filter_append];rw[List.filter_cons_of_pos (p:=fun j=>q (xs.getD j 0)) h];rfl
theorem x5y{xs}{q:Int->Bool}{k}(h:q (xs.getD k 0)=false):idxk xs q (k+1)=idxk xs q k:=by
 unfold idxk;rw[List.range_succ,List.filter_append];rw[List.filter_cons_of_neg (by rw[h];exact M7K)];simp
theorem y4k xs(q:Int->Bool) k:(idxk xs q k).length<=k:=by
 unfold idxk;have:=List.length_filter_le (fun j=>q (xs.getD j 0)) (List.range k);exact W2K
theorem z5d xs(q:Int->Bool):∀a∈idx xs q,a<xs.length:=by
 intro a g;unfold idx at g;simpa using(List.mem_filter.1 g).1
theorem y5O xs(q:Int->Bool):(idx xs q).Pairwise (·<·):=(List.pairwise_lt_range).filter _
end Pu
theorem x8B l(k:Nat):x0Z (l++[k])=x0Z l++[(k:Int)]:=by simp[x0Z]
def z5C(w:World)(xs:List Int)(e:Ending)(w':World):Prop:=∃v1 v2,e=.returned (.tuple #[v1,v2])/\Ok .i64 3 w' w.heap.size v1 (x0Z (Pu.idx xs Pu.lowq))/\Ok .i64 3 w' w.heap.size v2 (x0Z (Pu.x5f xs (Pu.idx xs Pu.x1W)))/\Below w.heap.size w w'
structure Two(b B:Nat)(xv:Value)(w0:World)(l1 l2:List Nat)(v1 v2:Value)(wr:World):Prop where
 r1:Ok .i64 3 wr B v1 (x0Z l1)
 r2:Ok .i64 3 wr B v2 (x0Z l2)
 x:XAt wr b xv
 bel:Below w0.heap.size w0 wr
 hb:b<B
 hB:B<=wr.heap.size
 hw:w0.heap.size<=b
 ap:∀g,v1.ownBlock=some g->v2.ownBlock≠some g
theorem Two.left{b B xv w0 l1 l2}{v1 v2 v' wr w' o}{k:Nat}(h:Two b B xv w0 l1 l2 v1 v2 wr)(N:Ok .i64 3 w' B v' (x0Z l1++[(k:Int)]))(C:(wr.alloc o).grownBy w' v1.ownBlock)
  (X:∀g,v'.ownBlock=some g->v1.ownBlock=some g\/wr.heap.size<=g):Two b B xv w0 (l1++[k]) l2 v' v2 w':=by
 have L:=x0u wr o;have Z:=fun g H=>h.r1.row.lt g H;have D:=fun g H=>h.r2.row.lt g H
 have t:v2.ownBlock=none\/v2.ownBlock≠v1.ownBlock:=by
  cases y:v2.ownBlock with
  | none=>exact U3y
  | some g=>exact .inr (fun H=>h.ap g H.symm y)
 refine⟨by rw[x8B];exact N,x3f (x6g h.r2 o) C t,(h.x.alloc o).grown C (fun H=>by have:=(Z _ H).1;have:=h.hb;exact f6J),(h.bel.alloc W2J o).grown C W2J (fun g H=>by have:=(Z g H).1;have:=h.hb;have:=h.hw;exact f6J),h.hb,T7P,h.hw,fun g H y=>?_⟩;rcases X g H with h3 | h3
 ·exact h.ap g h3 y
 ·have:=(D g y).2;omega
theorem Two.right{b B xv w0 l1 l2}{v1 v2 v' wr w' o}{k:Nat}(h:Two b B xv w0 l1 l2 v1 v2 wr)(N:Ok .i64 3 w' B v' (x0Z l2++[(k:Int)]))(C:(wr.alloc o).grownBy w' v2.ownBlock)
  (X:∀g,v'.ownBlock=some g->v2.ownBlock=some g\/wr.heap.size<=g):Two b B xv w0 l1 (l2++[k]) v1 v' w':=by
 have L:=x0u wr o;have Z:=fun g H=>h.r1.row.lt g H;have D:=fun g H=>h.r2.row.lt g H
 have t:v1.ownBlock=none\/v1.ownBlock≠v2.ownBlock:=by
  cases y:v1.ownBlock with
  | none=>exact U3y
  | some g=>exact .inr (fun H=>h.ap g y H.symm)
 refine⟨x3f (x6g h.r1 o) C t,by rw[x8B];exact N,(h.x.alloc o).grown C (fun H=>by have:=(D _ H).1;have:=h.hb;exact f6J),(h.bel.alloc W2J o).grown C W2J (fun g H=>by have:=(D g H).1;have:=h.hb;have:=h.hw;exact f6J),h.hb,T7P,h.hw,fun g H y=>?_⟩;rcases X g y with h3 | h3
 ·exact h.ap g H h3
 ·have:=(Z g H).2;omega
theorem y6q m(r:y7r m) v xs w(N:Sk .i32 w v xs)(S:xs.length<=100000)(o:(Pu.idx xs Pu.x1W).length<=m) :
  Calls prog 201 #[v] w (z5C w xs):=by
 have d:=O r;have R:=O N;have E:=O N.1;have HM:=O o;obtain⟨ao,M,j,l,ar⟩:=N.shape
 have s:Hid (0<xs.length->∃b P,ao=some ⟨b,P,none⟩/\∀W,Bw w W->∀i,i<xs.length->W.cell? ⟨b,P+i,none⟩=some (.int .i32 (xs.getD i 0))):=fun h0=>by
  obtain⟨b,P,A,he,_,_,F⟩:=N.place h0;rw[j]at he;simp only[Value.slice.injEq]at he;refine⟨b,P,he.1,fun W Y i hi=>?_⟩;rw[Y.cell (x0a (F i hi))];exact F i hi
 subst j
 have c:Two w.heap.size (w.heap.size+1) (.slice ao xs.length M) w [] [] (.slice none 0 0) (.slice none 0 0) (w.alloc (.cells #[.slice ao xs.length M] 36)) :=
  ⟨Ok.nil _ _ _ _,Ok.nil _ _ _ _,heap_alloc_new w _,(b0r).alloc (l0r _) _,f6J,s8O,f6J,fun g H=>by simp[Value.ownBlock]at H⟩
 obtain⟨X,af⟩:∃X,w.alloc (.cells #[.slice ao xs.length M] 36)=X:=⟨_,rfl⟩;rw[af]at c;have aj:=c.x.cell;have ae:=O c;obtain⟨b,Y⟩:∃b,w.heap.size=b:=⟨_,rfl⟩;rw[Y]at aj ae;have I:=O Y;go_enter func201,ntmps201;go_wp2;go_loopw[2,3,4,5,8] (fun a v2 _ _ i wr=>∃k:Nat,i=.int .i64 k/\k<=xs.length/\Two b (b+1) (.slice ao xs.length M) w (Pu.idxk xs Pu.lowq k) (Pu.idxk xs Pu.x1W k) a v2 wr) (fun _ _ _ _ i _=>xs.length-(intOf i).toNat)
 case atStart=>exact⟨0,rfl,f6J,V ae⟩
 case round =>
  obtain⟨k,rfl,hk,u⟩:=hrel;by_cases ai:k<xs.length
  ·obtain⟨p,ox,G,F⟩:=V s f6J;subst G;have K:=F wr (by have e:=V I;subst e;exact u.bel) k ai;have aw:=(V E).i32at k;have am:=Pu.y4k xs Pu.lowq k;have aq:=Pu.y4k xs Pu.x1W k;have hB:=u.hB;have n:=O u;by_cases T:xs.getD k 0<128
   ·have hq:Pu.lowq (xs.getD k 0)=true:=d0t T;have ab:Pu.x1W (xs.getD k 0)=false:=(by unfold Pu.x1W;rw[hq];rfl);have L:=O (Pu.x4h (xs:=xs) (q:=Pu.lowq) hq);have y:=O (Pu.x5y (xs:=xs) (q:=Pu.x1W) ab);generalize xs.getD k 0=z at *;go_wp2_with(at_builtin;refine x1U rfl (.tmp 15) (.tmp 17) rfl (b+1) _ (x0Z (Pu.idxk xs Pu.lowq k)) k _ rfl rfl (V n).r1 rfl (fun z T=>by simp at T;subst T;exact p3E) e2m hB ?_);intro Q w' Z D J;have f:=O ((V n).left Z D J);exact e8b
   ·have hq:Pu.lowq (xs.getD k 0)=false:=d0f T;have ab:Pu.x1W (xs.getD k 0)=true:=(by unfold Pu.x1W;rw[hq];rfl);have L:=O (Pu.x5y (xs:=xs) (q:=Pu.lowq) hq);have y:=O (Pu.x4h (xs:=xs) (q:=Pu.x1W) ab);generalize xs.getD k 0=z at *;go_wp2_with(at_builtin;refine x1U rfl (.tmp 19) (.tmp 21) rfl (b+1) _ (x0Z (Pu.idxk xs Pu.x1W k)) k _ rfl rfl (V n).r2 rfl (fun z T=>by simp at T;subst T;exact p3E) e2m hB ?_);intro Q w' Z D J;have f:=O ((V n).right Z D J);exact e8b
  ·have ag:k=xs.length:=by omega
   have B:Two b (b+1) (.slice ao xs.length M) w (Pu.idx xs Pu.lowq) (Pu.idx xs Pu.x1W) u2 u3 wr:=by
    have:∀q,Pu.idxk xs q k=Pu.idx xs q:=fun q=>(by rw[ag];rfl);rw[this,this]at u;exact u
   have C:=O (V d xs b (b+1) (.slice ao xs.length M) u3 (Pu.idx xs Pu.x1W) w wr B.x (V R) B.bel v1c S (V HM) (Pu.z5d xs _) (Pu.y5O xs _) B.r2 (fun H=>by have:=(B.r2.row.lt _ H).1;exact f6J));have n:=O B;go_wp2_with(go_at_call 250;refine(V C).mono ?_;rintro e w2 ⟨rfl,Z,D⟩)
   have U:Hid (z5C w xs (.returned (.tuple #[u2,u3])) w2):=by
    have u:=V n
    have t:u2.ownBlock=none\/u2.ownBlock≠u3.ownBlock:=by
     cases hq:u2.ownBlock with
     | none=>exact U3y
     | some g=>exact .inr (fun H=>u.ap g hq H.symm)
    refine⟨u2,u3,rfl,(x3f u.r1 D t).lower v1c,Z.lower v1c,u.bel.grown D (by have:=u.hB;exact v1c) (fun g H=>by have:=(u.r2.row.lt g H).1;exact v1c)⟩
   go_ret2;exact V U
namespace Pu
theorem z5I f T j k(S:T.length<=16500)(X:1<=j)(Z:∀m,0<=T.getD m 0/\T.getD m 0<=k+1)(D:∀m,j<=m->T.getD m 0<=k) :
  ∀m,0<=(addF f T j).getD m 0/\(addF f T j).getD m 0<=k+1:=by
 induction f generalizing T j with
 | zero=>exact Z
 | succ f ih =>
  rw[addF];split
  ·rename_i hlt
   have y:=x8w X f6J;refine ih _ _ t2Y f6J (fun m=>?_) (fun m o=>?_)
   ·rw[x6d _ _ _ _ hlt];have:=Z m;have:=Z j;have:=D j (l0r _);exact G7n
   ·rw[x6d _ _ _ _ hlt,if_neg f6J];exact D m f6J
  ·exact Z
theorem Tb_of{k T}(h:∀m,0<=T.getD m 0/\T.getD m 0<=k):Tb k T:=by
 intro t p;obtain⟨i,hi,rfl⟩:=List.mem_iff_getElem.1 p;have:=h i;rw[List.getD,List.getElem?_eq_getElem hi]at this;exact this
theorem y7u{T k}(h:Tb k T)(G:0<=k)(S:T.length<=16500) p:Tb (k+1) (add T p):=by
 refine Tb_of (z5I _ _ _ k S f6J (fun m=>?_) (fun m _=>?_))
 ·have:=h.at G m;omega
 ·exact(h.at G m).2
theorem Tb.le{k k' T}(h:Tb k T)(G:k<=k'):Tb k' T:=fun t p=>by have:=h t p;exact f6J
theorem x8W f T j n(h:∀m,0<=T.getD m 0/\T.getD m 0<=20000)(F:0<=n):0<=x1X f T j n/\x1X f T j n<=n+20000*f:=by
 induction f generalizing j n with
 | zero=>simp only[x1X];omega
 | succ f ih =>
  rw[x1X];have H:=h j;split
  ·grind
  ·omega
theorem x5q{T}(h:Tb 20000 T) p:0<=ahead T p/\ahead T p<=20000*p:=by
 have:=x8W p T p 0 (fun m=>h.at f6J m) f6J;unfold ahead;omega
def wok(xs:List Int):List Nat->List Int->Int->Int->Int->Bool
 | [],_,_,_,_=>true
 | c::r,T,p,n,i =>
  let d:=(xs.getD c 0-n)*(p+1)+ahead T c-i
  decide (0<=d)&&decide (0<=n+(i+d) / (p+1)/\n+(i+d) / (p+1)<=1114111)&&(decide (2147483647<d)||wok xs r (add T c) (p+1) (n+(i+d) / (p+1)) ((i+d)%(p+1)+1))
def dlt(xs:List Int)(c:Nat)(T:List Int)(p n i:Int):Int:=(xs.getD c 0-n)*(p+1)+ahead T c-i
theorem y0m{xs c r T}{p n i}(h:wok xs (c::r) T p n i=true):0<=dlt xs c T p n i/\(0<=n+(i+dlt xs c T p n i) / (p+1)/\n+(i+dlt xs c T p n i) / (p+1)<=1114111) /\
  (2147483647<dlt xs c T p n i\/wok xs r (add T c) (p+1) (n+(i+dlt xs c T p n i) / (p+1)) ((i+dlt xs c T p n i)%(p+1)+1)=true):=by
 simpa[wok,dlt,and_assoc]using h
theorem x6m{xs c r T}{p n i bias f out}(h:2147483647<dlt xs c T p n i):wr2 xs (c::r) T p n i bias f out=([],113):=by
 show(if 2147483647<dlt xs c T p n i then([],113)else _)=_;rw[if_pos h]
theorem x4B{xs c r T}{p n i bias f out}(h:¬2147483647<dlt xs c T p n i):wr2 xs (c::r) T p n i bias f out =
  wr2 xs r (add T c) (p+1) (n+(i+dlt xs c T p n i) / (p+1)) ((i+dlt xs c T p n i)%(p+1)+1) (adapt (dlt xs c T p n i) (p+1) f) false (out++wrNum (dlt xs c T p n i) bias):=by
 show(if 2147483647<dlt xs c T p n i then([],113)else _)=_;rw[if_neg h];rfl
end Pu
theorem y4x b p n i bias c pl f w(h:StAt w b p n i bias f)(s:0<=p/\p<=20000)(F:0<=n/\n<=1114111)(hi:0<=i/\i<=20000)(I:0<=c/\c<=1114111)(G:0<=pl/\pl<=1000000000) :
  Calls prog 203 #[.pointer (some ⟨b,0,none⟩),.int .i32 c,.int .i64 pl] w fun e w'=>e=.returned (.int .i64 ((c-n)*(p+1)+pl-i))/\∃m,w'=w.drewN m:=by
 refine(y6k b p n i bias c pl f w h s F hi I G).mono ?_;rintro e w' ⟨rfl,A⟩;refine⟨rfl,?_⟩;rcases A with rfl | rfl
 ·exact⟨0,rfl⟩
 ·exact⟨1,rfl⟩
theorem StAt.drewN{w b p n i bias f}(h:StAt w b p n i bias f) m:StAt (w.drewN m) b p n i bias f:=h
theorem TAt.drewN{w g T}(h:TAt w g T) m:TAt (w.drewN m) g T:=h
theorem TAt.grown{w w' g T row}(h:TAt w g T)(C:w.grownBy w' row)(t:row≠some g):TAt w' g T:=by
 unfold TAt at h ⊢;rw[C.block g (Array.getElem?_eq_some_iff.1 h).1 (fun H=>t H.symm)];exact h
theorem TAt.alloc{w g T}(h:TAt w g T) o:TAt (w.alloc o) g T:=by
 unfold TAt at h ⊢;exact v1L
theorem StAt.grown{w w' b p n i bias f}{row}(h:StAt w b p n i bias f)(C:w.grownBy w' row)(t:row≠some b):StAt w' b p n i bias f:=by
 unfold StAt at h ⊢;exact U8D
theorem StAt.alloc{w b p n i bias f}(h:StAt w b p n i bias f) o:StAt (w.alloc o) b p n i bias f:=by
 unfold StAt at h ⊢;exact v1L
structure Wm(w1:World)(b g:Nat)(p n i bias:Int)(f:Bool)(T out:List Int)(bv:Value)(wr:World):Prop where
 st:StAt wr b p n i bias f
 t:TAt wr g T
 ob:Ok .u8 5 wr w1.heap.size bv out
 bel:Below w1.heap.size w1 wr
 hb:w1.heap.size<=b
 hg:w1.heap.size<=g
 hbg:b≠g
 nb:bv.ownBlock≠some b
 ng:bv.ownBlock≠some g
theorem Wm.size{w1 b g p n i bias f}{T out bv wr}(h:Wm w1 b g p n i bias f T out bv wr):w1.heap.size<=wr.heap.size/\b<wr.heap.size/\g<wr.heap.size :=
 ⟨h.bel.size,(Array.getElem?_eq_some_iff.1 h.st).1,(Array.getElem?_eq_some_iff.1 h.t).1⟩
theorem Wm.drewN{w1 b g p n i bias f}{T out bv wr}(h:Wm w1 b g p n i bias f T out bv wr) m:Wm w1 b g p n i bias f T out bv (wr.drewN m) :=
 ⟨h.st.drewN m,h.t.drewN m,h.ob.below (x0i ⟨m,rfl⟩),h.bel.trans ((x0i ⟨m,rfl⟩:Bw wr _).mono h.bel.size),h.hb,h.hg,h.hbg,h.nb,h.ng⟩
theorem Wm.added{w1 b g p n i bias f}{T T' out bv wr w' e}(h:Wm w1 b g p n i bias f T out bv wr)(A:AddP wr g T' e w'):Wm w1 b g p n i bias f T' out bv w':=by
 obtain⟨_,E,N,D⟩:=A;obtain⟨U,B,C⟩:=h.size;exact⟨h.st.grown N (fun H=>h.hbg (by simpa using H.symm)),E,x3f h.ob N (.inr h.ng),h.bel.grown N U (fun k G=>by simp at G;have:=h.hg;exact f6J),h.hb,h.hg,h.hbg,h.nb,h.ng⟩
theorem Wm.stepped{w1 b g p n i bias p' n' i' bias' pl f}{T out bv wr w' e}(h:Wm w1 b g p n i bias f T out bv wr)(L:x3U wr b p' n' i' bias' pl e w'):Wm w1 b g p' n' i' bias' false T out bv w':=by
 obtain⟨_,A,N,D⟩:=L;obtain⟨U,B,C⟩:=h.size;exact⟨A,h.t.grown N (fun H=>h.hbg (by simpa using H)),x3f h.ob N (.inr h.nb),h.bel.grown N U (fun k G=>by simp at G;have:=h.hb;exact f6J),h.hb,h.hg,h.hbg,h.nb,h.ng⟩
theorem Wm.wrote{w1 b g p n i bias f}{T out out' bv bv' wr w0 w'}(h:Wm w1 b g p n i bias f T out bv wr)(R:w0=wr\/∃o,w0=wr.alloc o)(D:Ok .u8 5 w' w1.heap.size bv' out')(N:w0.grownBy w' bv.ownBlock)
  (X:∀k,bv'.ownBlock=some k->bv.ownBlock=some k\/wr.heap.size<=k):Wm w1 b g p n i bias f T out' bv' w':=by
 obtain⟨U,B,C⟩:=h.size;have Y:∀k,bv.ownBlock=some k->w1.heap.size<=k:=fun k G=>(h.ob.row.lt k G).1
 have A:StAt w0 b p n i bias f/\TAt w0 g T/\Bw w1 w0/\wr.heap.size<=w0.heap.size:=by
  rcases R with rfl | ⟨o,rfl⟩
  ·exact⟨h.st,h.t,h.bel,l0r _⟩
  ·exact⟨h.st.alloc o,h.t.alloc o,h.bel.alloc U o,s8O⟩
 obtain⟨M,E,S,I⟩:=A;refine⟨M.grown N h.nb,E.grown N h.ng,D,S.grown N f6J Y,h.hb,h.hg,h.hbg,fun H=>?_,fun H=>?_⟩
 ·rcases X b H with h3 | h3
  ·exact h.nb h3
  ·omega
 ·rcases X g H with h3 | h3
  ·exact h.ng h3
  ·omega
theorem y8h w ad c:(convert 181 9 (.slice (some ad) 0 c)).run prog w=.ok (.string (strOfNums [])) w:=E4F
theorem Sk.conv{w v zs}(h:Sk .u8 w v zs):(convert 181 9 v).run prog w=.ok (.string (strOfNums zs)) w:=by
 rcases Nat.eq_zero_or_pos zs.length with h0 | h0
 ·obtain rfl:=List.eq_nil_of_length_eq_zero h0;obtain⟨B,M,rfl,_,_⟩:=h.shape
  cases B with
  | none=>exact t3I
  | some ad=>exact y8h w ad M
 ·exact P0D
def WrP(w:World)(r:List Int×Int)(e:Ending)(w':World):Prop:=e=.returned (.tuple #[.string (strOfNums r.1),.int .i64 r.2])/\Below w.heap.size w w'
namespace Pu
theorem z8p bias j:∀(f:Nat) (k v:Int),0<=v->v<2^j->(wrN bias f k v).length<=j+1:=by
 induction j with
 | zero =>
  intro f k v R Z;have Y:=x1o k bias;rw[x3m (by simp at Z;exact f6J)];simp
 | succ j ih =>
  intro f k v R Z;have Y:=x1o k bias;by_cases N:v<thr k bias
  ·rw[x3m N];simp
  ·cases f with
   | zero=>simp[wrN]
   | succ f =>
    rw[x6n N,List.length_cons]
    have y:(v-thr k bias) / (36-thr k bias)<2^j:=by
     apply Int.ediv_lt_of_lt_mul f6J;have D:v<2^j*2:=f6J;have s:(0:Int)<=2^j:=Int.pow_nonneg e8N
     calc v-thr k bias<2^j*2:=by omega
      _<=2^j*(36-thr k bias):=Int.mul_le_mul_of_nonneg_left f6J s
    have:=ih f (k+1) _ (Int.ediv_nonneg f6J f6J) y;omega
theorem x7H{v bias}(R:0<=v)(Z:v<=2147483647):(wrNum v bias).length<=32:=z8p bias 31 _ _ _ R f6J
end Pu
theorem y9J n:(madeCells (Value.int .i64 0).cells n)=((List.replicate n (0:Int)).map (Value.int .i64)).toArray:=by
 apply Array.toList_inj.1;refine List.ext_getElem (by simp[madeCells]) fun i Z D=>?_;simp[madeCells,Value.cells,Nat.mod_one]
theorem y6g(n:Nat) w(F:n<=16500):∃W,(Instr.makeSlice 282 (.int .i64 ((n:Int)+1)) (.int .i64 ((n:Int)+1))).run prog w=.ok (.slice (some ⟨w.heap.size,0,none⟩) (n+1) (n+1)) W/\TAt W w.heap.size (List.replicate (n+1) 0)/\W=w.alloc (.cells ((List.replicate (n+1) (0:Int)).map (Value.int .i64)).toArray 3):=by
 obtain⟨r,hi,d,Y,R⟩:=x6P;have h:=run_make (P:=prog) w 282 3 r (.int .i64 0) underlying282 hi d .i64 .i64 ((n:Int)+1) ((n:Int)+1) f6J f6J s0M f6J;rw[(f6J:((n:Int)+1).toNat=n+1),Y,Nat.mul_one,y9J]at h;exact⟨_,h,heap_alloc_new w _,rfl⟩
theorem y6e(n:Nat) w B(m:B<=w.heap.size)(F:n<=16500):∃W,(Instr.makeSlice 181 (.int .i64 0) (.int .i64 ((n:Int)+1))).run prog w=.ok (.slice (some ⟨w.heap.size,0,none⟩) 0 (n+1)) W/\Ok .u8 5 W B (.slice (some ⟨w.heap.size,0,none⟩) 0 (n+1)) []/\w.grownBy W none:=by
 obtain⟨r,hi,d,Y,R⟩:=x6N;obtain⟨W,Z,D,J⟩:=run_make_own (P:=prog) w B 181 5 r (.int .u8 0) 1 underlying181 hi d Y .i64 .i64 (n+1) s0O T7W m;exact⟨W,by rw[(f6J:((n:Int)+1)=((n+1:Nat):Int))];exact Z,Ok.of (Fit.nil _) M7M D rfl rfl,J⟩
theorem z4F{xs}{l:List Nat}{k T out}(G:k<l.length):Pu.wr1 xs (l.drop k) T out=Pu.wr1 xs (l.drop (k+1)) (Pu.add T (l.getD k 0)) (out++[xs.getD (l.getD k 0) 0]):=by
 have:l.drop k=l.getD k 0::l.drop (k+1):=(by rw[List.drop_eq_getElem_cons G,List.getD,List.getElem?_eq_getElem G];rfl);rw[this,Pu.wr1]
theorem x4c{l:List Nat}{k}(G:k<l.length):l.drop k=l.getD k 0::l.drop (k+1):=f0h
theorem x9N{l k}(G:k<l.length):(x0Z l).getD k 0=((l.getD k 0:Nat):Int):=by simp[x0Z,List.getD,G]
theorem x1D{l:List Nat}{k}(G:k<l.length):l.getD k 0∈l:=by grind
theorem z1M m(HS:y7r m) v xs w(hv:Sk .i32 w v xs)(hl:xs.length<=16384)(hm:(Pu.idx xs Pu.x1W).length<=m)(cG:∀z∈xs,0<=z/\z<=1114111) ord(bC:Pu.x5f xs (Pu.idx xs Pu.x1W)=ord)
  (cE:∀a∈ord,a<xs.length) (cV:(Pu.idx xs Pu.lowq).length+ord.length<=16384)
  (bX:Pu.wok xs ord (Pu.wr1 xs (Pu.idx xs Pu.lowq) (List.replicate (xs.length+1) 0) []).1 ((Pu.idx xs Pu.lowq).length:Int) 128 0=true) :
  Calls prog 153 #[v] w (WrP w (Pu.write xs ord)):=by
 have HP:=O (y6q m HS v xs w hv f6J hm);obtain⟨lo,aW⟩:∃lo,Pu.idx xs Pu.lowq=lo:=⟨_,rfl⟩;have aD:=Pu.z5d xs Pu.lowq
 have aF:∀a∈lo,xs.getD a 0<128:=fun a ha=>by
  rw[<- aW]at ha;have:=(List.mem_filter.1 ha).2;simpa[Pu.lowq]using this
 have hR:Pu.write xs ord=Pu.wr2 xs ord (Pu.wr1 xs lo (List.replicate (xs.length+1) 0) []).1 (lo.length:Int) 128 0 72 true ((Pu.wr1 xs lo (List.replicate (xs.length+1) 0) []).2++if lo.length=0 then[]else[45]):=by
  unfold Pu.write;rw[aW]
 have cF:∀e w',z5C w xs e w'->∃v1 v2,e=.returned (.tuple #[v1,v2])/\Sk .i64 w' v1 (x0Z lo)/\Sk .i64 w' v2 (x0Z ord)/\Bw w w':=by
  rintro e w' ⟨v1,v2,h1,h2,J,h4⟩;rw[aW]at h2;rw[bC]at J;exact⟨v1,v2,h1,h2.sk,J.sk,h4⟩
 rw[aW]at bX cV aD
 have bI:Hid (∀k,0<=xs.getD k 0/\xs.getD k 0<=1114111):=fun k=>by
  rcases Nat.lt_or_ge k xs.length with hk | hk
  ·rw[List.getD,List.getElem?_eq_getElem hk];exact cG _ (List.getElem_mem hk)
  ·rw[List.getD,List.getElem?_eq_none hk];exact⟨Int.le_refl 0,e8Q⟩
 generalize Pu.write xs ord=R at *;have HR:=O hR;have aM:=O bX;have ci:=O cF;have cL:=O aD;have cK:=O aF;have cf:=O cE;have HV:=O hv;obtain⟨ao,di,db,dp,dq⟩:=hv.shape;subst db;clear hv hm cG bC cE aW aD aF hR cF bX HS;go_enter func153,ntmps153;go_wp2_with fail;refine(V HP).mono ?_;intro e Q hp;obtain⟨v1,v2,rfl,bY,bZ,bM⟩:=V ci e Q hp;have cN:=O bY;have cj:=O bZ;obtain⟨a1,dj,o,_,_⟩:=bY.shape;obtain⟨a2,dk,Z,_,_⟩:=bZ.shape;rw[x0o]at o Z;subst o;subst Z;have l:=O bM;have bK:=O ((V HV).below bM);clear hp bY bZ bM ci HP HV;have cd:=fun W=>O (y0r (lo.length:Int) W);go_wp2_with fail;refine c1m (V (cd _)) fun w2 bn=>?_;clear cd;obtain⟨W3,bj⟩:∃W3,w2.alloc (.cells #[.int .i64 (lo.length:Int),.int .i64 128,.int .i64 0,.int .i64 72,.bool true] 132)=W3:=⟨_,rfl⟩;have bD:StAt W3 w2.heap.size (lo.length:Int) 128 0 72 true:=(by rw[<- bj];exact heap_alloc_new w2 _);have cY:W3.heap.size=w2.heap.size+1:=(by rw[<- bj];exact x0u _ _);have bN:Bw Q W3:=(by rw[<- bj];exact bn.alloc bn.size _);obtain⟨W4,bA,cC,bm⟩:=y6g xs.length W3 f6J;have cZ:W4.heap.size=W3.heap.size+1:=(by rw[bm];exact x0u _ _);have L:StAt W4 w2.heap.size (lo.length:Int) 128 0 72 true:=(by rw[bm];exact bD.alloc _);have cD:Bw Q W4:=(by rw[bm];exact bN.alloc bN.size _);have dh:=bn.size;obtain⟨W5,bB,cB,bp⟩:=y6e xs.length W4 Q.heap.size f6J f6J;obtain⟨b,hb⟩:∃b,w2.heap.size=b:=⟨_,rfl⟩;obtain⟨g,hg⟩:∃g,W3.heap.size=g:=⟨_,rfl⟩;obtain⟨g2,bS⟩:∃g2,W4.heap.size=g2:=⟨_,rfl⟩
 have cz:Wm Q b g (lo.length:Int) 128 0 72 true (List.replicate (xs.length+1) 0) [] (.slice (some ⟨g2,0,none⟩) 0 (xs.length+1)) W5:=by
  rw[<- hb,<- hg,<- bS];refine⟨L.grown bp (by simp),cC.grown bp (by simp),cB,cD.grown bp f6J (fun k hk=>by cases hk),f6J,f6J,f6J,?_,?_⟩
  ·exact e9Q
  ·exact e9Q
 rw[hg]at bA;rw[bS]at bB;have ce:=O cz;clear bD bN cC bm cZ L cD cB bp cz bn cY;go_wp2;go_loopw[8,10,32] (fun bv _ jj wr=>∃(k:Nat) (T out:List Int),jj=.int .i64 k/\k<=lo.length/\Wm Q b g (lo.length:Int) 128 0 72 true T out bv wr/\Pu.Tb k T/\T.length=xs.length+1/\out.length=k/\Pu.wr1 xs lo (List.replicate (xs.length+1) 0) []=Pu.wr1 xs (lo.drop k) T out) (fun _ _ jj _=>lo.length-(intOf jj).toNat)
 case atStart=>exact⟨0,_,[],rfl,f6J,V ce,fun t ht=>by rw[List.eq_of_mem_replicate ht];exact⟨Int.le_refl 0,Int.le_refl 0⟩,by simp,rfl,s4M⟩
 case round =>
  clear ce bA bB bj hb hg bS;obtain⟨k,T,out,rfl,hk,B,N,H,aX,bt⟩:=hrel;by_cases E:k<lo.length
  ·obtain⟨b1,o1,dl,o,_,_,bw⟩:=(V cN).place (by rw[x0o];exact f6J);rw[x0o]at o;simp only[Value.slice.injEq]at o;obtain⟨rfl,h9,rfl⟩:=o;clear h9
   have cI:wr.cell? ⟨b1,o1+k,none⟩=some (.int .i64 ((lo.getD k 0:Nat):Int)):=by
    have J:=bw k (by rw[x0o];exact E);rw[x9N E]at J;exact E8O
   have aU:lo.getD k 0<xs.length:=V cL _ (x1D E);have cS:=V cK _ (x1D E);have cM:=O (bt.trans (z4F E));generalize lo.getD k 0=c at *;obtain⟨bx,ox,cw,aw,_,_,r⟩:=(V bK).place f6J;simp only[Value.slice.injEq]at aw;obtain⟨rfl,h9,rfl⟩:=aw;clear h9
   have A:∀W,Bw Q W->W.cell? ⟨bx,ox+c,none⟩=some (.int .i32 (xs.getD c 0)):=fun W hb=>by
    have J:=r c aU;rw[hb.cell (x0a J)];exact J
   have cJ:=O A;have cH:=V bI c;have bF:=O (y2d g T c wr B.t (N.le f6J) f6J f6J);rw[H]at bF;have aq:Hid (Pu.Tb (k+1:Nat) (Pu.add T c)):=(by have:=Pu.y7u N f6J f6J c;show Pu.Tb _ _;rwa [(f6J:((k+1:Nat):Int)=(k:Int)+1)]);have ar:Hid ((Pu.add T c).length=xs.length+1):=(Pu.x3z T c).trans H;have C:=O B;clear B N H bt bw r A;generalize Pu.add T c=T2,xs.getD c 0=z at *;go_wp2_with fail;refine(V bF).mono ?_;intro e wa aT;have bh:=(V C).added aT;have cU:=aT.1;subst cU;have de:=V cJ wa bh.bel;have da:=bh.size;have bH:=O bh;clear aT bh bF C;have dr:z%256=z:=f6J;go_wp2_with(at_builtin;refine x0I rfl (.tmp 39) (.tmp 45) rfl Q.heap.size _ out z _ rfl rfl (V bH).ob rfl (fun y hy=>r1e) f6J f6J ?_);intro v' w' h1 h2 J;have HN:=O ((V bH).wrote (.inr ⟨_,rfl⟩) h1 h2 J);have ai:Hid ((out++[z]).length=k+1):=(by show _=_;simp[aX]);clear h1 h2 J bH;go_wp2
   go_roundw
   case rel=>exact⟨k+1,T2,out++[z],g2A,f6J,V HN,V aq,V ar,V ai,V cM⟩
   case measure=>exact g7W
  ·have az:k=lo.length:=f6J;have bE:Pu.wr1 xs lo (List.replicate (xs.length+1) 0) []=(T,out):=(by rw[bt,az,List.drop_length];rfl);rw[bE]at HR aM;have bu:Pu.Tb (lo.length:Int) T:=(by rw[<- az];exact N);have S:=O bu;have be:=O H;clear bt bE N bu;by_cases hz:lo.length=0
   ·have aI:=O B;have M:Hid (out.length<=20000+40*0):=(by show _<=_;exact f6J);clear B;go_wp2
    have HQ:Hid (R=Pu.wr2 xs (ord.drop 0) T ((lo.length:Int)+((0:Nat):Int)) 128 0 72 true out):=by
     show R=_;rw[List.drop_zero,V HR,if_pos hz];simp
    clear HR;go_loopw[2,3,8,12,13,56] (fun _ _ bv _ _ jj wr=>∃(k:Nat) (T out:List Int) (n i bias:Int) (f:Bool),jj=.int .i64 k/\k<=ord.length/\Wm Q b g ((lo.length:Int)+k) n i bias f T out bv wr/\Pu.Tb ((lo.length:Int)+k) T/\T.length=xs.length+1/\(0<=n/\n<=1114111)/\(0<=i/\i<=(lo.length:Int)+k)/\(0<=bias/\bias<=468)/\out.length<=20000+40*k/\Pu.wok xs (ord.drop k) T ((lo.length:Int)+k) n i=true/\R=Pu.wr2 xs (ord.drop k) T ((lo.length:Int)+k) n i bias f out) (fun _ _ _ _ _ jj _=>ord.length-(intOf jj).toNat)
    case atStart=>exact⟨0,T,out,128,0,72,true,rfl,f6J,v6U,E9J,V be,f6J,f6J,f6J,V M,T7F,V HQ⟩
    case round =>exact r1u
   ·have da:=B.size;have C:=O B;clear B;go_wp2_with(at_builtin;refine x0I rfl (.tmp 51) (.tmp 52) rfl Q.heap.size _ out 45 _ rfl rfl (V C).ob rfl (fun y hy=>r1e) f6J f6J ?_);intro v' w' h1 h2 J;have aI:=O ((V C).wrote (.inr ⟨_,rfl⟩) h1 h2 J);have M:Hid ((out++[45]).length<=20000+40*0):=(by show _<=_;exact P8U);clear h1 h2 J C;go_wp2
    have HQ:Hid (R=Pu.wr2 xs (ord.drop 0) T ((lo.length:Int)+((0:Nat):Int)) 128 0 72 true (out++[45])):=by
     show R=_;rw[List.drop_zero,V HR,if_neg hz];simp
    clear HR;go_loopw[2,3,8,12,13,56] (fun _ _ bv _ _ jj wr=>∃(k:Nat) (T out:List Int) (n i bias:Int) (f:Bool),jj=.int .i64 k/\k<=ord.length/\Wm Q b g ((lo.length:Int)+k) n i bias f T out bv wr/\Pu.Tb ((lo.length:Int)+k) T/\T.length=xs.length+1/\(0<=n/\n<=1114111)/\(0<=i/\i<=(lo.length:Int)+k)/\(0<=bias/\bias<=468)/\out.length<=20000+40*k/\Pu.wok xs (ord.drop k) T ((lo.length:Int)+k) n i=true/\R=Pu.wr2 xs (ord.drop k) T ((lo.length:Int)+k) n i bias f out) (fun _ _ _ _ _ jj _=>ord.length-(intOf jj).toNat)
    case atStart=>exact⟨0,T,(out++[45]),128,0,72,true,rfl,f6J,v6U,E9J,V be,f6J,f6J,f6J,V M,T7F,V HQ⟩
    case round =>exact r1u
namespace Pu
def ordOf(xs:List Int):List Nat:=x5f xs (idx xs x1W)
def encode(xs:List Int):List Int×Int:=if allb okb xs=false then([],31)else write xs (ordOf xs)
def t1Of(xs:List Int):List Int:=(wr1 xs (idx xs lowq) (List.replicate (xs.length+1) 0) []).1
def fine(xs:List Int):Prop:=(∀a∈ordOf xs,a<xs.length)/\(idx xs lowq).length+(ordOf xs).length<=16384/\wok xs (ordOf xs) (t1Of xs) ((idx xs lowq).length:Int) 128 0=true
end Pu
theorem y6u v xs w(N:Sk .i32 w v xs):Calls prog 152 #[v] w (x1y w (allb okb xs)):=by
 have H:=O (x2b v xs w N);have y:allb okb xs=decide (fbY (fun c=>!okb c) 0 xs<0):=(by rw[y8H];simp[allb]);rw[y];go_enter func152,ntmps152;go_wp2_with fail;refine(V H).mono ?_;rintro e w ⟨rfl,rfl⟩;go_wp2;go_ret;exact x1y.mk rfl
theorem x7f{xs}(h:allb okb xs=true):∀z∈xs,0<=z/\z<=1114111:=by
 intro z T;have:=List.all_eq_true.1 h z T;have D:Utf.okc z:=o0d this;rcases D with h3 | h3<;>omega
theorem x3a m(r:y7r m) v xs w(N:Sk .i32 w v xs)(F:xs.length<=16384)(o:(Pu.idx xs Pu.x1W).length<=m)(z:allb okb xs=true->Pu.fine xs) :
  Calls prog 100 #[v] w (WrP w (Pu.encode xs)):=by
 have a:=O (y6u v xs w N);obtain⟨B,M,j,l,E⟩:=N.shape
 cases hb:allb okb xs with
 | false =>
  have U:Hid (WrP w (Pu.encode xs) (.returned (.tuple #[.string ⟨#[]⟩,.int .i64 31])) w):=by
   refine⟨?_,b0r⟩;unfold Pu.encode;rw[if_pos hb];rfl
  rw[hb]at a;subst j;go_enter func100,ntmps100;go_wp2_with(go_at_call 152;refine(V a).mono ?_;rintro e Q ⟨rfl,rfl⟩;clear a);go_ret2;exact V U
 | true =>
  obtain⟨s,D,t⟩:=z hb;have C:=O (z1M m r v xs w N F o (x7f hb) (Pu.ordOf xs) rfl s D t);have S:Pu.encode xs=Pu.write xs (Pu.ordOf xs):=(by unfold Pu.encode;rw[if_neg (by rw[hb];exact M7K)]);rw[S];rw[hb]at a;subst j;generalize Pu.write xs (Pu.ordOf xs)=R at *;go_enter func100,ntmps100;go_wp2_with(go_at_call 152;refine(V a).mono ?_;rintro e Q ⟨rfl,rfl⟩;clear a);refine c0m C fun G H=>?_;have U:Hid (WrP Q R (.returned (.tuple #[.string (strOfNums R.1),.int .i64 R.2])) G):=⟨rfl,H⟩;go_wp2;go_ret2;exact V U
