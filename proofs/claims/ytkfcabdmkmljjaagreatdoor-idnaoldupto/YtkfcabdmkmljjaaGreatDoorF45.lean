/- Lemmas. -/
import Derived.Test.YtkfcabdmkmljjaaGreatDoorF42
import Derived.Deep.AppendLies
import Derived.Deep.QuietTactic
import Derived.Laws.MakeOwn
import Derived.Deep.DeepCutAuto
import Derived.Deep.CutBlock
set_option maxHeartbeats 8000000
set_option maxRecDepth 20000
namespace Go.Proofs.YtkfcabdmkmljjaaGreatDoor
open Go.Proofs.Tryz
open Go.RowKit
section
variable{p:Prop}
theorem I5f(h:p:=by rw[X];clear X;go_enter func60,ntmps60;go_wp2;go_ret;exact x0s.mk (by first| rfl | omega)):p:=h
theorem v1L(h:p:=by rw[heap_alloc_old _ _ (Array.getElem?_eq_some_iff.1 h).1];exact h):p:=h
theorem T9u(h:p:=by rw[X];clear X;go_enter func253,ntmps253;go_wp2;go_ret;exact x3Q.mk (by first| rfl | omega)):p:=h
theorem I4y(h:p:=by rw[H.block b (Array.getElem?_eq_some_iff.1 h).1 (fun X=>y X.symm)];exact h):p:=h
theorem w1M(h:p:=by
 clear HQ aO Z bp G aR;obtain⟨k,T,out,n,i,bias,f,rfl,hk,B,S,F,hn,hi,Y,bh,j,x⟩:=hrel;by_cases E:k<ord.length
 ·obtain⟨b2,o2,cX,I,_,_,aB⟩:=(V cF).place F9I;rw[x0p]at I;simp only[Value.slice.injEq]at I;obtain⟨rfl,h9,rfl⟩:=I;clear h9
  have P:wr.cell? ⟨b2,o2+k,none⟩=some (.int .i64 ((ord.getD k 0:Nat):Int)):=by
   have J:=aB k (by rw[x0p];exact E);rw[x9J E]at J;exact E8O
  have aZ:ord.getD k 0<xs.length:=V cD _ (x6b E);have ae:=x4c E;generalize ord.getD k 0=c at *;obtain⟨bx,ox,cG,aC,_,_,s⟩:=(V bP).place f6J;simp only[Value.slice.injEq]at aC;obtain⟨rfl,h9,rfl⟩:=aC;clear h9
  have A:∀nq,(wr.drewN nq).cell? ⟨bx,ox+c,none⟩=some (.int .i32 (xs.getD c 0)):=fun nq=>by
   have J:=s c aZ;show wr.cell? _=_;exact E8O
  have C:=A 0;have cO:=V bN c;obtain⟨s1,s2,s3⟩:=B.size;have H:Pu.Tb 20000 T:=S.le f6J;have cY:=Pu.x5m H c;rw[ae]at j x;obtain⟨bU,ce,bn⟩:=Pu.y0j j;have o:=fun nq=>O (y0q g T c (wr.drewN nq) (B.t.drewN nq) H f6J f6J);have u:=fun nq=>O (y4t b ((lo.length:Int)+k) n i bias (xs.getD c 0) (Pu.ahead T c) f (wr.drewN nq) (B.st.drewN nq) f6J hn f6J f6J f6J);rw[F]at o;have ba:(xs.getD c 0-n)*((lo.length:Int)+k+1)+Pu.ahead T c-i=Pu.dlt xs c T ((lo.length:Int)+k) n i:=rfl;rw[ba]at u;have l:=O B;have Z:=O S;have K:=O x;have aH:=O bn;clear B S H j x bn ae aB s ba;generalize hde:Pu.dlt xs c T ((lo.length:Int)+k) n i=d at *;have q:=O hde;clear hde;by_cases aK:2147483647<d
  ·have D:=O ((V K).trans (Pu.y0k (by rw[V q];exact aK)));have aN:=O (V l).bel;clear K aH q Z l;generalize Pu.ahead T c=ah,xs.getD c 0=z at *;go_wp2;go_quiet(first| (go_at_call 204;exact Calls.quiet_of_same (V (o _)))|(go_at_call 203;exact Calls.quiet_of (V (u _))))
   have HF:Hid (WrP w R (.returned (.tuple #[.string ⟨#[]⟩,.int .i64 113])) (wr.drewN nq)):=by
    refine⟨by rw[V D];rfl,?_⟩;exact(V ar).trans (((V aN).trans ((x0i ⟨nq,rfl⟩:Bw wr _).mono s1)).mono (V ar).size)
   clear aN D o u;go_wp2;go_ret2;exact V HF
  ·have cd:=Pu.x7F (v:=d) (bias:=bias) bU f6J;have D:=O ((V K).trans (Pu.y0l (by rw[V q];exact aK)))
   have bO:Hid (Pu.wok xs (ord.drop (k+1)) (Pu.add T c) ((lo.length:Int)+k+1) (n+(i+d) / ((lo.length:Int)+k+1)) ((i+d)%((lo.length:Int)+k+1)+1)=true):=by
    rcases V aH with h | h
    ·exact absurd h aK
    ·exact h
   rw[V q]at D;have dh:0<=(i+d)%((lo.length:Int)+k+1):=Int.emod_nonneg _ f6J;have di:(i+d)%((lo.length:Int)+k+1)<(lo.length:Int)+k+1:=Int.emod_lt_of_pos _ f6J;have aX:=Pu.x2H d ((lo.length:Int)+k+1) f f6J
   have p:Hid (∀nq,Calls prog 205 #[u8,.int .i64 d,.int .i64 bias] (wr.drewN nq) (GrP Q.heap.size u8 (wr.drewN nq) (out++Pu.wrNum d bias))):=fun nq =>
    x2C Q.heap.size u8 out d bias (wr.drewN nq) ((V l).drewN nq).ob (by show Q.heap.size<=wr.heap.size;exact s1) f6J f6J Y
   have N:Hid (∀W bv,Wm Q b g ((lo.length:Int)+k) n i bias f T (out++Pu.wrNum d bias) bv W->Calls prog 61 #[.pointer (some ⟨b,0,none⟩),.int .i64 d] W (x3U W b ((lo.length:Int)+k+1) (n+(i+d) / ((lo.length:Int)+k+1)) ((i+d)%((lo.length:Int)+k+1)+1) (Pu.adapt d ((lo.length:Int)+k+1) f) ((i+d)%((lo.length:Int)+k+1)))):=fun W bv h =>
    y0a b ((lo.length:Int)+k) n i bias d f W h.st f6J f6J f6J f6J
   have aq:Hid (∀W,TAt W g T->Calls prog 202 #[.slice (some ⟨g,0,none⟩) (xs.length+1) (xs.length+1),.int .i64 c] W (AddP W g (Pu.add T c))):=fun W h=>by
    have:=y2c g T c W h ((V Z).le f6J) f6J f6J;rwa [F]at this
   have ay:Hid (Pu.Tb ((lo.length:Int)+k+1) (Pu.add T c)):=Pu.y7q (V Z) f6J f6J c;have aA:Hid ((Pu.add T c).length=xs.length+1):=(Pu.x3A T c).trans F;clear K aH q Z F;generalize hout2:out++Pu.wrNum d bias=aF at *;have L:Hid (aF.length<=20000+40*(k+1)):=(by show _<=_;rw[<- hout2];exact P8U);clear hout2;generalize Pu.add T c=T2,Pu.adapt d ((lo.length:Int)+k+1) f=ad,n+(i+d) / ((lo.length:Int)+k+1)=n2,(i+d)%((lo.length:Int)+k+1)=pl2,Pu.ahead T c=ah,xs.getD c 0=z at *;have aQ:=O fun nq=>(V l).drewN nq;have bZ:=(V l).st.cells;obtain⟨_,_,_,c3,_⟩:=bZ;clear l;go_wp2;go_quiet(first| (go_at_call 204;exact Calls.quiet_of_same (V (o _)))|(go_at_call 203;exact Calls.quiet_of (V (u _))));have aS:(wr.drewN nq).cell? ⟨b,3,none⟩=some (.int .i64 bias):=c3;have aG:=O (V aQ nq);have X:=O (V p nq);have bj:(wr.drewN nq).heap.size=wr.heap.size:=rfl;clear aQ p o u c3 A C P;obtain⟨wd,bm⟩:∃wd,wr.drewN nq=wd:=⟨_,rfl⟩;rw[bm]at aS aG X bj ⊢;clear bm;go_wp2_with(go_at_call 205;refine(V X).mono ?_;rintro e w3 ⟨bQ,rfl,aU,aV,aW⟩);have aI:=(V aG).wrote (.inl rfl) aU aV aW;have aw:=O (V N w3 bQ aI);have U:=O aI;clear X aG aU aV aW aI N aS bj;go_wp2_with(go_at_call 61;refine(V aw).mono ?_;intro e w4 M;have bV:=M.1;subst bV);have r:=(V U).stepped M;have am:=O (V aq w4 r.t);have aP:=O r;clear M r U aw aq;go_wp2_with(go_at_call 202;refine(V am).mono ?_;intro e w5 ab;have bX:=ab.1;subst bX);have aT:=(V aP).added ab;have bL:=O aT;clear ab aT aP am;have aj:Hid ((lo.length:Int)+((k+1:Nat):Int)=(lo.length:Int)+k+1):=(by show _=_;exact f6J);go_wp2
   go_roundw
   case rel=>exact⟨k+1,T2,aF,n2,pl2+1,ad,false,g2A,f6J,by rw[V aj];exact V bL,by rw[V aj];exact V ay,V aA,ce,f6J,aX,V L,by rw[V aj];exact V bO,by rw[V aj];exact V D⟩
   case measure=>exact g7W
 ·have aD:k=ord.length:=by omega
  have D:Hid (R=(out,0)):=by
   show R=_;rw[x,aD,List.drop_length];rfl
  have da:=B.ob.sk.conv;obtain⟨cV,cW,bT,_,_⟩:=B.ob.sk.shape;have HF:Hid (WrP w R (.returned (.tuple #[.string (strOfNums out),.int .i64 0])) wr):=⟨by rw[V D],(V ar).trans (B.bel.mono (V ar).size)⟩;clear B S F j x aD D;subst bT;generalize strOfNums out=so at *;go_wp2;go_ret2;exact V HF):p:=h
theorem W2J(h:p:=by have:=h.hB;have:=h.hb;have:=h.hw;exact f6J):p:=h
theorem R7P(h:p:=by rw[U];exact f6J):p:=h
theorem V3S(h:p:=by have:=H.size;have:=h.hB;exact f6J):p:=h
theorem p3E(h:p:=by simp[IntKind.min,IntKind.max,IntKind.signed,IntKind.bits];exact f6J):p:=h
theorem N5I(h:p:=by rw[x0w];exact f6J):p:=h
theorem i6V(h:p:=by simp at u;subst u;exact x8N f6J):p:=h
theorem P7f(h:p:=by
 go_wp2
 go_roundw
 case rel=>exact⟨k+1,g2A,f6J,by rw[V G,V Q];exact V f⟩
 case measure=>exact g7T):p:=h
theorem v1c(h:p:=by rw[V I];exact f6J):p:=h
theorem e9K(h:p:=by rw[List.drop_zero,(f6J:(lo.length:Int)+((0:Nat):Int)=(lo.length:Int))];exact V aR):p:=h
theorem F9I(h:p:=by rw[x0p];exact f6J):p:=h
theorem r4a(h:p:=by rw[(f6J:(lo.length:Int)+((0:Nat):Int)=(lo.length:Int))];exact V aO):p:=h
theorem r0g(h:p:=by rw[(f6J:(lo.length:Int)+((0:Nat):Int)=(lo.length:Int))];exact V Z):p:=h
theorem N8l(h:p:=by simp at hy;subst hy;exact x8N f6J):p:=h
theorem E8O(h:p:=by rw[B.bel.cell (x0a J)];exact J):p:=h
theorem e9Q(h:p:=by simp only[Value.ownBlock];intro hh;simp at hh;omega):p:=h
end
namespace Pu
def let1(d:Int):Int:=if d<26 then 97+d else 48+(d-26)
def wrN(bias:Int):Nat->Int->Int->List Int
 | 0,_,v=>[let1 v]
 | f+1,k,v=>if v<thr k bias then[let1 v]else let1 (thr k bias+(v-thr k bias)%(36-thr k bias))::wrN bias f (k+1) ((v-thr k bias) / (36-thr k bias))
def wrNum(v bias:Int):List Int:=wrN bias v.toNat 1 v
theorem x6U{d}(U:0<=d)(Z:d<=35):48<=let1 d/\let1 d<=122:=by unfold let1;exact G7p
theorem y0m{bias f k v}(h:v<thr k bias):wrN bias f k v=[let1 v]:=by cases f with
 | zero=>rfl
 | succ f=>rw[wrN,if_pos h]
theorem y4M{bias f k v}(h:¬v<thr k bias):wrN bias (f+1) k v=let1 (thr k bias+(v-thr k bias)%(36-thr k bias))::wrN bias f (k+1) ((v-thr k bias) / (36-thr k bias)):=by rw[wrN,if_neg h]
def lbi(j:Int):Int:=bits .and .i64 j (-j)
def lbOk:Nat->Bool
 | 0=>true
 | n+1=>decide (1<=lbi (n+1)/\lbi (n+1)<=n+1)&&lbOk n
theorem z3o{n j}(h:lbOk n=true)(Z:1<=j)(D:j<=n):1<=lbi j/\lbi j<=j:=by
 induction n with
 | zero=>omega
 | succ n ih =>
  simp only[lbOk,Bool.and_eq_true,decide_eq_true_eq]at h;rcases Nat.lt_or_ge n j with hj | hj
  ·grind
  ·exact ih h.2 hj
theorem y5T:lbOk 16600=true:=M3j
theorem x8t{j:Nat}(Z:1<=j)(D:j<=16600):1<=lbi j/\lbi j<=j:=z3o y5T Z D
def addF:Nat->List Int->Nat->List Int
 | 0,T,_=>T
 | f+1,T,j=>if j<T.length then addF f (T.set j (T.getD j 0+1)) (j+(lbi j).toNat)else T
def x1W:Nat->List Int->Nat->Int->Int
 | 0,_,_,n=>n
 | f+1,T,j,n=>if 0<j then x1W f T (j-(lbi j).toNat) (n+T.getD j 0)else n
def add(T:List Int)(p:Nat):List Int:=addF T.length T (p+1)
def ahead(T:List Int)(p:Nat):Int:=x1W p T p 0
theorem z1W f T j:(addF f T j).length=T.length:=by
 induction f generalizing T j with
 | zero=>rfl
 | succ f ih =>
  rw[addF];split
  ·rw[ih];simp
  ·rfl
theorem x3A T p:(add T p).length=T.length:=z1W _ _ _
def Tb(k:Int)(T:List Int):Prop:=∀t∈T,0<=t/\t<=k
theorem Tb.at{k T}(h:Tb k T)(G:0<=k) j:0<=T.getD j 0/\T.getD j 0<=k:=by
 rcases Nat.lt_or_ge j T.length with hj | hj
 ·rw[List.getD,List.getElem?_eq_getElem hj];exact h _ (List.getElem_mem hj)
 ·grind
def wr2(xs:List Int):List Nat->List Int->Int->Int->Int->Int->Bool->List Int->List Int×Int
 | [],_,_,_,_,_,_,out=>(out,0)
 | c::r,T,p,n,i,bias,first,out =>
  let d:=(xs.getD c 0-n)*(p+1)+ahead T c-i
  if 2147483647<d then([],113)else
   wr2 xs r (add T c) (p+1) (n+(i+d) / (p+1)) ((i+d)%(p+1)+1) (adapt d (p+1) first) false (out++wrNum d bias)
def wr1(xs:List Int):List Nat->List Int->List Int->List Int×List Int
 | [],T,out=>(T,out)
 | c::r,T,out=>wr1 xs r (add T c) (out++[xs.getD c 0])
def idx(xs:List Int)(q:Int->Bool):List Nat:=(List.range xs.length).filter fun k=>q (xs.getD k 0)
def lowq(c:Int):Bool:=decide (c<128)
def write(xs:List Int)(ord:List Nat):List Int×Int :=
 wr2 xs ord (wr1 xs (idx xs lowq) (List.replicate (xs.length+1) 0) []).1 ((idx xs lowq).length:Int) 128 0 72 true
  ((wr1 xs (idx xs lowq) (List.replicate (xs.length+1) 0) []).2++if(idx xs lowq).length=0 then[]else[45])
end Pu
def x3Q(w:World)(z:Int)(e:Ending)(w':World):Prop:=e=.returned (.int .u8 z)/\w'=w
theorem x3Q.mk{w z u}(h:u=z):x3Q w z (.returned (.int .u8 u)) w:=t5o
theorem x8u d w(U:0<=d)(Z:d<=35):Calls prog 253 #[.int .i64 d] w (x3Q w (Pu.let1 d)):=by
 by_cases hd:d<26
 ·have X:Pu.let1 d=97+d:=(by unfold Pu.let1;rw[if_pos hd]);exact T9u
 ·have X:Pu.let1 d=48+(d-26):=(by unfold Pu.let1;rw[if_neg hd]);exact T9u
def NumP(w:World)(z:Int)(e:Ending)(w':World):Prop:=e=.returned (.int .i64 z)/\(w'=w\/w'=w.drew)
theorem y6f b p n i bias c pl f w(h:StAt w b p n i bias f)(C:0<=p/\p<=20000)(F:0<=n/\n<=1114111)(hi:0<=i/\i<=20000)(I:0<=c/\c<=1114111)(G:0<=pl/\pl<=1000000000) :
  Calls prog 203 #[.pointer (some ⟨b,0,none⟩),.int .i32 c,.int .i64 pl] w (NumP w ((c-n)*(p+1)+pl-i)):=by
 obtain⟨l,g,Q,u,S,t,s,M,r,B⟩:=h.cells
 have a:(c-n)*(p+1)<=1114111*20001:=by
  calc (c-n)*(p+1)<=1114111*(p+1):=Int.mul_le_mul_of_nonneg_right f6J f6J
   _<=1114111*20001:=f6J
 have R:-(1114111*20001)<=(c-n)*(p+1):=by
  have:(n-c)*(p+1)<=1114111*20001:=by
   calc (n-c)*(p+1)<=1114111*(p+1):=Int.mul_le_mul_of_nonneg_right f6J f6J
    _<=1114111*20001:=f6J
  have e:(n-c)*(p+1)=-((c-n)*(p+1)):=(by grind);omega
 go_enter func203,ntmps203;go_wp2
 all_goals try go_region
 all_goals try go_wp2
 go_ret;exact⟨by first| rfl|(congr 2<;>omega),by first| exact .inl rfl | exact .inr rfl⟩
def TAt(w:World)(g:Nat)(T:List Int):Prop:=w.heap[g]?=some (.cells (T.map (Value.int .i64)).toArray 3 (0,0))
theorem TAt.cell{w g T}(h:TAt w g T){j}(R:j<T.length):w.cell? ⟨g,j,none⟩=some (.int .i64 (T.getD j 0)):=by
 unfold TAt at h;simp[World.cell?,h,List.getD,R]
theorem TAt.frozen{w g T}(h:TAt w g T) j:w.frozen? ⟨g,j,none⟩=false:=by
 unfold TAt at h;simp[World.frozen?,h]
theorem TAt.set{w g T}(h:TAt w g T) j z:TAt (w.setCell ⟨g,j,none⟩ (.int .i64 z)) g (T.set j z):=by
 unfold TAt at h ⊢;rw[x1c h];simp
theorem y9G{j:Nat}(Z:1<=j)(D:j<=16600):∃q:Nat,bits .and .i64 (j:Int) (-(j:Int))=(q:Int)/\q=(Pu.lbi j).toNat/\1<=q/\q<=j:=by
 have:=Pu.x8t Z D;refine⟨(Pu.lbi j).toNat,?_,rfl,f6J,f6J⟩;show Pu.lbi j=_;omega
theorem y0q g T p w(h:TAt w g T)(Y:Pu.Tb 20000 T)(S:T.length<=16500)(s:p<T.length) :
  Calls prog 204 #[.slice (some ⟨g,0,none⟩) T.length T.length,.int .i64 p] w (x0s w (Pu.ahead T p)):=by
 have H:Hid (∀j,j<T.length->w.cell? ⟨g,j,none⟩=some (.int .i64 (T.getD j 0))):=fun j R=>h.cell R;have x:Hid (∀j,0<=T.getD j 0/\T.getD j 0<=20000):=fun j=>Y.at f6J j;have L:Pu.ahead T p=Pu.x1W p T p 0:=rfl;generalize Pu.ahead T p=r at *;have Q:=O L;clear h Y L;go_enter func204,ntmps204;go_wp2;go_loop [5,6] (fun c A=>∃(f j:Nat) (n:Int),c=.int .i64 n/\A=.int .i64 j/\j<=p/\j<=f/\0<=n/\n+20000*j<=20000*p/\r=Pu.x1W f T j n) (fun _ A=>(intOf A).toNat)
 case atStart=>exact⟨p,p,0,rfl,rfl,f6J,f6J,f6J,f6J,V Q⟩
 case round =>
  obtain⟨f,j,n,rfl,rfl,C,J,F,G,X⟩:=hrel;by_cases R:0<j
  ·obtain⟨f,rfl⟩:∃g,f=g+1:=⟨f-1,f6J⟩;have a:=O (X.trans (by rw[Pu.x1W,if_pos R]));have y:=V H j f6J;have M:=V x j;obtain⟨q,E,B,N,b⟩:=y9G (j:=j) f6J f6J;rw[<- B]at a;clear B;generalize T.getD j 0=t at *;have U:((j-q:Nat):Int)=(j:Int)-(q:Int):=f6J;have I:=O U;go_wp2;go_round
   case rel=>exact⟨f,j-q,n+t,U6t,by first| rfl|(rw[V I]) | go_num,f6J,f6J,f6J,f6J,V a⟩
   case measure=>exact g7T
  ·have d:j=0:=f6J;subst d
   have D:Hid (n=r):=by
    show n=r;rw[X]
    cases f with
    | zero=>rfl
    | succ f=>rw[Pu.x1W,if_neg f6J]
   clear X;go_wp2;go_ret;exact x0s.mk (V D)
def AddP(w:World)(g:Nat)(T:List Int)(e:Ending)(w':World):Prop:=e=.returned (.tuple #[])/\TAt w' g T/\w.grownBy w' (some g)/\w'.heap.size=w.heap.size
theorem x6c(T:List Int) j m z(R:j<T.length):(T.set j z).getD m 0=if m=j then z else T.getD m 0:=by grind
theorem y2c g T(p:Nat) w(h:TAt w g T)(Y:Pu.Tb 20000 T)(S:T.length<=16500)(s:p<=100000) :
  Calls prog 202 #[.slice (some ⟨g,0,none⟩) T.length T.length,.int .i64 p] w (AddP w g (Pu.add T p)):=by
 have x:Hid (∀j,0<=T.getD j 0/\T.getD j 0<=20000):=fun j=>Y.at f6J j;have o:Pu.add T p=Pu.addF T.length T (p+1):=rfl;generalize Pu.add T p=r at *;have Q:=O o;have n:=O h;obtain⟨L,l⟩:∃L,T.length=L:=⟨_,rfl⟩;rw[l];rw[l]at S Q;have v:=O l;go_enter func202,ntmps202;go_wp2;go_loopw[4] (fun A wr=>∃(f j:Nat) (U:List Int),A=.int .i64 j/\1<=j/\j<=103000/\U.length=L/\TAt wr g U/\(∀m,0<=U.getD m 0/\U.getD m 0<=20000+j)/\L<=j+f/\r=Pu.addF f U j/\w.grownBy wr (some g)/\wr.heap.size=w.heap.size) (fun A _=>L-(intOf A).toNat)
 case atStart=>exact⟨L,p+1,T,U6t,f6J,f6J,V v,V n,fun m=>by have:=V x m;exact f6J,f6J,V Q,x1n w _,rfl⟩
 case round =>
  obtain⟨f,j,U,rfl,I,W,i,u,M,C,hr,F,z⟩:=hrel;by_cases R:j<L
  ·obtain⟨f,rfl⟩:∃g,f=g+1:=⟨f-1,f6J⟩;have a:=O (hr.trans (by rw[Pu.addF,if_pos f6J]));have y:=u.cell (j:=j) f6J;have d:=u.frozen j;have J:=M j;have G:=O (u.set j (U.getD j 0+1));have H:=O (x1o (j:=j) F (.int .i64 (U.getD j 0+1)));have P:Hid ((wr.setCell ⟨g,j,none⟩ (.int .i64 (U.getD j 0+1))).heap.size=w.heap.size):=f0k;have K:Hid ((U.set j (U.getD j 0+1)).length=L):=by grind
   have X:Hid (∀m,0<=(U.set j (U.getD j 0+1)).getD m 0/\(U.set j (U.getD j 0+1)).getD m 0<=20000+j+1):=fun m=>by
    rw[x6c _ _ _ _ f6J];have Z:=M m;have h2:=M j;exact G7p
   obtain⟨q,E,B,N,b⟩:=y9G (j:=j) f6J f6J;rw[<- B]at a;generalize U.set j (U.getD j 0+1)=c at *;generalize U.getD j 0=t at *;go_wp2
   go_roundw
   case rel=>exact⟨f,j+q,c,U6t,f6J,f6J,V K,V G,fun m=>by have:=V X m;exact f6J,f6J,V a,V H,V P⟩
   case measure=>exact g7T
  ·have D:Hid (AddP w g r (.returned (.tuple #[])) wr):=by
    refine⟨rfl,?_,F,z⟩;rw[hr]
    cases f with
    | zero=>exact u
    | succ f=>rw[Pu.addF,if_neg f6J];exact u
   go_wp2;go_end0;exact V D
theorem x6O:∃i,prog.info? 5=some i/\i.zero=some (.int .u8 0)/\i.size=1/\i.bytes=1:=by
 have h:(prog.info? 5).map (fun i=>(i.zero,i.size,i.bytes))=some (some (.int .u8 0),1,1):=f4x
 cases hq:prog.info? 5 with
 | none=>rw[hq]at h;simp at h
 | some i=>grind
theorem x0M{w ops rest o}{a Q}(C:o.guard=none)(s x:Operand)
  (R:o.op=.call { callee:=.builtin .append,args:=#[s,x],argTypes:=#[181,181] }) B v xs c H (L:a.eval s=v) (A:a.eval x=.slice (some ⟨H,0,none⟩) 1 1)
  (N:Ok .u8 5 w B v xs) (u:H=w.heap.size) (I:Fit .u8 [c]) (S:xs.length<=10000000000) (m:B<=w.heap.size)
  (h:∀v' w',Ok .u8 5 w' B v' (xs++[c])->(w.alloc (.cells #[.int .u8 c] 5)).grownBy w' v.ownBlock->(∀g,v'.ownBlock=some g->v.ownBlock=some g\/w.heap.size<=g)->wpList prog ops Q rest (a.put o.dst v') w') :
  wpList prog ops Q (o::rest) a (w.alloc (.cells #[.int .u8 c] 5)):=by
 obtain⟨i,hi,q,Y,U⟩:=x6O;subst u;refine wpList_append_lies _ C s x 181 R B 5 i (.int .u8 0) 1 1 underlying181 hi q Y U rfl e8P v _ _ L (N.row.alloc _) ⟨w.heap.size,0,none⟩ 1 1 [.int .u8 c] A rfl (cell_one_new _ _ _) (x0P .u8 _) f6J T7X f6J N5I (w.heap.size+1) (x0w _ _) ?_;intro g M w' Z D h3 F;refine h _ w' (Ok.of (N.1.app I) P8P Z M7P M7P) D (fun k G=>?_);have:k=g:=U8V;subst this;rcases h3 with h3 | h3
 ·exact .inl h3
 ·exact e5w
theorem x6Q:∃i,prog.info? 3=some i/\i.zero=some (.int .i64 0)/\i.size=1/\i.bytes=8:=by
 have h:(prog.info? 3).map (fun i=>(i.zero,i.size,i.bytes))=some (some (.int .i64 0),1,8):=f4x
 cases hq:prog.info? 3 with
 | none=>rw[hq]at h;simp at h
 | some i=>grind
theorem x1U{w ops rest o}{a Q}(C:o.guard=none)(s x:Operand)
  (R:o.op=.call { callee:=.builtin .append,args:=#[s,x],argTypes:=#[279,279] }) B v xs c H (L:a.eval s=v) (A:a.eval x=.slice (some ⟨H,0,none⟩) 1 1)
  (N:Ok .i64 3 w B v xs) (u:H=w.heap.size) (I:Fit .i64 [c]) (S:xs.length<=10000000000) (m:B<=w.heap.size)
  (h:∀v' w',Ok .i64 3 w' B v' (xs++[c])->(w.alloc (.cells #[.int .i64 c] 3)).grownBy w' v.ownBlock->(∀g,v'.ownBlock=some g->v.ownBlock=some g\/w.heap.size<=g)->wpList prog ops Q rest (a.put o.dst v') w') :
  wpList prog ops Q (o::rest) a (w.alloc (.cells #[.int .i64 c] 3)):=by
 obtain⟨i,hi,q,Y,U⟩:=x6Q;subst u;refine wpList_append_lies _ C s x 279 R B 3 i (.int .i64 0) 1 8 underlying279 hi q Y U rfl e8P v _ _ L (N.row.alloc _) ⟨w.heap.size,0,none⟩ 1 1 [.int .i64 c] A rfl (cell_one_new _ _ _) (x0P .i64 _) f6J T7X f6J N5I (w.heap.size+1) (x0w _ _) ?_;intro g M w' Z D h3 F;refine h _ w' (Ok.of (N.1.app I) P8P Z M7P M7P) D (fun k G=>?_);have:k=g:=U8V;subst this;rcases h3 with h3 | h3
 ·exact .inl h3
 ·exact e5w
def GrP(B:Nat)(v:Value)(w:World)(zs:List Int)(e:Ending)(w':World):Prop :=
 ∃v',e=.returned v'/\Ok .u8 5 w' B v' zs/\w.grownBy w' v.ownBlock/\∀g,v'.ownBlock=some g->v.ownBlock=some g\/w.heap.size<=g
theorem x6M{w1 w2 B:World}{r1 r2}(h:w1.grownBy w2 r1)(k:w2.grownBy B r2)(hr:∀g,r2=some g->r1=some g\/w1.heap.size<=g):w1.grownBy B r1:=by
 refine⟨k.os.trans h.os,k.tape.trans h.tape,k.output.trans h.output,Nat.le_trans h.size k.size,fun g H y=>?_⟩;rw[k.block g (Nat.lt_of_lt_of_le H h.size) (fun X=>?_),h.block g H y];rcases hr g X.symm with h1 | h1
 ·exact y h1.symm
 ·omega
theorem y0e k bias w(G:0<=k/\k<=3000000000)(Y:-1000000<=bias/\bias<=1000000) :
  Calls prog 60 #[.int .i64 k,.int .i64 bias] w (x0s w (Pu.thr k bias)):=by
 by_cases Z:36*k-bias<1
 ·have X:Pu.thr k bias=1:=f0D;exact I5f
 ·by_cases D:26<36*k-bias
  ·have X:Pu.thr k bias=26:=f8v;exact I5f
  ·have X:Pu.thr k bias=36*k-bias:=n7H;exact I5f
theorem x2C B v0 zs0 val bias w(hv:Ok .u8 5 w B v0 zs0)(hB:B<=w.heap.size)(hl:zs0.length<=100000000)(q:0<=val/\val<=2147483647)(Y:0<=bias/\bias<=468) :
  Calls prog 205 #[v0,.int .i64 val,.int .i64 bias] w (GrP B v0 w (zs0++Pu.wrNum val bias)):=by
 have j:zs0++Pu.wrNum val bias=zs0++Pu.wrN bias val.toNat 1 val:=rfl;generalize zs0++Pu.wrNum val bias=r at *;have aj:=O j;have am:=O hv;have x:Hid (∀k W,0<=k/\k<=3000000000->Calls prog 60 #[.int .i64 k,.int .i64 bias] W (x0s W (Pu.thr k bias))):=fun k W h=>y0e k bias W h f6J;have F:∀W v m,Ok .u8 5 W B v m->∀g,v.ownBlock=some g->B<=g:=fun W v m h g H=>(h.row.lt g H).1;have ab:=O F;go_enter func205,ntmps205;go_wp2;go_loopw[0,1,6,7,8] (fun P vv _ kk _ wr=>∃(f k:Nat) (y:Int) (m:List Int),vv=.int .i64 y/\kk=.int .i64 ((k:Int)+1)/\0<=y/\y<=f/\k+y<=2147483647/\m.length<=100000000+k/\r=m++Pu.wrN bias f ((k:Int)+1) y/\Ok .u8 5 wr B P m/\w.grownBy wr v0.ownBlock/\B<=wr.heap.size/\w.heap.size<=wr.heap.size/\∀g,P.ownBlock=some g->v0.ownBlock=some g\/w.heap.size<=g) (fun _ vv _ _ _ _=>(intOf vv).toNat)
 case atStart=>exact⟨val.toNat,0,val,zs0,rfl,rfl,q.1,f6J,f6J,f6J,V aj,V am,x1n w _,hB,l0r _,fun g H=>.inl H⟩
 case round =>
  obtain⟨f,k,y,m,rfl,rfl,Q,aC,ar,b,hr,o,aq,C,aA,l⟩:=hrel;have S:=Pu.x3n ((k:Int)+1) bias;have n:=fun W=>O (V x ((k:Int)+1) W f6J);have L:=O o;have U:=O aq;have p:=O l;by_cases E:y<Pu.thr ((k:Int)+1) bias
  ·have X:=Pu.x6U (d:=y) Q f6J;have HL:=fun W=>O (x8u y W Q f6J);have HE:=O (hr.trans (by rw[Pu.y0m E]));generalize Pu.let1 y=c at *;go_wp2_with(first| (go_at_call 60;refine(V (n _)).mono ?_;rintro e R ⟨rfl,rfl⟩;clear n)|(go_at_call 253;refine(V (HL _)).mono ?_;rintro e R ⟨rfl,rfl⟩;clear HL)|(at_builtin;refine x0M rfl (.tmp 17) (.tmp 20) rfl B _ m c _ rfl rfl (V L) rfl (fun z u=>i6V) f6J C ?_));intro a w2 h1 D J;have aB:∀g,u0.ownBlock=some g->B<=g:=fun g H=>V ab _ _ _ (V L) g H
   have T:Hid (GrP B v0 w r (.returned a) w2):=by
    refine⟨a,rfl,by rw[V HE];exact h1,?_,?_⟩
    ·exact x6M (x3D (V U) (.cells #[.int .u8 c] 5)) D (V p)
    ·grind
   exact v8m
  ·have K:0<=y-Pu.thr ((k:Int)+1) bias:=f6J;have N:0<=(y-Pu.thr ((k:Int)+1) bias) / (36-Pu.thr ((k:Int)+1) bias):=Int.ediv_nonneg K f6J;have ay:(y-Pu.thr ((k:Int)+1) bias) / (36-Pu.thr ((k:Int)+1) bias)<=y-Pu.thr ((k:Int)+1) bias:=Int.ediv_le_self _ K;have M:0<=(y-Pu.thr ((k:Int)+1) bias)%(36-Pu.thr ((k:Int)+1) bias):=Int.emod_nonneg _ f6J;have aw:(y-Pu.thr ((k:Int)+1) bias)%(36-Pu.thr ((k:Int)+1) bias)<36-Pu.thr ((k:Int)+1) bias:=Int.emod_lt_of_pos _ f6J;obtain⟨f,rfl⟩:∃g,f=g+1:=⟨f-1,f6J⟩;have HE:=O (hr.trans (by rw[Pu.y4M E]));have X:=Pu.x6U (d:=Pu.thr ((k:Int)+1) bias+(y-Pu.thr ((k:Int)+1) bias)%(36-Pu.thr ((k:Int)+1) bias)) f6J f6J;have HL:=fun W=>O (x8u (Pu.thr ((k:Int)+1) bias+(y-Pu.thr ((k:Int)+1) bias)%(36-Pu.thr ((k:Int)+1) bias)) W f6J f6J);generalize Pu.let1 (Pu.thr ((k:Int)+1) bias+(y-Pu.thr ((k:Int)+1) bias)%(36-Pu.thr ((k:Int)+1) bias))=c at *;generalize Pu.thr ((k:Int)+1) bias=t at *;go_wp2_with(first| (go_at_call 60;refine(V (n _)).mono ?_;rintro e R ⟨rfl,rfl⟩;clear n)|(go_at_call 253;refine(V (HL _)).mono ?_;rintro e R ⟨rfl,rfl⟩;clear HL)|(at_builtin;refine x0M rfl (.tmp 25) (.tmp 33) rfl B _ m c _ rfl rfl (V L) rfl (fun z u=>i6V) f6J C ?_));intro a w2 h1 D J;have I:w.grownBy w2 v0.ownBlock:=x6M (x3D (V U) (.cells #[.int .u8 c] 5)) D (V p)
   have s:∀g,a.ownBlock=some g->v0.ownBlock=some g\/w.heap.size<=g:=fun g H=>by
    rcases J g H with h4 | h4
    ·exact V p g h4
    ·exact e5w
   have i:w.heap.size<=w2.heap.size:=I.size;have T:=O h1;have ae:=O I;have Z:=O s;have G:Hid ((m++[c]).length<=100000000+(k+1)):=(by show _<=_;exact P8P);have A:Hid (r=(m++[c])++Pu.wrN bias f (((k+1:Nat):Int)+1) ((y-t) / (36-t))):=(by grind);go_wp2
   go_roundw
   case rel=>exact⟨f,k+1,(y-t) / (36-t),m++[c],U6v,U6v,N,f6J,f6J,V G,V A,V T,V ae,f6J,i,V Z⟩
   case measure=>exact g7W
namespace Pu
def x5c(xs:List Int)(l:List Nat):List Nat:=l.mergeSort fun a b=>decide (xs.getD a 0<=xs.getD b 0)
theorem z1c xs{l}(h:l.length<=1):x5c xs l=l:=by
 match l,h with
 | [],_=>simp[x5c]
 | [a],_=>simp[x5c]
def x2c(c:Int):Bool:=!lowq c
end Pu
def x1d(l:List Nat):List Int:=l.map fun(k:Nat)=>(k:Int)
theorem x0p l:(x1d l).length=l.length:=by simp[x1d]
def XAt(w:World)(b:Nat)(v:Value):Prop:=w.heap[b]?=some (.cells #[v] 36 (0,0))
theorem XAt.cell{w b v}(h:XAt w b v):w.cell? ⟨b,0,none⟩=some v:=by unfold XAt at h;simp[World.cell?,h]
theorem XAt.grown{w w' b v row}(h:XAt w b v)(H:w.grownBy w' row)(y:row≠some b):XAt w' b v:=by
 unfold XAt at h ⊢;exact I4y
theorem XAt.alloc{w b v}(h:XAt w b v) o:XAt (w.alloc o) b v:=by
 unfold XAt at h ⊢;exact v1L
def y7n(m:Nat):Prop:=∀(xs:List Int) (b B:Nat) (xv v:Value) (l:List Nat) (w0 w:World),XAt w b xv->Sk .i32 w0 xv xs->Below w0.heap.size w0 w->w0.heap.size<=B->xs.length<=100000->l.length<=m->(∀a∈l,a<xs.length)->l.Pairwise (·<·)->Ok .i64 3 w B v (x1d l)->v.ownBlock≠some b ->
 Calls prog 250 #[v,.func (.func 251) #[] #[.pointer (some ⟨b,0,none⟩)]] w fun e w'=>e=.returned (.tuple #[])/\Ok .i64 3 w' B v (x1d (Pu.x5c xs l))/\w.grownBy w' v.ownBlock
theorem x7P ao n cap fv w(F:n<=1):Calls prog 297 #[.slice ao n cap,.int .i64 0,.int .i64 n,fv] w fun e w'=>e=.returned (.tuple #[])/\w'=w:=by
 go_enter func297,ntmps297;go_wp2;refine wp_loop_rounds 1 ?_;rw[rounds_succ];go_wp2;go_end0;exact g9S
theorem y3o ao n cap fv w(F:n<=1):Calls prog 286 #[.slice ao n cap,.int .i64 n,fv] w fun e w'=>e=.returned (.tuple #[])/\w'=w:=by
 have d:=fun W=>O (x7P ao n cap fv W F);go_enter func286,ntmps286;go_wp2;refine wp_loop_rounds 1 ?_;rw[rounds_succ];go_wp2_with(go_at_call 297;refine(V (d _)).mono ?_;rintro e R ⟨rfl,rfl⟩;clear d);refine wp_loop_rounds 1 ?_;rw[rounds_succ];go_wp2;go_end0;exact⟨rfl,rfl⟩
theorem y4F:y7n 1:=by
 intro D b B A v l f w _ _ _ _ _ S _ _ N _;obtain⟨J,M,rfl,_,_⟩:=N.sk.shape;have r:=fun W=>O (y3o J (x1d l).length M (.func (.func 251) #[] #[.pointer (some ⟨b,0,none⟩)]) W (by rw[x0p];exact S));have T:Hid (Ok .i64 3 w B (.slice J (x1d l).length M) (x1d (Pu.x5c D l))):=(by rw[Pu.z1c D S];exact N);go_enter func250,ntmps250;go_wp2_with(go_at_call 286;refine(V (r _)).mono ?_;rintro e R ⟨rfl,rfl⟩;clear r);go_end0;exact⟨rfl,V T,x1n _ _⟩
namespace Pu
def idxk(xs:List Int)(q:Int->Bool)(k:Nat):List Nat:=(List.range k).filter fun j=>q (xs.getD j 0)
theorem x4h{xs}{q:Int->Bool}{k}(h:q (xs.getD k 0)=true):idxk xs q (k+1)=idxk xs q k++[k]:=by
 unfold idxk;rw[List.range_succ,List.filter_append];rw[List.filter_cons_of_pos (p:=fun j=>q (xs.getD j 0)) h];rfl
theorem x5t{xs}{q:Int->Bool}{k}(h:q (xs.getD k 0)=false):idxk xs q (k+1)=idxk xs q k:=by
 unfold idxk;rw[List.range_succ,List.filter_append];rw[List.filter_cons_of_neg (by rw[h];exact M7K)];simp
theorem y4i xs(q:Int->Bool) k:(idxk xs q k).length<=k:=by
 unfold idxk;have:=List.length_filter_le (fun j=>q (xs.getD j 0)) (List.range k);exact W2K
theorem z5c xs(q:Int->Bool):∀a∈idx xs q,a<xs.length:=by
 intro a E;unfold idx at E;simpa using(List.mem_filter.1 E).1
theorem y5J xs(q:Int->Bool):(idx xs q).Pairwise (·<·):=(List.pairwise_lt_range).filter _
end Pu
theorem x8y l(k:Nat):x1d (l++[k])=x1d l++[(k:Int)]:=by simp[x1d]
def z5B(w:World)(xs:List Int)(e:Ending)(w':World):Prop:=∃v1 v2,e=.returned (.tuple #[v1,v2])/\Ok .i64 3 w' w.heap.size v1 (x1d (Pu.idx xs Pu.lowq))/\Ok .i64 3 w' w.heap.size v2 (x1d (Pu.x5c xs (Pu.idx xs Pu.x2c)))/\Below w.heap.size w w'
structure Two(b B:Nat)(xv:Value)(w0:World)(l1 l2:List Nat)(v1 v2:Value)(wr:World):Prop where
 r1:Ok .i64 3 wr B v1 (x1d l1)
 r2:Ok .i64 3 wr B v2 (x1d l2)
 x:XAt wr b xv
 bel:Below w0.heap.size w0 wr
 hb:b<B
 hB:B<=wr.heap.size
 hw:w0.heap.size<=b
 ap:∀g,v1.ownBlock=some g->v2.ownBlock≠some g
theorem Two.left{b B xv w0 l1 l2}{v1 v2 v' wr w' o}{k:Nat}(h:Two b B xv w0 l1 l2 v1 v2 wr)(N:Ok .i64 3 w' B v' (x1d l1++[(k:Int)]))(H:(wr.alloc o).grownBy w' v1.ownBlock)
  (R:∀g,v'.ownBlock=some g->v1.ownBlock=some g\/wr.heap.size<=g):Two b B xv w0 (l1++[k]) l2 v' v2 w':=by
 have L:=x0w wr o;have Z:=fun g X=>h.r1.row.lt g X;have D:=fun g X=>h.r2.row.lt g X
 have y:v2.ownBlock=none\/v2.ownBlock≠v1.ownBlock:=by
  cases d:v2.ownBlock with
  | none=>exact .inl rfl
  | some g=>exact .inr (fun X=>h.ap g X.symm d)
 refine⟨by rw[x8y];exact N,x3h (x6h h.r2 o) H y,(h.x.alloc o).grown H (fun X=>by have:=(Z _ X).1;have:=h.hb;exact f6J),(h.bel.alloc W2J o).grown H W2J (fun g X=>by have:=(Z g X).1;have:=h.hb;have:=h.hw;exact f6J),h.hb,V3S,h.hw,fun g X d=>?_⟩;rcases R g X with h3 | h3
 ·exact h.ap g h3 d
 ·have:=(D g d).2;omega
theorem Two.right{b B xv w0 l1 l2}{v1 v2 v' wr w' o}{k:Nat}(h:Two b B xv w0 l1 l2 v1 v2 wr)(N:Ok .i64 3 w' B v' (x1d l2++[(k:Int)]))(H:(wr.alloc o).grownBy w' v2.ownBlock)
  (R:∀g,v'.ownBlock=some g->v2.ownBlock=some g\/wr.heap.size<=g):Two b B xv w0 l1 (l2++[k]) v1 v' w':=by
 have L:=x0w wr o;have Z:=fun g X=>h.r1.row.lt g X;have D:=fun g X=>h.r2.row.lt g X
 have y:v1.ownBlock=none\/v1.ownBlock≠v2.ownBlock:=by
  cases d:v1.ownBlock with
  | none=>exact .inl rfl
  | some g=>exact .inr (fun X=>h.ap g d X.symm)
 refine⟨x3h (x6h h.r1 o) H y,by rw[x8y];exact N,(h.x.alloc o).grown H (fun X=>by have:=(D _ X).1;have:=h.hb;exact f6J),(h.bel.alloc W2J o).grown H W2J (fun g X=>by have:=(D g X).1;have:=h.hb;have:=h.hw;exact f6J),h.hb,V3S,h.hw,fun g X d=>?_⟩;rcases R g d with h3 | h3
 ·exact h.ap g X h3
 ·have:=(Z g X).2;omega
theorem y6m m(r:y7n m) v xs w(N:Sk .i32 w v xs)(S:xs.length<=100000)(o:(Pu.idx xs Pu.x2c).length<=m) :
  Calls prog 201 #[v] w (z5B w xs):=by
 have c:=O r;have R:=O N;have ae:=O N.1;have l:=O o;obtain⟨J,M,ab,aB,t⟩:=N.shape
 have aj:Hid (0<xs.length->∃b P,J=some ⟨b,P,none⟩/\∀W,Bw w W->∀i,i<xs.length->W.cell? ⟨b,P+i,none⟩=some (.int .i32 (xs.getD i 0))):=fun U=>by
  obtain⟨b,P,ay,s,_,_,L⟩:=N.place U;rw[ab]at s;simp only[Value.slice.injEq]at s;refine⟨b,P,s.1,fun W Y i hi=>?_⟩;rw[Y.cell (x0a (L i hi))];exact L i hi
 subst ab
 have F:Two w.heap.size (w.heap.size+1) (.slice J xs.length M) w [] [] (.slice none 0 0) (.slice none 0 0) (w.alloc (.cells #[.slice J xs.length M] 36)) :=
  ⟨Ok.nil _ _ _ _,Ok.nil _ _ _ _,heap_alloc_new w _,(b0r).alloc (l0r _) _,f6J,N5I,f6J,fun g X=>by simp[Value.ownBlock]at X⟩
 obtain⟨W0,am⟩:∃W0,w.alloc (.cells #[.slice J xs.length M] 36)=W0:=⟨_,rfl⟩;rw[am]at F;have aw:=F.x.cell;have A:=O F;obtain⟨b,Y⟩:∃b,w.heap.size=b:=⟨_,rfl⟩;rw[Y]at aw A;have I:=O Y;go_enter func201,ntmps201;go_wp2;go_loopw[2,3,4,5,8] (fun v1 a _ _ i wr=>∃k:Nat,i=.int .i64 k/\k<=xs.length/\Two b (b+1) (.slice J xs.length M) w (Pu.idxk xs Pu.lowq k) (Pu.idxk xs Pu.x2c k) v1 a wr) (fun _ _ _ _ i _=>xs.length-(intOf i).toNat)
 case atStart=>exact⟨0,rfl,f6J,V A⟩
 case round =>
  obtain⟨k,rfl,hk,hT⟩:=hrel;by_cases E:k<xs.length
  ·obtain⟨bx,ox,aq,L⟩:=V aj f6J;subst aq;have y:=L wr (by have e:=V I;subst e;exact hT.bel) k E;have aC:=(V ae).i32at k;have K:=Pu.y4i xs Pu.lowq k;have aA:=Pu.y4i xs Pu.x2c k;have hB:=hT.hB;have n:=O hT;by_cases u:xs.getD k 0<128
   ·have d:Pu.lowq (xs.getD k 0)=true:=d0t u;have B:Pu.x2c (xs.getD k 0)=false:=(by unfold Pu.x2c;rw[d];rfl);have G:=O (Pu.x4h (xs:=xs) (q:=Pu.lowq) d);have Q:=O (Pu.x5t (xs:=xs) (q:=Pu.x2c) B);generalize xs.getD k 0=z at *;go_wp2_with(at_builtin;refine x1U rfl (.tmp 15) (.tmp 17) rfl (b+1) _ (x1d (Pu.idxk xs Pu.lowq k)) k _ rfl rfl (V n).r1 rfl (fun z u=>by simp at u;subst u;exact p3E) F9I hB ?_);intro p w' Z D h3;have f:=O ((V n).left Z D h3);exact P7f
   ·have d:Pu.lowq (xs.getD k 0)=false:=d0f u;have B:Pu.x2c (xs.getD k 0)=true:=(by unfold Pu.x2c;rw[d];rfl);have G:=O (Pu.x5t (xs:=xs) (q:=Pu.lowq) d);have Q:=O (Pu.x4h (xs:=xs) (q:=Pu.x2c) B);generalize xs.getD k 0=z at *;go_wp2_with(at_builtin;refine x1U rfl (.tmp 19) (.tmp 21) rfl (b+1) _ (x1d (Pu.idxk xs Pu.x2c k)) k _ rfl rfl (V n).r2 rfl (fun z u=>by simp at u;subst u;exact p3E) F9I hB ?_);intro p w' Z D h3;have f:=O ((V n).right Z D h3);exact P7f
  ·have C:k=xs.length:=by omega
   have j:Two b (b+1) (.slice J xs.length M) w (Pu.idx xs Pu.lowq) (Pu.idx xs Pu.x2c) u2 u3 wr:=by
    have:∀q,Pu.idxk xs q k=Pu.idx xs q:=fun q=>(by rw[C];rfl);rw[this,this]at hT;exact hT
   have H:=O (V c xs b (b+1) (.slice J xs.length M) u3 (Pu.idx xs Pu.x2c) w wr j.x (V R) j.bel v1c S (V l) (Pu.z5c xs _) (Pu.y5J xs _) j.r2 (fun X=>by have:=(j.r2.row.lt _ X).1;exact f6J));have n:=O j;go_wp2_with(go_at_call 250;refine(V H).mono ?_;rintro e w2 ⟨rfl,Z,D⟩)
   have T:Hid (z5B w xs (.returned (.tuple #[u2,u3])) w2):=by
    have hT:=V n
    have ar:u2.ownBlock=none\/u2.ownBlock≠u3.ownBlock:=by
     cases d:u2.ownBlock with
     | none=>exact .inl rfl
     | some g=>exact .inr (fun X=>hT.ap g d X.symm)
    refine⟨u2,u3,rfl,(x3h hT.r1 D ar).lower v1c,Z.lower v1c,hT.bel.grown D (by have:=hT.hB;exact v1c) (fun g X=>by have:=(hT.r2.row.lt g X).1;exact v1c)⟩
   go_ret2;exact V T
namespace Pu
theorem z5H f T j k(S:T.length<=16500)(R:1<=j)(Z:∀m,0<=T.getD m 0/\T.getD m 0<=k+1)(D:∀m,j<=m->T.getD m 0<=k) :
  ∀m,0<=(addF f T j).getD m 0/\(addF f T j).getD m 0<=k+1:=by
 induction f generalizing T j with
 | zero=>exact Z
 | succ f ih =>
  rw[addF];split
  ·rename_i hlt
   have d:=x8t R f6J;refine ih _ _ t2Y f6J (fun m=>?_) (fun m o=>?_)
   ·rw[x6c _ _ _ _ hlt];have:=Z m;have:=Z j;have:=D j (l0r _);exact G7p
   ·rw[x6c _ _ _ _ hlt,if_neg f6J];exact D m f6J
  ·exact Z
theorem Tb_of{k T}(h:∀m,0<=T.getD m 0/\T.getD m 0<=k):Tb k T:=by
 intro t K;obtain⟨i,hi,rfl⟩:=List.mem_iff_getElem.1 K;have:=h i;rw[List.getD,List.getElem?_eq_getElem hi]at this;exact this
theorem y7q{T k}(h:Tb k T)(G:0<=k)(S:T.length<=16500) p:Tb (k+1) (add T p):=by
 refine Tb_of (z5H _ _ _ k S f6J (fun m=>?_) (fun m _=>?_))
 ·have:=h.at G m;omega
 ·exact(h.at G m).2
theorem Tb.le{k k' T}(h:Tb k T)(G:k<=k'):Tb k' T:=fun t K=>by have:=h t K;exact f6J
theorem x8T f T j n(h:∀m,0<=T.getD m 0/\T.getD m 0<=20000)(F:0<=n):0<=x1W f T j n/\x1W f T j n<=n+20000*f:=by
 induction f generalizing j n with
 | zero=>simp only[x1W];omega
 | succ f ih =>
  rw[x1W];have X:=h j;split
  ·grind
  ·omega
theorem x5m{T}(h:Tb 20000 T) p:0<=ahead T p/\ahead T p<=20000*p:=by
 have:=x8T p T p 0 (fun m=>h.at f6J m) f6J;unfold ahead;omega
def wok(xs:List Int):List Nat->List Int->Int->Int->Int->Bool
 | [],_,_,_,_=>true
 | c::r,T,p,n,i =>
  let d:=(xs.getD c 0-n)*(p+1)+ahead T c-i
  decide (0<=d)&&decide (0<=n+(i+d) / (p+1)/\n+(i+d) / (p+1)<=1114111)&&(decide (2147483647<d)||wok xs r (add T c) (p+1) (n+(i+d) / (p+1)) ((i+d)%(p+1)+1))
def dlt(xs:List Int)(c:Nat)(T:List Int)(p n i:Int):Int:=(xs.getD c 0-n)*(p+1)+ahead T c-i
theorem y0j{xs c r T}{p n i}(h:wok xs (c::r) T p n i=true):0<=dlt xs c T p n i/\(0<=n+(i+dlt xs c T p n i) / (p+1)/\n+(i+dlt xs c T p n i) / (p+1)<=1114111) /\
  (2147483647<dlt xs c T p n i\/wok xs r (add T c) (p+1) (n+(i+dlt xs c T p n i) / (p+1)) ((i+dlt xs c T p n i)%(p+1)+1)=true):=by
 simpa[wok,dlt,and_assoc]using h
theorem y0k{xs c r T}{p n i bias f out}(h:2147483647<dlt xs c T p n i):wr2 xs (c::r) T p n i bias f out=([],113):=by
 show(if 2147483647<dlt xs c T p n i then([],113)else _)=_;rw[if_pos h]
theorem y0l{xs c r T}{p n i bias f out}(h:¬2147483647<dlt xs c T p n i):wr2 xs (c::r) T p n i bias f out =
  wr2 xs r (add T c) (p+1) (n+(i+dlt xs c T p n i) / (p+1)) ((i+dlt xs c T p n i)%(p+1)+1) (adapt (dlt xs c T p n i) (p+1) f) false (out++wrNum (dlt xs c T p n i) bias):=by
 show(if 2147483647<dlt xs c T p n i then([],113)else _)=_;rw[if_neg h];rfl
end Pu
theorem y4t b p n i bias c pl f w(h:StAt w b p n i bias f)(s:0<=p/\p<=20000)(F:0<=n/\n<=1114111)(hi:0<=i/\i<=20000)(I:0<=c/\c<=1114111)(G:0<=pl/\pl<=1000000000) :
  Calls prog 203 #[.pointer (some ⟨b,0,none⟩),.int .i32 c,.int .i64 pl] w fun e w'=>e=.returned (.int .i64 ((c-n)*(p+1)+pl-i))/\∃m,w'=w.drewN m:=by
 refine(y6f b p n i bias c pl f w h s F hi I G).mono ?_;rintro e w' ⟨rfl,y⟩;refine⟨rfl,?_⟩;rcases y with rfl | rfl
 ·exact⟨0,rfl⟩
 ·exact⟨1,rfl⟩
theorem StAt.drewN{w b p n i bias f}(h:StAt w b p n i bias f) m:StAt (w.drewN m) b p n i bias f:=h
theorem TAt.drewN{w g T}(h:TAt w g T) m:TAt (w.drewN m) g T:=h
theorem TAt.grown{w w' g T row}(h:TAt w g T)(H:w.grownBy w' row)(y:row≠some g):TAt w' g T:=by
 unfold TAt at h ⊢;rw[H.block g (Array.getElem?_eq_some_iff.1 h).1 (fun X=>y X.symm)];exact h
theorem TAt.alloc{w g T}(h:TAt w g T) o:TAt (w.alloc o) g T:=by
 unfold TAt at h ⊢;exact v1L
theorem StAt.grown{w w' b p n i bias f}{row}(h:StAt w b p n i bias f)(H:w.grownBy w' row)(y:row≠some b):StAt w' b p n i bias f:=by
 unfold StAt at h ⊢;exact I4y
theorem StAt.alloc{w b p n i bias f}(h:StAt w b p n i bias f) o:StAt (w.alloc o) b p n i bias f:=by
 unfold StAt at h ⊢;exact v1L
structure Wm(w1:World)(b g:Nat)(p n i bias:Int)(f:Bool)(T out:List Int)(bv:Value)(wr:World):Prop where
 st:StAt wr b p n i bias f
 t:TAt wr g T
 ob:Ok .u8 5 wr w1.heap.size bv out
 bel:Below w1.heap.size w1 wr
 hb:w1.heap.size<=b
 hg:w1.heap.size<=g
 hbg:b≠g
 nb:bv.ownBlock≠some b
 ng:bv.ownBlock≠some g
theorem Wm.size{w1 b g p n i bias f}{T out bv wr}(h:Wm w1 b g p n i bias f T out bv wr):w1.heap.size<=wr.heap.size/\b<wr.heap.size/\g<wr.heap.size :=
 ⟨h.bel.size,(Array.getElem?_eq_some_iff.1 h.st).1,(Array.getElem?_eq_some_iff.1 h.t).1⟩
theorem Wm.drewN{w1 b g p n i bias f}{T out bv wr}(h:Wm w1 b g p n i bias f T out bv wr) m:Wm w1 b g p n i bias f T out bv (wr.drewN m) :=
 ⟨h.st.drewN m,h.t.drewN m,h.ob.below (x0i ⟨m,rfl⟩),h.bel.trans ((x0i ⟨m,rfl⟩:Bw wr _).mono h.bel.size),h.hb,h.hg,h.hbg,h.nb,h.ng⟩
theorem Wm.added{w1 b g p n i bias f}{T T' out bv wr w' e}(h:Wm w1 b g p n i bias f T out bv wr)(E:AddP wr g T' e w'):Wm w1 b g p n i bias f T' out bv w':=by
 obtain⟨_,K,F,B⟩:=E;obtain⟨A,H,I⟩:=h.size;exact⟨h.st.grown F (fun X=>h.hbg (by simpa using X.symm)),K,x3h h.ob F (.inr h.ng),h.bel.grown F A (fun k G=>by simp at G;have:=h.hg;exact f6J),h.hb,h.hg,h.hbg,h.nb,h.ng⟩
theorem Wm.stepped{w1 b g p n i bias p' n' i' bias' pl f}{T out bv wr w' e}(h:Wm w1 b g p n i bias f T out bv wr)(L:x3U wr b p' n' i' bias' pl e w'):Wm w1 b g p' n' i' bias' false T out bv w':=by
 obtain⟨_,B,F,C⟩:=L;obtain⟨A,H,I⟩:=h.size;exact⟨B,h.t.grown F (fun X=>h.hbg (by simpa using X)),x3h h.ob F (.inr h.nb),h.bel.grown F A (fun k G=>by simp at G;have:=h.hb;exact f6J),h.hb,h.hg,h.hbg,h.nb,h.ng⟩
theorem Wm.wrote{w1 b g p n i bias f}{T out out' bv bv' wr w0 w'}(h:Wm w1 b g p n i bias f T out bv wr)(U:w0=wr\/∃o,w0=wr.alloc o)(C:Ok .u8 5 w' w1.heap.size bv' out')(F:w0.grownBy w' bv.ownBlock)
  (R:∀k,bv'.ownBlock=some k->bv.ownBlock=some k\/wr.heap.size<=k):Wm w1 b g p n i bias f T out' bv' w':=by
 obtain⟨A,H,I⟩:=h.size;have J:∀k,bv.ownBlock=some k->w1.heap.size<=k:=fun k G=>(h.ob.row.lt k G).1
 have B:StAt w0 b p n i bias f/\TAt w0 g T/\Bw w1 w0/\wr.heap.size<=w0.heap.size:=by
  rcases U with rfl | ⟨o,rfl⟩
  ·exact⟨h.st,h.t,h.bel,l0r _⟩
  ·exact⟨h.st.alloc o,h.t.alloc o,h.bel.alloc A o,N5I⟩
 obtain⟨L,Q,u,x⟩:=B;refine⟨L.grown F h.nb,Q.grown F h.ng,C,u.grown F f6J J,h.hb,h.hg,h.hbg,fun X=>?_,fun X=>?_⟩
 ·rcases R b X with h3 | h3
  ·exact h.nb h3
  ·omega
 ·rcases R g X with h3 | h3
  ·exact h.ng h3
  ·omega
theorem y8d w ad c:(convert 181 9 (.slice (some ad) 0 c)).run prog w=.ok (.string (strOfNums [])) w:=e6M
theorem Sk.conv{w v zs}(h:Sk .u8 w v zs):(convert 181 9 v).run prog w=.ok (.string (strOfNums zs)) w:=by
 rcases Nat.eq_zero_or_pos zs.length with h0 | h0
 ·obtain rfl:=List.eq_nil_of_length_eq_zero h0;obtain⟨J,M,rfl,_,_⟩:=h.shape
  cases J with
  | none=>exact t3I
  | some ad=>exact y8d w ad M
 ·exact P0D
def WrP(w:World)(r:List Int×Int)(e:Ending)(w':World):Prop:=e=.returned (.tuple #[.string (strOfNums r.1),.int .i64 r.2])/\Below w.heap.size w w'
namespace Pu
theorem z8u bias j:∀(f:Nat) (k v:Int),0<=v->v<2^j->(wrN bias f k v).length<=j+1:=by
 induction j with
 | zero =>
  intro f k v U Z;have Y:=x3n k bias;rw[y0m (by simp at Z;exact f6J)];simp
 | succ j ih =>
  intro f k v U Z;have Y:=x3n k bias;by_cases N:v<thr k bias
  ·rw[y0m N];simp
  ·cases f with
   | zero=>simp[wrN]
   | succ f =>
    rw[y4M N,List.length_cons]
    have d:(v-thr k bias) / (36-thr k bias)<2^j:=by
     apply Int.ediv_lt_of_lt_mul f6J;have D:v<2^j*2:=f6J;have s:(0:Int)<=2^j:=Int.pow_nonneg e8N
     calc v-thr k bias<2^j*2:=by omega
      _<=2^j*(36-thr k bias):=Int.mul_le_mul_of_nonneg_left f6J s
    have:=ih f (k+1) _ (Int.ediv_nonneg f6J f6J) d;omega
theorem x7F{v bias}(U:0<=v)(Z:v<=2147483647):(wrNum v bias).length<=32:=z8u bias 31 _ _ _ U f6J
end Pu
theorem y9L n:(madeCells (Value.int .i64 0).cells n)=((List.replicate n (0:Int)).map (Value.int .i64)).toArray:=by
 apply Array.toList_inj.1;refine List.ext_getElem (by simp[madeCells]) fun i Z D=>?_;simp[madeCells,Value.cells,Nat.mod_one]
theorem y6b(n:Nat) w(F:n<=16500):∃W,(Instr.makeSlice 282 (.int .i64 ((n:Int)+1)) (.int .i64 ((n:Int)+1))).run prog w=.ok (.slice (some ⟨w.heap.size,0,none⟩) (n+1) (n+1)) W/\TAt W w.heap.size (List.replicate (n+1) 0)/\W=w.alloc (.cells ((List.replicate (n+1) (0:Int)).map (Value.int .i64)).toArray 3):=by
 obtain⟨i,hi,q,Y,U⟩:=x6Q;have h:=run_make (P:=prog) w 282 3 i (.int .i64 0) underlying282 hi q .i64 .i64 ((n:Int)+1) ((n:Int)+1) f6J f6J R7P f6J;rw[(f6J:((n:Int)+1).toNat=n+1),Y,Nat.mul_one,y9L]at h;exact⟨_,h,heap_alloc_new w _,rfl⟩
theorem y5Z(n:Nat) w B(m:B<=w.heap.size)(F:n<=16500):∃W,(Instr.makeSlice 181 (.int .i64 0) (.int .i64 ((n:Int)+1))).run prog w=.ok (.slice (some ⟨w.heap.size,0,none⟩) 0 (n+1)) W/\Ok .u8 5 W B (.slice (some ⟨w.heap.size,0,none⟩) 0 (n+1)) []/\w.grownBy W none:=by
 obtain⟨i,hi,q,Y,U⟩:=x6O;obtain⟨W,Z,D,J⟩:=run_make_own (P:=prog) w B 181 5 i (.int .u8 0) 1 underlying181 hi q Y .i64 .i64 (n+1) R7T T7W m;exact⟨W,by rw[(f6J:((n:Int)+1)=((n+1:Nat):Int))];exact Z,Ok.of (Fit.nil _) M7M D rfl rfl,J⟩
theorem z4H{xs}{l:List Nat}{k T out}(G:k<l.length):Pu.wr1 xs (l.drop k) T out=Pu.wr1 xs (l.drop (k+1)) (Pu.add T (l.getD k 0)) (out++[xs.getD (l.getD k 0) 0]):=by
 have:l.drop k=l.getD k 0::l.drop (k+1):=(by rw[List.drop_eq_getElem_cons G,List.getD,List.getElem?_eq_getElem G];rfl);rw[this,Pu.wr1]
theorem x4c{l:List Nat}{k}(G:k<l.length):l.drop k=l.getD k 0::l.drop (k+1):=f0h
theorem x9J{l k}(G:k<l.length):(x1d l).getD k 0=((l.getD k 0:Nat):Int):=by simp[x1d,List.getD,G]
theorem x6b{l:List Nat}{k}(G:k<l.length):l.getD k 0∈l:=by grind
theorem z1J m(HS:y7n m) v xs w(hv:Sk .i32 w v xs)(hl:xs.length<=16384)(hm:(Pu.idx xs Pu.x2c).length<=m)(cN:∀z∈xs,0<=z/\z<=1114111) ord(bH:Pu.x5c xs (Pu.idx xs Pu.x2c)=ord)
  (cL:∀a∈ord,a<xs.length) (de:(Pu.idx xs Pu.lowq).length+ord.length<=16384)
  (cf:Pu.wok xs ord (Pu.wr1 xs (Pu.idx xs Pu.lowq) (List.replicate (xs.length+1) 0) []).1 ((Pu.idx xs Pu.lowq).length:Int) 128 0=true) :
  Calls prog 153 #[v] w (WrP w (Pu.write xs ord)):=by
 have HP:=O (y6m m HS v xs w hv f6J hm);obtain⟨lo,be⟩:∃lo,Pu.idx xs Pu.lowq=lo:=⟨_,rfl⟩;have aJ:=Pu.z5c xs Pu.lowq
 have aL:∀a∈lo,xs.getD a 0<128:=fun a ha=>by
  rw[<- be]at ha;have:=(List.mem_filter.1 ha).2;simpa[Pu.lowq]using this
 have x:Pu.write xs ord=Pu.wr2 xs ord (Pu.wr1 xs lo (List.replicate (xs.length+1) 0) []).1 (lo.length:Int) 128 0 72 true ((Pu.wr1 xs lo (List.replicate (xs.length+1) 0) []).2++if lo.length=0 then[]else[45]):=by
  unfold Pu.write;rw[be]
 have cM:∀e w',z5B w xs e w'->∃v1 v2,e=.returned (.tuple #[v1,v2])/\Sk .i64 w' v1 (x1d lo)/\Sk .i64 w' v2 (x1d ord)/\Bw w w':=by
  rintro e w' ⟨v1,v2,h1,h2,J,h4⟩;rw[be]at h2;rw[bH]at J;exact⟨v1,v2,h1,h2.sk,J.sk,h4⟩
 rw[be]at cf de aJ
 have bN:Hid (∀k,0<=xs.getD k 0/\xs.getD k 0<=1114111):=fun k=>by
  rcases Nat.lt_or_ge k xs.length with hk | hk
  ·rw[List.getD,List.getElem?_eq_getElem hk];exact cN _ (List.getElem_mem hk)
  ·rw[List.getD,List.getElem?_eq_none hk];exact⟨Int.le_refl 0,e8R⟩
 generalize Pu.write xs ord=R at *;have HR:=O x;have aR:=O cf;have cE:=O cM;have cS:=O aJ;have cR:=O aL;have cD:=O cL;have HV:=O hv;obtain⟨ao,dt,dp,dx,dy⟩:=hv.shape;subst dp;clear hv hm cN bH cL be aJ aL x cM cf HS;go_enter func153,ntmps153;go_wp2_with fail;refine(V HP).mono ?_;intro e Q hp;obtain⟨v1,v2,rfl,cj,cw,bR⟩:=V cE e Q hp;have cU:=O cj;have cF:=O cw;obtain⟨a1,du,aM,_,_⟩:=cj.shape;obtain⟨a2,dv,I,_,_⟩:=cw.shape;rw[x0p]at aM I;subst aM;subst I;have ar:=O bR;have bP:=O ((V HV).below bR);clear hp cj cw bR cE HP HV;have cB:=fun W=>O (y0r (lo.length:Int) W);go_wp2_with fail;refine c1m (V (cB _)) fun w2 bA=>?_;clear cB;obtain⟨W3,bu⟩:∃W3,w2.alloc (.cells #[.int .i64 (lo.length:Int),.int .i64 128,.int .i64 0,.int .i64 72,.bool true] 132)=W3:=⟨_,rfl⟩;have bI:StAt W3 w2.heap.size (lo.length:Int) 128 0 72 true:=(by rw[<- bu];exact heap_alloc_new w2 _);have dj:W3.heap.size=w2.heap.size+1:=(by rw[<- bu];exact x0w _ _);have bS:Bw Q W3:=(by rw[<- bu];exact bA.alloc bA.size _);obtain⟨W4,bF,cJ,bw⟩:=y6b xs.length W3 f6J;have dk:W4.heap.size=W3.heap.size+1:=(by rw[bw];exact x0w _ _);have M:StAt W4 w2.heap.size (lo.length:Int) 128 0 72 true:=(by rw[bw];exact bI.alloc _);have cK:Bw Q W4:=(by rw[bw];exact bS.alloc bS.size _);have dr:=bA.size;obtain⟨W5,bG,cI,bB⟩:=y5Z xs.length W4 Q.heap.size f6J f6J;obtain⟨b,hb⟩:∃b,w2.heap.size=b:=⟨_,rfl⟩;obtain⟨g,hg⟩:∃g,W3.heap.size=g:=⟨_,rfl⟩;obtain⟨g2,bY⟩:∃g2,W4.heap.size=g2:=⟨_,rfl⟩
 have cH:Wm Q b g (lo.length:Int) 128 0 72 true (List.replicate (xs.length+1) 0) [] (.slice (some ⟨g2,0,none⟩) 0 (xs.length+1)) W5:=by
  rw[<- hb,<- hg,<- bY];refine⟨M.grown bB (by simp),cJ.grown bB (by simp),cI,cK.grown bB f6J (fun k hk=>by cases hk),f6J,f6J,f6J,?_,?_⟩
  ·exact e9Q
  ·exact e9Q
 rw[hg]at bF;rw[bY]at bG;have cC:=O cH;clear bI bS cJ bw dk M cK cI bB cH bA dj;go_wp2;go_loopw[8,10,32] (fun bv _ jj wr=>∃(k:Nat) (T out:List Int),jj=.int .i64 k/\k<=lo.length/\Wm Q b g (lo.length:Int) 128 0 72 true T out bv wr/\Pu.Tb k T/\T.length=xs.length+1/\out.length=k/\Pu.wr1 xs lo (List.replicate (xs.length+1) 0) []=Pu.wr1 xs (lo.drop k) T out) (fun _ _ jj _=>lo.length-(intOf jj).toNat)
 case atStart=>exact⟨0,_,[],rfl,f6J,V cC,fun t ht=>by rw[List.eq_of_mem_replicate ht];exact⟨Int.le_refl 0,Int.le_refl 0⟩,by simp,rfl,s4L⟩
 case round =>
  clear cC bF bG bu hb hg bY;obtain⟨k,T,out,rfl,hk,B,S,F,bh,bC⟩:=hrel;by_cases E:k<lo.length
  ·obtain⟨b1,o1,dw,aM,_,_,bE⟩:=(V cU).place (by rw[x0p];exact f6J);rw[x0p]at aM;simp only[Value.slice.injEq]at aM;obtain⟨rfl,h9,rfl⟩:=aM;clear h9
   have cP:wr.cell? ⟨b1,o1+k,none⟩=some (.int .i64 ((lo.getD k 0:Nat):Int)):=by
    have J:=bE k (by rw[x0p];exact E);rw[x9J E]at J;exact E8O
   have aZ:lo.getD k 0<xs.length:=V cS _ (x6b E);have cZ:=V cR _ (x6b E);have cT:=O (bC.trans (z4H E));generalize lo.getD k 0=c at *;obtain⟨bx,ox,cG,aC,_,_,s⟩:=(V bP).place f6J;simp only[Value.slice.injEq]at aC;obtain⟨rfl,h9,rfl⟩:=aC;clear h9
   have A:∀W,Bw Q W->W.cell? ⟨bx,ox+c,none⟩=some (.int .i32 (xs.getD c 0)):=fun W hb=>by
    have J:=s c aZ;rw[hb.cell (x0a J)];exact J
   have cQ:=O A;have cO:=V bN c;have bK:=O (y2c g T c wr B.t (S.le f6J) f6J f6J);rw[F]at bK;have ay:Hid (Pu.Tb (k+1:Nat) (Pu.add T c)):=(by have:=Pu.y7q S f6J f6J c;show Pu.Tb _ _;rwa [(f6J:((k+1:Nat):Int)=(k:Int)+1)]);have aA:Hid ((Pu.add T c).length=xs.length+1):=(Pu.x3A T c).trans F;have l:=O B;clear B S F bC bE s A;generalize Pu.add T c=T2,xs.getD c 0=z at *;go_wp2_with fail;refine(V bK).mono ?_;intro e wa aY;have bt:=(V l).added aY;have db:=aY.1;subst db;have dq:=V cQ wa bt.bel;have dl:=bt.size;have bM:=O bt;clear aY bt bK l;have dz:z%256=z:=f6J;go_wp2_with(at_builtin;refine x0M rfl (.tmp 39) (.tmp 45) rfl Q.heap.size _ out z _ rfl rfl (V bM).ob rfl (fun y hy=>N8l) f6J f6J ?_);intro v' w' h1 h2 J;have HN:=O ((V bM).wrote (.inr ⟨_,rfl⟩) h1 h2 J);have L:Hid ((out++[z]).length=k+1):=(by show _=_;simp[bh]);clear h1 h2 J bM;go_wp2
   go_roundw
   case rel=>exact⟨k+1,T2,out++[z],g2A,f6J,V HN,V ay,V aA,V L,V cT⟩
   case measure=>exact g7W
  ·have aD:k=lo.length:=f6J;have bJ:Pu.wr1 xs lo (List.replicate (xs.length+1) 0) []=(T,out):=(by rw[bC,aD,List.drop_length];rfl);rw[bJ]at HR aR;have bD:Pu.Tb (lo.length:Int) T:=(by rw[<- aD];exact S);have Z:=O bD;have bp:=O F;clear bC bJ S bD;by_cases hz:lo.length=0
   ·have aO:=O B;have G:Hid (out.length<=20000+40*0):=(by show _<=_;exact f6J);clear B;go_wp2
    have HQ:Hid (R=Pu.wr2 xs (ord.drop 0) T ((lo.length:Int)+((0:Nat):Int)) 128 0 72 true out):=by
     show R=_;rw[List.drop_zero,V HR,if_pos hz];simp
    clear HR;go_loopw[2,3,8,12,13,56] (fun _ _ bv _ _ jj wr=>∃(k:Nat) (T out:List Int) (n i bias:Int) (f:Bool),jj=.int .i64 k/\k<=ord.length/\Wm Q b g ((lo.length:Int)+k) n i bias f T out bv wr/\Pu.Tb ((lo.length:Int)+k) T/\T.length=xs.length+1/\(0<=n/\n<=1114111)/\(0<=i/\i<=(lo.length:Int)+k)/\(0<=bias/\bias<=468)/\out.length<=20000+40*k/\Pu.wok xs (ord.drop k) T ((lo.length:Int)+k) n i=true/\R=Pu.wr2 xs (ord.drop k) T ((lo.length:Int)+k) n i bias f out) (fun _ _ _ _ _ jj _=>ord.length-(intOf jj).toNat)
    case atStart=>exact⟨0,T,out,128,0,72,true,rfl,f6J,r4a,r0g,V bp,f6J,f6J,f6J,V G,e9K,V HQ⟩
    case round =>exact w1M
   ·have dl:=B.size;have l:=O B;clear B;go_wp2_with(at_builtin;refine x0M rfl (.tmp 51) (.tmp 52) rfl Q.heap.size _ out 45 _ rfl rfl (V l).ob rfl (fun y hy=>N8l) f6J f6J ?_);intro v' w' h1 h2 J;have aO:=O ((V l).wrote (.inr ⟨_,rfl⟩) h1 h2 J);have G:Hid ((out++[45]).length<=20000+40*0):=(by show _<=_;exact P8U);clear h1 h2 J l;go_wp2
    have HQ:Hid (R=Pu.wr2 xs (ord.drop 0) T ((lo.length:Int)+((0:Nat):Int)) 128 0 72 true (out++[45])):=by
     show R=_;rw[List.drop_zero,V HR,if_neg hz];simp
    clear HR;go_loopw[2,3,8,12,13,56] (fun _ _ bv _ _ jj wr=>∃(k:Nat) (T out:List Int) (n i bias:Int) (f:Bool),jj=.int .i64 k/\k<=ord.length/\Wm Q b g ((lo.length:Int)+k) n i bias f T out bv wr/\Pu.Tb ((lo.length:Int)+k) T/\T.length=xs.length+1/\(0<=n/\n<=1114111)/\(0<=i/\i<=(lo.length:Int)+k)/\(0<=bias/\bias<=468)/\out.length<=20000+40*k/\Pu.wok xs (ord.drop k) T ((lo.length:Int)+k) n i=true/\R=Pu.wr2 xs (ord.drop k) T ((lo.length:Int)+k) n i bias f out) (fun _ _ _ _ _ jj _=>ord.length-(intOf jj).toNat)
    case atStart=>exact⟨0,T,(out++[45]),128,0,72,true,rfl,f6J,r4a,r0g,V bp,f6J,f6J,f6J,V G,e9K,V HQ⟩
    case round =>exact w1M
namespace Pu
def ordOf(xs:List Int):List Nat:=x5c xs (idx xs x2c)
def encode(xs:List Int):List Int×Int:=if allb okb xs=false then([],31)else write xs (ordOf xs)
def t1Of(xs:List Int):List Int:=(wr1 xs (idx xs lowq) (List.replicate (xs.length+1) 0) []).1
def fine(xs:List Int):Prop:=(∀a∈ordOf xs,a<xs.length)/\(idx xs lowq).length+(ordOf xs).length<=16384/\wok xs (ordOf xs) (t1Of xs) ((idx xs lowq).length:Int) 128 0=true
end Pu
theorem y6q v xs w(N:Sk .i32 w v xs):Calls prog 152 #[v] w (x1A w (allb okb xs)):=by
 have H:=O (x2b v xs w N);have d:allb okb xs=decide (fbY (fun c=>!okb c) 0 xs<0):=(by rw[y8F];simp[allb]);rw[d];go_enter func152,ntmps152;go_wp2_with fail;refine(V H).mono ?_;rintro e w ⟨rfl,rfl⟩;go_wp2;go_ret;exact x1A.mk rfl
theorem y1l{xs}(h:allb okb xs=true):∀z∈xs,0<=z/\z<=1114111:=by
 intro z u;have:=List.all_eq_true.1 h z u;have D:Utf.okc z:=o0d this;rcases D with h3 | h3<;>omega
theorem x3b m(r:y7n m) v xs w(N:Sk .i32 w v xs)(S:xs.length<=16384)(o:(Pu.idx xs Pu.x2c).length<=m)(C:allb okb xs=true->Pu.fine xs) :
  Calls prog 100 #[v] w (WrP w (Pu.encode xs)):=by
 have b:=O (y6q v xs w N);obtain⟨J,M,P,z,F⟩:=N.shape
 cases hb:allb okb xs with
 | false =>
  have T:Hid (WrP w (Pu.encode xs) (.returned (.tuple #[.string ⟨#[]⟩,.int .i64 31])) w):=by
   refine⟨?_,b0r⟩;unfold Pu.encode;rw[if_pos hb];rfl
  rw[hb]at b;subst P;go_enter func100,ntmps100;go_wp2_with(go_at_call 152;refine(V b).mono ?_;rintro e B ⟨rfl,rfl⟩;clear b);go_ret2;exact V T
 | true =>
  obtain⟨s,D,E⟩:=C hb;have W:=O (z1J m r v xs w N S o (y1l hb) (Pu.ordOf xs) rfl s D E);have Y:Pu.encode xs=Pu.write xs (Pu.ordOf xs):=(by unfold Pu.encode;rw[if_neg (by rw[hb];exact M7K)]);rw[Y];rw[hb]at b;subst P;generalize Pu.write xs (Pu.ordOf xs)=R at *;go_enter func100,ntmps100;go_wp2_with(go_at_call 152;refine(V b).mono ?_;rintro e B ⟨rfl,rfl⟩;clear b);refine c0m W fun u t=>?_;have T:Hid (WrP B R (.returned (.tuple #[.string (strOfNums R.1),.int .i64 R.2])) u):=⟨rfl,t⟩;go_wp2;go_ret2;exact V T
