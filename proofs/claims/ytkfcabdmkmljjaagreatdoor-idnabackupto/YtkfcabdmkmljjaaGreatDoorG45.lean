/- Lemmas. -/
import Derived.Test.YtkfcabdmkmljjaaGreatDoorG42
import Derived.Deep.AppendLies
import Derived.Deep.QuietTactic
import Derived.Laws.MakeOwn
import Derived.Deep.DeepCutAuto
import Derived.Deep.CutBlock
set_option maxHeartbeats 8000000
set_option maxRecDepth 20000
namespace Go.Proofs.YtkfcabdmkmljjaaGreatDoor
open Go.Proofs.Tryz
open Go.RowKit
section
variable{p:Prop}
theorem W4O(h:p:=by rw[u];clear u;go_enter func60,ntmps60;go_wp2;go_ret;exact x0r.mk (by first| rfl | omega)):p:=h
theorem v1L(h:p:=by rw[heap_alloc_old _ _ (Array.getElem?_eq_some_iff.1 h).1];exact h):p:=h
theorem V2Q(h:p:=by rw[u];clear u;go_enter func253,ntmps253;go_wp2;go_ret;exact x3N.mk (by first| rfl | omega)):p:=h
theorem T9G(h:p:=by rw[C.block b (Array.getElem?_eq_some_iff.1 h).1 (fun H=>y H.symm)];exact h):p:=h
theorem n5i(h:p:=by
 clear HQ aJ U be Y aM;obtain⟨k,T,out,n,i,bias,f,rfl,hk,I,K,D,hn,hi,x,aX,Z,hR⟩:=hrel;by_cases E:k<ord.length
 ·obtain⟨b2,o2,cQ,o,_,_,am⟩:=(V cj).place e2m;rw[x0o]at o;simp only[Value.slice.injEq]at o;obtain⟨rfl,h9,rfl⟩:=o;clear h9
  have M:wr.cell? ⟨b2,o2+k,none⟩=some (.int .i64 ((ord.getD k 0:Nat):Int)):=by
   have J:=am k (by rw[x0o];exact E);rw[x9U E]at J;exact f2w
  have aU:ord.getD k 0<xs.length:=V cf _ (x6f E);have ae:=x4b E;generalize ord.getD k 0=c at *;obtain⟨bx,ox,cw,aq,_,_,F⟩:=(V bK).place f6J;simp only[Value.slice.injEq]at aq;obtain⟨rfl,h9,rfl⟩:=aq;clear h9
  have A:∀nq,(wr.drewN nq).cell? ⟨bx,ox+c,none⟩=some (.int .i32 (xs.getD c 0)):=fun nq=>by
   have J:=F c aU;show wr.cell? _=_;exact f2w
  have B:=A 0;have cH:=V bI c;obtain⟨s1,s2,s3⟩:=I.size;have aC:Pu.Tb 20000 T:=K.le f6J;have cR:=Pu.x5r aC c;rw[ae]at Z hR;obtain⟨bP,bV,ba⟩:=Pu.y0w Z;have j:=fun nq=>O (y0A g T c (wr.drewN nq) (I.t.drewN nq) aC f6J f6J);have p:=fun nq=>O (y4N b ((lo.length:Int)+k) n i bias (xs.getD c 0) (Pu.ahead T c) f (wr.drewN nq) (I.st.drewN nq) f6J hn f6J f6J f6J);rw[D]at j;have aV:(xs.getD c 0-n)*((lo.length:Int)+k+1)+Pu.ahead T c-i=Pu.dlt xs c T ((lo.length:Int)+k) n i:=rfl;rw[aV]at p;have C:=O I;have U:=O K;have r:=O hR;have aA:=O ba;clear I K aC Z hR ba ae am F aV;generalize hde:Pu.dlt xs c T ((lo.length:Int)+k) n i=d at *;have l:=O hde;clear hde;by_cases aF:2147483647<d
  ·have P:=O ((V r).trans (Pu.x6p (by rw[V l];exact aF)));have aI:=O (V C).bel;clear r aA l U C;generalize Pu.ahead T c=ah,xs.getD c 0=z at *;go_wp2;go_quiet(first| (go_at_call 204;exact Calls.quiet_of_same (V (j _)))|(go_at_call 203;exact Calls.quiet_of (V (p _))))
   have HF:Hid (WrP w R (.returned (.tuple #[.string ⟨#[]⟩,.int .i64 113])) (wr.drewN nq)):=by
    refine⟨by rw[V P];rfl,?_⟩;exact(V L).trans (((V aI).trans ((x0i ⟨nq,rfl⟩:Bw wr _).mono s1)).mono (V L).size)
   clear aI P j p;go_wp2;go_ret2;exact V HF
  ·have bU:=Pu.x7P (v:=d) (bias:=bias) bP f6J;have P:=O ((V r).trans (Pu.x4B (by rw[V l];exact aF)))
   have bJ:Hid (Pu.wok xs (ord.drop (k+1)) (Pu.add T c) ((lo.length:Int)+k+1) (n+(i+d) / ((lo.length:Int)+k+1)) ((i+d)%((lo.length:Int)+k+1)+1)=true):=by
    rcases V aA with h | h
    ·exact absurd h aF
    ·exact h
   rw[V l]at P;have cW:0<=(i+d)%((lo.length:Int)+k+1):=Int.emod_nonneg _ f6J;have cX:(i+d)%((lo.length:Int)+k+1)<(lo.length:Int)+k+1:=Int.emod_lt_of_pos _ f6J;have aS:=Pu.x2C d ((lo.length:Int)+k+1) f f6J
   have s:Hid (∀nq,Calls prog 205 #[u8,.int .i64 d,.int .i64 bias] (wr.drewN nq) (GrP Q.heap.size u8 (wr.drewN nq) (out++Pu.wrNum d bias))):=fun nq =>
    x2y Q.heap.size u8 out d bias (wr.drewN nq) ((V C).drewN nq).ob (by show Q.heap.size<=wr.heap.size;exact s1) f6J f6J x
   have ai:Hid (∀W bv,Wm Q b g ((lo.length:Int)+k) n i bias f T (out++Pu.wrNum d bias) bv W->Calls prog 61 #[.pointer (some ⟨b,0,none⟩),.int .i64 d] W (x3R W b ((lo.length:Int)+k+1) (n+(i+d) / ((lo.length:Int)+k+1)) ((i+d)%((lo.length:Int)+k+1)+1) (Pu.adapt d ((lo.length:Int)+k+1) f) ((i+d)%((lo.length:Int)+k+1)))):=fun W bv h =>
    y0n b ((lo.length:Int)+k) n i bias d f W h.st f6J f6J f6J f6J
   have H:Hid (∀W,TAt W g T->Calls prog 202 #[.slice (some ⟨g,0,none⟩) (xs.length+1) (xs.length+1),.int .i64 c] W (AddP W g (Pu.add T c))):=fun W h=>by
    have:=y2p g T c W h ((V U).le f6J) f6J f6J;rwa [D]at this
   have S:Hid (Pu.Tb ((lo.length:Int)+k+1) (Pu.add T c)):=Pu.y7I (V U) f6J f6J c;have aj:Hid ((Pu.add T c).length=xs.length+1):=(Pu.x3y T c).trans D;clear r aA l U D;generalize hout2:out++Pu.wrNum d bias=aw at *;have ag:Hid (aw.length<=20000+40*(k+1)):=(by show _<=_;rw[<- hout2];exact P8U);clear hout2;generalize Pu.add T c=T2,Pu.adapt d ((lo.length:Int)+k+1) f=ad,n+(i+d) / ((lo.length:Int)+k+1)=n2,(i+d)%((lo.length:Int)+k+1)=pl2,Pu.ahead T c=ah,xs.getD c 0=z at *;have aL:=O fun nq=>(V C).drewN nq;have bT:=(V C).st.cells;obtain⟨_,_,_,c3,_⟩:=bT;clear C;go_wp2;go_quiet(first| (go_at_call 204;exact Calls.quiet_of_same (V (j _)))|(go_at_call 203;exact Calls.quiet_of (V (p _))));have aN:(wr.drewN nq).cell? ⟨b,3,none⟩=some (.int .i64 bias):=c3;have az:=O (V aL nq);have ay:=O (V s nq);have aY:(wr.drewN nq).heap.size=wr.heap.size:=rfl;clear aL s j p c3 A B M;obtain⟨wd,aZ⟩:∃wd,wr.drewN nq=wd:=⟨_,rfl⟩;rw[aZ]at aN az ay aY ⊢;clear aZ;go_wp2_with(go_at_call 205;refine(V ay).mono ?_;rintro e w3 ⟨bL,rfl,aP,aQ,aR⟩);have aB:=(V az).wrote (.inl rfl) aP aQ aR;have N:=O (V ai w3 bL aB);have u:=O aB;clear ay az aP aQ aR aB ai aN aY;go_wp2_with(go_at_call 61;refine(V N).mono ?_;intro e w4 G;have bQ:=G.1;subst bQ);have q:=(V u).stepped G;have af:=O (V H w4 q.t);have aK:=O q;clear G q u N H;go_wp2_with(go_at_call 202;refine(V af).mono ?_;intro e w5 ab;have bR:=ab.1;subst bR);have aO:=(V aK).added ab;have bG:=O aO;clear ab aO aK af;have X:Hid ((lo.length:Int)+((k+1:Nat):Int)=(lo.length:Int)+k+1):=(by show _=_;exact f6J);go_wp2
   go_roundw
   case rel=>exact⟨k+1,T2,aw,n2,pl2+1,ad,false,g2B,f6J,by rw[V X];exact V bG,by rw[V X];exact V S,V aj,bV,f6J,aS,V ag,by rw[V X];exact V bJ,by rw[V X];exact V P⟩
   case measure=>exact g7W
 ·have ar:k=ord.length:=by omega
  have P:Hid (R=(out,0)):=by
   show R=_;rw[hR,ar,List.drop_length];rfl
  have cT:=I.ob.sk.conv;obtain⟨cO,cP,bO,_,_⟩:=I.ob.sk.shape;have HF:Hid (WrP w R (.returned (.tuple #[.string (strOfNums out),.int .i64 0])) wr):=⟨by rw[V P],(V L).trans (I.bel.mono (V L).size)⟩;clear I K D Z hR ar P;subst bO;generalize strOfNums out=so at *;go_wp2;go_ret2;exact V HF):p:=h
theorem W2J(h:p:=by have:=h.hB;have:=h.hb;have:=h.hw;exact f6J):p:=h
theorem I5j(h:p:=by rw[m];exact f6J):p:=h
theorem T7P(h:p:=by have:=C.size;have:=h.hB;exact f6J):p:=h
theorem p3E(h:p:=by simp[IntKind.min,IntKind.max,IntKind.signed,IntKind.bits];exact f6J):p:=h
theorem s8O(h:p:=by rw[x0u];exact f6J):p:=h
theorem S6n(h:p:=by simp at T;subst T;exact x8X f6J):p:=h
theorem r9r(h:p:=by
 go_wp2
 go_roundw
 case rel=>exact⟨k+1,g2B,f6J,by rw[V P,V I];exact V f⟩
 case measure=>exact g7T):p:=h
theorem m0G(h:p:=by rw[V X];exact f6J):p:=h
theorem T7F(h:p:=by rw[List.drop_zero,(f6J:(lo.length:Int)+((0:Nat):Int)=(lo.length:Int))];exact V aM):p:=h
theorem e2m(h:p:=by rw[x0o];exact f6J):p:=h
theorem R5g(h:p:=by rw[(f6J:(lo.length:Int)+((0:Nat):Int)=(lo.length:Int))];exact V aJ):p:=h
theorem N7k(h:p:=by rw[(f6J:(lo.length:Int)+((0:Nat):Int)=(lo.length:Int))];exact V U):p:=h
theorem t9S(h:p:=by simp at hy;subst hy;exact x8X f6J):p:=h
theorem f2w(h:p:=by rw[I.bel.cell (x0a J)];exact J):p:=h
theorem e9Q(h:p:=by simp only[Value.ownBlock];intro hh;simp at hh;omega):p:=h
end
namespace Pu
def let1(d:Int):Int:=if d<26 then 97+d else 48+(d-26)
def wrN(bias:Int):Nat->Int->Int->List Int
 | 0,_,v=>[let1 v]
 | f+1,k,v=>if v<thr k bias then[let1 v]else let1 (thr k bias+(v-thr k bias)%(36-thr k bias))::wrN bias f (k+1) ((v-thr k bias) / (36-thr k bias))
def wrNum(v bias:Int):List Int:=wrN bias v.toNat 1 v
theorem x6Z{d}(R:0<=d)(Z:d<=35):48<=let1 d/\let1 d<=122:=by unfold let1;exact G7n
theorem x3l{bias f k v}(h:v<thr k bias):wrN bias f k v=[let1 v]:=by cases f with
 | zero=>rfl
 | succ f=>rw[wrN,if_pos h]
theorem x6q{bias f k v}(h:¬v<thr k bias):wrN bias (f+1) k v=let1 (thr k bias+(v-thr k bias)%(36-thr k bias))::wrN bias f (k+1) ((v-thr k bias) / (36-thr k bias)):=by rw[wrN,if_neg h]
def lbi(j:Int):Int:=bits .and .i64 j (-j)
def lbOk:Nat->Bool
 | 0=>true
 | n+1=>decide (1<=lbi (n+1)/\lbi (n+1)<=n+1)&&lbOk n
theorem z3E{n j}(h:lbOk n=true)(Z:1<=j)(D:j<=n):1<=lbi j/\lbi j<=j:=by
 induction n with
 | zero=>omega
 | succ n ih =>
  simp only[lbOk,Bool.and_eq_true,decide_eq_true_eq]at h;rcases Nat.lt_or_ge n j with hj | hj
  ·grind
  ·exact ih h.2 hj
theorem y6n:lbOk 16600=true:=M3j
theorem x8D{j:Nat}(Z:1<=j)(D:j<=16600):1<=lbi j/\lbi j<=j:=z3E y6n Z D
def addF:Nat->List Int->Nat->List Int
 | 0,T,_=>T
 | f+1,T,j=>if j<T.length then addF f (T.set j (T.getD j 0+1)) (j+(lbi j).toNat)else T
def x1Z:Nat->List Int->Nat->Int->Int
 | 0,_,_,n=>n
 | f+1,T,j,n=>if 0<j then x1Z f T (j-(lbi j).toNat) (n+T.getD j 0)else n
def add(T:List Int)(p:Nat):List Int:=addF T.length T (p+1)
def ahead(T:List Int)(p:Nat):Int:=x1Z p T p 0
theorem z2l f T j:(addF f T j).length=T.length:=by
 induction f generalizing T j with
 | zero=>rfl
 | succ f ih =>
  rw[addF];split
  ·rw[ih];simp
  ·rfl
theorem x3y T p:(add T p).length=T.length:=z2l _ _ _
def Tb(k:Int)(T:List Int):Prop:=∀t∈T,0<=t/\t<=k
theorem Tb.at{k T}(h:Tb k T)(G:0<=k) j:0<=T.getD j 0/\T.getD j 0<=k:=by
 rcases Nat.lt_or_ge j T.length with hj | hj
 ·rw[List.getD,List.getElem?_eq_getElem hj];exact h _ (List.getElem_mem hj)
 ·grind
def wr2(xs:List Int):List Nat->List Int->Int->Int->Int->Int->Bool->List Int->List Int×Int
 | [],_,_,_,_,_,_,out=>(out,0)
 | c::r,T,p,n,i,bias,first,out =>
  let d:=(xs.getD c 0-n)*(p+1)+ahead T c-i
  if 2147483647<d then([],113)else
   wr2 xs r (add T c) (p+1) (n+(i+d) / (p+1)) ((i+d)%(p+1)+1) (adapt d (p+1) first) false (out++wrNum d bias)
def wr1(xs:List Int):List Nat->List Int->List Int->List Int×List Int
 | [],T,out=>(T,out)
 | c::r,T,out=>wr1 xs r (add T c) (out++[xs.getD c 0])
def idx(xs:List Int)(q:Int->Bool):List Nat:=(List.range xs.length).filter fun k=>q (xs.getD k 0)
def lowq(c:Int):Bool:=decide (c<128)
def write(xs:List Int)(ord:List Nat):List Int×Int :=
 wr2 xs ord (wr1 xs (idx xs lowq) (List.replicate (xs.length+1) 0) []).1 ((idx xs lowq).length:Int) 128 0 72 true
  ((wr1 xs (idx xs lowq) (List.replicate (xs.length+1) 0) []).2++if(idx xs lowq).length=0 then[]else[45])
end Pu
def x3N(w:World)(z:Int)(e:Ending)(w':World):Prop:=e=.returned (.int .u8 z)/\w'=w
theorem x3N.mk{w z u}(h:u=z):x3N w z (.returned (.int .u8 u)) w:=t5o
theorem x8E d w(R:0<=d)(Z:d<=35):Calls prog 253 #[.int .i64 d] w (x3N w (Pu.let1 d)):=by
 by_cases hd:d<26
 ·have u:Pu.let1 d=97+d:=(by unfold Pu.let1;rw[if_pos hd]);exact V2Q
 ·have u:Pu.let1 d=48+(d-26):=(by unfold Pu.let1;rw[if_neg hd]);exact V2Q
def NumP(w:World)(z:Int)(e:Ending)(w':World):Prop:=e=.returned (.int .i64 z)/\(w'=w\/w'=w.drew)
theorem y6x b p n i bias c pl f w(h:StAt w b p n i bias f)(s:0<=p/\p<=20000)(F:0<=n/\n<=1114111)(hi:0<=i/\i<=20000)(I:0<=c/\c<=1114111)(G:0<=pl/\pl<=1000000000) :
  Calls prog 203 #[.pointer (some ⟨b,0,none⟩),.int .i32 c,.int .i64 pl] w (NumP w ((c-n)*(p+1)+pl-i)):=by
 obtain⟨C,X,K,S,l,z,v,M,g,B⟩:=h.cells
 have m:(c-n)*(p+1)<=1114111*20001:=by
  calc (c-n)*(p+1)<=1114111*(p+1):=Int.mul_le_mul_of_nonneg_right f6J f6J
   _<=1114111*20001:=f6J
 have J:-(1114111*20001)<=(c-n)*(p+1):=by
  have:(n-c)*(p+1)<=1114111*20001:=by
   calc (n-c)*(p+1)<=1114111*(p+1):=Int.mul_le_mul_of_nonneg_right f6J f6J
    _<=1114111*20001:=f6J
  have e:(n-c)*(p+1)=-((c-n)*(p+1)):=(by grind);omega
 go_enter func203,ntmps203;go_wp2
 all_goals try go_region
 all_goals try go_wp2
 go_ret;exact⟨by first| rfl|(congr 2<;>omega),by first| exact .inl rfl | exact .inr rfl⟩
def TAt(w:World)(g:Nat)(T:List Int):Prop:=w.heap[g]?=some (.cells (T.map (Value.int .i64)).toArray 3 (0,0))
theorem TAt.cell{w g T}(h:TAt w g T){j}(X:j<T.length):w.cell? ⟨g,j,none⟩=some (.int .i64 (T.getD j 0)):=by
 unfold TAt at h;simp[World.cell?,h,List.getD,X]
theorem TAt.frozen{w g T}(h:TAt w g T) j:w.frozen? ⟨g,j,none⟩=false:=by
 unfold TAt at h;simp[World.frozen?,h]
theorem TAt.set{w g T}(h:TAt w g T) j z:TAt (w.setCell ⟨g,j,none⟩ (.int .i64 z)) g (T.set j z):=by
 unfold TAt at h ⊢;rw[x0Z h];simp
theorem y9P{j:Nat}(Z:1<=j)(D:j<=16600):∃q:Nat,bits .and .i64 (j:Int) (-(j:Int))=(q:Int)/\q=(Pu.lbi j).toNat/\1<=q/\q<=j:=by
 have:=Pu.x8D Z D;refine⟨(Pu.lbi j).toNat,?_,rfl,f6J,f6J⟩;show Pu.lbi j=_;omega
theorem y0A g T p w(h:TAt w g T)(Y:Pu.Tb 20000 T)(S:T.length<=16500)(s:p<T.length) :
  Calls prog 204 #[.slice (some ⟨g,0,none⟩) T.length T.length,.int .i64 p] w (x0r w (Pu.ahead T p)):=by
 have C:Hid (∀j,j<T.length->w.cell? ⟨g,j,none⟩=some (.int .i64 (T.getD j 0))):=fun j X=>h.cell X;have x:Hid (∀j,0<=T.getD j 0/\T.getD j 0<=20000):=fun j=>Y.at f6J j;have R:Pu.ahead T p=Pu.x1Z p T p 0:=rfl;generalize Pu.ahead T p=r at *;have Q:=O R;clear h Y R;go_enter func204,ntmps204;go_wp2;go_loop [5,6] (fun E N=>∃(f j:Nat) (n:Int),E=.int .i64 n/\N=.int .i64 j/\j<=p/\j<=f/\0<=n/\n+20000*j<=20000*p/\r=Pu.x1Z f T j n) (fun _ N=>(intOf N).toNat)
 case atStart=>exact⟨p,p,0,rfl,rfl,f6J,f6J,f6J,f6J,V Q⟩
 case round =>
  obtain⟨f,j,n,rfl,rfl,B,I,F,G,u⟩:=hrel;by_cases X:0<j
  ·obtain⟨f,rfl⟩:∃g,f=g+1:=⟨f-1,f6J⟩;have a:=O (u.trans (by rw[Pu.x1Z,if_pos X]));have K:=V C j f6J;have J:=V x j;obtain⟨q,L,A,b,c⟩:=y9P (j:=j) f6J f6J;rw[<- A]at a;clear A;generalize T.getD j 0=t at *;have D:((j-q:Nat):Int)=(j:Int)-(q:Int):=f6J;have H:=O D;go_wp2;go_round
   case rel=>exact⟨f,j-q,n+t,U6t,by first| rfl|(rw[V H]) | go_num,f6J,f6J,f6J,f6J,V a⟩
   case measure=>exact g7T
  ·have y:j=0:=f6J;subst y
   have P:Hid (n=r):=by
    show n=r;rw[u]
    cases f with
    | zero=>rfl
    | succ f=>rw[Pu.x1Z,if_neg f6J]
   clear u;go_wp2;go_ret;exact x0r.mk (V P)
def AddP(w:World)(g:Nat)(T:List Int)(e:Ending)(w':World):Prop:=e=.returned (.tuple #[])/\TAt w' g T/\w.grownBy w' (some g)/\w'.heap.size=w.heap.size
theorem x6g(T:List Int) j m z(X:j<T.length):(T.set j z).getD m 0=if m=j then z else T.getD m 0:=by grind
theorem y2p g T(p:Nat) w(h:TAt w g T)(Y:Pu.Tb 20000 T)(S:T.length<=16500)(s:p<=100000) :
  Calls prog 202 #[.slice (some ⟨g,0,none⟩) T.length T.length,.int .i64 p] w (AddP w g (Pu.add T p)):=by
 have x:Hid (∀j,0<=T.getD j 0/\T.getD j 0<=20000):=fun j=>Y.at f6J j;have v:Pu.add T p=Pu.addF T.length T (p+1):=rfl;generalize Pu.add T p=r at *;have Q:=O v;have n:=O h;obtain⟨L,a⟩:∃L,T.length=L:=⟨_,rfl⟩;rw[a];rw[a]at S Q;have F:=O a;go_enter func202,ntmps202;go_wp2;go_loopw[4] (fun N wr=>∃(f j:Nat) (U:List Int),N=.int .i64 j/\1<=j/\j<=103000/\U.length=L/\TAt wr g U/\(∀m,0<=U.getD m 0/\U.getD m 0<=20000+j)/\L<=j+f/\r=Pu.addF f U j/\w.grownBy wr (some g)/\wr.heap.size=w.heap.size) (fun N _=>L-(intOf N).toNat)
 case atStart=>exact⟨L,p+1,T,U6t,f6J,f6J,V F,V n,fun m=>by have:=V x m;exact f6J,f6J,V Q,x1g w _,rfl⟩
 case round =>
  obtain⟨f,j,U,rfl,z,I,k,B,W,o,u,M,y⟩:=hrel;by_cases X:j<L
  ·obtain⟨f,rfl⟩:∃g,f=g+1:=⟨f-1,f6J⟩;have HR:=O (u.trans (by rw[Pu.addF,if_pos f6J]));have K:=B.cell (j:=j) f6J;have E:=B.frozen j;have H:=W j;have C:=O (B.set j (U.getD j 0+1));have G:=O (x1h (j:=j) M (.int .i64 (U.getD j 0+1)));have R:Hid ((wr.setCell ⟨g,j,none⟩ (.int .i64 (U.getD j 0+1))).heap.size=w.heap.size):=(by simp_all);have J:Hid ((U.set j (U.getD j 0+1)).length=L):=by grind
   have i:Hid (∀m,0<=(U.set j (U.getD j 0+1)).getD m 0/\(U.set j (U.getD j 0+1)).getD m 0<=20000+j+1):=fun m=>by
    rw[x6g _ _ _ _ f6J];have Z:=W m;have D:=W j;exact G7n
   obtain⟨q,ab,A,b,c⟩:=y9P (j:=j) f6J f6J;rw[<- A]at HR;generalize U.set j (U.getD j 0+1)=d at *;generalize U.getD j 0=t at *;go_wp2
   go_roundw
   case rel=>exact⟨f,j+q,d,U6t,f6J,f6J,V J,V C,fun m=>by have:=V i m;exact f6J,f6J,V HR,V G,V R⟩
   case measure=>exact g7T
  ·have P:Hid (AddP w g r (.returned (.tuple #[])) wr):=by
    refine⟨rfl,?_,M,y⟩;rw[u]
    cases f with
    | zero=>exact B
    | succ f=>rw[Pu.addF,if_neg f6J];exact B
   go_wp2;go_end0;exact V P
theorem x6S:∃i,prog.info? 5=some i/\i.zero=some (.int .u8 0)/\i.size=1/\i.bytes=1:=by
 have h:(prog.info? 5).map (fun i=>(i.zero,i.size,i.bytes))=some (some (.int .u8 0),1,1):=f4x
 cases hq:prog.info? 5 with
 | none=>rw[hq]at h;simp at h
 | some i=>grind
theorem x0L{w ops rest o}{a Q}(J:o.guard=none)(s x:Operand)
  (j:o.op=.call { callee:=.builtin .append,args:=#[s,x],argTypes:=#[181,181] }) B v xs c H (L:a.eval s=v) (A:a.eval x=.slice (some ⟨H,0,none⟩) 1 1)
  (N:Ok .u8 5 w B v xs) (d:H=w.heap.size) (I:Fit .u8 [c]) (S:xs.length<=10000000000) (l:B<=w.heap.size)
  (h:∀v' w',Ok .u8 5 w' B v' (xs++[c])->(w.alloc (.cells #[.int .u8 c] 5)).grownBy w' v.ownBlock->(∀g,v'.ownBlock=some g->v.ownBlock=some g\/w.heap.size<=g)->wpList prog ops Q rest (a.put o.dst v') w') :
  wpList prog ops Q (o::rest) a (w.alloc (.cells #[.int .u8 c] 5)):=by
 obtain⟨i,hi,y,Y,m⟩:=x6S;subst d;refine wpList_append_lies _ J s x 181 j B 5 i (.int .u8 0) 1 1 underlying181 hi y Y m rfl e8P v _ _ L (N.row.alloc _) ⟨w.heap.size,0,none⟩ 1 1 [.int .u8 c] A rfl (cell_one_new _ _ _) (x1j .u8 _) f6J T7X f6J s8O (w.heap.size+1) (x0u _ _) ?_;intro g M w' Z D h3 C;refine h _ w' (Ok.of (N.1.app I) P8P Z (by simp) (by simp)) D (fun k G=>?_);have:k=g:=U8V;subst this;rcases h3 with h3 | h3
 ·exact .inl h3
 ·exact e5w
theorem x6U:∃i,prog.info? 3=some i/\i.zero=some (.int .i64 0)/\i.size=1/\i.bytes=8:=by
 have h:(prog.info? 3).map (fun i=>(i.zero,i.size,i.bytes))=some (some (.int .i64 0),1,8):=f4x
 cases hq:prog.info? 3 with
 | none=>rw[hq]at h;simp at h
 | some i=>grind
theorem x1W{w ops rest o}{a Q}(J:o.guard=none)(s x:Operand)
  (j:o.op=.call { callee:=.builtin .append,args:=#[s,x],argTypes:=#[279,279] }) B v xs c H (L:a.eval s=v) (A:a.eval x=.slice (some ⟨H,0,none⟩) 1 1)
  (N:Ok .i64 3 w B v xs) (d:H=w.heap.size) (I:Fit .i64 [c]) (S:xs.length<=10000000000) (l:B<=w.heap.size)
  (h:∀v' w',Ok .i64 3 w' B v' (xs++[c])->(w.alloc (.cells #[.int .i64 c] 3)).grownBy w' v.ownBlock->(∀g,v'.ownBlock=some g->v.ownBlock=some g\/w.heap.size<=g)->wpList prog ops Q rest (a.put o.dst v') w') :
  wpList prog ops Q (o::rest) a (w.alloc (.cells #[.int .i64 c] 3)):=by
 obtain⟨i,hi,y,Y,m⟩:=x6U;subst d;refine wpList_append_lies _ J s x 279 j B 3 i (.int .i64 0) 1 8 underlying279 hi y Y m rfl e8P v _ _ L (N.row.alloc _) ⟨w.heap.size,0,none⟩ 1 1 [.int .i64 c] A rfl (cell_one_new _ _ _) (x1j .i64 _) f6J T7X f6J s8O (w.heap.size+1) (x0u _ _) ?_;intro g M w' Z D h3 C;refine h _ w' (Ok.of (N.1.app I) P8P Z (by simp) (by simp)) D (fun k G=>?_);have:k=g:=U8V;subst this;rcases h3 with h3 | h3
 ·exact .inl h3
 ·exact e5w
def GrP(B:Nat)(v:Value)(w:World)(zs:List Int)(e:Ending)(w':World):Prop :=
 ∃v',e=.returned v'/\Ok .u8 5 w' B v' zs/\w.grownBy w' v.ownBlock/\∀g,v'.ownBlock=some g->v.ownBlock=some g\/w.heap.size<=g
theorem x6P{w1 w2 B:World}{r1 r2}(h:w1.grownBy w2 r1)(k:w2.grownBy B r2)(hr:∀g,r2=some g->r1=some g\/w1.heap.size<=g):w1.grownBy B r1:=by
 refine⟨k.os.trans h.os,k.tape.trans h.tape,k.output.trans h.output,Nat.le_trans h.size k.size,fun g C y=>?_⟩;rw[k.block g (Nat.lt_of_lt_of_le C h.size) (fun H=>?_),h.block g C y];rcases hr g H.symm with h1 | h1
 ·exact y h1.symm
 ·omega
theorem y0r k bias w(G:0<=k/\k<=3000000000)(Y:-1000000<=bias/\bias<=1000000) :
  Calls prog 60 #[.int .i64 k,.int .i64 bias] w (x0r w (Pu.thr k bias)):=by
 by_cases Z:36*k-bias<1
 ·have u:Pu.thr k bias=1:=f0D;exact W4O
 ·by_cases D:26<36*k-bias
  ·have u:Pu.thr k bias=26:=f8v;exact W4O
  ·have u:Pu.thr k bias=36*k-bias:=n7H;exact W4O
theorem x2y B v0 zs0 val bias w(hv:Ok .u8 5 w B v0 zs0)(hB:B<=w.heap.size)(hl:zs0.length<=100000000)(I:0<=val/\val<=2147483647)(x:0<=bias/\bias<=468) :
  Calls prog 205 #[v0,.int .i64 val,.int .i64 bias] w (GrP B v0 w (zs0++Pu.wrNum val bias)):=by
 have j:zs0++Pu.wrNum val bias=zs0++Pu.wrN bias val.toNat 1 val:=rfl;generalize zs0++Pu.wrNum val bias=r at *;have Q:=O j;have Y:=O hv;have K:Hid (∀k W,0<=k/\k<=3000000000->Calls prog 60 #[.int .i64 k,.int .i64 bias] W (x0r W (Pu.thr k bias))):=fun k W h=>y0r k bias W h f6J;have H:∀W v A,Ok .u8 5 W B v A->∀g,v.ownBlock=some g->B<=g:=fun W v A h g C=>(h.row.lt g C).1;have ae:=O H;go_enter func205,ntmps205;go_wp2;go_loopw[0,1,6,7,8] (fun N q _ kk _ wr=>∃(f k:Nat) (y:Int) (A:List Int),q=.int .i64 y/\kk=.int .i64 ((k:Int)+1)/\0<=y/\y<=f/\k+y<=2147483647/\A.length<=100000000+k/\r=A++Pu.wrN bias f ((k:Int)+1) y/\Ok .u8 5 wr B N A/\w.grownBy wr v0.ownBlock/\B<=wr.heap.size/\w.heap.size<=wr.heap.size/\∀g,N.ownBlock=some g->v0.ownBlock=some g\/w.heap.size<=g) (fun _ q _ _ _ _=>(intOf q).toNat)
 case atStart=>exact⟨val.toNat,0,val,zs0,rfl,rfl,I.1,f6J,f6J,f6J,V Q,V Y,x1g w _,hB,l0r _,fun g C=>.inl C⟩
 case round =>
  obtain⟨f,k,y,A,rfl,rfl,p,aC,aw,R,u,l,aq,af,az,ag⟩:=hrel;have aA:=Pu.x1n ((k:Int)+1) bias;have n:=fun W=>O (V K ((k:Int)+1) W f6J);have X:=O l;have ab:=O aq;have a:=O ag;by_cases E:y<Pu.thr ((k:Int)+1) bias
  ·have S:=Pu.x6Z (d:=y) p f6J;have F:=fun W=>O (x8E y W p f6J);have P:=O (u.trans (by rw[Pu.x3l E]));generalize Pu.let1 y=c at *;go_wp2_with(first| (go_at_call 60;refine(V (n _)).mono ?_;rintro e wq ⟨rfl,rfl⟩;clear n)|(go_at_call 253;refine(V (F _)).mono ?_;rintro e wq ⟨rfl,rfl⟩;clear F)|(at_builtin;refine x0L rfl (.tmp 17) (.tmp 20) rfl B _ A c _ rfl rfl (V X) rfl (fun z T=>S6n) f6J af ?_));intro o w2 Z D J;have aB:∀g,u0.ownBlock=some g->B<=g:=fun g C=>V ae _ _ _ (V X) g C
   have U:Hid (GrP B v0 w r (.returned o) w2):=by
    refine⟨o,rfl,by rw[V P];exact Z,?_,?_⟩
    ·exact x6P (x3B (V ab) (.cells #[.int .u8 c] 5)) D (V a)
    ·grind
   go_wp2;go_ret;exact V U
  ·have ai:0<=y-Pu.thr ((k:Int)+1) bias:=f6J;have s:0<=(y-Pu.thr ((k:Int)+1) bias) / (36-Pu.thr ((k:Int)+1) bias):=Int.ediv_nonneg ai f6J;have L:(y-Pu.thr ((k:Int)+1) bias) / (36-Pu.thr ((k:Int)+1) bias)<=y-Pu.thr ((k:Int)+1) bias:=Int.ediv_le_self _ ai;have ay:0<=(y-Pu.thr ((k:Int)+1) bias)%(36-Pu.thr ((k:Int)+1) bias):=Int.emod_nonneg _ f6J;have m:(y-Pu.thr ((k:Int)+1) bias)%(36-Pu.thr ((k:Int)+1) bias)<36-Pu.thr ((k:Int)+1) bias:=Int.emod_lt_of_pos _ f6J;obtain⟨f,rfl⟩:∃g,f=g+1:=⟨f-1,f6J⟩;have P:=O (u.trans (by rw[Pu.x6q E]));have S:=Pu.x6Z (d:=Pu.thr ((k:Int)+1) bias+(y-Pu.thr ((k:Int)+1) bias)%(36-Pu.thr ((k:Int)+1) bias)) f6J f6J;have F:=fun W=>O (x8E (Pu.thr ((k:Int)+1) bias+(y-Pu.thr ((k:Int)+1) bias)%(36-Pu.thr ((k:Int)+1) bias)) W f6J f6J);generalize Pu.let1 (Pu.thr ((k:Int)+1) bias+(y-Pu.thr ((k:Int)+1) bias)%(36-Pu.thr ((k:Int)+1) bias))=c at *;generalize Pu.thr ((k:Int)+1) bias=t at *;go_wp2_with(first| (go_at_call 60;refine(V (n _)).mono ?_;rintro e wq ⟨rfl,rfl⟩;clear n)|(go_at_call 253;refine(V (F _)).mono ?_;rintro e wq ⟨rfl,rfl⟩;clear F)|(at_builtin;refine x0L rfl (.tmp 25) (.tmp 33) rfl B _ A c _ rfl rfl (V X) rfl (fun z T=>S6n) f6J af ?_));intro o w2 Z D J;have b:w.grownBy w2 v0.ownBlock:=x6P (x3B (V ab) (.cells #[.int .u8 c] 5)) D (V a)
   have ar:∀g,o.ownBlock=some g->v0.ownBlock=some g\/w.heap.size<=g:=fun g C=>by
    rcases J g C with h4 | h4
    ·exact V a g h4
    ·exact e5w
   have i:w.heap.size<=w2.heap.size:=b.size;have U:=O Z;have G:=O b;have M:=O ar;have am:Hid ((A++[c]).length<=100000000+(k+1)):=(by show _<=_;exact P8P);have aj:Hid (r=(A++[c])++Pu.wrN bias f (((k+1:Nat):Int)+1) ((y-t) / (36-t))):=(by grind);go_wp2
   go_roundw
   case rel=>exact⟨f,k+1,(y-t) / (36-t),A++[c],U6t,U6t,s,f6J,f6J,V am,V aj,V U,V G,f6J,i,V M⟩
   case measure=>exact g7W
namespace Pu
def x5h(xs:List Int)(l:List Nat):List Nat:=l.mergeSort fun a b=>decide (xs.getD a 0<=xs.getD b 0)
theorem z1q xs{l}(h:l.length<=1):x5h xs l=l:=by
 match l,h with
 | [],_=>simp[x5h]
 | [a],_=>simp[x5h]
def x1Y(c:Int):Bool:=!lowq c
end Pu
def x1a(l:List Nat):List Int:=l.map fun(k:Nat)=>(k:Int)
theorem x0o l:(x1a l).length=l.length:=by simp[x1a]
def XAt(w:World)(b:Nat)(v:Value):Prop:=w.heap[b]?=some (.cells #[v] 36 (0,0))
theorem XAt.cell{w b v}(h:XAt w b v):w.cell? ⟨b,0,none⟩=some v:=by unfold XAt at h;simp[World.cell?,h]
theorem XAt.grown{w w' b v row}(h:XAt w b v)(C:w.grownBy w' row)(y:row≠some b):XAt w' b v:=by
 unfold XAt at h ⊢;exact T9G
theorem XAt.alloc{w b v}(h:XAt w b v) o:XAt (w.alloc o) b v:=by
 unfold XAt at h ⊢;exact v1L
def y7F(m:Nat):Prop:=∀(xs:List Int) (b B:Nat) (xv v:Value) (l:List Nat) (w0 w:World),XAt w b xv->Sk .i32 w0 xv xs->Below w0.heap.size w0 w->w0.heap.size<=B->xs.length<=100000->l.length<=m->(∀a∈l,a<xs.length)->l.Pairwise (·<·)->Ok .i64 3 w B v (x1a l)->v.ownBlock≠some b ->
 Calls prog 250 #[v,.func (.func 251) #[] #[.pointer (some ⟨b,0,none⟩)]] w fun e w'=>e=.returned (.tuple #[])/\Ok .i64 3 w' B v (x1a (Pu.x5h xs l))/\w.grownBy w' v.ownBlock
theorem x7Z ao n cap fv w(F:n<=1):Calls prog 297 #[.slice ao n cap,.int .i64 0,.int .i64 n,fv] w fun e w'=>e=.returned (.tuple #[])/\w'=w:=by
 go_enter func297,ntmps297;go_wp2;refine wp_loop_rounds 1 ?_;rw[rounds_succ];go_wp2;go_end0;exact g9S
theorem y3C ao n cap fv w(F:n<=1):Calls prog 286 #[.slice ao n cap,.int .i64 n,fv] w fun e w'=>e=.returned (.tuple #[])/\w'=w:=by
 have o:=fun W=>O (x7Z ao n cap fv W F);go_enter func286,ntmps286;go_wp2;refine wp_loop_rounds 1 ?_;rw[rounds_succ];go_wp2_with(go_at_call 297;refine(V (o _)).mono ?_;rintro e G ⟨rfl,rfl⟩;clear o);refine wp_loop_rounds 1 ?_;rw[rounds_succ];go_wp2;go_end0;exact⟨rfl,rfl⟩
theorem y5a:y7F 1:=by
 intro X b B u v l f w _ _ _ _ _ S _ _ N _;obtain⟨J,M,rfl,_,_⟩:=N.sk.shape;have r:=fun W=>O (y3C J (x1a l).length M (.func (.func 251) #[] #[.pointer (some ⟨b,0,none⟩)]) W (by rw[x0o];exact S));have U:Hid (Ok .i64 3 w B (.slice J (x1a l).length M) (x1a (Pu.x5h X l))):=(by rw[Pu.z1q X S];exact N);go_enter func250,ntmps250;go_wp2_with(go_at_call 286;refine(V (r _)).mono ?_;rintro e G ⟨rfl,rfl⟩;clear r);go_end0;exact⟨rfl,V U,x1g _ _⟩
namespace Pu
def idxk(xs:List Int)(q:Int->Bool)(k:Nat):List Nat:=(List.range k).filter fun j=>q (xs.getD j 0)
theorem x4g{xs}{q:Int->Bool}{k}(h:q (xs.getD k 0)=true):idxk xs q (k+1)=idxk xs q k++[k]:=by
 unfold idxk;rw[List.range_succ,List.filter_append];rw[List.filter_cons_of_pos (p:=fun j=>q (xs.getD j 0)) h];rfl
theorem x5y{xs}{q:Int->Bool}{k}(h:q (xs.getD k 0)=false):idxk xs q (k+1)=idxk xs q k:=by
 unfold idxk;rw[List.range_succ,List.filter_append];rw[List.filter_cons_of_neg (by rw[h];exact M7K)];simp
theorem y4z xs(q:Int->Bool) k:(idxk xs q k).length<=k:=by
 unfold idxk;have:=List.length_filter_le (fun j=>q (xs.getD j 0)) (List.range k);exact W2K
theorem z5s xs(q:Int->Bool):∀a∈idx xs q,a<xs.length:=by
 intro a d;unfold idx at d;simpa using(List.mem_filter.1 d).1
theorem y6c xs(q:Int->Bool):(idx xs q).Pairwise (·<·):=(List.pairwise_lt_range).filter _
end Pu
theorem x8I l(k:Nat):x1a (l++[k])=x1a l++[(k:Int)]:=by simp[x1a]
def z5R(w:World)(xs:List Int)(e:Ending)(w':World):Prop:=∃v1 v2,e=.returned (.tuple #[v1,v2])/\Ok .i64 3 w' w.heap.size v1 (x1a (Pu.idx xs Pu.lowq))/\Ok .i64 3 w' w.heap.size v2 (x1a (Pu.x5h xs (Pu.idx xs Pu.x1Y)))/\Below w.heap.size w w'
structure Two(b B:Nat)(xv:Value)(w0:World)(l1 l2:List Nat)(v1 v2:Value)(wr:World):Prop where
 r1:Ok .i64 3 wr B v1 (x1a l1)
 r2:Ok .i64 3 wr B v2 (x1a l2)
 x:XAt wr b xv
 bel:Below w0.heap.size w0 wr
 hb:b<B
 hB:B<=wr.heap.size
 hw:w0.heap.size<=b
 ap:∀g,v1.ownBlock=some g->v2.ownBlock≠some g
theorem Two.left{b B xv w0 l1 l2}{v1 v2 v' wr w' o}{k:Nat}(h:Two b B xv w0 l1 l2 v1 v2 wr)(N:Ok .i64 3 w' B v' (x1a l1++[(k:Int)]))(C:(wr.alloc o).grownBy w' v1.ownBlock)
  (j:∀g,v'.ownBlock=some g->v1.ownBlock=some g\/wr.heap.size<=g):Two b B xv w0 (l1++[k]) l2 v' v2 w':=by
 have L:=x0u wr o;have Z:=fun g H=>h.r1.row.lt g H;have D:=fun g H=>h.r2.row.lt g H
 have y:v2.ownBlock=none\/v2.ownBlock≠v1.ownBlock:=by
  cases d:v2.ownBlock with
  | none=>exact U3B
  | some g=>exact .inr (fun H=>h.ap g H.symm d)
 refine⟨by rw[x8I];exact N,x3d (x6j h.r2 o) C y,(h.x.alloc o).grown C (fun H=>by have:=(Z _ H).1;have:=h.hb;exact f6J),(h.bel.alloc W2J o).grown C W2J (fun g H=>by have:=(Z g H).1;have:=h.hb;have:=h.hw;exact f6J),h.hb,T7P,h.hw,fun g H d=>?_⟩;rcases j g H with h3 | h3
 ·exact h.ap g h3 d
 ·have:=(D g d).2;omega
theorem Two.right{b B xv w0 l1 l2}{v1 v2 v' wr w' o}{k:Nat}(h:Two b B xv w0 l1 l2 v1 v2 wr)(N:Ok .i64 3 w' B v' (x1a l2++[(k:Int)]))(C:(wr.alloc o).grownBy w' v2.ownBlock)
  (j:∀g,v'.ownBlock=some g->v2.ownBlock=some g\/wr.heap.size<=g):Two b B xv w0 l1 (l2++[k]) v1 v' w':=by
 have L:=x0u wr o;have Z:=fun g H=>h.r1.row.lt g H;have D:=fun g H=>h.r2.row.lt g H
 have y:v1.ownBlock=none\/v1.ownBlock≠v2.ownBlock:=by
  cases d:v1.ownBlock with
  | none=>exact U3B
  | some g=>exact .inr (fun H=>h.ap g d H.symm)
 refine⟨x3d (x6j h.r1 o) C y,by rw[x8I];exact N,(h.x.alloc o).grown C (fun H=>by have:=(D _ H).1;have:=h.hb;exact f6J),(h.bel.alloc W2J o).grown C W2J (fun g H=>by have:=(D g H).1;have:=h.hb;have:=h.hw;exact f6J),h.hb,T7P,h.hw,fun g H d=>?_⟩;rcases j g d with h3 | h3
 ·exact h.ap g H h3
 ·have:=(Z g H).2;omega
theorem y6D m(r:y7F m) v xs w(N:Sk .i32 w v xs)(S:xs.length<=100000)(hm:(Pu.idx xs Pu.x1Y).length<=m) :
  Calls prog 201 #[v] w (z5R w xs):=by
 have c:=O r;have HV:=O N;have ae:=O N.1;have HM:=O hm;obtain⟨J,M,ab,am,aq⟩:=N.shape
 have af:Hid (0<xs.length->∃b R,J=some ⟨b,R,none⟩/\∀W,Bw w W->∀i,i<xs.length->W.cell? ⟨b,R+i,none⟩=some (.int .i32 (xs.getD i 0))):=fun h0=>by
  obtain⟨b,R,t,he,_,_,F⟩:=N.place h0;rw[ab]at he;simp only[Value.slice.injEq]at he;refine⟨b,R,he.1,fun W Y i hi=>?_⟩;rw[Y.cell (x0a (F i hi))];exact F i hi
 subst ab
 have a:Two w.heap.size (w.heap.size+1) (.slice J xs.length M) w [] [] (.slice none 0 0) (.slice none 0 0) (w.alloc (.cells #[.slice J xs.length M] 36)) :=
  ⟨Ok.nil _ _ _ _,Ok.nil _ _ _ _,heap_alloc_new w _,(b0r).alloc (l0r _) _,f6J,s8O,f6J,fun g H=>by simp[Value.ownBlock]at H⟩
 obtain⟨p,ag⟩:∃p,w.alloc (.cells #[.slice J xs.length M] 36)=p:=⟨_,rfl⟩;rw[ag]at a;have L:=a.x.cell;have s:=O a;obtain⟨b,Y⟩:∃b,w.heap.size=b:=⟨_,rfl⟩;rw[Y]at L s;have X:=O Y;go_enter func201,ntmps201;go_wp2;go_loopw[2,3,4,5,8] (fun u o _ _ i wr=>∃k:Nat,i=.int .i64 k/\k<=xs.length/\Two b (b+1) (.slice J xs.length M) w (Pu.idxk xs Pu.lowq k) (Pu.idxk xs Pu.x1Y k) u o wr) (fun _ _ _ _ i _=>xs.length-(intOf i).toNat)
 case atStart=>exact⟨0,rfl,f6J,V s⟩
 case round =>
  obtain⟨k,rfl,hk,hT⟩:=hrel;by_cases E:k<xs.length
  ·obtain⟨bx,ox,B,F⟩:=V af f6J;subst B;have K:=F wr (by have e:=V X;subst e;exact hT.bel) k E;have ar:=(V ae).i32at k;have G:=Pu.y4z xs Pu.lowq k;have aj:=Pu.y4z xs Pu.x1Y k;have l:=hT.hB;have n:=O hT;by_cases T:xs.getD k 0<128
   ·have d:Pu.lowq (xs.getD k 0)=true:=d0t T;have A:Pu.x1Y (xs.getD k 0)=false:=(by unfold Pu.x1Y;rw[d];rfl);have P:=O (Pu.x4g (xs:=xs) (q:=Pu.lowq) d);have I:=O (Pu.x5y (xs:=xs) (q:=Pu.x1Y) A);generalize xs.getD k 0=z at *;go_wp2_with(at_builtin;refine x1W rfl (.tmp 15) (.tmp 17) rfl (b+1) _ (x1a (Pu.idxk xs Pu.lowq k)) k _ rfl rfl (V n).r1 rfl (fun z T=>by simp at T;subst T;exact p3E) e2m l ?_);intro Q w' Z D h3;have f:=O ((V n).left Z D h3);exact r9r
   ·have d:Pu.lowq (xs.getD k 0)=false:=d0f T;have A:Pu.x1Y (xs.getD k 0)=true:=(by unfold Pu.x1Y;rw[d];rfl);have P:=O (Pu.x5y (xs:=xs) (q:=Pu.lowq) d);have I:=O (Pu.x4g (xs:=xs) (q:=Pu.x1Y) A);generalize xs.getD k 0=z at *;go_wp2_with(at_builtin;refine x1W rfl (.tmp 19) (.tmp 21) rfl (b+1) _ (x1a (Pu.idxk xs Pu.x1Y k)) k _ rfl rfl (V n).r2 rfl (fun z T=>by simp at T;subst T;exact p3E) e2m l ?_);intro Q w' Z D h3;have f:=O ((V n).right Z D h3);exact r9r
  ·have ai:k=xs.length:=by omega
   have j:Two b (b+1) (.slice J xs.length M) w (Pu.idx xs Pu.lowq) (Pu.idx xs Pu.x1Y) u2 u3 wr:=by
    have:∀q,Pu.idxk xs q k=Pu.idx xs q:=fun q=>(by rw[ai];rfl);rw[this,this]at hT;exact hT
   have C:=O (V c xs b (b+1) (.slice J xs.length M) u3 (Pu.idx xs Pu.x1Y) w wr j.x (V HV) j.bel m0G S (V HM) (Pu.z5s xs _) (Pu.y6c xs _) j.r2 (fun H=>by have:=(j.r2.row.lt _ H).1;exact f6J));have n:=O j;go_wp2_with(go_at_call 250;refine(V C).mono ?_;rintro e w2 ⟨rfl,Z,D⟩)
   have U:Hid (z5R w xs (.returned (.tuple #[u2,u3])) w2):=by
    have hT:=V n
    have y:u2.ownBlock=none\/u2.ownBlock≠u3.ownBlock:=by
     cases d:u2.ownBlock with
     | none=>exact U3B
     | some g=>exact .inr (fun H=>hT.ap g d H.symm)
    refine⟨u2,u3,rfl,(x3d hT.r1 D y).lower m0G,Z.lower m0G,hT.bel.grown D (by have:=hT.hB;exact m0G) (fun g H=>by have:=(hT.r2.row.lt g H).1;exact m0G)⟩
   go_ret2;exact V U
namespace Pu
theorem z5Y f T j k(S:T.length<=16500)(X:1<=j)(Z:∀m,0<=T.getD m 0/\T.getD m 0<=k+1)(D:∀m,j<=m->T.getD m 0<=k) :
  ∀m,0<=(addF f T j).getD m 0/\(addF f T j).getD m 0<=k+1:=by
 induction f generalizing T j with
 | zero=>exact Z
 | succ f ih =>
  rw[addF];split
  ·rename_i hlt
   have d:=x8D X f6J;refine ih _ _ t2Y f6J (fun m=>?_) (fun m z=>?_)
   ·rw[x6g _ _ _ _ hlt];have:=Z m;have:=Z j;have:=D j (l0r _);exact G7n
   ·rw[x6g _ _ _ _ hlt,if_neg f6J];exact D m f6J
  ·exact Z
theorem Tb_of{k T}(h:∀m,0<=T.getD m 0/\T.getD m 0<=k):Tb k T:=by
 intro t U;obtain⟨i,hi,rfl⟩:=List.mem_iff_getElem.1 U;have:=h i;rw[List.getD,List.getElem?_eq_getElem hi]at this;exact this
theorem y7I{T k}(h:Tb k T)(G:0<=k)(S:T.length<=16500) p:Tb (k+1) (add T p):=by
 refine Tb_of (z5Y _ _ _ k S f6J (fun m=>?_) (fun m _=>?_))
 ·have:=h.at G m;omega
 ·exact(h.at G m).2
theorem Tb.le{k k' T}(h:Tb k T)(G:k<=k'):Tb k' T:=fun t U=>by have:=h t U;exact f6J
theorem x9d f T j n(h:∀m,0<=T.getD m 0/\T.getD m 0<=20000)(F:0<=n):0<=x1Z f T j n/\x1Z f T j n<=n+20000*f:=by
 induction f generalizing j n with
 | zero=>simp only[x1Z];omega
 | succ f ih =>
  rw[x1Z];have H:=h j;split
  ·grind
  ·omega
theorem x5r{T}(h:Tb 20000 T) p:0<=ahead T p/\ahead T p<=20000*p:=by
 have:=x9d p T p 0 (fun m=>h.at f6J m) f6J;unfold ahead;omega
def wok(xs:List Int):List Nat->List Int->Int->Int->Int->Bool
 | [],_,_,_,_=>true
 | c::r,T,p,n,i =>
  let d:=(xs.getD c 0-n)*(p+1)+ahead T c-i
  decide (0<=d)&&decide (0<=n+(i+d) / (p+1)/\n+(i+d) / (p+1)<=1114111)&&(decide (2147483647<d)||wok xs r (add T c) (p+1) (n+(i+d) / (p+1)) ((i+d)%(p+1)+1))
def dlt(xs:List Int)(c:Nat)(T:List Int)(p n i:Int):Int:=(xs.getD c 0-n)*(p+1)+ahead T c-i
theorem y0w{xs c r T}{p n i}(h:wok xs (c::r) T p n i=true):0<=dlt xs c T p n i/\(0<=n+(i+dlt xs c T p n i) / (p+1)/\n+(i+dlt xs c T p n i) / (p+1)<=1114111) /\
  (2147483647<dlt xs c T p n i\/wok xs r (add T c) (p+1) (n+(i+dlt xs c T p n i) / (p+1)) ((i+dlt xs c T p n i)%(p+1)+1)=true):=by
 simpa[wok,dlt,and_assoc]using h
theorem x6p{xs c r T}{p n i bias f out}(h:2147483647<dlt xs c T p n i):wr2 xs (c::r) T p n i bias f out=([],113):=by
 show(if 2147483647<dlt xs c T p n i then([],113)else _)=_;rw[if_pos h]
theorem x4B{xs c r T}{p n i bias f out}(h:¬2147483647<dlt xs c T p n i):wr2 xs (c::r) T p n i bias f out =
  wr2 xs r (add T c) (p+1) (n+(i+dlt xs c T p n i) / (p+1)) ((i+dlt xs c T p n i)%(p+1)+1) (adapt (dlt xs c T p n i) (p+1) f) false (out++wrNum (dlt xs c T p n i) bias):=by
 show(if 2147483647<dlt xs c T p n i then([],113)else _)=_;rw[if_neg h];rfl
end Pu
theorem y4N b p n i bias c pl f w(h:StAt w b p n i bias f)(s:0<=p/\p<=20000)(F:0<=n/\n<=1114111)(hi:0<=i/\i<=20000)(I:0<=c/\c<=1114111)(G:0<=pl/\pl<=1000000000) :
  Calls prog 203 #[.pointer (some ⟨b,0,none⟩),.int .i32 c,.int .i64 pl] w fun e w'=>e=.returned (.int .i64 ((c-n)*(p+1)+pl-i))/\∃m,w'=w.drewN m:=by
 refine(y6x b p n i bias c pl f w h s F hi I G).mono ?_;rintro e w' ⟨rfl,q⟩;refine⟨rfl,?_⟩;rcases q with rfl | rfl
 ·exact⟨0,rfl⟩
 ·exact⟨1,rfl⟩
theorem StAt.drewN{w b p n i bias f}(h:StAt w b p n i bias f) m:StAt (w.drewN m) b p n i bias f:=h
theorem TAt.drewN{w g T}(h:TAt w g T) m:TAt (w.drewN m) g T:=h
theorem TAt.grown{w w' g T row}(h:TAt w g T)(C:w.grownBy w' row)(y:row≠some g):TAt w' g T:=by
 unfold TAt at h ⊢;rw[C.block g (Array.getElem?_eq_some_iff.1 h).1 (fun H=>y H.symm)];exact h
theorem TAt.alloc{w g T}(h:TAt w g T) o:TAt (w.alloc o) g T:=by
 unfold TAt at h ⊢;exact v1L
theorem StAt.grown{w w' b p n i bias f}{row}(h:StAt w b p n i bias f)(C:w.grownBy w' row)(y:row≠some b):StAt w' b p n i bias f:=by
 unfold StAt at h ⊢;exact T9G
theorem StAt.alloc{w b p n i bias f}(h:StAt w b p n i bias f) o:StAt (w.alloc o) b p n i bias f:=by
 unfold StAt at h ⊢;exact v1L
structure Wm(w1:World)(b g:Nat)(p n i bias:Int)(f:Bool)(T out:List Int)(bv:Value)(wr:World):Prop where
 st:StAt wr b p n i bias f
 t:TAt wr g T
 ob:Ok .u8 5 wr w1.heap.size bv out
 bel:Below w1.heap.size w1 wr
 hb:w1.heap.size<=b
 hg:w1.heap.size<=g
 hbg:b≠g
 nb:bv.ownBlock≠some b
 ng:bv.ownBlock≠some g
theorem Wm.size{w1 b g p n i bias f}{T out bv wr}(h:Wm w1 b g p n i bias f T out bv wr):w1.heap.size<=wr.heap.size/\b<wr.heap.size/\g<wr.heap.size :=
 ⟨h.bel.size,(Array.getElem?_eq_some_iff.1 h.st).1,(Array.getElem?_eq_some_iff.1 h.t).1⟩
theorem Wm.drewN{w1 b g p n i bias f}{T out bv wr}(h:Wm w1 b g p n i bias f T out bv wr) m:Wm w1 b g p n i bias f T out bv (wr.drewN m) :=
 ⟨h.st.drewN m,h.t.drewN m,h.ob.below (x0i ⟨m,rfl⟩),h.bel.trans ((x0i ⟨m,rfl⟩:Bw wr _).mono h.bel.size),h.hb,h.hg,h.hbg,h.nb,h.ng⟩
theorem Wm.added{w1 b g p n i bias f}{T T' out bv wr w' e}(h:Wm w1 b g p n i bias f T out bv wr)(d:AddP wr g T' e w'):Wm w1 b g p n i bias f T' out bv w':=by
 obtain⟨_,U,M,B⟩:=d;obtain⟨A,s,C⟩:=h.size;exact⟨h.st.grown M (fun H=>h.hbg (by simpa using H.symm)),U,x3d h.ob M (.inr h.ng),h.bel.grown M A (fun k G=>by simp at G;have:=h.hg;exact f6J),h.hb,h.hg,h.hbg,h.nb,h.ng⟩
theorem Wm.stepped{w1 b g p n i bias p' n' i' bias' pl f}{T out bv wr w' e}(h:Wm w1 b g p n i bias f T out bv wr)(L:x3R wr b p' n' i' bias' pl e w'):Wm w1 b g p' n' i' bias' false T out bv w':=by
 obtain⟨_,R,M,B⟩:=L;obtain⟨A,s,C⟩:=h.size;exact⟨R,h.t.grown M (fun H=>h.hbg (by simpa using H)),x3d h.ob M (.inr h.nb),h.bel.grown M A (fun k G=>by simp at G;have:=h.hb;exact f6J),h.hb,h.hg,h.hbg,h.nb,h.ng⟩
theorem Wm.wrote{w1 b g p n i bias f}{T out out' bv bv' wr w0 w'}(h:Wm w1 b g p n i bias f T out bv wr)(R:w0=wr\/∃o,w0=wr.alloc o)(l:Ok .u8 5 w' w1.heap.size bv' out')(M:w0.grownBy w' bv.ownBlock)
  (j:∀k,bv'.ownBlock=some k->bv.ownBlock=some k\/wr.heap.size<=k):Wm w1 b g p n i bias f T out' bv' w':=by
 obtain⟨A,s,C⟩:=h.size;have E:∀k,bv.ownBlock=some k->w1.heap.size<=k:=fun k G=>(h.ob.row.lt k G).1
 have B:StAt w0 b p n i bias f/\TAt w0 g T/\Bw w1 w0/\wr.heap.size<=w0.heap.size:=by
  rcases R with rfl | ⟨o,rfl⟩
  ·exact⟨h.st,h.t,h.bel,l0r _⟩
  ·exact⟨h.st.alloc o,h.t.alloc o,h.bel.alloc A o,s8O⟩
 obtain⟨L,D,S,U⟩:=B;refine⟨L.grown M h.nb,D.grown M h.ng,l,S.grown M f6J E,h.hb,h.hg,h.hbg,fun H=>?_,fun H=>?_⟩
 ·rcases j b H with h3 | h3
  ·exact h.nb h3
  ·omega
 ·rcases j g H with h3 | h3
  ·exact h.ng h3
  ·omega
theorem y8v w ad c:(convert 181 9 (.slice (some ad) 0 c)).run prog w=.ok (.string (strOfNums [])) w:=E4F
theorem Sk.conv{w v zs}(h:Sk .u8 w v zs):(convert 181 9 v).run prog w=.ok (.string (strOfNums zs)) w:=by
 rcases Nat.eq_zero_or_pos zs.length with h0 | h0
 ·obtain rfl:=List.eq_nil_of_length_eq_zero h0;obtain⟨J,M,rfl,_,_⟩:=h.shape
  cases J with
  | none=>exact t3I
  | some ad=>exact y8v w ad M
 ·exact w2R
def WrP(w:World)(r:List Int×Int)(e:Ending)(w':World):Prop:=e=.returned (.tuple #[.string (strOfNums r.1),.int .i64 r.2])/\Below w.heap.size w w'
namespace Pu
theorem z8M bias j:∀(f:Nat) (k v:Int),0<=v->v<2^j->(wrN bias f k v).length<=j+1:=by
 induction j with
 | zero =>
  intro f k v R Z;have Y:=x1n k bias;rw[x3l (by simp at Z;exact f6J)];simp
 | succ j ih =>
  intro f k v R Z;have Y:=x1n k bias;by_cases N:v<thr k bias
  ·rw[x3l N];simp
  ·cases f with
   | zero=>simp[wrN]
   | succ f =>
    rw[x6q N,List.length_cons]
    have d:(v-thr k bias) / (36-thr k bias)<2^j:=by
     apply Int.ediv_lt_of_lt_mul f6J;have D:v<2^j*2:=f6J;have s:(0:Int)<=2^j:=Int.pow_nonneg e8N
     calc v-thr k bias<2^j*2:=by omega
      _<=2^j*(36-thr k bias):=Int.mul_le_mul_of_nonneg_left f6J s
    have:=ih f (k+1) _ (Int.ediv_nonneg f6J f6J) d;omega
theorem x7P{v bias}(R:0<=v)(Z:v<=2147483647):(wrNum v bias).length<=32:=z8M bias 31 _ _ _ R f6J
end Pu
theorem y9U n:(madeCells (Value.int .i64 0).cells n)=((List.replicate n (0:Int)).map (Value.int .i64)).toArray:=by
 apply Array.toList_inj.1;refine List.ext_getElem (by simp[madeCells]) fun i Z D=>?_;simp[madeCells,Value.cells,Nat.mod_one]
theorem y6u(n:Nat) w(F:n<=16500):∃W,(Instr.makeSlice 282 (.int .i64 ((n:Int)+1)) (.int .i64 ((n:Int)+1))).run prog w=.ok (.slice (some ⟨w.heap.size,0,none⟩) (n+1) (n+1)) W/\TAt W w.heap.size (List.replicate (n+1) 0)/\W=w.alloc (.cells ((List.replicate (n+1) (0:Int)).map (Value.int .i64)).toArray 3):=by
 obtain⟨i,hi,y,Y,m⟩:=x6U;have h:=run_make (P:=prog) w 282 3 i (.int .i64 0) underlying282 hi y .i64 .i64 ((n:Int)+1) ((n:Int)+1) f6J f6J I5j f6J;rw[(f6J:((n:Int)+1).toNat=n+1),Y,Nat.mul_one,y9U]at h;exact⟨_,h,heap_alloc_new w _,rfl⟩
theorem y6s(n:Nat) w B(l:B<=w.heap.size)(F:n<=16500):∃W,(Instr.makeSlice 181 (.int .i64 0) (.int .i64 ((n:Int)+1))).run prog w=.ok (.slice (some ⟨w.heap.size,0,none⟩) 0 (n+1)) W/\Ok .u8 5 W B (.slice (some ⟨w.heap.size,0,none⟩) 0 (n+1)) []/\w.grownBy W none:=by
 obtain⟨i,hi,y,Y,m⟩:=x6S;obtain⟨W,Z,D,J⟩:=run_make_own (P:=prog) w B 181 5 i (.int .u8 0) 1 underlying181 hi y Y .i64 .i64 (n+1) I5m T7W l;exact⟨W,by rw[(f6J:((n:Int)+1)=((n+1:Nat):Int))];exact Z,Ok.of (Fit.nil _) M7N D rfl rfl,J⟩
theorem z4U{xs}{l:List Nat}{k T out}(G:k<l.length):Pu.wr1 xs (l.drop k) T out=Pu.wr1 xs (l.drop (k+1)) (Pu.add T (l.getD k 0)) (out++[xs.getD (l.getD k 0) 0]):=by
 have:l.drop k=l.getD k 0::l.drop (k+1):=(by rw[List.drop_eq_getElem_cons G,List.getD,List.getElem?_eq_getElem G];rfl);rw[this,Pu.wr1]
theorem x4b{l:List Nat}{k}(G:k<l.length):l.drop k=l.getD k 0::l.drop (k+1):=f0h
theorem x9U{l k}(G:k<l.length):(x1a l).getD k 0=((l.getD k 0:Nat):Int):=by simp[x1a,List.getD,G]
theorem x6f{l:List Nat}{k}(G:k<l.length):l.getD k 0∈l:=by grind
theorem z1X m(HS:y7F m) v xs w(hv:Sk .i32 w v xs)(hl:xs.length<=16384)(hm:(Pu.idx xs Pu.x1Y).length<=m)(cG:∀z∈xs,0<=z/\z<=1114111) ord(bC:Pu.x5h xs (Pu.idx xs Pu.x1Y)=ord)
  (cE:∀a∈ord,a<xs.length) (cV:(Pu.idx xs Pu.lowq).length+ord.length<=16384)
  (bX:Pu.wok xs ord (Pu.wr1 xs (Pu.idx xs Pu.lowq) (List.replicate (xs.length+1) 0) []).1 ((Pu.idx xs Pu.lowq).length:Int) 128 0=true) :
  Calls prog 153 #[v] w (WrP w (Pu.write xs ord)):=by
 have HP:=O (y6D m HS v xs w hv f6J hm);obtain⟨lo,aW⟩:∃lo,Pu.idx xs Pu.lowq=lo:=⟨_,rfl⟩;have aD:=Pu.z5s xs Pu.lowq
 have aG:∀a∈lo,xs.getD a 0<128:=fun a ha=>by
  rw[<- aW]at ha;have:=(List.mem_filter.1 ha).2;simpa[Pu.lowq]using this
 have hR:Pu.write xs ord=Pu.wr2 xs ord (Pu.wr1 xs lo (List.replicate (xs.length+1) 0) []).1 (lo.length:Int) 128 0 72 true ((Pu.wr1 xs lo (List.replicate (xs.length+1) 0) []).2++if lo.length=0 then[]else[45]):=by
  unfold Pu.write;rw[aW]
 have cF:∀e w',z5R w xs e w'->∃v1 v2,e=.returned (.tuple #[v1,v2])/\Sk .i64 w' v1 (x1a lo)/\Sk .i64 w' v2 (x1a ord)/\Bw w w':=by
  rintro e w' ⟨v1,v2,h1,h2,J,h4⟩;rw[aW]at h2;rw[bC]at J;exact⟨v1,v2,h1,h2.sk,J.sk,h4⟩
 rw[aW]at bX cV aD
 have bI:Hid (∀k,0<=xs.getD k 0/\xs.getD k 0<=1114111):=fun k=>by
  rcases Nat.lt_or_ge k xs.length with hk | hk
  ·rw[List.getD,List.getElem?_eq_getElem hk];exact cG _ (List.getElem_mem hk)
  ·rw[List.getD,List.getElem?_eq_none hk];exact⟨Int.le_refl 0,e8Q⟩
 generalize Pu.write xs ord=R at *;have HR:=O hR;have aM:=O bX;have ci:=O cF;have cL:=O aD;have cK:=O aG;have cf:=O cE;have HV:=O hv;obtain⟨ao,di,db,dp,dq⟩:=hv.shape;subst db;clear hv hm cG bC cE aW aD aG hR cF bX HS;go_enter func153,ntmps153;go_wp2_with fail;refine(V HP).mono ?_;intro e Q hp;obtain⟨v1,v2,rfl,bY,bZ,bM⟩:=V ci e Q hp;have cN:=O bY;have cj:=O bZ;obtain⟨a1,dj,aH,_,_⟩:=bY.shape;obtain⟨a2,dk,o,_,_⟩:=bZ.shape;rw[x0o]at aH o;subst aH;subst o;have L:=O bM;have bK:=O ((V HV).below bM);clear hp bY bZ bM ci HP HV;have cd:=fun W=>O (y0B (lo.length:Int) W);go_wp2_with fail;refine c1m (V (cd _)) fun w2 bn=>?_;clear cd;obtain⟨W3,bj⟩:∃W3,w2.alloc (.cells #[.int .i64 (lo.length:Int),.int .i64 128,.int .i64 0,.int .i64 72,.bool true] 132)=W3:=⟨_,rfl⟩;have bD:StAt W3 w2.heap.size (lo.length:Int) 128 0 72 true:=(by rw[<- bj];exact heap_alloc_new w2 _);have cY:W3.heap.size=w2.heap.size+1:=(by rw[<- bj];exact x0u _ _);have bN:Bw Q W3:=(by rw[<- bj];exact bn.alloc bn.size _);obtain⟨W4,bA,cC,bm⟩:=y6u xs.length W3 f6J;have cZ:W4.heap.size=W3.heap.size+1:=(by rw[bm];exact x0u _ _);have G:StAt W4 w2.heap.size (lo.length:Int) 128 0 72 true:=(by rw[bm];exact bD.alloc _);have cD:Bw Q W4:=(by rw[bm];exact bN.alloc bN.size _);have dh:=bn.size;obtain⟨W5,bB,cB,bp⟩:=y6s xs.length W4 Q.heap.size f6J f6J;obtain⟨b,hb⟩:∃b,w2.heap.size=b:=⟨_,rfl⟩;obtain⟨g,hg⟩:∃g,W3.heap.size=g:=⟨_,rfl⟩;obtain⟨g2,bS⟩:∃g2,W4.heap.size=g2:=⟨_,rfl⟩
 have cz:Wm Q b g (lo.length:Int) 128 0 72 true (List.replicate (xs.length+1) 0) [] (.slice (some ⟨g2,0,none⟩) 0 (xs.length+1)) W5:=by
  rw[<- hb,<- hg,<- bS];refine⟨G.grown bp (by simp),cC.grown bp (by simp),cB,cD.grown bp f6J (fun k hk=>by cases hk),f6J,f6J,f6J,?_,?_⟩
  ·exact e9Q
  ·exact e9Q
 rw[hg]at bA;rw[bS]at bB;have ce:=O cz;clear bD bN cC bm cZ G cD cB bp cz bn cY;go_wp2;go_loopw[8,10,32] (fun bv _ jj wr=>∃(k:Nat) (T out:List Int),jj=.int .i64 k/\k<=lo.length/\Wm Q b g (lo.length:Int) 128 0 72 true T out bv wr/\Pu.Tb k T/\T.length=xs.length+1/\out.length=k/\Pu.wr1 xs lo (List.replicate (xs.length+1) 0) []=Pu.wr1 xs (lo.drop k) T out) (fun _ _ jj _=>lo.length-(intOf jj).toNat)
 case atStart=>exact⟨0,_,[],rfl,f6J,V ce,fun t ht=>by rw[List.eq_of_mem_replicate ht];exact⟨Int.le_refl 0,Int.le_refl 0⟩,by simp,rfl,s4M⟩
 case round =>
  clear ce bA bB bj hb hg bS;obtain⟨k,T,out,rfl,hk,I,K,D,aX,bt⟩:=hrel;by_cases E:k<lo.length
  ·obtain⟨b1,o1,dl,aH,_,_,bw⟩:=(V cN).place (by rw[x0o];exact f6J);rw[x0o]at aH;simp only[Value.slice.injEq]at aH;obtain⟨rfl,h9,rfl⟩:=aH;clear h9
   have cI:wr.cell? ⟨b1,o1+k,none⟩=some (.int .i64 ((lo.getD k 0:Nat):Int)):=by
    have J:=bw k (by rw[x0o];exact E);rw[x9U E]at J;exact f2w
   have aU:lo.getD k 0<xs.length:=V cL _ (x6f E);have cS:=V cK _ (x6f E);have cM:=O (bt.trans (z4U E));generalize lo.getD k 0=c at *;obtain⟨bx,ox,cw,aq,_,_,F⟩:=(V bK).place f6J;simp only[Value.slice.injEq]at aq;obtain⟨rfl,h9,rfl⟩:=aq;clear h9
   have A:∀W,Bw Q W->W.cell? ⟨bx,ox+c,none⟩=some (.int .i32 (xs.getD c 0)):=fun W hb=>by
    have J:=F c aU;rw[hb.cell (x0a J)];exact J
   have cJ:=O A;have cH:=V bI c;have bF:=O (y2p g T c wr I.t (K.le f6J) f6J f6J);rw[D]at bF;have S:Hid (Pu.Tb (k+1:Nat) (Pu.add T c)):=(by have:=Pu.y7I K f6J f6J c;show Pu.Tb _ _;rwa [(f6J:((k+1:Nat):Int)=(k:Int)+1)]);have aj:Hid ((Pu.add T c).length=xs.length+1):=(Pu.x3y T c).trans D;have C:=O I;clear I K D bt bw F A;generalize Pu.add T c=T2,xs.getD c 0=z at *;go_wp2_with fail;refine(V bF).mono ?_;intro e wa aT;have bh:=(V C).added aT;have cU:=aT.1;subst cU;have de:=V cJ wa bh.bel;have da:=bh.size;have bH:=O bh;clear aT bh bF C;have dr:z%256=z:=f6J;go_wp2_with(at_builtin;refine x0L rfl (.tmp 39) (.tmp 45) rfl Q.heap.size _ out z _ rfl rfl (V bH).ob rfl (fun y hy=>t9S) f6J f6J ?_);intro v' w' h1 h2 J;have HN:=O ((V bH).wrote (.inr ⟨_,rfl⟩) h1 h2 J);have ag:Hid ((out++[z]).length=k+1):=(by show _=_;simp[aX]);clear h1 h2 J bH;go_wp2
   go_roundw
   case rel=>exact⟨k+1,T2,out++[z],g2B,f6J,V HN,V S,V aj,V ag,V cM⟩
   case measure=>exact g7W
  ·have ar:k=lo.length:=f6J;have bE:Pu.wr1 xs lo (List.replicate (xs.length+1) 0) []=(T,out):=(by rw[bt,ar,List.drop_length];rfl);rw[bE]at HR aM;have bu:Pu.Tb (lo.length:Int) T:=(by rw[<- ar];exact K);have U:=O bu;have be:=O D;clear bt bE K bu;by_cases hz:lo.length=0
   ·have aJ:=O I;have Y:Hid (out.length<=20000+40*0):=(by show _<=_;exact f6J);clear I;go_wp2
    have HQ:Hid (R=Pu.wr2 xs (ord.drop 0) T ((lo.length:Int)+((0:Nat):Int)) 128 0 72 true out):=by
     show R=_;rw[List.drop_zero,V HR,if_pos hz];simp
    clear HR;go_loopw[2,3,8,12,13,56] (fun _ _ bv _ _ jj wr=>∃(k:Nat) (T out:List Int) (n i bias:Int) (f:Bool),jj=.int .i64 k/\k<=ord.length/\Wm Q b g ((lo.length:Int)+k) n i bias f T out bv wr/\Pu.Tb ((lo.length:Int)+k) T/\T.length=xs.length+1/\(0<=n/\n<=1114111)/\(0<=i/\i<=(lo.length:Int)+k)/\(0<=bias/\bias<=468)/\out.length<=20000+40*k/\Pu.wok xs (ord.drop k) T ((lo.length:Int)+k) n i=true/\R=Pu.wr2 xs (ord.drop k) T ((lo.length:Int)+k) n i bias f out) (fun _ _ _ _ _ jj _=>ord.length-(intOf jj).toNat)
    case atStart=>exact⟨0,T,out,128,0,72,true,rfl,f6J,R5g,N7k,V be,f6J,f6J,f6J,V Y,T7F,V HQ⟩
    case round =>exact n5i
   ·have da:=I.size;have C:=O I;clear I;go_wp2_with(at_builtin;refine x0L rfl (.tmp 51) (.tmp 52) rfl Q.heap.size _ out 45 _ rfl rfl (V C).ob rfl (fun y hy=>t9S) f6J f6J ?_);intro v' w' h1 h2 J;have aJ:=O ((V C).wrote (.inr ⟨_,rfl⟩) h1 h2 J);have Y:Hid ((out++[45]).length<=20000+40*0):=(by show _<=_;exact P8U);clear h1 h2 J C;go_wp2
    have HQ:Hid (R=Pu.wr2 xs (ord.drop 0) T ((lo.length:Int)+((0:Nat):Int)) 128 0 72 true (out++[45])):=by
     show R=_;rw[List.drop_zero,V HR,if_neg hz];simp
    clear HR;go_loopw[2,3,8,12,13,56] (fun _ _ bv _ _ jj wr=>∃(k:Nat) (T out:List Int) (n i bias:Int) (f:Bool),jj=.int .i64 k/\k<=ord.length/\Wm Q b g ((lo.length:Int)+k) n i bias f T out bv wr/\Pu.Tb ((lo.length:Int)+k) T/\T.length=xs.length+1/\(0<=n/\n<=1114111)/\(0<=i/\i<=(lo.length:Int)+k)/\(0<=bias/\bias<=468)/\out.length<=20000+40*k/\Pu.wok xs (ord.drop k) T ((lo.length:Int)+k) n i=true/\R=Pu.wr2 xs (ord.drop k) T ((lo.length:Int)+k) n i bias f out) (fun _ _ _ _ _ jj _=>ord.length-(intOf jj).toNat)
    case atStart=>exact⟨0,T,(out++[45]),128,0,72,true,rfl,f6J,R5g,N7k,V be,f6J,f6J,f6J,V Y,T7F,V HQ⟩
    case round =>exact n5i
namespace Pu
def ordOf(xs:List Int):List Nat:=x5h xs (idx xs x1Y)
def encode(xs:List Int):List Int×Int:=if allb okb xs=false then([],31)else write xs (ordOf xs)
def t1Of(xs:List Int):List Int:=(wr1 xs (idx xs lowq) (List.replicate (xs.length+1) 0) []).1
def fine(xs:List Int):Prop:=(∀a∈ordOf xs,a<xs.length)/\(idx xs lowq).length+(ordOf xs).length<=16384/\wok xs (ordOf xs) (t1Of xs) ((idx xs lowq).length:Int) 128 0=true
end Pu
theorem y6H v xs w(N:Sk .i32 w v xs):Calls prog 152 #[v] w (x1A w (allb okb xs)):=by
 have H:=O (x2d v xs w N);have d:allb okb xs=decide (fbY (fun c=>!okb c) 0 xs<0):=(by rw[y8U];simp[allb]);rw[d];go_enter func152,ntmps152;go_wp2_with fail;refine(V H).mono ?_;rintro e w ⟨rfl,rfl⟩;go_wp2;go_ret;exact x1A.mk rfl
theorem x7k{xs}(h:allb okb xs=true):∀z∈xs,0<=z/\z<=1114111:=by
 intro z T;have:=List.all_eq_true.1 h z T;have D:Utf.okc z:=o0d this;rcases D with h3 | h3<;>omega
theorem x2X m(r:y7F m) v xs w(N:Sk .i32 w v xs)(S:xs.length<=16384)(z:(Pu.idx xs Pu.x1Y).length<=m)(o:allb okb xs=true->Pu.fine xs) :
  Calls prog 100 #[v] w (WrP w (Pu.encode xs)):=by
 have t:=O (y6H v xs w N);obtain⟨J,M,d,D,E⟩:=N.shape
 cases hb:allb okb xs with
 | false =>
  have U:Hid (WrP w (Pu.encode xs) (.returned (.tuple #[.string ⟨#[]⟩,.int .i64 31])) w):=by
   refine⟨?_,b0r⟩;unfold Pu.encode;rw[if_pos hb];rfl
  rw[hb]at t;subst d;go_enter func100,ntmps100;go_wp2_with(go_at_call 152;refine(V t).mono ?_;rintro e G ⟨rfl,rfl⟩;clear t);go_ret2;exact V U
 | true =>
  obtain⟨B,C,g⟩:=o hb;have W:=O (z1X m r v xs w N S z (x7k hb) (Pu.ordOf xs) rfl B C g);have j:Pu.encode xs=Pu.write xs (Pu.ordOf xs):=(by unfold Pu.encode;rw[if_neg (by rw[hb];exact M7K)]);rw[j];rw[hb]at t;subst d;generalize Pu.write xs (Pu.ordOf xs)=R at *;go_enter func100,ntmps100;go_wp2_with(go_at_call 152;refine(V t).mono ?_;rintro e G ⟨rfl,rfl⟩;clear t);refine c0m W fun T H=>?_;have U:Hid (WrP G R (.returned (.tuple #[.string (strOfNums R.1),.int .i64 R.2])) T):=⟨rfl,H⟩;go_wp2;go_ret2;exact V U
