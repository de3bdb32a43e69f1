/- Lemmas. -/
import Derived.Test.YtbmckadcjdedcaaGreatDoorK45
import Derived.Deep.AppendLies
import Derived.Deep.QuietTactic
import Derived.Laws.MakeOwn
import Derived.Deep.DeepCutAuto
import Derived.Deep.CutBlock
set_option maxHeartbeats 8000000
set_option maxRecDepth 20000
namespace Go.Proofs.YtbmckadcjdedcaaGreatDoor
open Go.Proofs.Tryz
open Go.RowKit
section
variable{p:Prop}
theorem N0G(h:p:=by rw[u];clear u;go_enter func201,ntmps201;go_wp2;go_ret;exact x0E.mk (by first| rfl | omega)):p:=h
theorem v1L(h:p:=by rw[heap_alloc_old _ _ (Array.getElem?_eq_some_iff.1 h).1];exact h):p:=h
theorem p6T(h:p:=by rw[u];clear u;go_enter func284,ntmps284;go_wp2;go_ret;exact x3W.mk (by first| rfl | omega)):p:=h
theorem m9Q(h:p:=by rw[C.block b (Array.getElem?_eq_some_iff.1 h).1 (fun Y=>F Y.symm)];exact h):p:=h
theorem m4t(h:p:=by
 clear HQ aI L ba M aL;obtain⟨k,T,out,n,i,bias,f,rfl,hk,J,K,B,hn,hi,aB,aW,Y,hR⟩:=hrel;by_cases H:k<ord.length
 ·obtain⟨b2,o2,cN,s,_,_,U⟩:=(V cg).place f8c;rw[x0I]at s;simp only[Value.slice.injEq]at s;obtain⟨rfl,h9,rfl⟩:=s;clear h9
  have ae:wr.cell? ⟨b2,o2+k,none⟩=some (.int .i64 ((ord.getD k 0:Nat):Int)):=by
   have h3:=U k (by rw[x0I];exact H);rw[x9o H]at h3;exact f1W
  have aT:ord.getD k 0<xs.length:=V ce _ (x5Y H);have F:=x4h H;generalize ord.getD k 0=c at *;obtain⟨bx,ox,ci,am,_,_,l⟩:=(V bJ).place f6J;simp only[Value.slice.injEq]at am;obtain⟨rfl,h9,rfl⟩:=am;clear h9
  have A:∀nq,(wr.drewN nq).cell? ⟨bx,ox+c,none⟩=some (.int .i32 (xs.getD c 0)):=fun nq=>by
   have h3:=l c aT;show wr.cell? _=_;exact f1W
  have E:=A 0;have cE:=V bH c;obtain⟨s1,s2,s3⟩:=J.size;have r:Pu.Tb 3000 T:=K.le f6J;have cO:=Pu.x5p r c;rw[F]at Y hR;obtain⟨bO,bU,aZ⟩:=Pu.y4i Y;have p:=fun nq=>O (x9R g T c (wr.drewN nq) (J.t.drewN nq) r f6J f6J);have ab:=fun nq=>O (y3T b ((lo.length:Int)+k) n i bias (xs.getD c 0) (Pu.ahead T c) f (wr.drewN nq) (J.st.drewN nq) f6J hn f6J f6J f6J);rw[B]at p;have aU:(xs.getD c 0-n)*((lo.length:Int)+k+1)+Pu.ahead T c-i=Pu.dlt xs c T ((lo.length:Int)+k) n i:=rfl;rw[aU]at ab;have G:=O J;have L:=O K;have u:=O hR;have Z:=O aZ;clear J K r Y hR aZ F U l aU;generalize hde:Pu.dlt xs c T ((lo.length:Int)+k) n i=d at *;have q:=O hde;clear hde;by_cases aD:2147483647<d
  ·have x:=O ((V u).trans (Pu.y4j (by rw[V q];exact aD)));have aH:=O (V G).bel;clear u Z q L G;generalize Pu.ahead T c=ah,xs.getD c 0=z at *;go_wp2;go_quiet(first| (go_at_call 244;exact Calls.quiet_of_same (V (p _)))|(go_at_call 243;exact Calls.quiet_of (V (ab _))))
   have HF:Hid (WrP w R (.returned (.tuple #[.string ⟨#[]⟩,.int .i64 113])) (wr.drewN nq)):=by
    refine⟨by rw[V x];rfl,?_⟩;exact(V Q).trans (((V aH).trans ((x0k ⟨nq,rfl⟩:Bw wr _).mono s1)).mono (V Q).size)
   clear aH x p ab;go_wp2;go_ret2;exact V HF
  ·have bT:=Pu.y1u (v:=d) (bias:=bias) bO f6J;have x:=O ((V u).trans (Pu.y4k (by rw[V q];exact aD)))
   have bI:Hid (Pu.wok xs (ord.drop (k+1)) (Pu.add T c) ((lo.length:Int)+k+1) (n+(i+d) / ((lo.length:Int)+k+1)) ((i+d)%((lo.length:Int)+k+1)+1)=true):=by
    rcases V Z with h | h
    ·exact absurd h aD
    ·exact h
   rw[V q]at x;have cT:0<=(i+d)%((lo.length:Int)+k+1):=Int.emod_nonneg _ f6J;have cU:(i+d)%((lo.length:Int)+k+1)<(lo.length:Int)+k+1:=Int.emod_lt_of_pos _ f6J;have aR:=Pu.x2U d ((lo.length:Int)+k+1) f f6J
   have o:Hid (∀nq,Calls prog 245 #[u8,.int .i64 d,.int .i64 bias] (wr.drewN nq) (GrP I.heap.size u8 (wr.drewN nq) (out++Pu.wrNum d bias))):=fun nq =>
    x2M I.heap.size u8 out d bias (wr.drewN nq) ((V G).drewN nq).ob (by show I.heap.size<=wr.heap.size;exact s1) f6J f6J aB
   have P:Hid (∀W bv,Wm I b g ((lo.length:Int)+k) n i bias f T (out++Pu.wrNum d bias) bv W->Calls prog 202 #[.pointer (some ⟨b,0,none⟩),.int .i64 d] W (x3Y W b ((lo.length:Int)+k+1) (n+(i+d) / ((lo.length:Int)+k+1)) ((i+d)%((lo.length:Int)+k+1)+1) (Pu.adapt d ((lo.length:Int)+k+1) f) ((i+d)%((lo.length:Int)+k+1)))):=fun W bv h =>
    x9H b ((lo.length:Int)+k) n i bias d f W h.st f6J f6J f6J f6J
   have ag:Hid (∀W,TAt W g T->Calls prog 242 #[.slice (some ⟨g,0,none⟩) (xs.length+1) (xs.length+1),.int .i64 c] W (AddP W g (Pu.add T c))):=fun W h=>by
    have:=y1B g T c W h ((V L).le f6J) f6J f6J;rwa [B]at this
   have aj:Hid (Pu.Tb ((lo.length:Int)+k+1) (Pu.add T c)):=Pu.y6I (V L) f6J f6J c;have S:Hid ((Pu.add T c).length=xs.length+1):=(Pu.y1C T c).trans B;clear u Z q L B;generalize hout2:out++Pu.wrNum d bias=ar at *;have ai:Hid (ar.length<=3000+40*(k+1)):=(by show _<=_;rw[<- hout2];exact P8R);clear hout2;generalize Pu.add T c=T2,Pu.adapt d ((lo.length:Int)+k+1) f=ad,n+(i+d) / ((lo.length:Int)+k+1)=n2,(i+d)%((lo.length:Int)+k+1)=pl2,Pu.ahead T c=ah,xs.getD c 0=z at *;have aK:=O fun nq=>(V G).drewN nq;have bS:=(V G).st.cells;obtain⟨_,_,_,c3,_⟩:=bS;clear G;go_wp2;go_quiet(first| (go_at_call 244;exact Calls.quiet_of_same (V (p _)))|(go_at_call 243;exact Calls.quiet_of (V (ab _))));have aM:(wr.drewN nq).cell? ⟨b,3,none⟩=some (.int .i64 bias):=c3;have ay:=O (V aK nq);have aw:=O (V o nq);have aX:(wr.drewN nq).heap.size=wr.heap.size:=rfl;clear aK o p ab c3 A E ae;obtain⟨wd,aY⟩:∃wd,wr.drewN nq=wd:=⟨_,rfl⟩;rw[aY]at aM ay aw aX ⊢;clear aY;go_wp2_with(go_at_call 245;refine(V aw).mono ?_;rintro e w3 ⟨bK,rfl,aO,aP,aQ⟩);have az:=(V ay).wrote (.inl rfl) aO aP aQ;have N:=O (V P w3 bK az);have j:=O az;clear aw ay aO aP aQ az P aM aX;go_wp2_with(go_at_call 202;refine(V N).mono ?_;intro e w4 C;have bP:=C.1;subst bP);have aA:=(V j).stepped C;have af:=O (V ag w4 aA.t);have aJ:=O aA;clear C aA j N ag;go_wp2_with(go_at_call 242;refine(V af).mono ?_;intro e w5 D;have bQ:=D.1;subst bQ);have aN:=(V aJ).added D;have bF:=O aN;clear D aN aJ af;have X:Hid ((lo.length:Int)+((k+1:Nat):Int)=(lo.length:Int)+k+1):=(by show _=_;exact f6J);go_wp2
   go_roundw
   case rel=>exact⟨k+1,T2,ar,n2,pl2+1,ad,false,g2A,f6J,by rw[V X];exact V bF,by rw[V X];exact V aj,V S,bU,f6J,aR,V ai,by rw[V X];exact V bI,by rw[V X];exact V x⟩
   case measure=>exact g7V
 ·have aq:k=ord.length:=by omega
  have x:Hid (R=(out,0)):=by
   show R=_;rw[hR,aq,List.drop_length];rfl
  have cQ:=J.ob.sk.conv;obtain⟨cL,cM,bN,_,_⟩:=J.ob.sk.shape;have HF:Hid (WrP w R (.returned (.tuple #[.string (strOfNums out),.int .i64 0])) wr):=⟨by rw[V x],(V Q).trans (J.bel.mono (V Q).size)⟩;clear J K B Y hR aq x;subst bN;generalize strOfNums out=so at *;go_wp2;go_ret2;exact V HF):p:=h
theorem W2J(h:p:=by have:=h.hB;have:=h.hb;have:=h.hw;exact f6J):p:=h
theorem V8r(h:p:=by rw[f];exact f6J):p:=h
theorem T7P(h:p:=by have:=C.size;have:=h.hB;exact f6J):p:=h
theorem s9a(h:p:=by simp at o;subst o;simp[IntKind.min,IntKind.max,IntKind.signed,IntKind.bits];exact f6J):p:=h
theorem s8A(h:p:=by
 go_wp2
 go_roundw
 case rel=>exact⟨k+1,g2A,f6J,by rw[V U,V f];exact V HN⟩
 case measure=>exact g7T):p:=h
theorem t4t(h:p:=by simp at o;subst o;exact x8v f6J):p:=h
theorem P7O(h:p:=by rw[x0s];exact f6J):p:=h
theorem v3R(h:p:=by rw[V T];exact f6J):p:=h
theorem F5H(h:p:=by rw[List.drop_zero,(f6J:(lo.length:Int)+((0:Nat):Int)=(lo.length:Int))];exact V aL):p:=h
theorem f8c(h:p:=by rw[x0I];exact f6J):p:=h
theorem v6U(h:p:=by rw[(f6J:(lo.length:Int)+((0:Nat):Int)=(lo.length:Int))];exact V aI):p:=h
theorem T5V(h:p:=by rw[(f6J:(lo.length:Int)+((0:Nat):Int)=(lo.length:Int))];exact V L):p:=h
theorem f1W(h:p:=by rw[J.bel.cell (x0a h3)];exact h3):p:=h
theorem r2q(h:p:=by simp at hy;subst hy;exact x8v f6J):p:=h
theorem e9Q(h:p:=by simp only[Value.ownBlock];intro hh;simp at hh;omega):p:=h
end
namespace Pu
def let1(d:Int):Int:=if d<26 then 97+d else 48+(d-26)
def wrN(bias:Int):Nat->Int->Int->List Int
 | 0,_,v=>[let1 v]
 | f+1,k,v=>if v<thr k bias then[let1 v]else let1 (thr k bias+(v-thr k bias)%(36-thr k bias))::wrN bias f (k+1) ((v-thr k bias) / (36-thr k bias))
def wrNum(v bias:Int):List Int:=wrN bias v.toNat 1 v
theorem x6I{d}(A:0<=d)(Z:d<=35):48<=let1 d/\let1 d<=122:=by unfold let1;exact G7q
theorem x9N{bias f k v}(h:v<thr k bias):wrN bias f k v=[let1 v]:=by cases f with
 | zero=>rfl
 | succ f=>rw[wrN,if_pos h]
theorem y4l{bias f k v}(h:¬v<thr k bias):wrN bias (f+1) k v=let1 (thr k bias+(v-thr k bias)%(36-thr k bias))::wrN bias f (k+1) ((v-thr k bias) / (36-thr k bias)):=by rw[wrN,if_neg h]
def lbi(j:Int):Int:=bits .and .i64 j (-j)
def lbOk:Nat->Bool
 | 0=>true
 | n+1=>decide (1<=lbi (n+1)/\lbi (n+1)<=n+1)&&lbOk n
theorem z2j{n j}(h:lbOk n=true)(Z:1<=j)(D:j<=n):1<=lbi j/\lbi j<=j:=by
 induction n with
 | zero=>omega
 | succ n ih =>
  simp only[lbOk,Bool.and_eq_true,decide_eq_true_eq]at h;rcases Nat.lt_or_ge n j with hj | hj
  ·grind
  ·exact ih h.2 hj
theorem y8R:lbOk 2100=true:=M3j
theorem x8d{j:Nat}(Z:1<=j)(D:j<=2100):1<=lbi j/\lbi j<=j:=z2j y8R Z D
def addF:Nat->List Int->Nat->List Int
 | 0,T,_=>T
 | f+1,T,j=>if j<T.length then addF f (T.set j (T.getD j 0+1)) (j+(lbi j).toNat)else T
def x3z:Nat->List Int->Nat->Int->Int
 | 0,_,_,n=>n
 | f+1,T,j,n=>if 0<j then x3z f T (j-(lbi j).toNat) (n+T.getD j 0)else n
def add(T:List Int)(p:Nat):List Int:=addF T.length T (p+1)
def ahead(T:List Int)(p:Nat):Int:=x3z p T p 0
theorem z1d f T j:(addF f T j).length=T.length:=by
 induction f generalizing T j with
 | zero=>rfl
 | succ f ih =>
  rw[addF];split
  ·rw[ih];simp
  ·rfl
theorem y1C T p:(add T p).length=T.length:=z1d _ _ _
def Tb(k:Int)(T:List Int):Prop:=∀t∈T,0<=t/\t<=k
theorem Tb.at{k T}(h:Tb k T)(G:0<=k) j:0<=T.getD j 0/\T.getD j 0<=k:=by
 rcases Nat.lt_or_ge j T.length with hj | hj
 ·rw[List.getD,List.getElem?_eq_getElem hj];exact h _ (List.getElem_mem hj)
 ·grind
def wr2(xs:List Int):List Nat->List Int->Int->Int->Int->Int->Bool->List Int->List Int×Int
 | [],_,_,_,_,_,_,out=>(out,0)
 | c::r,T,p,n,i,bias,first,out =>
  let d:=(xs.getD c 0-n)*(p+1)+ahead T c-i
  if 2147483647<d then([],113)else
   wr2 xs r (add T c) (p+1) (n+(i+d) / (p+1)) ((i+d)%(p+1)+1) (adapt d (p+1) first) false (out++wrNum d bias)
def wr1(xs:List Int):List Nat->List Int->List Int->List Int×List Int
 | [],T,out=>(T,out)
 | c::r,T,out=>wr1 xs r (add T c) (out++[xs.getD c 0])
def idx(xs:List Int)(q:Int->Bool):List Nat:=(List.range xs.length).filter fun k=>q (xs.getD k 0)
def lowq(c:Int):Bool:=decide (c<128)
def write(xs:List Int)(ord:List Nat):List Int×Int :=
 wr2 xs ord (wr1 xs (idx xs lowq) (List.replicate (xs.length+1) 0) []).1 ((idx xs lowq).length:Int) 128 0 72 true
  ((wr1 xs (idx xs lowq) (List.replicate (xs.length+1) 0) []).2++if(idx xs lowq).length=0 then[]else[45])
end Pu
def x3W(w:World)(z:Int)(e:Ending)(w':World):Prop:=e=.returned (.int .u8 z)/\w'=w
theorem x3W.mk{w z u}(h:u=z):x3W w z (.returned (.int .u8 u)) w:=t5o
theorem x8e d w(A:0<=d)(Z:d<=35):Calls prog 284 #[.int .i64 d] w (x3W w (Pu.let1 d)):=by
 by_cases hd:d<26
 ·have u:Pu.let1 d=97+d:=(by unfold Pu.let1;rw[if_pos hd]);exact p6T
 ·have u:Pu.let1 d=48+(d-26):=(by unfold Pu.let1;rw[if_neg hd]);exact p6T
def NumP(w:World)(z:Int)(e:Ending)(w':World):Prop:=e=.returned (.int .i64 z)/\(w'=w\/w'=w.drew)
theorem y5B b p n i bias c pl f w(h:StAt w b p n i bias f)(L:0<=p/\p<=3000)(E:0<=n/\n<=1114111)(hi:0<=i/\i<=3000)(T:0<=c/\c<=1114111)(d:0<=pl/\pl<=10000000) :
  Calls prog 243 #[.pointer (some ⟨b,0,none⟩),.int .i32 c,.int .i64 pl] w (NumP w ((c-n)*(p+1)+pl-i)):=by
 obtain⟨o,C,U,s,u,y,t,S,g,j⟩:=h.cells
 have m:(c-n)*(p+1)<=1114111*3001:=by
  calc (c-n)*(p+1)<=1114111*(p+1):=Int.mul_le_mul_of_nonneg_right f6J f6J
   _<=1114111*3001:=f6J
 have l:-(1114111*3001)<=(c-n)*(p+1):=by
  have:(n-c)*(p+1)<=1114111*3001:=by
   calc (n-c)*(p+1)<=1114111*(p+1):=Int.mul_le_mul_of_nonneg_right f6J f6J
    _<=1114111*3001:=f6J
  have e:(n-c)*(p+1)=-((c-n)*(p+1)):=(by grind);omega
 go_enter func243,ntmps243;go_wp2
 all_goals try go_region
 all_goals try go_wp2
 go_ret;exact⟨by first| rfl|(congr 2<;>omega),by first| exact .inl rfl | exact .inr rfl⟩
def TAt(w:World)(g:Nat)(T:List Int):Prop:=w.heap[g]?=some (.cells (T.map (Value.int .i64)).toArray 3 (0,0))
theorem TAt.cell{w g T}(h:TAt w g T){j}(K:j<T.length):w.cell? ⟨g,j,none⟩=some (.int .i64 (T.getD j 0)):=by
 unfold TAt at h;simp[World.cell?,h,List.getD,K]
theorem TAt.frozen{w g T}(h:TAt w g T) j:w.frozen? ⟨g,j,none⟩=false:=by
 unfold TAt at h;simp[World.frozen?,h]
theorem TAt.set{w g T}(h:TAt w g T) j z:TAt (w.setCell ⟨g,j,none⟩ (.int .i64 z)) g (T.set j z):=by
 unfold TAt at h ⊢;rw[x1o h];simp
theorem y8S{j:Nat}(Z:1<=j)(D:j<=2100):∃q:Nat,bits .and .i64 (j:Int) (-(j:Int))=(q:Int)/\q=(Pu.lbi j).toNat/\1<=q/\q<=j:=by
 have:=Pu.x8d Z D;refine⟨(Pu.lbi j).toNat,?_,rfl,f6J,f6J⟩;show Pu.lbi j=_;omega
theorem x9R g T p w(h:TAt w g T)(Q:Pu.Tb 3000 T)(S:T.length<=2050)(L:p<T.length) :
  Calls prog 244 #[.slice (some ⟨g,0,none⟩) T.length T.length,.int .i64 p] w (x0E w (Pu.ahead T p)):=by
 have B:Hid (∀j,j<T.length->w.cell? ⟨g,j,none⟩=some (.int .i64 (T.getD j 0))):=fun j K=>h.cell K;have Z:Hid (∀j,0<=T.getD j 0/\T.getD j 0<=3000):=fun j=>Q.at f6J j;have I:Pu.ahead T p=Pu.x3z p T p 0:=rfl;generalize Pu.ahead T p=r at *;have o:=O I;clear h Q I;go_enter func244,ntmps244;go_wp2;go_loop [5,6] (fun A C=>∃(f j:Nat) (n:Int),A=.int .i64 n/\C=.int .i64 j/\j<=p/\j<=f/\0<=n/\n+3000*j<=3000*p/\r=Pu.x3z f T j n) (fun _ C=>(intOf C).toNat)
 case atStart=>exact⟨p,p,0,rfl,rfl,f6J,f6J,f6J,f6J,V o⟩
 case round =>
  obtain⟨f,j,n,rfl,rfl,H,R,E,P,u⟩:=hrel;by_cases K:0<j
  ·obtain⟨f,rfl⟩:∃g,f=g+1:=⟨f-1,f6J⟩;have a:=O (u.trans (by rw[Pu.x3z,if_pos K]));have X:=V B j f6J;have N:=V Z j;obtain⟨q,F,M,W,Y⟩:=y8S (j:=j) f6J f6J;rw[<- M]at a;clear M;generalize T.getD j 0=t at *;have D:((j-q:Nat):Int)=(j:Int)-(q:Int):=f6J;have J:=O D;go_wp2;go_round
   case rel=>exact⟨f,j-q,n+t,U6t,by first| rfl|(rw[V J]) | go_num,f6J,f6J,f6J,f6J,V a⟩
   case measure=>exact g7T
  ·have G:j=0:=f6J;subst G
   have x:Hid (n=r):=by
    show n=r;rw[u]
    cases f with
    | zero=>rfl
    | succ f=>rw[Pu.x3z,if_neg f6J]
   clear u;go_wp2;go_ret;exact x0E.mk (V x)
def AddP(w:World)(g:Nat)(T:List Int)(e:Ending)(w':World):Prop:=e=.returned (.tuple #[])/\TAt w' g T/\w.grownBy w' (some g)/\w'.heap.size=w.heap.size
theorem x8S(T:List Int) j m z(K:j<T.length):(T.set j z).getD m 0=if m=j then z else T.getD m 0:=by grind
theorem y1B g T(p:Nat) w(h:TAt w g T)(Q:Pu.Tb 3000 T)(S:T.length<=2050)(hp:p<=100000) :
  Calls prog 242 #[.slice (some ⟨g,0,none⟩) T.length T.length,.int .i64 p] w (AddP w g (Pu.add T p)):=by
 have z:Hid (∀j,0<=T.getD j 0/\T.getD j 0<=3000):=fun j=>Q.at f6J j;have I:Pu.add T p=Pu.addF T.length T (p+1):=rfl;generalize Pu.add T p=r at *;have o:=O I;have n:=O h;obtain⟨L,v⟩:∃L,T.length=L:=⟨_,rfl⟩;rw[v];rw[v]at S o;have b:=O v;go_enter func242,ntmps242;go_wp2;go_loopw[4] (fun C wr=>∃(f j:Nat) (U:List Int),C=.int .i64 j/\1<=j/\j<=103000/\U.length=L/\TAt wr g U/\(∀m,0<=U.getD m 0/\U.getD m 0<=3000+j)/\L<=j+f/\r=Pu.addF f U j/\w.grownBy wr (some g)/\wr.heap.size=w.heap.size) (fun C _=>L-(intOf C).toNat)
 case atStart=>exact⟨L,p+1,T,U6t,f6J,f6J,V b,V n,fun m=>by have:=V z m;exact f6J,f6J,V o,x1O w _,rfl⟩
 case round =>
  obtain⟨f,j,U,rfl,J,A,c,B,E,hf,u,s,a⟩:=hrel;by_cases K:j<L
  ·obtain⟨f,rfl⟩:∃g,f=g+1:=⟨f-1,f6J⟩;have l:=O (u.trans (by rw[Pu.addF,if_pos f6J]));have X:=B.cell (j:=j) f6J;have y:=B.frozen j;have R:=E j;have H:=O (B.set j (U.getD j 0+1));have G:=O (x1P (j:=j) s (.int .i64 (U.getD j 0+1)));have P:Hid ((wr.setCell ⟨g,j,none⟩ (.int .i64 (U.getD j 0+1))).heap.size=w.heap.size):=f0k;have d:Hid ((U.set j (U.getD j 0+1)).length=L):=by grind
   have i:Hid (∀m,0<=(U.set j (U.getD j 0+1)).getD m 0/\(U.set j (U.getD j 0+1)).getD m 0<=3000+j+1):=fun m=>by
    rw[x8S _ _ _ _ f6J];have Z:=E m;have D:=E j;exact G7q
   obtain⟨q,F,M,W,Y⟩:=y8S (j:=j) f6J f6J;rw[<- M]at l;generalize U.set j (U.getD j 0+1)=N at *;generalize U.getD j 0=t at *;go_wp2
   go_roundw
   case rel=>exact⟨f,j+q,N,U6t,f6J,f6J,V d,V H,fun m=>by have:=V i m;exact f6J,f6J,V l,V G,V P⟩
   case measure=>exact g7T
  ·have x:Hid (AddP w g r (.returned (.tuple #[])) wr):=by
    refine⟨rfl,?_,s,a⟩;rw[u]
    cases f with
    | zero=>exact B
    | succ f=>rw[Pu.addF,if_neg f6J];exact B
   go_wp2;go_end0;exact V x
theorem x6D:∃i,prog.info? 5=some i/\i.zero=some (.int .u8 0)/\i.size=1/\i.bytes=1:=by
 have h:(prog.info? 5).map (fun i=>(i.zero,i.size,i.bytes))=some (some (.int .u8 0),1,1):=f4x
 cases hq:prog.info? 5 with
 | none=>rw[hq]at h;simp at h
 | some i=>grind
theorem x0N{w ops rest o}{a Q}(I:o.guard=none)(s x:Operand)
  (j:o.op=.call { callee:=.builtin .append,args:=#[s,x],argTypes:=#[76,76] }) B v xs c H (X:a.eval s=v) (J:a.eval x=.slice (some ⟨H,0,none⟩) 1 1)
  (N:Ok .u8 5 w B v xs) (d:H=w.heap.size) (T:Fit .u8 [c]) (S:xs.length<=10000000000) (l:B<=w.heap.size)
  (h:∀v' w',Ok .u8 5 w' B v' (xs++[c])->(w.alloc (.cells #[.int .u8 c] 5)).grownBy w' v.ownBlock->(∀g,v'.ownBlock=some g->v.ownBlock=some g\/w.heap.size<=g)->wpList prog ops Q rest (a.put o.dst v') w') :
  wpList prog ops Q (o::rest) a (w.alloc (.cells #[.int .u8 c] 5)):=by
 obtain⟨r,hi,p,i,f⟩:=x6D;subst d;refine wpList_append_lies _ I s x 76 j B 5 r (.int .u8 0) 1 1 underlying76 hi p i f rfl e8P v _ _ X (N.row.alloc _) ⟨w.heap.size,0,none⟩ 1 1 [.int .u8 c] J rfl (cell_one_new _ _ _) (x0M .u8 _) f6J T7X f6J P7O (w.heap.size+1) (x0s _ _) ?_;intro g M w' Z D h3 z;refine h _ w' (Ok.of (N.1.app T) P8P Z M7O M7O) D (fun k G=>?_);have:k=g:=U8V;subst this;rcases h3 with h3 | h3
 ·exact .inl h3
 ·exact e5w
theorem x6F:∃i,prog.info? 3=some i/\i.zero=some (.int .i64 0)/\i.size=1/\i.bytes=8:=by
 have h:(prog.info? 3).map (fun i=>(i.zero,i.size,i.bytes))=some (some (.int .i64 0),1,8):=f4x
 cases hq:prog.info? 3 with
 | none=>rw[hq]at h;simp at h
 | some i=>grind
theorem x2f{w ops rest o}{a Q}(I:o.guard=none)(s x:Operand)
  (j:o.op=.call { callee:=.builtin .append,args:=#[s,x],argTypes:=#[275,275] }) B v xs c H (X:a.eval s=v) (J:a.eval x=.slice (some ⟨H,0,none⟩) 1 1)
  (N:Ok .i64 3 w B v xs) (d:H=w.heap.size) (T:Fit .i64 [c]) (S:xs.length<=10000000000) (l:B<=w.heap.size)
  (h:∀v' w',Ok .i64 3 w' B v' (xs++[c])->(w.alloc (.cells #[.int .i64 c] 3)).grownBy w' v.ownBlock->(∀g,v'.ownBlock=some g->v.ownBlock=some g\/w.heap.size<=g)->wpList prog ops Q rest (a.put o.dst v') w') :
  wpList prog ops Q (o::rest) a (w.alloc (.cells #[.int .i64 c] 3)):=by
 obtain⟨r,hi,p,i,f⟩:=x6F;subst d;refine wpList_append_lies _ I s x 275 j B 3 r (.int .i64 0) 1 8 underlying275 hi p i f rfl e8P v _ _ X (N.row.alloc _) ⟨w.heap.size,0,none⟩ 1 1 [.int .i64 c] J rfl (cell_one_new _ _ _) (x0M .i64 _) f6J T7X f6J P7O (w.heap.size+1) (x0s _ _) ?_;intro g M w' Z D h3 z;refine h _ w' (Ok.of (N.1.app T) P8P Z M7O M7O) D (fun k G=>?_);have:k=g:=U8V;subst this;rcases h3 with h3 | h3
 ·exact .inl h3
 ·exact e5w
def GrP(B:Nat)(v:Value)(w:World)(zs:List Int)(e:Ending)(w':World):Prop :=
 ∃v',e=.returned v'/\Ok .u8 5 w' B v' zs/\w.grownBy w' v.ownBlock/\∀g,v'.ownBlock=some g->v.ownBlock=some g\/w.heap.size<=g
theorem x6B{w1 w2 P:World}{r1 r2}(h:w1.grownBy w2 r1)(k:w2.grownBy P r2)(hr:∀g,r2=some g->r1=some g\/w1.heap.size<=g):w1.grownBy P r1:=by
 refine⟨k.os.trans h.os,k.tape.trans h.tape,k.output.trans h.output,Nat.le_trans h.size k.size,fun g C F=>?_⟩;rw[k.block g (Nat.lt_of_lt_of_le C h.size) (fun Y=>?_),h.block g C F];rcases hr g Y.symm with h1 | h1
 ·exact F h1.symm
 ·omega
theorem x9I k bias w(G:0<=k/\k<=3000000000)(Q:-1000000<=bias/\bias<=1000000) :
  Calls prog 201 #[.int .i64 k,.int .i64 bias] w (x0E w (Pu.thr k bias)):=by
 by_cases Z:36*k-bias<1
 ·have u:Pu.thr k bias=1:=f0D;exact N0G
 ·by_cases D:26<36*k-bias
  ·have u:Pu.thr k bias=26:=f8v;exact N0G
  ·have u:Pu.thr k bias=36*k-bias:=n7H;exact N0G
theorem x2M B v0 zs0 val bias w(N:Ok .u8 5 w B v0 zs0)(l:B<=w.heap.size)(S:zs0.length<=100000000)(q:0<=val/\val<=2147483647)(F:0<=bias/\bias<=468) :
  Calls prog 245 #[v0,.int .i64 val,.int .i64 bias] w (GrP B v0 w (zs0++Pu.wrNum val bias)):=by
 have ay:zs0++Pu.wrNum val bias=zs0++Pu.wrN bias val.toNat 1 val:=rfl;generalize zs0++Pu.wrNum val bias=r at *;have am:=O ay;have j:=O N;have P:Hid (∀k W,0<=k/\k<=3000000000->Calls prog 201 #[.int .i64 k,.int .i64 bias] W (x0E W (Pu.thr k bias))):=fun k W h=>x9I k bias W h f6J;have I:∀W v L,Ok .u8 5 W B v L->∀g,v.ownBlock=some g->B<=g:=fun W v L h g C=>(h.row.lt g C).1;have ab:=O I;go_enter func245,ntmps245;go_wp2;go_loopw[0,1,6,7,8] (fun bv T _ Q _ wr=>∃(f k:Nat) (y:Int) (L:List Int),T=.int .i64 y/\Q=.int .i64 ((k:Int)+1)/\0<=y/\y<=f/\k+y<=2147483647/\L.length<=100000000+k/\r=L++Pu.wrN bias f ((k:Int)+1) y/\Ok .u8 5 wr B bv L/\w.grownBy wr v0.ownBlock/\B<=wr.heap.size/\w.heap.size<=wr.heap.size/\∀g,bv.ownBlock=some g->v0.ownBlock=some g\/w.heap.size<=g) (fun _ T _ _ _ _=>(intOf T).toNat)
 case atStart=>exact⟨val.toNat,0,val,zs0,rfl,rfl,q.1,f6J,f6J,f6J,V am,V j,x1O w _,l,l0r _,fun g C=>.inl C⟩
 case round =>
  obtain⟨f,k,y,L,rfl,rfl,ag,aF,az,X,u,ar,s,H,a,E⟩:=hrel;have aC:=Pu.x1R ((k:Int)+1) bias;have n:=fun W=>O (V P ((k:Int)+1) W f6J);have Z:=O ar;have K:=O s;have A:=O E;by_cases ae:y<Pu.thr ((k:Int)+1) bias
  ·have aq:=Pu.x6I (d:=y) ag f6J;have b:=fun W=>O (x8e y W ag f6J);have x:=O (u.trans (by rw[Pu.x9N ae]));generalize Pu.let1 y=c at *;go_wp2_with(first| (go_at_call 201;refine(V (n _)).mono ?_;rintro e wq ⟨rfl,rfl⟩;clear n)|(go_at_call 284;refine(V (b _)).mono ?_;rintro e wq ⟨rfl,rfl⟩;clear b)|(at_builtin;refine x0N rfl (.tmp 17) (.tmp 20) rfl B _ L c _ rfl rfl (V Z) rfl (fun z o=>t4t) f6J H ?_));intro U w2 h1 D R;have aD:∀g,u0.ownBlock=some g->B<=g:=fun g C=>V ab _ _ _ (V Z) g C
   have Y:Hid (GrP B v0 w r (.returned U) w2):=by
    refine⟨U,rfl,by rw[V x];exact h1,?_,?_⟩
    ·exact x6B (x3N (V K) (.cells #[.int .u8 c] 5)) D (V A)
    ·grind
   exact R3L
  ·have af:0<=y-Pu.thr ((k:Int)+1) bias:=f6J;have aw:0<=(y-Pu.thr ((k:Int)+1) bias) / (36-Pu.thr ((k:Int)+1) bias):=Int.ediv_nonneg af f6J;have aB:(y-Pu.thr ((k:Int)+1) bias) / (36-Pu.thr ((k:Int)+1) bias)<=y-Pu.thr ((k:Int)+1) bias:=Int.ediv_le_self _ af;have aA:0<=(y-Pu.thr ((k:Int)+1) bias)%(36-Pu.thr ((k:Int)+1) bias):=Int.emod_nonneg _ f6J;have m:(y-Pu.thr ((k:Int)+1) bias)%(36-Pu.thr ((k:Int)+1) bias)<36-Pu.thr ((k:Int)+1) bias:=Int.emod_lt_of_pos _ f6J;obtain⟨f,rfl⟩:∃g,f=g+1:=⟨f-1,f6J⟩;have x:=O (u.trans (by rw[Pu.y4l ae]));have aq:=Pu.x6I (d:=Pu.thr ((k:Int)+1) bias+(y-Pu.thr ((k:Int)+1) bias)%(36-Pu.thr ((k:Int)+1) bias)) f6J f6J;have b:=fun W=>O (x8e (Pu.thr ((k:Int)+1) bias+(y-Pu.thr ((k:Int)+1) bias)%(36-Pu.thr ((k:Int)+1) bias)) W f6J f6J);generalize Pu.let1 (Pu.thr ((k:Int)+1) bias+(y-Pu.thr ((k:Int)+1) bias)%(36-Pu.thr ((k:Int)+1) bias))=c at *;generalize Pu.thr ((k:Int)+1) bias=t at *;go_wp2_with(first| (go_at_call 201;refine(V (n _)).mono ?_;rintro e wq ⟨rfl,rfl⟩;clear n)|(go_at_call 284;refine(V (b _)).mono ?_;rintro e wq ⟨rfl,rfl⟩;clear b)|(at_builtin;refine x0N rfl (.tmp 25) (.tmp 33) rfl B _ L c _ rfl rfl (V Z) rfl (fun z o=>t4t) f6J H ?_));intro U w2 h1 D R;have M:w.grownBy w2 v0.ownBlock:=x6B (x3N (V K) (.cells #[.int .u8 c] 5)) D (V A)
   have p:∀g,U.ownBlock=some g->v0.ownBlock=some g\/w.heap.size<=g:=fun g C=>by
    rcases R g C with h4 | h4
    ·exact V A g h4
    ·exact e5w
   have i:w.heap.size<=w2.heap.size:=M.size;have Y:=O h1;have G:=O M;have aj:=O p;have J:Hid ((L++[c]).length<=100000000+(k+1)):=(by show _<=_;exact P8P);have ai:Hid (r=(L++[c])++Pu.wrN bias f (((k+1:Nat):Int)+1) ((y-t) / (36-t))):=(by grind);go_wp2
   go_roundw
   case rel=>exact⟨f,k+1,(y-t) / (36-t),L++[c],U6v,U6v,aw,f6J,f6J,V J,V ai,V Y,V G,f6J,i,V aj⟩
   case measure=>exact g7U
namespace Pu
def y1h(xs:List Int)(l:List Nat):List Nat:=l.mergeSort fun a b=>decide (xs.getD a 0<=xs.getD b 0)
theorem z0m xs{l}(h:l.length<=1):y1h xs l=l:=by
 match l,h with
 | [],_=>simp[y1h]
 | [a],_=>simp[y1h]
def x3a(c:Int):Bool:=!lowq c
end Pu
def x1Z(l:List Nat):List Int:=l.map fun(k:Nat)=>(k:Int)
theorem x0I l:(x1Z l).length=l.length:=by simp[x1Z]
def XAt(w:World)(b:Nat)(v:Value):Prop:=w.heap[b]?=some (.cells #[v] 40 (0,0))
theorem XAt.cell{w b v}(h:XAt w b v):w.cell? ⟨b,0,none⟩=some v:=by unfold XAt at h;simp[World.cell?,h]
theorem XAt.grown{w w' b v row}(h:XAt w b v)(C:w.grownBy w' row)(F:row≠some b):XAt w' b v:=by
 unfold XAt at h ⊢;exact m9Q
theorem XAt.alloc{w b v}(h:XAt w b v) o:XAt (w.alloc o) b v:=by
 unfold XAt at h ⊢;exact v1L
def z0X(m:Nat):Prop:=∀(xs:List Int) (b B:Nat) (xv v:Value) (l:List Nat) (w0 w:World),XAt w b xv->Sk .i32 w0 xv xs->Below w0.heap.size w0 w->w0.heap.size<=B->xs.length<=100000->l.length<=m->(∀a∈l,a<xs.length)->l.Pairwise (·<·)->Ok .i64 3 w B v (x1Z l)->v.ownBlock≠some b ->
 Calls prog 281 #[v,.func (.func 282) #[] #[.pointer (some ⟨b,0,none⟩)]] w fun e w'=>e=.returned (.tuple #[])/\Ok .i64 3 w' B v (x1Z (Pu.y1h xs l))/\w.grownBy w' v.ownBlock
theorem x7A ao n cap fv w(E:n<=1):Calls prog 307 #[.slice ao n cap,.int .i64 0,.int .i64 n,fv] w fun e w'=>e=.returned (.tuple #[])/\w'=w:=by
 go_enter func307,ntmps307;go_wp2;refine wp_loop_rounds 1 ?_;rw[rounds_succ];go_wp2;go_end0;exact g9S
theorem y2R ao n cap fv w(E:n<=1):Calls prog 294 #[.slice ao n cap,.int .i64 n,fv] w fun e w'=>e=.returned (.tuple #[])/\w'=w:=by
 have S:=fun W=>O (x7A ao n cap fv W E);go_enter func294,ntmps294;go_wp2;refine wp_loop_rounds 1 ?_;rw[rounds_succ];go_wp2_with(go_at_call 307;refine(V (S _)).mono ?_;rintro e G ⟨rfl,rfl⟩;clear S);refine wp_loop_rounds 1 ?_;rw[rounds_succ];go_wp2;go_end0;exact⟨rfl,rfl⟩
theorem z0l:z0X 1:=by
 intro t b B f v l a w _ _ _ _ _ S _ _ N _;obtain⟨R,M,rfl,_,_⟩:=N.sk.shape;have c:=fun W=>O (y2R R (x1Z l).length M (.func (.func 282) #[] #[.pointer (some ⟨b,0,none⟩)]) W (by rw[x0I];exact S));have Y:Hid (Ok .i64 3 w B (.slice R (x1Z l).length M) (x1Z (Pu.y1h t l))):=(by rw[Pu.z0m t S];exact N);go_enter func281,ntmps281;go_wp2_with(go_at_call 294;refine(V (c _)).mono ?_;rintro e G ⟨rfl,rfl⟩;clear c);go_end0;exact⟨rfl,V Y,x1O _ _⟩
namespace Pu
def idxk(xs:List Int)(q:Int->Bool)(k:Nat):List Nat:=(List.range k).filter fun j=>q (xs.getD j 0)
theorem x4l{xs}{q:Int->Bool}{k}(h:q (xs.getD k 0)=true):idxk xs q (k+1)=idxk xs q k++[k]:=by
 unfold idxk;rw[List.range_succ,List.filter_append];rw[List.filter_cons_of_pos (p:=fun j=>q (xs.getD j 0)) h];rfl
theorem x5w{xs}{q:Int->Bool}{k}(h:q (xs.getD k 0)=false):idxk xs q (k+1)=idxk xs q k:=by
 unfold idxk;rw[List.range_succ,List.filter_append];rw[List.filter_cons_of_neg (by rw[h];exact M7K)];simp
theorem y3H xs(q:Int->Bool) k:(idxk xs q k).length<=k:=by
 unfold idxk;have:=List.length_filter_le (fun j=>q (xs.getD j 0)) (List.range k);exact W2K
theorem z3L xs(q:Int->Bool):∀a∈idx xs q,a<xs.length:=by
 intro a H;unfold idx at H;simpa using(List.mem_filter.1 H).1
theorem y5j xs(q:Int->Bool):(idx xs q).Pairwise (·<·):=(List.pairwise_lt_range).filter _
end Pu
theorem x8h l(k:Nat):x1Z (l++[k])=x1Z l++[(k:Int)]:=by simp[x1Z]
def z4p(w:World)(xs:List Int)(e:Ending)(w':World):Prop:=∃v1 v2,e=.returned (.tuple #[v1,v2])/\Ok .i64 3 w' w.heap.size v1 (x1Z (Pu.idx xs Pu.lowq))/\Ok .i64 3 w' w.heap.size v2 (x1Z (Pu.y1h xs (Pu.idx xs Pu.x3a)))/\Below w.heap.size w w'
structure Two(b B:Nat)(xv:Value)(w0:World)(l1 l2:List Nat)(v1 v2:Value)(wr:World):Prop where
 r1:Ok .i64 3 wr B v1 (x1Z l1)
 r2:Ok .i64 3 wr B v2 (x1Z l2)
 x:XAt wr b xv
 bel:Below w0.heap.size w0 wr
 hb:b<B
 hB:B<=wr.heap.size
 hw:w0.heap.size<=b
 ap:∀g,v1.ownBlock=some g->v2.ownBlock≠some g
theorem Two.left{b B xv w0 l1 l2}{v1 v2 v' wr w' o}{k:Nat}(h:Two b B xv w0 l1 l2 v1 v2 wr)(N:Ok .i64 3 w' B v' (x1Z l1++[(k:Int)]))(C:(wr.alloc o).grownBy w' v1.ownBlock)
  (j:∀g,v'.ownBlock=some g->v1.ownBlock=some g\/wr.heap.size<=g):Two b B xv w0 (l1++[k]) l2 v' v2 w':=by
 have X:=x0s wr o;have Z:=fun g Y=>h.r1.row.lt g Y;have D:=fun g Y=>h.r2.row.lt g Y
 have F:v2.ownBlock=none\/v2.ownBlock≠v1.ownBlock:=by
  cases m:v2.ownBlock with
  | none=>exact U3z
  | some g=>exact .inr (fun Y=>h.ap g Y.symm m)
 refine⟨by rw[x8h];exact N,x3t (x6b h.r2 o) C F,(h.x.alloc o).grown C (fun Y=>by have:=(Z _ Y).1;have:=h.hb;exact f6J),(h.bel.alloc W2J o).grown C W2J (fun g Y=>by have:=(Z g Y).1;have:=h.hb;have:=h.hw;exact f6J),h.hb,T7P,h.hw,fun g Y m=>?_⟩;rcases j g Y with h3 | h3
 ·exact h.ap g h3 m
 ·have:=(D g m).2;omega
theorem Two.right{b B xv w0 l1 l2}{v1 v2 v' wr w' o}{k:Nat}(h:Two b B xv w0 l1 l2 v1 v2 wr)(N:Ok .i64 3 w' B v' (x1Z l2++[(k:Int)]))(C:(wr.alloc o).grownBy w' v2.ownBlock)
  (j:∀g,v'.ownBlock=some g->v2.ownBlock=some g\/wr.heap.size<=g):Two b B xv w0 l1 (l2++[k]) v1 v' w':=by
 have X:=x0s wr o;have Z:=fun g Y=>h.r1.row.lt g Y;have D:=fun g Y=>h.r2.row.lt g Y
 have F:v1.ownBlock=none\/v1.ownBlock≠v2.ownBlock:=by
  cases m:v1.ownBlock with
  | none=>exact U3z
  | some g=>exact .inr (fun Y=>h.ap g m Y.symm)
 refine⟨x3t (x6b h.r1 o) C F,by rw[x8h];exact N,(h.x.alloc o).grown C (fun Y=>by have:=(D _ Y).1;have:=h.hb;exact f6J),(h.bel.alloc W2J o).grown C W2J (fun g Y=>by have:=(D g Y).1;have:=h.hb;have:=h.hw;exact f6J),h.hb,T7P,h.hw,fun g Y m=>?_⟩;rcases j g m with h3 | h3
 ·exact h.ap g Y h3
 ·have:=(Z g Y).2;omega
theorem y5I m(c:z0X m) v xs w(N:Sk .i32 w v xs)(S:xs.length<=100000)(y:(Pu.idx xs Pu.x3a).length<=m) :
  Calls prog 241 #[v] w (z4p w xs):=by
 have t:=O c;have r:=O N;have B:=O N.1;have G:=O y;obtain⟨R,M,a,aj,am⟩:=N.shape
 have j:Hid (0<xs.length->∃b P,R=some ⟨b,P,none⟩/\∀W,Bw w W->∀i,i<xs.length->W.cell? ⟨b,P+i,none⟩=some (.int .i32 (xs.getD i 0))):=fun h0=>by
  obtain⟨b,P,J,d,_,_,E⟩:=N.place h0;rw[a]at d;simp only[Value.slice.injEq]at d;refine⟨b,P,d.1,fun W Q i hi=>?_⟩;rw[Q.cell (x0a (E i hi))];exact E i hi
 subst a
 have L:Two w.heap.size (w.heap.size+1) (.slice R xs.length M) w [] [] (.slice none 0 0) (.slice none 0 0) (w.alloc (.cells #[.slice R xs.length M] 40)) :=
  ⟨Ok.nil _ _ _ _,Ok.nil _ _ _ _,heap_alloc_new w _,(b0r).alloc (l0r _) _,f6J,P7O,f6J,fun g Y=>by simp[Value.ownBlock]at Y⟩
 obtain⟨W0,ae⟩:∃W0,w.alloc (.cells #[.slice R xs.length M] 40)=W0:=⟨_,rfl⟩;rw[ae]at L;have af:=L.x.cell;have A:=O L;obtain⟨b,Q⟩:∃b,w.heap.size=b:=⟨_,rfl⟩;rw[Q]at af A;have T:=O Q;go_enter func241,ntmps241;go_wp2;go_loopw[2,3,4,5,8] (fun u v2 _ _ i wr=>∃k:Nat,i=.int .i64 k/\k<=xs.length/\Two b (b+1) (.slice R xs.length M) w (Pu.idxk xs Pu.lowq k) (Pu.idxk xs Pu.x3a k) u v2 wr) (fun _ _ _ _ i _=>xs.length-(intOf i).toNat)
 case atStart=>exact⟨0,rfl,f6J,V A⟩
 case round =>
  obtain⟨k,rfl,hk,hT⟩:=hrel;by_cases H:k<xs.length
  ·obtain⟨s,ox,C,E⟩:=V j f6J;subst C;have X:=E wr (by have e:=V T;subst e;exact hT.bel) k H;have aq:=(V B).i32at k;have ag:=Pu.y3H xs Pu.lowq k;have ai:=Pu.y3H xs Pu.x3a k;have l:=hT.hB;have n:=O hT;by_cases o:xs.getD k 0<128
   ·have hq:Pu.lowq (xs.getD k 0)=true:=d0t o;have ab:Pu.x3a (xs.getD k 0)=false:=(by unfold Pu.x3a;rw[hq];rfl);have U:=O (Pu.x4l (xs:=xs) (q:=Pu.lowq) hq);have f:=O (Pu.x5w (xs:=xs) (q:=Pu.x3a) ab);generalize xs.getD k 0=z at *;go_wp2_with(at_builtin;refine x2f rfl (.tmp 15) (.tmp 17) rfl (b+1) _ (x1Z (Pu.idxk xs Pu.lowq k)) k _ rfl rfl (V n).r1 rfl (fun z o=>s9a) f8c l ?_);intro K w' Z D h3;have HN:=O ((V n).left Z D h3);exact s8A
   ·have hq:Pu.lowq (xs.getD k 0)=false:=d0f o;have ab:Pu.x3a (xs.getD k 0)=true:=(by unfold Pu.x3a;rw[hq];rfl);have U:=O (Pu.x5w (xs:=xs) (q:=Pu.lowq) hq);have f:=O (Pu.x4l (xs:=xs) (q:=Pu.x3a) ab);generalize xs.getD k 0=z at *;go_wp2_with(at_builtin;refine x2f rfl (.tmp 19) (.tmp 21) rfl (b+1) _ (x1Z (Pu.idxk xs Pu.x3a k)) k _ rfl rfl (V n).r2 rfl (fun z o=>s9a) f8c l ?_);intro K w' Z D h3;have HN:=O ((V n).right Z D h3);exact s8A
  ·have I:k=xs.length:=by omega
   have p:Two b (b+1) (.slice R xs.length M) w (Pu.idx xs Pu.lowq) (Pu.idx xs Pu.x3a) u2 u3 wr:=by
    have:∀q,Pu.idxk xs q k=Pu.idx xs q:=fun q=>(by rw[I];rfl);rw[this,this]at hT;exact hT
   have HC:=O (V t xs b (b+1) (.slice R xs.length M) u3 (Pu.idx xs Pu.x3a) w wr p.x (V r) p.bel v3R S (V G) (Pu.z3L xs _) (Pu.y5j xs _) p.r2 (fun Y=>by have:=(p.r2.row.lt _ Y).1;exact f6J));have n:=O p;go_wp2_with(go_at_call 281;refine(V HC).mono ?_;rintro e w2 ⟨rfl,Z,D⟩)
   have HF:Hid (z4p w xs (.returned (.tuple #[u2,u3])) w2):=by
    have hT:=V n
    have F:u2.ownBlock=none\/u2.ownBlock≠u3.ownBlock:=by
     cases hq:u2.ownBlock with
     | none=>exact U3z
     | some g=>exact .inr (fun Y=>hT.ap g hq Y.symm)
    refine⟨u2,u3,rfl,(x3t hT.r1 D F).lower v3R,Z.lower v3R,hT.bel.grown D (by have:=hT.hB;exact v3R) (fun g Y=>by have:=(hT.r2.row.lt g Y).1;exact v3R)⟩
   go_ret2;exact V HF
namespace Pu
theorem z4u f T j k(S:T.length<=2050)(K:1<=j)(Z:∀m,0<=T.getD m 0/\T.getD m 0<=k+1)(D:∀m,j<=m->T.getD m 0<=k) :
  ∀m,0<=(addF f T j).getD m 0/\(addF f T j).getD m 0<=k+1:=by
 induction f generalizing T j with
 | zero=>exact Z
 | succ f ih =>
  rw[addF];split
  ·rename_i hlt
   have A:=x8d K f6J;refine ih _ _ t2X f6J (fun m=>?_) (fun m y=>?_)
   ·rw[x8S _ _ _ _ hlt];have:=Z m;have:=Z j;have:=D j (l0r _);exact G7q
   ·rw[x8S _ _ _ _ hlt,if_neg f6J];exact D m f6J
  ·exact Z
theorem Tb_of{k T}(h:∀m,0<=T.getD m 0/\T.getD m 0<=k):Tb k T:=by
 intro t K;obtain⟨i,hi,rfl⟩:=List.mem_iff_getElem.1 K;have:=h i;rw[List.getD,List.getElem?_eq_getElem hi]at this;exact this
theorem y6I{T k}(h:Tb k T)(G:0<=k)(S:T.length<=2050) p:Tb (k+1) (add T p):=by
 refine Tb_of (z4u _ _ _ k S f6J (fun m=>?_) (fun m _=>?_))
 ·have:=h.at G m;omega
 ·exact(h.at G m).2
theorem Tb.le{k k' T}(h:Tb k T)(G:k<=k'):Tb k' T:=fun t K=>by have:=h t K;exact f6J
theorem x8B f T j n(h:∀m,0<=T.getD m 0/\T.getD m 0<=3000)(E:0<=n):0<=x3z f T j n/\x3z f T j n<=n+3000*f:=by
 induction f generalizing j n with
 | zero=>simp only[x3z];omega
 | succ f ih =>
  rw[x3z];have Y:=h j;split
  ·grind
  ·omega
theorem x5p{T}(h:Tb 3000 T) p:0<=ahead T p/\ahead T p<=3000*p:=by
 have:=x8B p T p 0 (fun m=>h.at f6J m) f6J;unfold ahead;omega
def wok(xs:List Int):List Nat->List Int->Int->Int->Int->Bool
 | [],_,_,_,_=>true
 | c::r,T,p,n,i =>
  let d:=(xs.getD c 0-n)*(p+1)+ahead T c-i
  decide (0<=d)&&decide (0<=n+(i+d) / (p+1)/\n+(i+d) / (p+1)<=1114111)&&(decide (2147483647<d)||wok xs r (add T c) (p+1) (n+(i+d) / (p+1)) ((i+d)%(p+1)+1))
def dlt(xs:List Int)(c:Nat)(T:List Int)(p n i:Int):Int:=(xs.getD c 0-n)*(p+1)+ahead T c-i
theorem y4i{xs c r T}{p n i}(h:wok xs (c::r) T p n i=true):0<=dlt xs c T p n i/\(0<=n+(i+dlt xs c T p n i) / (p+1)/\n+(i+dlt xs c T p n i) / (p+1)<=1114111) /\
  (2147483647<dlt xs c T p n i\/wok xs r (add T c) (p+1) (n+(i+dlt xs c T p n i) / (p+1)) ((i+dlt xs c T p n i)%(p+1)+1)=true):=by
 simpa[wok,dlt,and_assoc]using h
theorem y4j{xs c r T}{p n i bias f out}(h:2147483647<dlt xs c T p n i):wr2 xs (c::r) T p n i bias f out=([],113):=by
 show(if 2147483647<dlt xs c T p n i then([],113)else _)=_;rw[if_pos h]
theorem y4k{xs c r T}{p n i bias f out}(h:¬2147483647<dlt xs c T p n i):wr2 xs (c::r) T p n i bias f out =
  wr2 xs r (add T c) (p+1) (n+(i+dlt xs c T p n i) / (p+1)) ((i+dlt xs c T p n i)%(p+1)+1) (adapt (dlt xs c T p n i) (p+1) f) false (out++wrNum (dlt xs c T p n i) bias):=by
 show(if 2147483647<dlt xs c T p n i then([],113)else _)=_;rw[if_neg h];rfl
end Pu
theorem y3T b p n i bias c pl f w(h:StAt w b p n i bias f)(L:0<=p/\p<=3000)(E:0<=n/\n<=1114111)(hi:0<=i/\i<=3000)(T:0<=c/\c<=1114111)(d:0<=pl/\pl<=10000000) :
  Calls prog 243 #[.pointer (some ⟨b,0,none⟩),.int .i32 c,.int .i64 pl] w fun e w'=>e=.returned (.int .i64 ((c-n)*(p+1)+pl-i))/\∃m,w'=w.drewN m:=by
 refine(y5B b p n i bias c pl f w h L E hi T d).mono ?_;rintro e w' ⟨rfl,q⟩;refine⟨rfl,?_⟩;rcases q with rfl | rfl
 ·exact⟨0,rfl⟩
 ·exact⟨1,rfl⟩
theorem StAt.drewN{w b p n i bias f}(h:StAt w b p n i bias f) m:StAt (w.drewN m) b p n i bias f:=h
theorem TAt.drewN{w g T}(h:TAt w g T) m:TAt (w.drewN m) g T:=h
theorem TAt.grown{w w' g T row}(h:TAt w g T)(C:w.grownBy w' row)(F:row≠some g):TAt w' g T:=by
 unfold TAt at h ⊢;rw[C.block g (Array.getElem?_eq_some_iff.1 h).1 (fun Y=>F Y.symm)];exact h
theorem TAt.alloc{w g T}(h:TAt w g T) o:TAt (w.alloc o) g T:=by
 unfold TAt at h ⊢;exact v1L
theorem StAt.grown{w w' b p n i bias f}{row}(h:StAt w b p n i bias f)(C:w.grownBy w' row)(F:row≠some b):StAt w' b p n i bias f:=by
 unfold StAt at h ⊢;exact m9Q
theorem StAt.alloc{w b p n i bias f}(h:StAt w b p n i bias f) o:StAt (w.alloc o) b p n i bias f:=by
 unfold StAt at h ⊢;exact v1L
structure Wm(w1:World)(b g:Nat)(p n i bias:Int)(f:Bool)(T out:List Int)(bv:Value)(wr:World):Prop where
 st:StAt wr b p n i bias f
 t:TAt wr g T
 ob:Ok .u8 5 wr w1.heap.size bv out
 bel:Below w1.heap.size w1 wr
 hb:w1.heap.size<=b
 hg:w1.heap.size<=g
 hbg:b≠g
 nb:bv.ownBlock≠some b
 ng:bv.ownBlock≠some g
theorem Wm.size{w1 b g p n i bias f}{T out bv wr}(h:Wm w1 b g p n i bias f T out bv wr):w1.heap.size<=wr.heap.size/\b<wr.heap.size/\g<wr.heap.size :=
 ⟨h.bel.size,(Array.getElem?_eq_some_iff.1 h.st).1,(Array.getElem?_eq_some_iff.1 h.t).1⟩
theorem Wm.drewN{w1 b g p n i bias f}{T out bv wr}(h:Wm w1 b g p n i bias f T out bv wr) m:Wm w1 b g p n i bias f T out bv (wr.drewN m) :=
 ⟨h.st.drewN m,h.t.drewN m,h.ob.below (x0k ⟨m,rfl⟩),h.bel.trans ((x0k ⟨m,rfl⟩:Bw wr _).mono h.bel.size),h.hb,h.hg,h.hbg,h.nb,h.ng⟩
theorem Wm.added{w1 b g p n i bias f}{T T' out bv wr w' e}(h:Wm w1 b g p n i bias f T out bv wr)(H:AddP wr g T' e w'):Wm w1 b g p n i bias f T' out bv w':=by
 obtain⟨_,K,s,a⟩:=H;obtain⟨N,B,C⟩:=h.size;exact⟨h.st.grown s (fun Y=>h.hbg (by simpa using Y.symm)),K,x3t h.ob s (.inr h.ng),h.bel.grown s N (fun k G=>by simp at G;have:=h.hg;exact f6J),h.hb,h.hg,h.hbg,h.nb,h.ng⟩
theorem Wm.stepped{w1 b g p n i bias p' n' i' bias' pl f}{T out bv wr w' e}(h:Wm w1 b g p n i bias f T out bv wr)(X:x3Y wr b p' n' i' bias' pl e w'):Wm w1 b g p' n' i' bias' false T out bv w':=by
 obtain⟨_,E,s,a⟩:=X;obtain⟨N,B,C⟩:=h.size;exact⟨E,h.t.grown s (fun Y=>h.hbg (by simpa using Y)),x3t h.ob s (.inr h.nb),h.bel.grown s N (fun k G=>by simp at G;have:=h.hb;exact f6J),h.hb,h.hg,h.hbg,h.nb,h.ng⟩
theorem Wm.wrote{w1 b g p n i bias f}{T out out' bv bv' wr w0 w'}(h:Wm w1 b g p n i bias f T out bv wr)(A:w0=wr\/∃o,w0=wr.alloc o)(y:Ok .u8 5 w' w1.heap.size bv' out')(s:w0.grownBy w' bv.ownBlock)
  (j:∀k,bv'.ownBlock=some k->bv.ownBlock=some k\/wr.heap.size<=k):Wm w1 b g p n i bias f T out' bv' w':=by
 obtain⟨N,D,C⟩:=h.size;have L:∀k,bv.ownBlock=some k->w1.heap.size<=k:=fun k G=>(h.ob.row.lt k G).1
 have Z:StAt w0 b p n i bias f/\TAt w0 g T/\Bw w1 w0/\wr.heap.size<=w0.heap.size:=by
  rcases A with rfl | ⟨o,rfl⟩
  ·exact⟨h.st,h.t,h.bel,l0r _⟩
  ·exact⟨h.st.alloc o,h.t.alloc o,h.bel.alloc N o,P7O⟩
 obtain⟨B,E,J,H⟩:=Z;refine⟨B.grown s h.nb,E.grown s h.ng,y,J.grown s f6J L,h.hb,h.hg,h.hbg,fun Y=>?_,fun Y=>?_⟩
 ·rcases j b Y with h3 | h3
  ·exact h.nb h3
  ·omega
 ·rcases j g Y with h3 | h3
  ·exact h.ng h3
  ·omega
theorem y7q w ad c:(convert 76 9 (.slice (some ad) 0 c)).run prog w=.ok (.string (strOfNums [])) w:=M2E
theorem Sk.conv{w v zs}(h:Sk .u8 w v zs):(convert 76 9 v).run prog w=.ok (.string (strOfNums zs)) w:=by
 rcases Nat.eq_zero_or_pos zs.length with h0 | h0
 ·obtain rfl:=List.eq_nil_of_length_eq_zero h0;obtain⟨R,M,rfl,_,_⟩:=h.shape
  cases R with
  | none=>exact U0I
  | some ad=>exact y7q w ad M
 ·exact e6k
def WrP(w:World)(r:List Int×Int)(e:Ending)(w':World):Prop:=e=.returned (.tuple #[.string (strOfNums r.1),.int .i64 r.2])/\Below w.heap.size w w'
namespace Pu
theorem z6X bias j:∀(f:Nat) (k v:Int),0<=v->v<2^j->(wrN bias f k v).length<=j+1:=by
 induction j with
 | zero =>
  intro f k v A Z;have Q:=x1R k bias;rw[x9N (by simp at Z;exact f6J)];simp
 | succ j ih =>
  intro f k v A Z;have Q:=x1R k bias;by_cases N:v<thr k bias
  ·rw[x9N N];simp
  ·cases f with
   | zero=>simp[wrN]
   | succ f =>
    rw[y4l N,List.length_cons]
    have m:(v-thr k bias) / (36-thr k bias)<2^j:=by
     apply Int.ediv_lt_of_lt_mul f6J;have D:v<2^j*2:=f6J;have L:(0:Int)<=2^j:=Int.pow_nonneg e8N
     calc v-thr k bias<2^j*2:=by omega
      _<=2^j*(36-thr k bias):=Int.mul_le_mul_of_nonneg_left f6J L
    have:=ih f (k+1) _ (Int.ediv_nonneg f6J f6J) m;omega
theorem y1u{v bias}(A:0<=v)(Z:v<=2147483647):(wrNum v bias).length<=32:=z6X bias 31 _ _ _ A f6J
end Pu
theorem y8W n:(madeCells (Value.int .i64 0).cells n)=((List.replicate n (0:Int)).map (Value.int .i64)).toArray:=by
 apply Array.toList_inj.1;refine List.ext_getElem (by simp[madeCells]) fun i Z D=>?_;simp[madeCells,Value.cells,Nat.mod_one]
theorem y5y(n:Nat) w(E:n<=2050):∃W,(Instr.makeSlice 320 (.int .i64 ((n:Int)+1)) (.int .i64 ((n:Int)+1))).run prog w=.ok (.slice (some ⟨w.heap.size,0,none⟩) (n+1) (n+1)) W/\TAt W w.heap.size (List.replicate (n+1) 0)/\W=w.alloc (.cells ((List.replicate (n+1) (0:Int)).map (Value.int .i64)).toArray 3):=by
 obtain⟨r,hi,p,i,f⟩:=x6F;have h:=run_make (P:=prog) w 320 3 r (.int .i64 0) underlying320 hi p .i64 .i64 ((n:Int)+1) ((n:Int)+1) f6J f6J V8r f6J;rw[(f6J:((n:Int)+1).toNat=n+1),i,Nat.mul_one,y8W]at h;exact⟨_,h,heap_alloc_new w _,rfl⟩
theorem y5w(n:Nat) w B(l:B<=w.heap.size)(E:n<=2050):∃W,(Instr.makeSlice 76 (.int .i64 0) (.int .i64 ((n:Int)+1))).run prog w=.ok (.slice (some ⟨w.heap.size,0,none⟩) 0 (n+1)) W/\Ok .u8 5 W B (.slice (some ⟨w.heap.size,0,none⟩) 0 (n+1)) []/\w.grownBy W none:=by
 obtain⟨r,hi,p,i,f⟩:=x6D;obtain⟨W,Z,D,R⟩:=run_make_own (P:=prog) w B 76 5 r (.int .u8 0) 1 underlying76 hi p i .i64 .i64 (n+1) V8s T7W l;exact⟨W,by rw[(f6J:((n:Int)+1)=((n+1:Nat):Int))];exact Z,Ok.of (Fit.nil _) M7M D rfl rfl,R⟩
theorem z3r{xs}{l:List Nat}{k T out}(G:k<l.length):Pu.wr1 xs (l.drop k) T out=Pu.wr1 xs (l.drop (k+1)) (Pu.add T (l.getD k 0)) (out++[xs.getD (l.getD k 0) 0]):=by
 have:l.drop k=l.getD k 0::l.drop (k+1):=(by rw[List.drop_eq_getElem_cons G,List.getD,List.getElem?_eq_getElem G];rfl);rw[this,Pu.wr1]
theorem x4h{l:List Nat}{k}(G:k<l.length):l.drop k=l.getD k 0::l.drop (k+1):=f0h
theorem x9o{l k}(G:k<l.length):(x1Z l).getD k 0=((l.getD k 0:Nat):Int):=by simp[x1Z,List.getD,G]
theorem x5Y{l:List Nat}{k}(G:k<l.length):l.getD k 0∈l:=by grind
theorem z0Q m(HS:z0X m) v xs w(hv:Sk .i32 w v xs)(hl:xs.length<=2000)(hm:(Pu.idx xs Pu.x3a).length<=m)(cD:∀z∈xs,0<=z/\z<=1114111) ord(bB:Pu.y1h xs (Pu.idx xs Pu.x3a)=ord)
  (cB:∀a∈ord,a<xs.length) (cS:(Pu.idx xs Pu.lowq).length+ord.length<=2000)
  (bV:Pu.wok xs ord (Pu.wr1 xs (Pu.idx xs Pu.lowq) (List.replicate (xs.length+1) 0) []).1 ((Pu.idx xs Pu.lowq).length:Int) 128 0=true) :
  Calls prog 191 #[v] w (WrP w (Pu.write xs ord)):=by
 have HP:=O (y5I m HS v xs w hv f6J hm);obtain⟨lo,aV⟩:∃lo,Pu.idx xs Pu.lowq=lo:=⟨_,rfl⟩;have aC:=Pu.z3L xs Pu.lowq
 have aF:∀a∈lo,xs.getD a 0<128:=fun a ha=>by
  rw[<- aV]at ha;have:=(List.mem_filter.1 ha).2;simpa[Pu.lowq]using this
 have hR:Pu.write xs ord=Pu.wr2 xs ord (Pu.wr1 xs lo (List.replicate (xs.length+1) 0) []).1 (lo.length:Int) 128 0 72 true ((Pu.wr1 xs lo (List.replicate (xs.length+1) 0) []).2++if lo.length=0 then[]else[45]):=by
  unfold Pu.write;rw[aV]
 have cC:∀e w',z4p w xs e w'->∃v1 v2,e=.returned (.tuple #[v1,v2])/\Sk .i64 w' v1 (x1Z lo)/\Sk .i64 w' v2 (x1Z ord)/\Bw w w':=by
  rintro e w' ⟨v1,v2,h1,h2,h3,h4⟩;rw[aV]at h2;rw[bB]at h3;exact⟨v1,v2,h1,h2.sk,h3.sk,h4⟩
 rw[aV]at bV cS aC
 have bH:Hid (∀k,0<=xs.getD k 0/\xs.getD k 0<=1114111):=fun k=>by
  rcases Nat.lt_or_ge k xs.length with hk | hk
  ·rw[List.getD,List.getElem?_eq_getElem hk];exact cD _ (List.getElem_mem hk)
  ·rw[List.getD,List.getElem?_eq_none hk];exact⟨Int.le_refl 0,e8P⟩
 generalize Pu.write xs ord=R at *;have HR:=O hR;have aL:=O bV;have cf:=O cC;have cI:=O aC;have cH:=O aF;have ce:=O cB;have HV:=O hv;obtain⟨ao,db,cY,dj,dk⟩:=hv.shape;subst cY;clear hv hm cD bB cB aV aC aF hR cC bV HS;go_enter func191,ntmps191;go_wp2_with fail;refine(V HP).mono ?_;intro e I hp;obtain⟨v1,v2,rfl,bX,bY,bL⟩:=V cf e I hp;have cK:=O bX;have cg:=O bY;obtain⟨a1,de,aG,_,_⟩:=bX.shape;obtain⟨a2,dh,s,_,_⟩:=bY.shape;rw[x0I]at aG s;subst aG;subst s;have Q:=O bL;have bJ:=O ((V HV).below bL);clear hp bX bY bL cf HP HV;have bZ:=fun W=>O (x9T (lo.length:Int) W);go_wp2_with fail;refine c1m (V (bZ _)) fun w2 bm=>?_;clear bZ;obtain⟨W3,bh⟩:∃W3,w2.alloc (.cells #[.int .i64 (lo.length:Int),.int .i64 128,.int .i64 0,.int .i64 72,.bool true] 278)=W3:=⟨_,rfl⟩;have bC:StAt W3 w2.heap.size (lo.length:Int) 128 0 72 true:=(by rw[<- bh];exact heap_alloc_new w2 _);have cV:W3.heap.size=w2.heap.size+1:=(by rw[<- bh];exact x0s _ _);have bM:Bw I W3:=(by rw[<- bh];exact bm.alloc bm.size _);obtain⟨W4,bw,cx,bj⟩:=y5y xs.length W3 f6J;have cW:W4.heap.size=W3.heap.size+1:=(by rw[bj];exact x0s _ _);have C:StAt W4 w2.heap.size (lo.length:Int) 128 0 72 true:=(by rw[bj];exact bC.alloc _);have cz:Bw I W4:=(by rw[bj];exact bM.alloc bM.size _);have da:=bm.size;obtain⟨W5,bA,cw,bn⟩:=y5w xs.length W4 I.heap.size f6J f6J;obtain⟨b,hb⟩:∃b,w2.heap.size=b:=⟨_,rfl⟩;obtain⟨g,hg⟩:∃g,W3.heap.size=g:=⟨_,rfl⟩;obtain⟨g2,bR⟩:∃g2,W4.heap.size=g2:=⟨_,rfl⟩
 have cj:Wm I b g (lo.length:Int) 128 0 72 true (List.replicate (xs.length+1) 0) [] (.slice (some ⟨g2,0,none⟩) 0 (xs.length+1)) W5:=by
  rw[<- hb,<- hg,<- bR];refine⟨C.grown bn (by simp),cx.grown bn (by simp),cw,cz.grown bn f6J (fun k hk=>by cases hk),f6J,f6J,f6J,?_,?_⟩
  ·exact e9Q
  ·exact e9Q
 rw[hg]at bw;rw[bR]at bA;have cd:=O cj;clear bC bM cx bj cW C cz cw bn cj bm cV;go_wp2;go_loopw[8,10,32] (fun bv _ jj wr=>∃(k:Nat) (T out:List Int),jj=.int .i64 k/\k<=lo.length/\Wm I b g (lo.length:Int) 128 0 72 true T out bv wr/\Pu.Tb k T/\T.length=xs.length+1/\out.length=k/\Pu.wr1 xs lo (List.replicate (xs.length+1) 0) []=Pu.wr1 xs (lo.drop k) T out) (fun _ _ jj _=>lo.length-(intOf jj).toNat)
 case atStart=>exact⟨0,_,[],rfl,f6J,V cd,fun t ht=>by rw[List.eq_of_mem_replicate ht];exact⟨Int.le_refl 0,Int.le_refl 0⟩,by simp,rfl,s4M⟩
 case round =>
  clear cd bw bA bh hb hg bR;obtain⟨k,T,out,rfl,hk,J,K,B,aW,bp⟩:=hrel;by_cases H:k<lo.length
  ·obtain⟨b1,o1,di,aG,_,_,bu⟩:=(V cK).place (by rw[x0I];exact f6J);rw[x0I]at aG;simp only[Value.slice.injEq]at aG;obtain⟨rfl,h9,rfl⟩:=aG;clear h9
   have cF:wr.cell? ⟨b1,o1+k,none⟩=some (.int .i64 ((lo.getD k 0:Nat):Int)):=by
    have h3:=bu k (by rw[x0I];exact H);rw[x9o H]at h3;exact f1W
   have aT:lo.getD k 0<xs.length:=V cI _ (x5Y H);have cP:=V cH _ (x5Y H);have cJ:=O (bp.trans (z3r H));generalize lo.getD k 0=c at *;obtain⟨bx,ox,ci,am,_,_,l⟩:=(V bJ).place f6J;simp only[Value.slice.injEq]at am;obtain⟨rfl,h9,rfl⟩:=am;clear h9
   have A:∀W,Bw I W->W.cell? ⟨bx,ox+c,none⟩=some (.int .i32 (xs.getD c 0)):=fun W hb=>by
    have h3:=l c aT;rw[hb.cell (x0a h3)];exact h3
   have cG:=O A;have cE:=V bH c;have bE:=O (y1B g T c wr J.t (K.le f6J) f6J f6J);rw[B]at bE;have aj:Hid (Pu.Tb (k+1:Nat) (Pu.add T c)):=(by have:=Pu.y6I K f6J f6J c;show Pu.Tb _ _;rwa [(f6J:((k+1:Nat):Int)=(k:Int)+1)]);have S:Hid ((Pu.add T c).length=xs.length+1):=(Pu.y1C T c).trans B;have G:=O J;clear J K B bp bu l A;generalize Pu.add T c=T2,xs.getD c 0=z at *;go_wp2_with fail;refine(V bE).mono ?_;intro e wa aS;have be:=(V G).added aS;have cR:=aS.1;subst cR;have cZ:=V cG wa be.bel;have cX:=be.size;have bG:=O be;clear aS be bE G;have dl:z%256=z:=f6J;go_wp2_with(at_builtin;refine x0N rfl (.tmp 39) (.tmp 45) rfl I.heap.size _ out z _ rfl rfl (V bG).ob rfl (fun y hy=>r2q) f6J f6J ?_);intro v' w' h1 h2 h3;have HN:=O ((V bG).wrote (.inr ⟨_,rfl⟩) h1 h2 h3);have ai:Hid ((out++[z]).length=k+1):=(by show _=_;simp[aW]);clear h1 h2 h3 bG;go_wp2
   go_roundw
   case rel=>exact⟨k+1,T2,out++[z],g2A,f6J,V HN,V aj,V S,V ai,V cJ⟩
   case measure=>exact g7W
  ·have aq:k=lo.length:=f6J;have bD:Pu.wr1 xs lo (List.replicate (xs.length+1) 0) []=(T,out):=(by rw[bp,aq,List.drop_length];rfl);rw[bD]at HR aL;have bt:Pu.Tb (lo.length:Int) T:=(by rw[<- aq];exact K);have L:=O bt;have ba:=O B;clear bp bD K bt;by_cases hz:lo.length=0
   ·have aI:=O J;have M:Hid (out.length<=3000+40*0):=(by show _<=_;exact f6J);clear J;go_wp2
    have HQ:Hid (R=Pu.wr2 xs (ord.drop 0) T ((lo.length:Int)+((0:Nat):Int)) 128 0 72 true out):=by
     show R=_;rw[List.drop_zero,V HR,if_pos hz];simp
    clear HR;go_loopw[2,3,8,12,13,56] (fun _ _ bv _ _ jj wr=>∃(k:Nat) (T out:List Int) (n i bias:Int) (f:Bool),jj=.int .i64 k/\k<=ord.length/\Wm I b g ((lo.length:Int)+k) n i bias f T out bv wr/\Pu.Tb ((lo.length:Int)+k) T/\T.length=xs.length+1/\(0<=n/\n<=1114111)/\(0<=i/\i<=(lo.length:Int)+k)/\(0<=bias/\bias<=468)/\out.length<=3000+40*k/\Pu.wok xs (ord.drop k) T ((lo.length:Int)+k) n i=true/\R=Pu.wr2 xs (ord.drop k) T ((lo.length:Int)+k) n i bias f out) (fun _ _ _ _ _ jj _=>ord.length-(intOf jj).toNat)
    case atStart=>exact⟨0,T,out,128,0,72,true,rfl,f6J,v6U,T5V,V ba,f6J,f6J,f6J,V M,F5H,V HQ⟩
    case round =>exact m4t
   ·have cX:=J.size;have G:=O J;clear J;go_wp2_with(at_builtin;refine x0N rfl (.tmp 51) (.tmp 52) rfl I.heap.size _ out 45 _ rfl rfl (V G).ob rfl (fun y hy=>r2q) f6J f6J ?_);intro v' w' h1 h2 h3;have aI:=O ((V G).wrote (.inr ⟨_,rfl⟩) h1 h2 h3);have M:Hid ((out++[45]).length<=3000+40*0):=(by show _<=_;exact P8R);clear h1 h2 h3 G;go_wp2
    have HQ:Hid (R=Pu.wr2 xs (ord.drop 0) T ((lo.length:Int)+((0:Nat):Int)) 128 0 72 true (out++[45])):=by
     show R=_;rw[List.drop_zero,V HR,if_neg hz];simp
    clear HR;go_loopw[2,3,8,12,13,56] (fun _ _ bv _ _ jj wr=>∃(k:Nat) (T out:List Int) (n i bias:Int) (f:Bool),jj=.int .i64 k/\k<=ord.length/\Wm I b g ((lo.length:Int)+k) n i bias f T out bv wr/\Pu.Tb ((lo.length:Int)+k) T/\T.length=xs.length+1/\(0<=n/\n<=1114111)/\(0<=i/\i<=(lo.length:Int)+k)/\(0<=bias/\bias<=468)/\out.length<=3000+40*k/\Pu.wok xs (ord.drop k) T ((lo.length:Int)+k) n i=true/\R=Pu.wr2 xs (ord.drop k) T ((lo.length:Int)+k) n i bias f out) (fun _ _ _ _ _ jj _=>ord.length-(intOf jj).toNat)
    case atStart=>exact⟨0,T,(out++[45]),128,0,72,true,rfl,f6J,v6U,T5V,V ba,f6J,f6J,f6J,V M,F5H,V HQ⟩
    case round =>exact m4t
namespace Pu
def ordOf(xs:List Int):List Nat:=y1h xs (idx xs x3a)
def encode(xs:List Int):List Int×Int:=if allb okb xs=false then([],31)else write xs (ordOf xs)
def t1Of(xs:List Int):List Int:=(wr1 xs (idx xs lowq) (List.replicate (xs.length+1) 0) []).1
def fine(xs:List Int):Prop:=(∀a∈ordOf xs,a<xs.length)/\(idx xs lowq).length+(ordOf xs).length<=2000/\wok xs (ordOf xs) (t1Of xs) ((idx xs lowq).length:Int) 128 0=true
end Pu
theorem y5L v xs w(N:Sk .i32 w v xs):Calls prog 190 #[v] w (x2t w (allb okb xs)):=by
 have H:=O (x2k v xs w N);have m:allb okb xs=decide (fbY (fun c=>!okb c) 0 xs<0):=(by rw[y7Z];simp[allb]);rw[m];go_enter func190,ntmps190;go_wp2_with fail;refine(V H).mono ?_;rintro e w ⟨rfl,rfl⟩;go_wp2;go_ret;exact x2t.mk rfl
theorem y9p{xs}(h:allb okb xs=true):∀z∈xs,0<=z/\z<=1114111:=by
 intro z o;have:=List.all_eq_true.1 h z o;have D:Utf.okc z:=o0d this;rcases D with h3 | h3<;>omega
theorem x4P m(c:z0X m) v xs w(N:Sk .i32 w v xs)(C:xs.length<=2000)(y:(Pu.idx xs Pu.x3a).length<=m)(U:allb okb xs=true->Pu.fine xs) :
  Calls prog 142 #[v] w (WrP w (Pu.encode xs)):=by
 have P:=O (y5L v xs w N);obtain⟨D,M,a,q,B⟩:=N.shape
 cases hb:allb okb xs with
 | false =>
  have Y:Hid (WrP w (Pu.encode xs) (.returned (.tuple #[.string ⟨#[]⟩,.int .i64 31])) w):=by
   refine⟨?_,b0r⟩;unfold Pu.encode;rw[if_pos hb];rfl
  rw[hb]at P;subst a;go_enter func142,ntmps142;go_wp2_with(go_at_call 190;refine(V P).mono ?_;rintro e G ⟨rfl,rfl⟩;clear P);go_ret2;exact V Y
 | true =>
  obtain⟨t,S,g⟩:=U hb;have Q:=O (z0Q m c v xs w N C y (y9p hb) (Pu.ordOf xs) rfl t S g);have H:Pu.encode xs=Pu.write xs (Pu.ordOf xs):=(by unfold Pu.encode;rw[if_neg (by rw[hb];exact M7K)]);rw[H];rw[hb]at P;subst a;generalize Pu.write xs (Pu.ordOf xs)=R at *;go_enter func142,ntmps142;go_wp2_with(go_at_call 190;refine(V P).mono ?_;rintro e G ⟨rfl,rfl⟩;clear P);refine c0m Q fun d F=>?_;have Y:Hid (WrP G R (.returned (.tuple #[.string (strOfNums R.1),.int .i64 R.2])) d):=⟨rfl,F⟩;go_wp2;go_ret2;exact V Y
