import Derived.Test.YtbmckadcjdedcaaGreatDoorF45
import Derived.Deep.AppendLies
import Derived.Deep.QuietTactic
import Derived.Laws.MakeOwn
import Derived.Deep.DeepCutAuto
import Derived.Deep.CutBlock
set_option maxHeartbeats 8000000
set_option maxRecDepth 20000
namespace Go.Proofs.YtbmckadcjdedcaaGreatDoor
open Go.Proofs.Tryz
open Go.RowKit
section
variable{p:Prop}
theorem V1M(h:p:=by rw[u];clear u;go_enter func201,ntmps201;go_wp2;go_ret;exact x0C.mk (by first| rfl | omega)):p:=h
theorem v1L(h:p:=by rw[heap_alloc_old _ _ (Array.getElem?_eq_some_iff.1 h).1];exact h):p:=h
theorem u7a(h:p:=by rw[u];clear u;go_enter func284,ntmps284;go_wp2;go_ret;exact x3Z.mk (by first| rfl | omega)):p:=h
theorem F6S(h:p:=by rw[C.block b (Array.getElem?_eq_some_iff.1 h).1 (fun a=>F a.symm)];exact h):p:=h
theorem E9C(h:p:=by
 clear HQ aI j aZ N D;obtain⟨k,T,out,n,i,bias,f,rfl,hk,C,S,E,hn,hi,aA,aV,o,hR⟩:=hrel;by_cases H:k<ord.length
 ·obtain⟨b2,o2,cM,I,_,_,r⟩:=(V cf).place v2G;rw[x0F]at I;simp only[Value.slice.injEq]at I;obtain⟨rfl,h9,rfl⟩:=I;clear h9
  have M:wr.cell? ⟨b2,o2+k,none⟩=some (.int .i64 ((ord.getD k 0:Nat):Int)):=by
   have h3:=r k (by rw[x0F];exact H);rw[x9u H]at h3;exact i7F
  have aS:ord.getD k 0<xs.length:=V cd _ (x5V H);have ae:=x4h H;generalize ord.getD k 0=c at *;obtain⟨bx,ox,cg,aq,_,_,Z⟩:=(V bI).place f6J;simp only[Value.slice.injEq]at aq;obtain⟨rfl,h9,rfl⟩:=aq;clear h9
  have A:∀nq,(wr.drewN nq).cell? ⟨bx,ox+c,none⟩=some (.int .i32 (xs.getD c 0)):=fun nq=>by
   have h3:=Z c aS;show wr.cell? _=_;exact i7F
  have B:=A 0;have cD:=V bG c;obtain⟨s1,s2,s3⟩:=C.size;have az:Pu.Tb 3000 T:=S.le f6J;have cN:=Pu.x5l az c;rw[ae]at o hR;obtain⟨bN,bT,aY⟩:=Pu.y4u o;have p:=fun nq=>O (x9Z g T c (wr.drewN nq) (C.t.drewN nq) az f6J f6J);have x:=fun nq=>O (y4d b ((lo.length:Int)+k) n i bias (xs.getD c 0) (Pu.ahead T c) f (wr.drewN nq) (C.st.drewN nq) f6J hn f6J f6J f6J);rw[E]at p;have aT:(xs.getD c 0-n)*((lo.length:Int)+k+1)+Pu.ahead T c-i=Pu.dlt xs c T ((lo.length:Int)+k) n i:=rfl;rw[aT]at x;have G:=O C;have j:=O S;have X:=O hR;have aw:=O aY;clear C S az o hR aY ae r Z aT;generalize hde:Pu.dlt xs c T ((lo.length:Int)+k) n i=d at *;have q:=O hde;clear hde;by_cases aC:2147483647<d
  ·have HE:=O ((V X).trans (Pu.y4v (by rw[V q];exact aC)));have aH:=O (V G).bel;clear X aw q j G;generalize Pu.ahead T c=ah,xs.getD c 0=z at *;go_wp2;go_quiet(first| (go_at_call 244;exact Calls.quiet_of_same (V (p _)))|(go_at_call 243;exact Calls.quiet_of (V (x _))))
   have HF:Hid (WrP w R (.returned (.tuple #[.string ⟨#[]⟩,.int .i64 113])) (wr.drewN nq)):=by
    refine⟨by rw[V HE];rfl,?_⟩;exact(V U).trans (((V aH).trans ((x0k ⟨nq,rfl⟩:Bw wr _).mono s1)).mono (V U).size)
   clear aH HE p x;go_wp2;go_ret2;exact V HF
  ·have bS:=Pu.y1E (v:=d) (bias:=bias) bN f6J;have HE:=O ((V X).trans (Pu.y4w (by rw[V q];exact aC)))
   have bH:Hid (Pu.wok xs (ord.drop (k+1)) (Pu.add T c) ((lo.length:Int)+k+1) (n+(i+d) / ((lo.length:Int)+k+1)) ((i+d)%((lo.length:Int)+k+1)+1)=true):=by
    rcases V aw with h|h
    ·exact absurd h aC
    ·exact h
   rw[V q]at HE;have cS:0<=(i+d)%((lo.length:Int)+k+1):=Int.emod_nonneg _ f6J;have cT:(i+d)%((lo.length:Int)+k+1)<(lo.length:Int)+k+1:=Int.emod_lt_of_pos _ f6J;have aQ:=Pu.x2W d ((lo.length:Int)+k+1) f f6J
   have aG:Hid (∀nq,Calls prog 245 #[u8,.int .i64 d,.int .i64 bias] (wr.drewN nq) (GrP Q.heap.size u8 (wr.drewN nq) (out++Pu.wrNum d bias))):=fun nq =>
    x2O Q.heap.size u8 out d bias (wr.drewN nq) ((V G).drewN nq).ob (by show Q.heap.size<=wr.heap.size;exact s1) f6J f6J aA
   have ai:Hid (∀W bv,Wm Q b g ((lo.length:Int)+k) n i bias f T (out++Pu.wrNum d bias) bv W->Calls prog 202 #[.pointer (some ⟨b,0,none⟩),.int .i64 d] W (x4b W b ((lo.length:Int)+k+1) (n+(i+d) / ((lo.length:Int)+k+1)) ((i+d)%((lo.length:Int)+k+1)+1) (Pu.adapt d ((lo.length:Int)+k+1) f) ((i+d)%((lo.length:Int)+k+1)))):=fun W bv h =>
    x9O b ((lo.length:Int)+k) n i bias d f W h.st f6J f6J f6J f6J
   have L:Hid (∀W,TAt W g T->Calls prog 242 #[.slice (some ⟨g,0,none⟩) (xs.length+1) (xs.length+1),.int .i64 c] W (AddP W g (Pu.add T c))):=fun W h=>by
    have:=y1M g T c W h ((V j).le f6J) f6J f6J;rwa [E]at this
   have aj:Hid (Pu.Tb ((lo.length:Int)+k+1) (Pu.add T c)):=Pu.y6T (V j) f6J f6J c;have am:Hid ((Pu.add T c).length=xs.length+1):=(Pu.y1N T c).trans E;clear X aw q j E;generalize hout2:out++Pu.wrNum d bias=ar at *;have P:Hid (ar.length<=3000+40*(k+1)):=(by show _<=_;rw[<- hout2];exact P8R);clear hout2;generalize Pu.add T c=T2,Pu.adapt d ((lo.length:Int)+k+1) f=ad,n+(i+d) / ((lo.length:Int)+k+1)=n2,(i+d)%((lo.length:Int)+k+1)=pl2,Pu.ahead T c=ah,xs.getD c 0=z at *;have aK:=O fun nq=>(V G).drewN nq;have bR:=(V G).st.cells;obtain⟨_,_,_,c3,_⟩:=bR;clear G;go_wp2;go_quiet(first| (go_at_call 244;exact Calls.quiet_of_same (V (p _)))|(go_at_call 243;exact Calls.quiet_of (V (x _))));have aL:(wr.drewN nq).cell? ⟨b,3,none⟩=some (.int .i64 bias):=c3;have F:=O (V aK nq);have Y:=O (V aG nq);have aW:(wr.drewN nq).heap.size=wr.heap.size:=rfl;clear aK aG p x c3 A B M;obtain⟨wd,aX⟩:∃wd,wr.drewN nq=wd:=⟨_,rfl⟩;rw[aX]at aL F Y aW ⊢;clear aX;go_wp2_with(go_at_call 245;refine(V Y).mono ?_;rintro e w3 ⟨bJ,rfl,aN,aO,aP⟩);have ay:=(V F).wrote (.inl rfl) aN aO aP;have ag:=O (V ai w3 bJ ay);have l:=O ay;clear Y F aN aO aP ay ai aL aW;go_wp2_with(go_at_call 202;refine(V ag).mono ?_;intro e w4 J;have bO:=J.1;subst bO);have s:=(V l).stepped J;have af:=O (V L w4 s.t);have aJ:=O s;clear J s l ag L;go_wp2_with(go_at_call 242;refine(V af).mono ?_;intro e w5 ab;have bP:=ab.1;subst bP);have aM:=(V aJ).added ab;have bE:=O aM;clear ab aM aJ af;have K:Hid ((lo.length:Int)+((k+1:Nat):Int)=(lo.length:Int)+k+1):=(by show _=_;exact f6J);go_wp2
   go_roundw
   case rel=>exact⟨k+1,T2,ar,n2,pl2+1,ad,false,g2A,f6J,by rw[V K];exact V bE,by rw[V K];exact V aj,V am,bT,f6J,aQ,V P,by rw[V K];exact V bH,by rw[V K];exact V HE⟩
   case measure=>exact g7V
 ·have u:k=ord.length:=by omega
  have HE:Hid (R=(out,0)):=by
   show R=_;rw[hR,u,List.drop_length];rfl
  have cP:=C.ob.sk.conv;obtain⟨cK,cL,bM,_,_⟩:=C.ob.sk.shape;have HF:Hid (WrP w R (.returned (.tuple #[.string (strOfNums out),.int .i64 0])) wr):=⟨by rw[V HE],(V U).trans (C.bel.mono (V U).size)⟩;clear C S E o hR u HE;subst bM;generalize strOfNums out=so at *;go_wp2;go_ret2;exact V HF):p:=h
theorem W2J(h:p:=by have:=h.hB;have:=h.hb;have:=h.hw;exact f6J):p:=h
theorem n4P(h:p:=by rw[t];exact f6J):p:=h
theorem T7P(h:p:=by have:=C.size;have:=h.hB;exact f6J):p:=h
theorem s9a(h:p:=by simp at o;subst o;simp[IntKind.min,IntKind.max,IntKind.signed,IntKind.bits];exact f6J):p:=h
theorem V6F(h:p:=by simp at o;subst o;exact x8y f6J):p:=h
theorem s5h(h:p:=by rw[x0t];exact f6J):p:=h
theorem G1J(h:p:=by
 go_wp2
 go_roundw
 case rel=>exact⟨k+1,g2A,f6J,by rw[V K,V f];exact V HN⟩
 case measure=>exact g7T):p:=h
theorem v1c(h:p:=by rw[V I];exact f6J):p:=h
theorem g5A(h:p:=by rw[List.drop_zero,(f6J:(lo.length:Int)+((0:Nat):Int)=(lo.length:Int))];exact V D):p:=h
theorem v2G(h:p:=by rw[x0F];exact f6J):p:=h
theorem v6U(h:p:=by rw[(f6J:(lo.length:Int)+((0:Nat):Int)=(lo.length:Int))];exact V aI):p:=h
theorem V9M(h:p:=by rw[(f6J:(lo.length:Int)+((0:Nat):Int)=(lo.length:Int))];exact V j):p:=h
theorem i7F(h:p:=by rw[C.bel.cell (x0a h3)];exact h3):p:=h
theorem F0X(h:p:=by simp at hy;subst hy;exact x8y f6J):p:=h
theorem e9Q(h:p:=by simp only[Value.ownBlock];intro hh;simp at hh;omega):p:=h
end
namespace Pu
def let1(d:Int):Int:=if d<26 then 97+d else 48+(d-26)
def wrN(bias:Int):Nat->Int->Int->List Int
 | 0,_,v=>[let1 v]
 | f+1,k,v=>if v<thr k bias then[let1 v]else let1 (thr k bias+(v-thr k bias)%(36-thr k bias))::wrN bias f (k+1) ((v-thr k bias) / (36-thr k bias))
def wrNum(v bias:Int):List Int:=wrN bias v.toNat 1 v
theorem x6H{d}(A:0<=d)(Z:d<=35):48<=let1 d/\let1 d<=122:=by unfold let1;exact G7o
theorem x9V{bias f k v}(h:v<thr k bias):wrN bias f k v=[let1 v]:=by cases f with
 | zero=>rfl
 | succ f=>rw[wrN,if_pos h]
theorem y4x{bias f k v}(h:¬v<thr k bias):wrN bias (f+1) k v=let1 (thr k bias+(v-thr k bias)%(36-thr k bias))::wrN bias f (k+1) ((v-thr k bias) / (36-thr k bias)):=by rw[wrN,if_neg h]
def lbi(j:Int):Int:=bits .and .i64 j (-j)
def lbOk:Nat->Bool
 | 0=>true
 | n+1=>decide (1<=lbi (n+1)/\lbi (n+1)<=n+1)&&lbOk n
theorem z2m{n j}(h:lbOk n=true)(Z:1<=j)(D:j<=n):1<=lbi j/\lbi j<=j:=by
 induction n with
 | zero=>omega
 | succ n ih =>
  simp only[lbOk,Bool.and_eq_true,decide_eq_true_eq]at h;rcases Nat.lt_or_ge n j with hj|hj
  ·grind
  ·exact ih h.2 hj
theorem y8X:lbOk 2100=true:=M3j
theorem x8h{j:Nat}(Z:1<=j)(D:j<=2100):1<=lbi j/\lbi j<=j:=z2m y8X Z D
def addF:Nat->List Int->Nat->List Int
 | 0,T,_=>T
 | f+1,T,j=>if j<T.length then addF f (T.set j (T.getD j 0+1)) (j+(lbi j).toNat)else T
def x3C:Nat->List Int->Nat->Int->Int
 | 0,_,_,n=>n
 | f+1,T,j,n=>if 0<j then x3C f T (j-(lbi j).toNat) (n+T.getD j 0)else n
def add(T:List Int)(p:Nat):List Int:=addF T.length T (p+1)
def ahead(T:List Int)(p:Nat):Int:=x3C p T p 0
theorem z1g f T j:(addF f T j).length=T.length:=by
 induction f generalizing T j with
 | zero=>rfl
 | succ f ih =>
  rw[addF];split
  ·rw[ih];simp
  ·rfl
theorem y1N T p:(add T p).length=T.length:=z1g _ _ _
def Tb(k:Int)(T:List Int):Prop:=∀t∈T,0<=t/\t<=k
theorem Tb.at{k T}(h:Tb k T)(G:0<=k) j:0<=T.getD j 0/\T.getD j 0<=k:=by
 rcases Nat.lt_or_ge j T.length with hj|hj
 ·rw[List.getD,List.getElem?_eq_getElem hj];exact h _ (List.getElem_mem hj)
 ·grind
def wr2(xs:List Int):List Nat->List Int->Int->Int->Int->Int->Bool->List Int->List Int×Int
 | [],_,_,_,_,_,_,out=>(out,0)
 | c::r,T,p,n,i,bias,first,out =>
  let d:=(xs.getD c 0-n)*(p+1)+ahead T c-i
  if 2147483647<d then([],113)else
   wr2 xs r (add T c) (p+1) (n+(i+d) / (p+1)) ((i+d)%(p+1)+1) (adapt d (p+1) first) false (out++wrNum d bias)
def wr1(xs:List Int):List Nat->List Int->List Int->List Int×List Int
 | [],T,out=>(T,out)
 | c::r,T,out=>wr1 xs r (add T c) (out++[xs.getD c 0])
def idx(xs:List Int)(q:Int->Bool):List Nat:=(List.range xs.length).filter fun k=>q (xs.getD k 0)
def lowq(c:Int):Bool:=decide (c<128)
def write(xs:List Int)(ord:List Nat):List Int×Int :=
 wr2 xs ord (wr1 xs (idx xs lowq) (List.replicate (xs.length+1) 0) []).1 ((idx xs lowq).length:Int) 128 0 72 true
  ((wr1 xs (idx xs lowq) (List.replicate (xs.length+1) 0) []).2++if(idx xs lowq).length=0 then[]else[45])
end Pu
def x3Z(w:World)(z:Int)(e:Ending)(w':World):Prop:=e=.returned (.int .u8 z)/\w'=w
theorem x3Z.mk{w z u}(h:u=z):x3Z w z (.returned (.int .u8 u)) w:=t5o
theorem x8i d w(A:0<=d)(Z:d<=35):Calls prog 284 #[.int .i64 d] w (x3Z w (Pu.let1 d)):=by
 by_cases hd:d<26
 ·have u:Pu.let1 d=97+d:=(by unfold Pu.let1;rw[if_pos hd]);exact u7a
 ·have u:Pu.let1 d=48+(d-26):=(by unfold Pu.let1;rw[if_neg hd]);exact u7a
def NumP(w:World)(z:Int)(e:Ending)(w':World):Prop:=e=.returned (.int .i64 z)/\(w'=w\/w'=w.drew)
theorem y5L b p n i bias c pl f w(h:StAt w b p n i bias f)(L:0<=p/\p<=3000)(E:0<=n/\n<=1114111)(hi:0<=i/\i<=3000)(I:0<=c/\c<=1114111)(d:0<=pl/\pl<=10000000) :
  Calls prog 243 #[.pointer (some ⟨b,0,none⟩),.int .i32 c,.int .i64 pl] w (NumP w ((c-n)*(p+1)+pl-i)):=by
 obtain⟨l,j,K,q,T,u,y,z,B,X⟩:=h.cells
 have s:(c-n)*(p+1)<=1114111*3001:=by
  calc (c-n)*(p+1)<=1114111*(p+1):=Int.mul_le_mul_of_nonneg_right f6J f6J
   _<=1114111*3001:=f6J
 have m:-(1114111*3001)<=(c-n)*(p+1):=by
  have:(n-c)*(p+1)<=1114111*3001:=by
   calc (n-c)*(p+1)<=1114111*(p+1):=Int.mul_le_mul_of_nonneg_right f6J f6J
    _<=1114111*3001:=f6J
  have e:(n-c)*(p+1)=-((c-n)*(p+1)):=(by grind);omega
 go_enter func243,ntmps243;go_wp2
 all_goals try go_region
 all_goals try go_wp2
 go_ret;exact⟨by first| rfl|(congr 2<;>omega),by first| exact .inl rfl | exact .inr rfl⟩
def TAt(w:World)(g:Nat)(T:List Int):Prop:=w.heap[g]?=some (.cells (T.map (Value.int .i64)).toArray 3 (0,0))
theorem TAt.cell{w g T}(h:TAt w g T){j}(K:j<T.length):w.cell? ⟨g,j,none⟩=some (.int .i64 (T.getD j 0)):=by
 unfold TAt at h;simp[World.cell?,h,List.getD,K]
theorem TAt.frozen{w g T}(h:TAt w g T) j:w.frozen? ⟨g,j,none⟩=false:=by
 unfold TAt at h;simp[World.frozen?,h]
theorem TAt.set{w g T}(h:TAt w g T) j z:TAt (w.setCell ⟨g,j,none⟩ (.int .i64 z)) g (T.set j z):=by
 unfold TAt at h ⊢;rw[x1o h];simp
theorem y8Y{j:Nat}(Z:1<=j)(D:j<=2100):∃q:Nat,bits .and .i64 (j:Int) (-(j:Int))=(q:Int)/\q=(Pu.lbi j).toNat/\1<=q/\q<=j:=by
 have:=Pu.x8h Z D;refine⟨(Pu.lbi j).toNat,?_,rfl,f6J,f6J⟩;show Pu.lbi j=_;omega
theorem x9Z g T p w(h:TAt w g T)(Y:Pu.Tb 3000 T)(S:T.length<=2050)(W:p<T.length) :
  Calls prog 244 #[.slice (some ⟨g,0,none⟩) T.length T.length,.int .i64 p] w (x0C w (Pu.ahead T p)):=by
 have C:Hid (∀j,j<T.length->w.cell? ⟨g,j,none⟩=some (.int .i64 (T.getD j 0))):=fun j K=>h.cell K;have B:Hid (∀j,0<=T.getD j 0/\T.getD j 0<=3000):=fun j=>Y.at f6J j;have Q:Pu.ahead T p=Pu.x3C p T p 0:=rfl;generalize Pu.ahead T p=r at *;have F:=O Q;clear h Y Q;go_enter func244,ntmps244;go_wp2;go_loop [5,6] (fun A H=>∃(f j:Nat) (n:Int),A=.int .i64 n/\H=.int .i64 j/\j<=p/\j<=f/\0<=n/\n+3000*j<=3000*p/\r=Pu.x3C f T j n) (fun _ H=>(intOf H).toNat)
 case atStart=>exact⟨p,p,0,rfl,rfl,f6J,f6J,f6J,f6J,V F⟩
 case round =>
  obtain⟨f,j,n,rfl,rfl,J,P,E,v,u⟩:=hrel;by_cases K:0<j
  ·obtain⟨f,rfl⟩:∃g,f=g+1:=⟨f-1,f6J⟩;have a:=O (u.trans (by rw[Pu.x3C,if_pos K]));have y:=V C j f6J;have z:=V B j;obtain⟨q,I,s,N,R⟩:=y8Y (j:=j) f6J f6J;rw[<- s]at a;clear s;generalize T.getD j 0=t at *;have D:((j-q:Nat):Int)=(j:Int)-(q:Int):=f6J;have M:=O D;go_wp2;go_round
   case rel=>exact⟨f,j-q,n+t,U6t,by first| rfl|(rw[V M]) | go_num,f6J,f6J,f6J,f6J,V a⟩
   case measure=>exact g7T
  ·have G:j=0:=f6J;subst G
   have L:Hid (n=r):=by
    show n=r;rw[u]
    cases f with
    | zero=>rfl
    | succ f=>rw[Pu.x3C,if_neg f6J]
   clear u;go_wp2;go_ret;exact x0C.mk (V L)
def AddP(w:World)(g:Nat)(T:List Int)(e:Ending)(w':World):Prop:=e=.returned (.tuple #[])/\TAt w' g T/\w.grownBy w' (some g)/\w'.heap.size=w.heap.size
theorem x8W(T:List Int) j m z(K:j<T.length):(T.set j z).getD m 0=if m=j then z else T.getD m 0:=by grind
theorem y1M g T(p:Nat) w(h:TAt w g T)(Y:Pu.Tb 3000 T)(S:T.length<=2050)(hp:p<=100000) :
  Calls prog 242 #[.slice (some ⟨g,0,none⟩) T.length T.length,.int .i64 p] w (AddP w g (Pu.add T p)):=by
 have B:Hid (∀j,0<=T.getD j 0/\T.getD j 0<=3000):=fun j=>Y.at f6J j;have Q:Pu.add T p=Pu.addF T.length T (p+1):=rfl;generalize Pu.add T p=r at *;have F:=O Q;have n:=O h;obtain⟨L,x⟩:∃L,T.length=L:=⟨_,rfl⟩;rw[x];rw[x]at S F;have v:=O x;go_enter func242,ntmps242;go_wp2;go_loopw[4] (fun H wr=>∃(f j:Nat) (U:List Int),H=.int .i64 j/\1<=j/\j<=103000/\U.length=L/\TAt wr g U/\(∀m,0<=U.getD m 0/\U.getD m 0<=3000+j)/\L<=j+f/\r=Pu.addF f U j/\w.grownBy wr (some g)/\wr.heap.size=w.heap.size) (fun H _=>L-(intOf H).toNat)
 case atStart=>exact⟨L,p+1,T,U6t,f6J,f6J,V v,V n,fun m=>by have:=V B m;exact f6J,f6J,V F,x1O w _,rfl⟩
 case round =>
  obtain⟨f,j,U,rfl,A,W,k,G,C,X,u,E,z⟩:=hrel;by_cases K:j<L
  ·obtain⟨f,rfl⟩:∃g,f=g+1:=⟨f-1,f6J⟩;have a:=O (u.trans (by rw[Pu.addF,if_pos f6J]));have y:=G.cell (j:=j) f6J;have d:=G.frozen j;have l:=C j;have b:=O (G.set j (U.getD j 0+1));have J:=O (x1P (j:=j) E (.int .i64 (U.getD j 0+1)));have P:Hid ((wr.setCell ⟨g,j,none⟩ (.int .i64 (U.getD j 0+1))).heap.size=w.heap.size):=f0k;have M:Hid ((U.set j (U.getD j 0+1)).length=L):=by grind
   have i:Hid (∀m,0<=(U.set j (U.getD j 0+1)).getD m 0/\(U.set j (U.getD j 0+1)).getD m 0<=3000+j+1):=fun m=>by
    rw[x8W _ _ _ _ f6J];have Z:=C m;have D:=C j;exact G7o
   obtain⟨q,I,s,N,R⟩:=y8Y (j:=j) f6J f6J;rw[<- s]at a;generalize U.set j (U.getD j 0+1)=c at *;generalize U.getD j 0=t at *;go_wp2
   go_roundw
   case rel=>exact⟨f,j+q,c,U6t,f6J,f6J,V M,V b,fun m=>by have:=V i m;exact f6J,f6J,V a,V J,V P⟩
   case measure=>exact g7T
  ·have HE:Hid (AddP w g r (.returned (.tuple #[])) wr):=by
    refine⟨rfl,?_,E,z⟩;rw[u]
    cases f with
    | zero=>exact G
    | succ f=>rw[Pu.addF,if_neg f6J];exact G
   go_wp2;go_end0;exact V HE
theorem x6C:∃i,prog.info? 5=some i/\i.zero=some (.int .u8 0)/\i.size=1/\i.bytes=1:=by
 have h:(prog.info? 5).map (fun i=>(i.zero,i.size,i.bytes))=some (some (.int .u8 0),1,1):=f4x
 cases hq:prog.info? 5 with
 | none=>rw[hq]at h;simp at h
 | some i=>grind
theorem x0K{w ops rest o}{a Q}(T:o.guard=none)(s x:Operand)
  (y:o.op=.call { callee:=.builtin .append,args:=#[s,x],argTypes:=#[76,76] }) B v xs c H (U:a.eval s=v) (J:a.eval x=.slice (some ⟨H,0,none⟩) 1 1)
  (N:Ok .u8 5 w B v xs) (d:H=w.heap.size) (I:Fit .u8 [c]) (S:xs.length<=10000000000) (l:B<=w.heap.size)
  (h:∀v' w',Ok .u8 5 w' B v' (xs++[c])->(w.alloc (.cells #[.int .u8 c] 5)).grownBy w' v.ownBlock->(∀g,v'.ownBlock=some g->v.ownBlock=some g\/w.heap.size<=g)->wpList prog ops Q rest (a.put o.dst v') w') :
  wpList prog ops Q (o::rest) a (w.alloc (.cells #[.int .u8 c] 5)):=by
 obtain⟨i,hi,f,p,t⟩:=x6C;subst d;refine wpList_append_lies _ T s x 76 y B 5 i (.int .u8 0) 1 1 underlying76 hi f p t rfl e8P v _ _ U (N.row.alloc _) ⟨w.heap.size,0,none⟩ 1 1 [.int .u8 c] J rfl (cell_one_new _ _ _) (x0J .u8 _) f6J T7X f6J s5h (w.heap.size+1) (x0t _ _) ?_;intro g M w' Z D h3 A;refine h _ w' (Ok.of (N.1.app I) P8P Z (by simp) (by simp)) D (fun k G=>?_);have:k=g:=U8V;subst this;rcases h3 with h3|h3
 ·exact .inl h3
 ·exact .inr f6J
theorem x6E:∃i,prog.info? 3=some i/\i.zero=some (.int .i64 0)/\i.size=1/\i.bytes=8:=by
 have h:(prog.info? 3).map (fun i=>(i.zero,i.size,i.bytes))=some (some (.int .i64 0),1,8):=f4x
 cases hq:prog.info? 3 with
 | none=>rw[hq]at h;simp at h
 | some i=>grind
theorem x2g{w ops rest o}{a Q}(T:o.guard=none)(s x:Operand)
  (y:o.op=.call { callee:=.builtin .append,args:=#[s,x],argTypes:=#[275,275] }) B v xs c H (U:a.eval s=v) (J:a.eval x=.slice (some ⟨H,0,none⟩) 1 1)
  (N:Ok .i64 3 w B v xs) (d:H=w.heap.size) (I:Fit .i64 [c]) (S:xs.length<=10000000000) (l:B<=w.heap.size)
  (h:∀v' w',Ok .i64 3 w' B v' (xs++[c])->(w.alloc (.cells #[.int .i64 c] 3)).grownBy w' v.ownBlock->(∀g,v'.ownBlock=some g->v.ownBlock=some g\/w.heap.size<=g)->wpList prog ops Q rest (a.put o.dst v') w') :
  wpList prog ops Q (o::rest) a (w.alloc (.cells #[.int .i64 c] 3)):=by
 obtain⟨i,hi,f,p,t⟩:=x6E;subst d;refine wpList_append_lies _ T s x 275 y B 3 i (.int .i64 0) 1 8 underlying275 hi f p t rfl e8P v _ _ U (N.row.alloc _) ⟨w.heap.size,0,none⟩ 1 1 [.int .i64 c] J rfl (cell_one_new _ _ _) (x0J .i64 _) f6J T7X f6J s5h (w.heap.size+1) (x0t _ _) ?_;intro g M w' Z D h3 A;refine h _ w' (Ok.of (N.1.app I) P8P Z (by simp) (by simp)) D (fun k G=>?_);have:k=g:=U8V;subst this;rcases h3 with h3|h3
 ·exact .inl h3
 ·exact .inr f6J
def GrP(B:Nat)(v:Value)(w:World)(zs:List Int)(e:Ending)(w':World):Prop :=
 ∃v',e=.returned v'/\Ok .u8 5 w' B v' zs/\w.grownBy w' v.ownBlock/\∀g,v'.ownBlock=some g->v.ownBlock=some g\/w.heap.size<=g
theorem x6A{w1 w2 x:World}{r1 r2}(h:w1.grownBy w2 r1)(k:w2.grownBy x r2)(hr:∀g,r2=some g->r1=some g\/w1.heap.size<=g):w1.grownBy x r1:=by
 refine⟨k.os.trans h.os,k.tape.trans h.tape,k.output.trans h.output,Nat.le_trans h.size k.size,fun g C F=>?_⟩;rw[k.block g (Nat.lt_of_lt_of_le C h.size) (fun a=>?_),h.block g C F];rcases hr g a.symm with h1|h1
 ·exact F h1.symm
 ·omega
theorem x9P k bias w(G:0<=k/\k<=3000000000)(Y:-1000000<=bias/\bias<=1000000) :
  Calls prog 201 #[.int .i64 k,.int .i64 bias] w (x0C w (Pu.thr k bias)):=by
 by_cases Z:36*k-bias<1
 ·have u:Pu.thr k bias=1:=f0D;exact V1M
 ·by_cases D:26<36*k-bias
  ·have u:Pu.thr k bias=26:=f8v;exact V1M
  ·have u:Pu.thr k bias=36*k-bias:=n7H;exact V1M
theorem x2O B v0 zs0 val bias w(N:Ok .u8 5 w B v0 zs0)(l:B<=w.heap.size)(hl:zs0.length<=100000000)(I:0<=val/\val<=2147483647)(aj:0<=bias/\bias<=468) :
  Calls prog 245 #[v0,.int .i64 val,.int .i64 bias] w (GrP B v0 w (zs0++Pu.wrNum val bias)):=by
 have Q:zs0++Pu.wrNum val bias=zs0++Pu.wrN bias val.toNat 1 val:=rfl;generalize zs0++Pu.wrNum val bias=r at *;have ai:=O Q;have x:=O N;have Y:Hid (∀k W,0<=k/\k<=3000000000->Calls prog 201 #[.int .i64 k,.int .i64 bias] W (x0C W (Pu.thr k bias))):=fun k W h=>x9P k bias W h f6J;have K:∀W v zs,Ok .u8 5 W B v zs->∀g,v.ownBlock=some g->B<=g:=fun W v zs h g C=>(h.row.lt g C).1;have F:=O K;go_enter func245,ntmps245;go_wp2;go_loopw[0,1,6,7,8] (fun P M _ kk _ wr=>∃(f k:Nat) (y:Int) (zs:List Int),M=.int .i64 y/\kk=.int .i64 ((k:Int)+1)/\0<=y/\y<=f/\k+y<=2147483647/\zs.length<=100000000+k/\r=zs++Pu.wrN bias f ((k:Int)+1) y/\Ok .u8 5 wr B P zs/\w.grownBy wr v0.ownBlock/\B<=wr.heap.size/\w.heap.size<=wr.heap.size/\∀g,P.ownBlock=some g->v0.ownBlock=some g\/w.heap.size<=g) (fun _ M _ _ _ _=>(intOf M).toNat)
 case atStart=>exact⟨val.toNat,0,val,zs0,rfl,rfl,I.1,f6J,f6J,f6J,V ai,V x,x1O w _,l,l0r _,fun g C=>.inl C⟩
 case round =>
  obtain⟨f,k,y,zs,rfl,rfl,J,az,aq,b,u,X,am,G,q,R⟩:=hrel;have p:=Pu.x1S ((k:Int)+1) bias;have n:=fun W=>O (V Y ((k:Int)+1) W f6J);have D:=O X;have A:=O am;have ab:=O R;by_cases H:y<Pu.thr ((k:Int)+1) bias
  ·have S:=Pu.x6H (d:=y) J f6J;have HL:=fun W=>O (x8i y W J f6J);have HE:=O (u.trans (by rw[Pu.x9V H]));generalize Pu.let1 y=c at *;go_wp2_with(first| (go_at_call 201;refine(V (n _)).mono ?_;rintro e wq ⟨rfl,rfl⟩;clear n)|(go_at_call 284;refine(V (HL _)).mono ?_;rintro e wq ⟨rfl,rfl⟩;clear HL)|(at_builtin;refine x0K rfl (.tmp 17) (.tmp 20) rfl B _ zs c _ rfl rfl (V D) rfl (fun z o=>V6F) f6J G ?_));intro j w2 Z h2 h3;have ay:∀g,u0.ownBlock=some g->B<=g:=fun g C=>V F _ _ _ (V D) g C
   have T:Hid (GrP B v0 w r (.returned j) w2):=by
    refine⟨j,rfl,by rw[V HE];exact Z,?_,?_⟩
    ·exact x6A (x3Q (V A) (.cells #[.int .u8 c] 5)) h2 (V ab)
    ·grind
   exact v8o
  ·have ae:0<=y-Pu.thr ((k:Int)+1) bias:=f6J;have a:0<=(y-Pu.thr ((k:Int)+1) bias) / (36-Pu.thr ((k:Int)+1) bias):=Int.ediv_nonneg ae f6J;have aw:(y-Pu.thr ((k:Int)+1) bias) / (36-Pu.thr ((k:Int)+1) bias)<=y-Pu.thr ((k:Int)+1) bias:=Int.ediv_le_self _ ae;have ar:0<=(y-Pu.thr ((k:Int)+1) bias)%(36-Pu.thr ((k:Int)+1) bias):=Int.emod_nonneg _ f6J;have s:(y-Pu.thr ((k:Int)+1) bias)%(36-Pu.thr ((k:Int)+1) bias)<36-Pu.thr ((k:Int)+1) bias:=Int.emod_lt_of_pos _ f6J;obtain⟨f,rfl⟩:∃g,f=g+1:=⟨f-1,f6J⟩;have HE:=O (u.trans (by rw[Pu.y4x H]));have S:=Pu.x6H (d:=Pu.thr ((k:Int)+1) bias+(y-Pu.thr ((k:Int)+1) bias)%(36-Pu.thr ((k:Int)+1) bias)) f6J f6J;have HL:=fun W=>O (x8i (Pu.thr ((k:Int)+1) bias+(y-Pu.thr ((k:Int)+1) bias)%(36-Pu.thr ((k:Int)+1) bias)) W f6J f6J);generalize Pu.let1 (Pu.thr ((k:Int)+1) bias+(y-Pu.thr ((k:Int)+1) bias)%(36-Pu.thr ((k:Int)+1) bias))=c at *;generalize Pu.thr ((k:Int)+1) bias=t at *;go_wp2_with(first| (go_at_call 201;refine(V (n _)).mono ?_;rintro e wq ⟨rfl,rfl⟩;clear n)|(go_at_call 284;refine(V (HL _)).mono ?_;rintro e wq ⟨rfl,rfl⟩;clear HL)|(at_builtin;refine x0K rfl (.tmp 25) (.tmp 33) rfl B _ zs c _ rfl rfl (V D) rfl (fun z o=>V6F) f6J G ?_));intro j w2 Z h2 h3;have m:w.grownBy w2 v0.ownBlock:=x6A (x3Q (V A) (.cells #[.int .u8 c] 5)) h2 (V ab)
   have U:∀g,j.ownBlock=some g->v0.ownBlock=some g\/w.heap.size<=g:=fun g C=>by
    rcases h3 g C with h4|h4
    ·exact V ab g h4
    ·exact .inr f6J
   have i:w.heap.size<=w2.heap.size:=m.size;have T:=O Z;have af:=O m;have ag:=O U;have L:Hid ((zs++[c]).length<=100000000+(k+1)):=(by show _<=_;exact P8P);have E:Hid (r=(zs++[c])++Pu.wrN bias f (((k+1:Nat):Int)+1) ((y-t) / (36-t))):=(by grind);go_wp2
   go_roundw
   case rel=>exact⟨f,k+1,(y-t) / (36-t),zs++[c],U6w,U6w,a,f6J,f6J,V L,V E,V T,V af,f6J,i,V ag⟩
   case measure=>exact g7U
namespace Pu
def y1r(xs:List Int)(l:List Nat):List Nat:=l.mergeSort fun a b=>decide (xs.getD a 0<=xs.getD b 0)
theorem z0q xs{l}(h:l.length<=1):y1r xs l=l:=by
 match l,h with
 | [],_=>simp[y1r]
 | [a],_=>simp[y1r]
def x3e(c:Int):Bool:=!lowq c
end Pu
def x2a(l:List Nat):List Int:=l.map fun(k:Nat)=>(k:Int)
theorem x0F l:(x2a l).length=l.length:=by simp[x2a]
def XAt(w:World)(b:Nat)(v:Value):Prop:=w.heap[b]?=some (.cells #[v] 40 (0,0))
theorem XAt.cell{w b v}(h:XAt w b v):w.cell? ⟨b,0,none⟩=some v:=by unfold XAt at h;simp[World.cell?,h]
theorem XAt.grown{w w' b v row}(h:XAt w b v)(C:w.grownBy w' row)(F:row≠some b):XAt w' b v:=by
 unfold XAt at h ⊢;exact F6S
theorem XAt.alloc{w b v}(h:XAt w b v) o:XAt (w.alloc o) b v:=by
 unfold XAt at h ⊢;exact v1L
def z1a(m:Nat):Prop:=∀(xs:List Int) (b B:Nat) (xv v:Value) (l:List Nat) (w0 w:World),XAt w b xv->Sk .i32 w0 xv xs->Below w0.heap.size w0 w->w0.heap.size<=B->xs.length<=100000->l.length<=m->(∀a∈l,a<xs.length)->l.Pairwise (·<·)->Ok .i64 3 w B v (x2a l)->v.ownBlock≠some b ->
 Calls prog 281 #[v,.func (.func 282) #[] #[.pointer (some ⟨b,0,none⟩)]] w fun e w'=>e=.returned (.tuple #[])/\Ok .i64 3 w' B v (x2a (Pu.y1r xs l))/\w.grownBy w' v.ownBlock
theorem x7C ao n cap fv w(E:n<=1):Calls prog 307 #[.slice ao n cap,.int .i64 0,.int .i64 n,fv] w fun e w'=>e=.returned (.tuple #[])/\w'=w:=by
 go_enter func307,ntmps307;go_wp2;refine wp_loop_rounds 1 ?_;rw[rounds_succ];go_wp2;go_end0;exact g9S
theorem y3a ao n cap fv w(E:n<=1):Calls prog 294 #[.slice ao n cap,.int .i64 n,fv] w fun e w'=>e=.returned (.tuple #[])/\w'=w:=by
 have j:=fun W=>O (x7C ao n cap fv W E);go_enter func294,ntmps294;go_wp2;refine wp_loop_rounds 1 ?_;rw[rounds_succ];go_wp2_with(go_at_call 307;refine(V (j _)).mono ?_;rintro e G ⟨rfl,rfl⟩;clear j);refine wp_loop_rounds 1 ?_;rw[rounds_succ];go_wp2;go_end0;exact⟨rfl,rfl⟩
theorem z0p:z1a 1:=by
 intro L b B u v l r w _ _ _ _ _ S _ _ N _;obtain⟨R,M,rfl,_,_⟩:=N.sk.shape;have c:=fun W=>O (y3a R (x2a l).length M (.func (.func 282) #[] #[.pointer (some ⟨b,0,none⟩)]) W (by rw[x0F];exact S));have T:Hid (Ok .i64 3 w B (.slice R (x2a l).length M) (x2a (Pu.y1r L l))):=(by rw[Pu.z0q L S];exact N);go_enter func281,ntmps281;go_wp2_with(go_at_call 294;refine(V (c _)).mono ?_;rintro e G ⟨rfl,rfl⟩;clear c);go_end0;exact⟨rfl,V T,x1O _ _⟩
namespace Pu
def idxk(xs:List Int)(q:Int->Bool)(k:Nat):List Nat:=(List.range k).filter fun j=>q (xs.getD j 0)
theorem x4l{xs}{q:Int->Bool}{k}(h:q (xs.getD k 0)=true):idxk xs q (k+1)=idxk xs q k++[k]:=by
 unfold idxk;rw[List.range_succ,List.filter_append];rw[List.filter_cons_of_pos (p:=fun j=>q (xs.getD j 0)) h];rfl
theorem x5s{xs}{q:Int->Bool}{k}(h:q (xs.getD k 0)=false):idxk xs q (k+1)=idxk xs q k:=by
 unfold idxk;rw[List.range_succ,List.filter_append];rw[List.filter_cons_of_neg (by rw[h];exact M7K)];simp
theorem y3Q xs(q:Int->Bool) k:(idxk xs q k).length<=k:=by
 unfold idxk;have:=List.length_filter_le (fun j=>q (xs.getD j 0)) (List.range k);exact W2K
theorem z3Q xs(q:Int->Bool):∀a∈idx xs q,a<xs.length:=by
 intro a g;unfold idx at g;simpa using(List.mem_filter.1 g).1
theorem y5t xs(q:Int->Bool):(idx xs q).Pairwise (·<·):=(List.pairwise_lt_range).filter _
end Pu
theorem x8l l(k:Nat):x2a (l++[k])=x2a l++[(k:Int)]:=by simp[x2a]
def z4x(w:World)(xs:List Int)(e:Ending)(w':World):Prop:=∃v1 v2,e=.returned (.tuple #[v1,v2])/\Ok .i64 3 w' w.heap.size v1 (x2a (Pu.idx xs Pu.lowq))/\Ok .i64 3 w' w.heap.size v2 (x2a (Pu.y1r xs (Pu.idx xs Pu.x3e)))/\Below w.heap.size w w'
structure Two(b B:Nat)(xv:Value)(w0:World)(l1 l2:List Nat)(v1 v2:Value)(wr:World):Prop where
 r1:Ok .i64 3 wr B v1 (x2a l1)
 r2:Ok .i64 3 wr B v2 (x2a l2)
 x:XAt wr b xv
 bel:Below w0.heap.size w0 wr
 hb:b<B
 hB:B<=wr.heap.size
 hw:w0.heap.size<=b
 ap:∀g,v1.ownBlock=some g->v2.ownBlock≠some g
theorem Two.left{b B xv w0 l1 l2}{v1 v2 v' wr w' o}{k:Nat}(h:Two b B xv w0 l1 l2 v1 v2 wr)(N:Ok .i64 3 w' B v' (x2a l1++[(k:Int)]))(C:(wr.alloc o).grownBy w' v1.ownBlock)
  (y:∀g,v'.ownBlock=some g->v1.ownBlock=some g\/wr.heap.size<=g):Two b B xv w0 (l1++[k]) l2 v' v2 w':=by
 have U:=x0t wr o;have Z:=fun g a=>h.r1.row.lt g a;have D:=fun g a=>h.r2.row.lt g a
 have F:v2.ownBlock=none\/v2.ownBlock≠v1.ownBlock:=by
  cases m:v2.ownBlock with
  | none=>exact .inl rfl
  | some g=>exact .inr (fun a=>h.ap g a.symm m)
 refine⟨by rw[x8l];exact N,x3w (x5Y h.r2 o) C F,(h.x.alloc o).grown C (fun a=>by have:=(Z _ a).1;have:=h.hb;exact f6J),(h.bel.alloc W2J o).grown C W2J (fun g a=>by have:=(Z g a).1;have:=h.hb;have:=h.hw;exact f6J),h.hb,T7P,h.hw,fun g a m=>?_⟩;rcases y g a with h3|h3
 ·exact h.ap g h3 m
 ·have:=(D g m).2;omega
theorem Two.right{b B xv w0 l1 l2}{v1 v2 v' wr w' o}{k:Nat}(h:Two b B xv w0 l1 l2 v1 v2 wr)(N:Ok .i64 3 w' B v' (x2a l2++[(k:Int)]))(C:(wr.alloc o).grownBy w' v2.ownBlock)
  (y:∀g,v'.ownBlock=some g->v2.ownBlock=some g\/wr.heap.size<=g):Two b B xv w0 l1 (l2++[k]) v1 v' w':=by
 have U:=x0t wr o;have Z:=fun g a=>h.r1.row.lt g a;have D:=fun g a=>h.r2.row.lt g a
 have F:v1.ownBlock=none\/v1.ownBlock≠v2.ownBlock:=by
  cases m:v1.ownBlock with
  | none=>exact .inl rfl
  | some g=>exact .inr (fun a=>h.ap g m a.symm)
 refine⟨x3w (x5Y h.r1 o) C F,by rw[x8l];exact N,(h.x.alloc o).grown C (fun a=>by have:=(D _ a).1;have:=h.hb;exact f6J),(h.bel.alloc W2J o).grown C W2J (fun g a=>by have:=(D g a).1;have:=h.hb;have:=h.hw;exact f6J),h.hb,T7P,h.hw,fun g a m=>?_⟩;rcases y g m with h3|h3
 ·exact h.ap g a h3
 ·have:=(Z g a).2;omega
theorem y5T m(c:z1a m) v xs w(N:Sk .i32 w v xs)(S:xs.length<=100000)(hm:(Pu.idx xs Pu.x3e).length<=m) :
  Calls prog 241 #[v] w (z4x w xs):=by
 have u:=O c;have r:=O N;have C:=O N.1;have G:=O hm;obtain⟨R,M,E,am,aq⟩:=N.shape
 have L:Hid (0<xs.length->∃b P,R=some ⟨b,P,none⟩/\∀W,Bw w W->∀i,i<xs.length->W.cell? ⟨b,P+i,none⟩=some (.int .i32 (xs.getD i 0))):=fun h0=>by
  obtain⟨b,P,J,d,_,_,t⟩:=N.place h0;rw[E]at d;simp only[Value.slice.injEq]at d;refine⟨b,P,d.1,fun W Y i hi=>?_⟩;rw[Y.cell (x0a (t i hi))];exact t i hi
 subst E
 have B:Two w.heap.size (w.heap.size+1) (.slice R xs.length M) w [] [] (.slice none 0 0) (.slice none 0 0) (w.alloc (.cells #[.slice R xs.length M] 40)) :=
  ⟨Ok.nil _ _ _ _,Ok.nil _ _ _ _,heap_alloc_new w _,(b0r).alloc (l0r _) _,f6J,s5h,f6J,fun g a=>by simp[Value.ownBlock]at a⟩
 obtain⟨U,ae⟩:∃U,w.alloc (.cells #[.slice R xs.length M] 40)=U:=⟨_,rfl⟩;rw[ae]at B;have Q:=B.x.cell;have ab:=O B;obtain⟨b,Y⟩:∃b,w.heap.size=b:=⟨_,rfl⟩;rw[Y]at Q ab;have I:=O Y;go_enter func241,ntmps241;go_wp2;go_loopw[2,3,4,5,8] (fun X j _ _ i wr=>∃k:Nat,i=.int .i64 k/\k<=xs.length/\Two b (b+1) (.slice R xs.length M) w (Pu.idxk xs Pu.lowq k) (Pu.idxk xs Pu.x3e k) X j wr) (fun _ _ _ _ i _=>xs.length-(intOf i).toNat)
 case atStart=>exact⟨0,rfl,f6J,V ab⟩
 case round =>
  obtain⟨k,rfl,hk,p⟩:=hrel;by_cases H:k<xs.length
  ·obtain⟨bx,ox,af,t⟩:=V L f6J;subst af;have y:=t wr (by have e:=V I;subst e;exact p.bel) k H;have ar:=(V C).i32at k;have ai:=Pu.y3Q xs Pu.lowq k;have aj:=Pu.y3Q xs Pu.x3e k;have l:=p.hB;have n:=O p;by_cases o:xs.getD k 0<128
   ·have hq:Pu.lowq (xs.getD k 0)=true:=d0t o;have s:Pu.x3e (xs.getD k 0)=false:=(by unfold Pu.x3e;rw[hq];rfl);have K:=O (Pu.x4l (xs:=xs) (q:=Pu.lowq) hq);have f:=O (Pu.x5s (xs:=xs) (q:=Pu.x3e) s);generalize xs.getD k 0=z at *;go_wp2_with(at_builtin;refine x2g rfl (.tmp 15) (.tmp 17) rfl (b+1) _ (x2a (Pu.idxk xs Pu.lowq k)) k _ rfl rfl (V n).r1 rfl (fun z o=>s9a) v2G l ?_);intro v' w' Z D h3;have HN:=O ((V n).left Z D h3);exact G1J
   ·have hq:Pu.lowq (xs.getD k 0)=false:=d0f o;have s:Pu.x3e (xs.getD k 0)=true:=(by unfold Pu.x3e;rw[hq];rfl);have K:=O (Pu.x5s (xs:=xs) (q:=Pu.lowq) hq);have f:=O (Pu.x4l (xs:=xs) (q:=Pu.x3e) s);generalize xs.getD k 0=z at *;go_wp2_with(at_builtin;refine x2g rfl (.tmp 19) (.tmp 21) rfl (b+1) _ (x2a (Pu.idxk xs Pu.x3e k)) k _ rfl rfl (V n).r2 rfl (fun z o=>s9a) v2G l ?_);intro v' w' Z D h3;have HN:=O ((V n).right Z D h3);exact G1J
  ·have ag:k=xs.length:=by omega
   have A:Two b (b+1) (.slice R xs.length M) w (Pu.idx xs Pu.lowq) (Pu.idx xs Pu.x3e) u2 u3 wr:=by
    have:∀q,Pu.idxk xs q k=Pu.idx xs q:=fun q=>(by rw[ag];rfl);rw[this,this]at p;exact p
   have HC:=O (V u xs b (b+1) (.slice R xs.length M) u3 (Pu.idx xs Pu.x3e) w wr A.x (V r) A.bel v1c S (V G) (Pu.z3Q xs _) (Pu.y5t xs _) A.r2 (fun a=>by have:=(A.r2.row.lt _ a).1;exact f6J));have n:=O A;go_wp2_with(go_at_call 281;refine(V HC).mono ?_;rintro e w2 ⟨rfl,Z,D⟩)
   have T:Hid (z4x w xs (.returned (.tuple #[u2,u3])) w2):=by
    have p:=V n
    have F:u2.ownBlock=none\/u2.ownBlock≠u3.ownBlock:=by
     cases hq:u2.ownBlock with
     | none=>exact .inl rfl
     | some g=>exact .inr (fun a=>p.ap g hq a.symm)
    refine⟨u2,u3,rfl,(x3w p.r1 D F).lower v1c,Z.lower v1c,p.bel.grown D (by have:=p.hB;exact v1c) (fun g a=>by have:=(p.r2.row.lt g a).1;exact v1c)⟩
   go_ret2;exact V T
namespace Pu
theorem z4B f T j k(S:T.length<=2050)(K:1<=j)(Z:∀m,0<=T.getD m 0/\T.getD m 0<=k+1)(D:∀m,j<=m->T.getD m 0<=k) :
  ∀m,0<=(addF f T j).getD m 0/\(addF f T j).getD m 0<=k+1:=by
 induction f generalizing T j with
 | zero=>exact Z
 | succ f ih =>
  rw[addF];split
  ·rename_i hlt
   have A:=x8h K f6J;refine ih _ _ t2Y f6J (fun m=>?_) (fun m z=>?_)
   ·rw[x8W _ _ _ _ hlt];have:=Z m;have:=Z j;have:=D j (l0r _);exact G7o
   ·rw[x8W _ _ _ _ hlt,if_neg f6J];exact D m f6J
  ·exact Z
theorem Tb_of{k T}(h:∀m,0<=T.getD m 0/\T.getD m 0<=k):Tb k T:=by
 intro t Q;obtain⟨i,hi,rfl⟩:=List.mem_iff_getElem.1 Q;have:=h i;rw[List.getD,List.getElem?_eq_getElem hi]at this;exact this
theorem y6T{T k}(h:Tb k T)(G:0<=k)(S:T.length<=2050) p:Tb (k+1) (add T p):=by
 refine Tb_of (z4B _ _ _ k S f6J (fun m=>?_) (fun m _=>?_))
 ·have:=h.at G m;omega
 ·exact(h.at G m).2
theorem Tb.le{k k' T}(h:Tb k T)(G:k<=k'):Tb k' T:=fun t Q=>by have:=h t Q;exact f6J
theorem x8E f T j n(h:∀m,0<=T.getD m 0/\T.getD m 0<=3000)(E:0<=n):0<=x3C f T j n/\x3C f T j n<=n+3000*f:=by
 induction f generalizing j n with
 | zero=>simp only[x3C];omega
 | succ f ih =>
  rw[x3C];have a:=h j;split
  ·grind
  ·omega
theorem x5l{T}(h:Tb 3000 T) p:0<=ahead T p/\ahead T p<=3000*p:=by
 have:=x8E p T p 0 (fun m=>h.at f6J m) f6J;unfold ahead;omega
def wok(xs:List Int):List Nat->List Int->Int->Int->Int->Bool
 | [],_,_,_,_=>true
 | c::r,T,p,n,i =>
  let d:=(xs.getD c 0-n)*(p+1)+ahead T c-i
  decide (0<=d)&&decide (0<=n+(i+d) / (p+1)/\n+(i+d) / (p+1)<=1114111)&&(decide (2147483647<d)||wok xs r (add T c) (p+1) (n+(i+d) / (p+1)) ((i+d)%(p+1)+1))
def dlt(xs:List Int)(c:Nat)(T:List Int)(p n i:Int):Int:=(xs.getD c 0-n)*(p+1)+ahead T c-i
theorem y4u{xs c r T}{p n i}(h:wok xs (c::r) T p n i=true):0<=dlt xs c T p n i/\(0<=n+(i+dlt xs c T p n i) / (p+1)/\n+(i+dlt xs c T p n i) / (p+1)<=1114111) /\
  (2147483647<dlt xs c T p n i\/wok xs r (add T c) (p+1) (n+(i+dlt xs c T p n i) / (p+1)) ((i+dlt xs c T p n i)%(p+1)+1)=true):=by
 simpa[wok,dlt,and_assoc]using h
theorem y4v{xs c r T}{p n i bias f out}(h:2147483647<dlt xs c T p n i):wr2 xs (c::r) T p n i bias f out=([],113):=by
 show(if 2147483647<dlt xs c T p n i then([],113)else _)=_;rw[if_pos h]
theorem y4w{xs c r T}{p n i bias f out}(h:¬2147483647<dlt xs c T p n i):wr2 xs (c::r) T p n i bias f out =
  wr2 xs r (add T c) (p+1) (n+(i+dlt xs c T p n i) / (p+1)) ((i+dlt xs c T p n i)%(p+1)+1) (adapt (dlt xs c T p n i) (p+1) f) false (out++wrNum (dlt xs c T p n i) bias):=by
 show(if 2147483647<dlt xs c T p n i then([],113)else _)=_;rw[if_neg h];rfl
end Pu
theorem y4d b p n i bias c pl f w(h:StAt w b p n i bias f)(L:0<=p/\p<=3000)(E:0<=n/\n<=1114111)(hi:0<=i/\i<=3000)(I:0<=c/\c<=1114111)(d:0<=pl/\pl<=10000000) :
  Calls prog 243 #[.pointer (some ⟨b,0,none⟩),.int .i32 c,.int .i64 pl] w fun e w'=>e=.returned (.int .i64 ((c-n)*(p+1)+pl-i))/\∃m,w'=w.drewN m:=by
 refine(y5L b p n i bias c pl f w h L E hi I d).mono ?_;rintro e w' ⟨rfl,t⟩;refine⟨rfl,?_⟩;rcases t with rfl|rfl
 ·exact⟨0,rfl⟩
 ·exact⟨1,rfl⟩
theorem StAt.drewN{w b p n i bias f}(h:StAt w b p n i bias f) m:StAt (w.drewN m) b p n i bias f:=h
theorem TAt.drewN{w g T}(h:TAt w g T) m:TAt (w.drewN m) g T:=h
theorem TAt.grown{w w' g T row}(h:TAt w g T)(C:w.grownBy w' row)(F:row≠some g):TAt w' g T:=by
 unfold TAt at h ⊢;rw[C.block g (Array.getElem?_eq_some_iff.1 h).1 (fun a=>F a.symm)];exact h
theorem TAt.alloc{w g T}(h:TAt w g T) o:TAt (w.alloc o) g T:=by
 unfold TAt at h ⊢;exact v1L
theorem StAt.grown{w w' b p n i bias f}{row}(h:StAt w b p n i bias f)(C:w.grownBy w' row)(F:row≠some b):StAt w' b p n i bias f:=by
 unfold StAt at h ⊢;exact F6S
theorem StAt.alloc{w b p n i bias f}(h:StAt w b p n i bias f) o:StAt (w.alloc o) b p n i bias f:=by
 unfold StAt at h ⊢;exact v1L
structure Wm(w1:World)(b g:Nat)(p n i bias:Int)(f:Bool)(T out:List Int)(bv:Value)(wr:World):Prop where
 st:StAt wr b p n i bias f
 t:TAt wr g T
 ob:Ok .u8 5 wr w1.heap.size bv out
 bel:Below w1.heap.size w1 wr
 hb:w1.heap.size<=b
 hg:w1.heap.size<=g
 hbg:b≠g
 nb:bv.ownBlock≠some b
 ng:bv.ownBlock≠some g
theorem Wm.size{w1 b g p n i bias f}{T out bv wr}(h:Wm w1 b g p n i bias f T out bv wr):w1.heap.size<=wr.heap.size/\b<wr.heap.size/\g<wr.heap.size :=
 ⟨h.bel.size,(Array.getElem?_eq_some_iff.1 h.st).1,(Array.getElem?_eq_some_iff.1 h.t).1⟩
theorem Wm.drewN{w1 b g p n i bias f}{T out bv wr}(h:Wm w1 b g p n i bias f T out bv wr) m:Wm w1 b g p n i bias f T out bv (wr.drewN m) :=
 ⟨h.st.drewN m,h.t.drewN m,h.ob.below (x0k ⟨m,rfl⟩),h.bel.trans ((x0k ⟨m,rfl⟩:Bw wr _).mono h.bel.size),h.hb,h.hg,h.hbg,h.nb,h.ng⟩
theorem Wm.added{w1 b g p n i bias f}{T T' out bv wr w' e}(h:Wm w1 b g p n i bias f T out bv wr)(A:AddP wr g T' e w'):Wm w1 b g p n i bias f T' out bv w':=by
 obtain⟨_,Q,E,q⟩:=A;obtain⟨N,s,C⟩:=h.size;exact⟨h.st.grown E (fun a=>h.hbg (by simpa using a.symm)),Q,x3w h.ob E (.inr h.ng),h.bel.grown E N (fun k G=>by simp at G;have:=h.hg;exact f6J),h.hb,h.hg,h.hbg,h.nb,h.ng⟩
theorem Wm.stepped{w1 b g p n i bias p' n' i' bias' pl f}{T out bv wr w' e}(h:Wm w1 b g p n i bias f T out bv wr)(U:x4b wr b p' n' i' bias' pl e w'):Wm w1 b g p' n' i' bias' false T out bv w':=by
 obtain⟨_,J,E,q⟩:=U;obtain⟨N,s,C⟩:=h.size;exact⟨J,h.t.grown E (fun a=>h.hbg (by simpa using a)),x3w h.ob E (.inr h.nb),h.bel.grown E N (fun k G=>by simp at G;have:=h.hb;exact f6J),h.hb,h.hg,h.hbg,h.nb,h.ng⟩
theorem Wm.wrote{w1 b g p n i bias f}{T out out' bv bv' wr w0 w'}(h:Wm w1 b g p n i bias f T out bv wr)(A:w0=wr\/∃o,w0=wr.alloc o)(X:Ok .u8 5 w' w1.heap.size bv' out')(E:w0.grownBy w' bv.ownBlock)
  (y:∀k,bv'.ownBlock=some k->bv.ownBlock=some k\/wr.heap.size<=k):Wm w1 b g p n i bias f T out' bv' w':=by
 obtain⟨N,s,C⟩:=h.size;have H:∀k,bv.ownBlock=some k->w1.heap.size<=k:=fun k G=>(h.ob.row.lt k G).1
 have m:StAt w0 b p n i bias f/\TAt w0 g T/\Bw w1 w0/\wr.heap.size<=w0.heap.size:=by
  rcases A with rfl|⟨o,rfl⟩
  ·exact⟨h.st,h.t,h.bel,l0r _⟩
  ·exact⟨h.st.alloc o,h.t.alloc o,h.bel.alloc N o,s5h⟩
 obtain⟨B,M,c,z⟩:=m;refine⟨B.grown E h.nb,M.grown E h.ng,X,c.grown E f6J H,h.hb,h.hg,h.hbg,fun a=>?_,fun a=>?_⟩
 ·rcases y b a with h3|h3
  ·exact h.nb h3
  ·omega
 ·rcases y g a with h3|h3
  ·exact h.ng h3
  ·omega
theorem y7A w ad c:(convert 76 9 (.slice (some ad) 0 c)).run prog w=.ok (.string (strOfNums [])) w:=M2E
theorem Sk.conv{w v zs}(h:Sk .u8 w v zs):(convert 76 9 v).run prog w=.ok (.string (strOfNums zs)) w:=by
 rcases Nat.eq_zero_or_pos zs.length with h0|h0
 ·obtain rfl:=List.eq_nil_of_length_eq_zero h0;obtain⟨R,M,rfl,_,_⟩:=h.shape
  cases R with
  | none=>exact U0I
  | some ad=>exact y7A w ad M
 ·exact u7x
def WrP(w:World)(r:List Int×Int)(e:Ending)(w':World):Prop:=e=.returned (.tuple #[.string (strOfNums r.1),.int .i64 r.2])/\Below w.heap.size w w'
namespace Pu
theorem z6Y bias j:∀(f:Nat) (k v:Int),0<=v->v<2^j->(wrN bias f k v).length<=j+1:=by
 induction j with
 | zero =>
  intro f k v A Z;have Y:=x1S k bias;rw[x9V (by simp at Z;exact f6J)];simp
 | succ j ih =>
  intro f k v A Z;have Y:=x1S k bias;by_cases N:v<thr k bias
  ·rw[x9V N];simp
  ·cases f with
   | zero=>simp[wrN]
   | succ f =>
    rw[y4x N,List.length_cons]
    have m:(v-thr k bias) / (36-thr k bias)<2^j:=by
     apply Int.ediv_lt_of_lt_mul f6J;have D:v<2^j*2:=f6J;have L:(0:Int)<=2^j:=Int.pow_nonneg e8N
     calc v-thr k bias<2^j*2:=by omega
      _<=2^j*(36-thr k bias):=Int.mul_le_mul_of_nonneg_left f6J L
    have:=ih f (k+1) _ (Int.ediv_nonneg f6J f6J) m;omega
theorem y1E{v bias}(A:0<=v)(Z:v<=2147483647):(wrNum v bias).length<=32:=z6Y bias 31 _ _ _ A f6J
end Pu
theorem y9c n:(madeCells (Value.int .i64 0).cells n)=((List.replicate n (0:Int)).map (Value.int .i64)).toArray:=by
 apply Array.toList_inj.1;refine List.ext_getElem (by simp[madeCells]) fun i Z D=>?_;simp[madeCells,Value.cells,Nat.mod_one]
theorem y5I(n:Nat) w(E:n<=2050):∃W,(Instr.makeSlice 320 (.int .i64 ((n:Int)+1)) (.int .i64 ((n:Int)+1))).run prog w=.ok (.slice (some ⟨w.heap.size,0,none⟩) (n+1) (n+1)) W/\TAt W w.heap.size (List.replicate (n+1) 0)/\W=w.alloc (.cells ((List.replicate (n+1) (0:Int)).map (Value.int .i64)).toArray 3):=by
 obtain⟨i,hi,f,p,t⟩:=x6E;have h:=run_make (P:=prog) w 320 3 i (.int .i64 0) underlying320 hi f .i64 .i64 ((n:Int)+1) ((n:Int)+1) f6J f6J n4P f6J;rw[(f6J:((n:Int)+1).toNat=n+1),p,Nat.mul_one,y9c]at h;exact⟨_,h,heap_alloc_new w _,rfl⟩
theorem y5G(n:Nat) w B(l:B<=w.heap.size)(E:n<=2050):∃W,(Instr.makeSlice 76 (.int .i64 0) (.int .i64 ((n:Int)+1))).run prog w=.ok (.slice (some ⟨w.heap.size,0,none⟩) 0 (n+1)) W/\Ok .u8 5 W B (.slice (some ⟨w.heap.size,0,none⟩) 0 (n+1)) []/\w.grownBy W none:=by
 obtain⟨i,hi,f,p,t⟩:=x6C;obtain⟨W,Z,D,R⟩:=run_make_own (P:=prog) w B 76 5 i (.int .u8 0) 1 underlying76 hi f p .i64 .i64 (n+1) n4Q T7W l;exact⟨W,by rw[(f6J:((n:Int)+1)=((n+1:Nat):Int))];exact Z,Ok.of (Fit.nil _) M7M D rfl rfl,R⟩
theorem z3w{xs}{l:List Nat}{k T out}(G:k<l.length):Pu.wr1 xs (l.drop k) T out=Pu.wr1 xs (l.drop (k+1)) (Pu.add T (l.getD k 0)) (out++[xs.getD (l.getD k 0) 0]):=by
 have:l.drop k=l.getD k 0::l.drop (k+1):=(by rw[List.drop_eq_getElem_cons G,List.getD,List.getElem?_eq_getElem G];rfl);rw[this,Pu.wr1]
theorem x4h{l:List Nat}{k}(G:k<l.length):l.drop k=l.getD k 0::l.drop (k+1):=f0h
theorem x9u{l k}(G:k<l.length):(x2a l).getD k 0=((l.getD k 0:Nat):Int):=by simp[x2a,List.getD,G]
theorem x5V{l:List Nat}{k}(G:k<l.length):l.getD k 0∈l:=by grind
theorem z0T m(HS:z1a m) v xs w(hv:Sk .i32 w v xs)(hl:xs.length<=2000)(hm:(Pu.idx xs Pu.x3e).length<=m)(cC:∀z∈xs,0<=z/\z<=1114111) ord(bA:Pu.y1r xs (Pu.idx xs Pu.x3e)=ord)
  (cz:∀a∈ord,a<xs.length) (cR:(Pu.idx xs Pu.lowq).length+ord.length<=2000)
  (bU:Pu.wok xs ord (Pu.wr1 xs (Pu.idx xs Pu.lowq) (List.replicate (xs.length+1) 0) []).1 ((Pu.idx xs Pu.lowq).length:Int) 128 0=true) :
  Calls prog 191 #[v] w (WrP w (Pu.write xs ord)):=by
 have HP:=O (y5T m HS v xs w hv f6J hm);obtain⟨lo,aU⟩:∃lo,Pu.idx xs Pu.lowq=lo:=⟨_,rfl⟩;have aB:=Pu.z3Q xs Pu.lowq
 have aD:∀a∈lo,xs.getD a 0<128:=fun a ha=>by
  rw[<- aU]at ha;have:=(List.mem_filter.1 ha).2;simpa[Pu.lowq]using this
 have hR:Pu.write xs ord=Pu.wr2 xs ord (Pu.wr1 xs lo (List.replicate (xs.length+1) 0) []).1 (lo.length:Int) 128 0 72 true ((Pu.wr1 xs lo (List.replicate (xs.length+1) 0) []).2++if lo.length=0 then[]else[45]):=by
  unfold Pu.write;rw[aU]
 have cB:∀e w',z4x w xs e w'->∃v1 v2,e=.returned (.tuple #[v1,v2])/\Sk .i64 w' v1 (x2a lo)/\Sk .i64 w' v2 (x2a ord)/\Bw w w':=by
  rintro e w' ⟨v1,v2,h1,h2,h3,h4⟩;rw[aU]at h2;rw[bA]at h3;exact⟨v1,v2,h1,h2.sk,h3.sk,h4⟩
 rw[aU]at bU cR aB
 have bG:Hid (∀k,0<=xs.getD k 0/\xs.getD k 0<=1114111):=fun k=>by
  rcases Nat.lt_or_ge k xs.length with hk|hk
  ·rw[List.getD,List.getElem?_eq_getElem hk];exact cC _ (List.getElem_mem hk)
  ·rw[List.getD,List.getElem?_eq_none hk];exact⟨Int.le_refl 0,e8P⟩
 generalize Pu.write xs ord=R at *;have HR:=O hR;have D:=O bU;have ce:=O cB;have cH:=O aB;have cG:=O aD;have cd:=O cz;have HV:=O hv;obtain⟨ao,da,cX,di,dj⟩:=hv.shape;subst cX;clear hv hm cC bA cz aU aB aD hR cB bU HS;go_enter func191,ntmps191;go_wp2_with fail;refine(V HP).mono ?_;intro e Q hp;obtain⟨v1,v2,rfl,bV,bX,bK⟩:=V ce e Q hp;have cJ:=O bV;have cf:=O bX;obtain⟨a1,db,aF,_,_⟩:=bV.shape;obtain⟨a2,de,I,_,_⟩:=bX.shape;rw[x0F]at aF I;subst aF;subst I;have U:=O bK;have bI:=O ((V HV).below bK);clear hp bV bX bK ce HP HV;have bY:=fun W=>O (y0b (lo.length:Int) W);go_wp2_with fail;refine c1m (V (bY _)) fun w2 bj=>?_;clear bY;obtain⟨W3,be⟩:∃W3,w2.alloc (.cells #[.int .i64 (lo.length:Int),.int .i64 128,.int .i64 0,.int .i64 72,.bool true] 278)=W3:=⟨_,rfl⟩;have bB:StAt W3 w2.heap.size (lo.length:Int) 128 0 72 true:=(by rw[<- be];exact heap_alloc_new w2 _);have cU:W3.heap.size=w2.heap.size+1:=(by rw[<- be];exact x0t _ _);have bL:Bw Q W3:=(by rw[<- be];exact bj.alloc bj.size _);obtain⟨W4,bu,cw,bh⟩:=y5I xs.length W3 f6J;have cV:W4.heap.size=W3.heap.size+1:=(by rw[bh];exact x0t _ _);have J:StAt W4 w2.heap.size (lo.length:Int) 128 0 72 true:=(by rw[bh];exact bB.alloc _);have cx:Bw Q W4:=(by rw[bh];exact bL.alloc bL.size _);have cZ:=bj.size;obtain⟨W5,bw,cj,bm⟩:=y5G xs.length W4 Q.heap.size f6J f6J;obtain⟨b,hb⟩:∃b,w2.heap.size=b:=⟨_,rfl⟩;obtain⟨g,hg⟩:∃g,W3.heap.size=g:=⟨_,rfl⟩;obtain⟨g2,bQ⟩:∃g2,W4.heap.size=g2:=⟨_,rfl⟩
 have ci:Wm Q b g (lo.length:Int) 128 0 72 true (List.replicate (xs.length+1) 0) [] (.slice (some ⟨g2,0,none⟩) 0 (xs.length+1)) W5:=by
  rw[<- hb,<- hg,<- bQ];refine⟨J.grown bm (by simp),cw.grown bm (by simp),cj,cx.grown bm f6J (fun k hk=>by cases hk),f6J,f6J,f6J,?_,?_⟩
  ·exact e9Q
  ·exact e9Q
 rw[hg]at bu;rw[bQ]at bw;have bZ:=O ci;clear bB bL cw bh cV J cx cj bm ci bj cU;go_wp2;go_loopw[8,10,32] (fun bv _ jj wr=>∃(k:Nat) (T out:List Int),jj=.int .i64 k/\k<=lo.length/\Wm Q b g (lo.length:Int) 128 0 72 true T out bv wr/\Pu.Tb k T/\T.length=xs.length+1/\out.length=k/\Pu.wr1 xs lo (List.replicate (xs.length+1) 0) []=Pu.wr1 xs (lo.drop k) T out) (fun _ _ jj _=>lo.length-(intOf jj).toNat)
 case atStart=>exact⟨0,_,[],rfl,f6J,V bZ,fun t ht=>by rw[List.eq_of_mem_replicate ht];exact⟨Int.le_refl 0,Int.le_refl 0⟩,by simp,rfl,s4M⟩
 case round =>
  clear bZ bu bw be hb hg bQ;obtain⟨k,T,out,rfl,hk,C,S,E,aV,bn⟩:=hrel;by_cases H:k<lo.length
  ·obtain⟨b1,o1,dh,aF,_,_,bt⟩:=(V cJ).place (by rw[x0F];exact f6J);rw[x0F]at aF;simp only[Value.slice.injEq]at aF;obtain⟨rfl,h9,rfl⟩:=aF;clear h9
   have cE:wr.cell? ⟨b1,o1+k,none⟩=some (.int .i64 ((lo.getD k 0:Nat):Int)):=by
    have h3:=bt k (by rw[x0F];exact H);rw[x9u H]at h3;exact i7F
   have aS:lo.getD k 0<xs.length:=V cH _ (x5V H);have cO:=V cG _ (x5V H);have cI:=O (bn.trans (z3w H));generalize lo.getD k 0=c at *;obtain⟨bx,ox,cg,aq,_,_,Z⟩:=(V bI).place f6J;simp only[Value.slice.injEq]at aq;obtain⟨rfl,h9,rfl⟩:=aq;clear h9
   have A:∀W,Bw Q W->W.cell? ⟨bx,ox+c,none⟩=some (.int .i32 (xs.getD c 0)):=fun W hb=>by
    have h3:=Z c aS;rw[hb.cell (x0a h3)];exact h3
   have cF:=O A;have cD:=V bG c;have bD:=O (y1M g T c wr C.t (S.le f6J) f6J f6J);rw[E]at bD;have aj:Hid (Pu.Tb (k+1:Nat) (Pu.add T c)):=(by have:=Pu.y6T S f6J f6J c;show Pu.Tb _ _;rwa [(f6J:((k+1:Nat):Int)=(k:Int)+1)]);have am:Hid ((Pu.add T c).length=xs.length+1):=(Pu.y1N T c).trans E;have G:=O C;clear C S E bn bt Z A;generalize Pu.add T c=T2,xs.getD c 0=z at *;go_wp2_with fail;refine(V bD).mono ?_;intro e wa aR;have ba:=(V G).added aR;have cQ:=aR.1;subst cQ;have cY:=V cF wa ba.bel;have cW:=ba.size;have bF:=O ba;clear aR ba bD G;have dk:z%256=z:=f6J;go_wp2_with(at_builtin;refine x0K rfl (.tmp 39) (.tmp 45) rfl Q.heap.size _ out z _ rfl rfl (V bF).ob rfl (fun y hy=>F0X) f6J f6J ?_);intro v' w' h1 h2 h3;have HN:=O ((V bF).wrote (.inr ⟨_,rfl⟩) h1 h2 h3);have P:Hid ((out++[z]).length=k+1):=(by show _=_;simp[aV]);clear h1 h2 h3 bF;go_wp2
   go_roundw
   case rel=>exact⟨k+1,T2,out++[z],g2A,f6J,V HN,V aj,V am,V P,V cI⟩
   case measure=>exact g7W
  ·have u:k=lo.length:=f6J;have bC:Pu.wr1 xs lo (List.replicate (xs.length+1) 0) []=(T,out):=(by rw[bn,u,List.drop_length];rfl);rw[bC]at HR D;have bp:Pu.Tb (lo.length:Int) T:=(by rw[<- u];exact S);have j:=O bp;have aZ:=O E;clear bn bC S bp;by_cases hz:lo.length=0
   ·have aI:=O C;have N:Hid (out.length<=3000+40*0):=(by show _<=_;exact f6J);clear C;go_wp2
    have HQ:Hid (R=Pu.wr2 xs (ord.drop 0) T ((lo.length:Int)+((0:Nat):Int)) 128 0 72 true out):=by
     show R=_;rw[List.drop_zero,V HR,if_pos hz];simp
    clear HR;go_loopw[2,3,8,12,13,56] (fun _ _ bv _ _ jj wr=>∃(k:Nat) (T out:List Int) (n i bias:Int) (f:Bool),jj=.int .i64 k/\k<=ord.length/\Wm Q b g ((lo.length:Int)+k) n i bias f T out bv wr/\Pu.Tb ((lo.length:Int)+k) T/\T.length=xs.length+1/\(0<=n/\n<=1114111)/\(0<=i/\i<=(lo.length:Int)+k)/\(0<=bias/\bias<=468)/\out.length<=3000+40*k/\Pu.wok xs (ord.drop k) T ((lo.length:Int)+k) n i=true/\R=Pu.wr2 xs (ord.drop k) T ((lo.length:Int)+k) n i bias f out) (fun _ _ _ _ _ jj _=>ord.length-(intOf jj).toNat)
    case atStart=>exact⟨0,T,out,128,0,72,true,rfl,f6J,v6U,V9M,V aZ,f6J,f6J,f6J,V N,g5A,V HQ⟩
    case round =>exact E9C
   ·have cW:=C.size;have G:=O C;clear C;go_wp2_with(at_builtin;refine x0K rfl (.tmp 51) (.tmp 52) rfl Q.heap.size _ out 45 _ rfl rfl (V G).ob rfl (fun y hy=>F0X) f6J f6J ?_);intro v' w' h1 h2 h3;have aI:=O ((V G).wrote (.inr ⟨_,rfl⟩) h1 h2 h3);have N:Hid ((out++[45]).length<=3000+40*0):=(by show _<=_;exact P8R);clear h1 h2 h3 G;go_wp2
    have HQ:Hid (R=Pu.wr2 xs (ord.drop 0) T ((lo.length:Int)+((0:Nat):Int)) 128 0 72 true (out++[45])):=by
     show R=_;rw[List.drop_zero,V HR,if_neg hz];simp
    clear HR;go_loopw[2,3,8,12,13,56] (fun _ _ bv _ _ jj wr=>∃(k:Nat) (T out:List Int) (n i bias:Int) (f:Bool),jj=.int .i64 k/\k<=ord.length/\Wm Q b g ((lo.length:Int)+k) n i bias f T out bv wr/\Pu.Tb ((lo.length:Int)+k) T/\T.length=xs.length+1/\(0<=n/\n<=1114111)/\(0<=i/\i<=(lo.length:Int)+k)/\(0<=bias/\bias<=468)/\out.length<=3000+40*k/\Pu.wok xs (ord.drop k) T ((lo.length:Int)+k) n i=true/\R=Pu.wr2 xs (ord.drop k) T ((lo.length:Int)+k) n i bias f out) (fun _ _ _ _ _ jj _=>ord.length-(intOf jj).toNat)
    case atStart=>exact⟨0,T,(out++[45]),128,0,72,true,rfl,f6J,v6U,V9M,V aZ,f6J,f6J,f6J,V N,g5A,V HQ⟩
    case round =>exact E9C
namespace Pu
def ordOf(xs:List Int):List Nat:=y1r xs (idx xs x3e)
def encode(xs:List Int):List Int×Int:=if allb okb xs=false then([],31)else write xs (ordOf xs)
def t1Of(xs:List Int):List Int:=(wr1 xs (idx xs lowq) (List.replicate (xs.length+1) 0) []).1
def fine(xs:List Int):Prop:=(∀a∈ordOf xs,a<xs.length)/\(idx xs lowq).length+(ordOf xs).length<=2000/\wok xs (ordOf xs) (t1Of xs) ((idx xs lowq).length:Int) 128 0=true
end Pu
theorem y5W v xs w(N:Sk .i32 w v xs):Calls prog 190 #[v] w (x2w w (allb okb xs)):=by
 have H:=O (x2n v xs w N);have m:allb okb xs=decide (fbY (fun c=>!okb c) 0 xs<0):=(by rw[y8e];simp[allb]);rw[m];go_enter func190,ntmps190;go_wp2_with fail;refine(V H).mono ?_;rintro e w ⟨rfl,rfl⟩;go_wp2;go_ret;exact x2w.mk rfl
theorem y9u{xs}(h:allb okb xs=true):∀z∈xs,0<=z/\z<=1114111:=by
 intro z o;have:=List.all_eq_true.1 h z o;have D:Utf.okc z:=o0d this;rcases D with h3|h3<;>omega
theorem x4N m(c:z1a m) v xs w(N:Sk .i32 w v xs)(S:xs.length<=2000)(C:(Pu.idx xs Pu.x3e).length<=m)(X:allb okb xs=true->Pu.fine xs) :
  Calls prog 142 #[v] w (WrP w (Pu.encode xs)):=by
 have P:=O (y5W v xs w N);obtain⟨D,M,E,o,q⟩:=N.shape
 cases hb:allb okb xs with
 | false =>
  have T:Hid (WrP w (Pu.encode xs) (.returned (.tuple #[.string ⟨#[]⟩,.int .i64 31])) w):=by
   refine⟨?_,b0r⟩;unfold Pu.encode;rw[if_pos hb];rfl
  rw[hb]at P;subst E;go_enter func142,ntmps142;go_wp2_with(go_at_call 190;refine(V P).mono ?_;rintro e G ⟨rfl,rfl⟩;clear P);go_ret2;exact V T
 | true =>
  obtain⟨y,z,B⟩:=X hb;have Y:=O (z0T m c v xs w N S C (y9u hb) (Pu.ordOf xs) rfl y z B);have Z:Pu.encode xs=Pu.write xs (Pu.ordOf xs):=(by unfold Pu.encode;rw[if_neg (by rw[hb];exact M7K)]);rw[Z];rw[hb]at P;subst E;generalize Pu.write xs (Pu.ordOf xs)=R at *;go_enter func142,ntmps142;go_wp2_with(go_at_call 190;refine(V P).mono ?_;rintro e G ⟨rfl,rfl⟩;clear P);refine c0m Y fun d F=>?_;have T:Hid (WrP G R (.returned (.tuple #[.string (strOfNums R.1),.int .i64 R.2])) d):=⟨rfl,F⟩;go_wp2;go_ret2;exact V T
