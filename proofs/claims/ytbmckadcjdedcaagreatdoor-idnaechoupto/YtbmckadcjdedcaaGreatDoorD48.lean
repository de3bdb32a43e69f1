/- YPw11 YPwA11 YPwB11 YPwC11 YPwD11 YPwE11 YRefE3 YRefF3 YPwF11 YPwG11 -/
import Derived.Test.YtbmckadcjdedcaaGreatDoorD45
import Derived.Deep.AppendLies
import Derived.Deep.QuietTactic
import Derived.Laws.MakeOwn
import Derived.Deep.DeepCutAuto
import Derived.Deep.CutBlock
set_option maxHeartbeats 8000000
set_option maxRecDepth 20000
namespace Go.Proofs.YtbmckadcjdedcaaGreatDoor
open Go.Proofs.Tryz
open Go.RowKit
section
variable{p:Prop}
theorem V1M(h:p:=by rw[u];clear u;go_enter func201,ntmps201;go_wp2;go_ret;exact x0C.mk (by first| rfl | omega)):p:=h
theorem v1L(h:p:=by rw[heap_alloc_old _ _ (Array.getElem?_eq_some_iff.1 h).1];exact h):p:=h
theorem G5a(h:p:=by rw[u];clear u;go_enter func284,ntmps284;go_wp2;go_ret;exact x3T.mk (by first| rfl | omega)):p:=h
theorem t4l(h:p:=by rw[Y.block b (Array.getElem?_eq_some_iff.1 h).1 (fun t=>F t.symm)];exact h):p:=h
theorem p0G(h:p:=by
 clear HQ aH K ba L aL;obtain⟨k,T,out,n,i,bias,f,rfl,hk,P,F,B,hn,hi,M,aW,U,hR⟩:=hrel;by_cases H:k<ord.length
 ·obtain⟨b2,o2,cN,G,_,_,j⟩:=(V cg).place v2F;rw[x0F]at G;simp only[Value.slice.injEq]at G;obtain⟨rfl,h9,rfl⟩:=G;clear h9
  have Y:wr.cell? ⟨b2,o2+k,none⟩=some (.int .i64 ((ord.getD k 0:Nat):Int)):=by
   have h3:=j k (by rw[x0F];exact H);rw[x9m H]at h3;exact V0v
  have aT:ord.getD k 0<xs.length:=V ce _ (x5P H);have af:=x4c H;generalize ord.getD k 0=c at *;obtain⟨bx,ox,ci,N,_,_,I⟩:=(V bJ).place f6J;simp only[Value.slice.injEq]at N;obtain⟨rfl,h9,rfl⟩:=N;clear h9
  have A:∀nq,(wr.drewN nq).cell? ⟨bx,ox+c,none⟩=some (.int .i32 (xs.getD c 0)):=fun nq=>by
   have h3:=I c aT;show wr.cell? _=_;exact V0v
  have C:=A 0;have cE:=V bH c;obtain⟨s1,s2,s3⟩:=P.size;have r:Pu.Tb 3000 T:=F.le f6J;have cO:=Pu.x5f r c;rw[af]at U hR;obtain⟨bO,bU,aZ⟩:=Pu.y3T U;have o:=fun nq=>O (x9N g T c (wr.drewN nq) (P.t.drewN nq) r f6J f6J);have ab:=fun nq=>O (y3C b ((lo.length:Int)+k) n i bias (xs.getD c 0) (Pu.ahead T c) f (wr.drewN nq) (P.st.drewN nq) f6J hn f6J f6J f6J);rw[B]at o;have aU:(xs.getD c 0-n)*((lo.length:Int)+k+1)+Pu.ahead T c-i=Pu.dlt xs c T ((lo.length:Int)+k) n i:=rfl;rw[aU]at ab;have E:=O P;have K:=O F;have u:=O hR;have Z:=O aZ;clear P F r U hR aZ af j I aU;generalize hde:Pu.dlt xs c T ((lo.length:Int)+k) n i=d at *;have p:=O hde;clear hde;by_cases aC:2147483647<d
  ·have x:=O ((V u).trans (Pu.y3U (by rw[V p];exact aC)));have aG:=O (V E).bel;clear u Z p K E;generalize Pu.ahead T c=ah,xs.getD c 0=z at *;go_wp2;go_quiet(first| (go_at_call 244;exact Calls.quiet_of_same (V (o _)))|(go_at_call 243;exact Calls.quiet_of (V (ab _))))
   have HF:Hid (WrP w R (.returned (.tuple #[.string ⟨#[]⟩,.int .i64 113])) (wr.drewN nq)):=by
    refine⟨by rw[V x];rfl,?_⟩;exact(V l).trans (((V aG).trans ((x0k ⟨nq,rfl⟩:Bw wr _).mono s1)).mono (V l).size)
   clear aG x o ab;go_wp2;go_ret2;exact V HF
  ·have bT:=Pu.y1p (v:=d) (bias:=bias) bO f6J;have x:=O ((V u).trans (Pu.y3V (by rw[V p];exact aC)))
   have bI:Hid (Pu.wok xs (ord.drop (k+1)) (Pu.add T c) ((lo.length:Int)+k+1) (n+(i+d) / ((lo.length:Int)+k+1)) ((i+d)%((lo.length:Int)+k+1)+1)=true):=by
    rcases V Z with h | h
    ·exact absurd h aC
    ·exact h
   rw[V p]at x;have cT:0<=(i+d)%((lo.length:Int)+k+1):=Int.emod_nonneg _ f6J;have cU:(i+d)%((lo.length:Int)+k+1)<(lo.length:Int)+k+1:=Int.emod_lt_of_pos _ f6J;have aR:=Pu.x2Q d ((lo.length:Int)+k+1) f f6J
   have q:Hid (∀nq,Calls prog 245 #[u8,.int .i64 d,.int .i64 bias] (wr.drewN nq) (GrP Q.heap.size u8 (wr.drewN nq) (out++Pu.wrNum d bias))):=fun nq =>
    x2I Q.heap.size u8 out d bias (wr.drewN nq) ((V E).drewN nq).ob (by show Q.heap.size<=wr.heap.size;exact s1) f6J f6J M
   have S:Hid (∀W bv,Wm Q b g ((lo.length:Int)+k) n i bias f T (out++Pu.wrNum d bias) bv W->Calls prog 202 #[.pointer (some ⟨b,0,none⟩),.int .i64 d] W (x3W W b ((lo.length:Int)+k+1) (n+(i+d) / ((lo.length:Int)+k+1)) ((i+d)%((lo.length:Int)+k+1)+1) (Pu.adapt d ((lo.length:Int)+k+1) f) ((i+d)%((lo.length:Int)+k+1)))):=fun W bv h =>
    x9E b ((lo.length:Int)+k) n i bias d f W h.st f6J f6J f6J f6J
   have aj:Hid (∀W,TAt W g T->Calls prog 242 #[.slice (some ⟨g,0,none⟩) (xs.length+1) (xs.length+1),.int .i64 c] W (AddP W g (Pu.add T c))):=fun W h=>by
    have:=y1w g T c W h ((V K).le f6J) f6J f6J;rwa [B]at this
   have ar:Hid (Pu.Tb ((lo.length:Int)+k+1) (Pu.add T c)):=Pu.y6r (V K) f6J f6J c;have aw:Hid ((Pu.add T c).length=xs.length+1):=(Pu.y1x T c).trans B;clear u Z p K B;generalize hout2:out++Pu.wrNum d bias=X at *;have am:Hid (X.length<=3000+40*(k+1)):=(by show _<=_;rw[<- hout2];exact P8Q);clear hout2;generalize Pu.add T c=T2,Pu.adapt d ((lo.length:Int)+k+1) f=ad,n+(i+d) / ((lo.length:Int)+k+1)=n2,(i+d)%((lo.length:Int)+k+1)=pl2,Pu.ahead T c=ah,xs.getD c 0=z at *;have aK:=O fun nq=>(V E).drewN nq;have bS:=(V E).st.cells;obtain⟨_,_,_,c3,_⟩:=bS;clear E;go_wp2;go_quiet(first| (go_at_call 244;exact Calls.quiet_of_same (V (o _)))|(go_at_call 243;exact Calls.quiet_of (V (ab _))));have aM:(wr.drewN nq).cell? ⟨b,3,none⟩=some (.int .i64 bias):=c3;have s:=O (V aK nq);have az:=O (V q nq);have aX:(wr.drewN nq).heap.size=wr.heap.size:=rfl;clear aK q o ab c3 A C Y;obtain⟨wd,aY⟩:∃wd,wr.drewN nq=wd:=⟨_,rfl⟩;rw[aY]at aM s az aX ⊢;clear aY;go_wp2_with(go_at_call 245;refine(V az).mono ?_;rintro e w3 ⟨bK,rfl,aO,aP,aQ⟩);have J:=(V s).wrote (.inl rfl) aO aP aQ;have aq:=O (V S w3 bK J);have aI:=O J;clear az s aO aP aQ J S aM aX;go_wp2_with(go_at_call 202;refine(V aq).mono ?_;intro e w4 D;have bP:=D.1;subst bP);have aA:=(V aI).stepped D;have ai:=O (V aj w4 aA.t);have aJ:=O aA;clear D aA aI aq aj;go_wp2_with(go_at_call 242;refine(V ai).mono ?_;intro e w5 ae;have bQ:=ae.1;subst bQ);have aN:=(V aJ).added ae;have bF:=O aN;clear ae aN aJ ai;have ag:Hid ((lo.length:Int)+((k+1:Nat):Int)=(lo.length:Int)+k+1):=(by show _=_;exact f6J);go_wp2
   go_roundw
   case rel=>exact⟨k+1,T2,X,n2,pl2+1,ad,false,g2A,f6J,by rw[V ag];exact V bF,by rw[V ag];exact V ar,V aw,bU,f6J,aR,V am,by rw[V ag];exact V bI,by rw[V ag];exact V x⟩
   case measure=>exact g7V
 ·have ay:k=ord.length:=by omega
  have x:Hid (R=(out,0)):=by
   show R=_;rw[hR,ay,List.drop_length];rfl
  have cQ:=P.ob.sk.conv;obtain⟨cL,cM,bN,_,_⟩:=P.ob.sk.shape;have HF:Hid (WrP w R (.returned (.tuple #[.string (strOfNums out),.int .i64 0])) wr):=⟨by rw[V x],(V l).trans (P.bel.mono (V l).size)⟩;clear P F B U hR ay x;subst bN;generalize strOfNums out=so at *;go_wp2;go_ret2;exact V HF):p:=h
theorem W2J(h:p:=by have:=h.hB;have:=h.hb;have:=h.hw;exact f6J):p:=h
theorem V8r(h:p:=by rw[f];exact f6J):p:=h
theorem I2i(h:p:=by have:=Y.size;have:=h.hB;exact f6J):p:=h
theorem s9a(h:p:=by simp at o;subst o;simp[IntKind.min,IntKind.max,IntKind.signed,IntKind.bits];exact f6J):p:=h
theorem f9M(h:p:=by
 go_wp2
 go_roundw
 case rel=>exact⟨k+1,g2A,f6J,by rw[V S,V f];exact V HN⟩
 case measure=>exact g7T):p:=h
theorem s9H(h:p:=by simp at o;subst o;exact x8q f6J):p:=h
theorem P7O(h:p:=by rw[x0s];exact f6J):p:=h
theorem F5H(h:p:=by rw[List.drop_zero,(f6J:(lo.length:Int)+((0:Nat):Int)=(lo.length:Int))];exact V aL):p:=h
theorem v2F(h:p:=by rw[x0F];exact f6J):p:=h
theorem w6w(h:p:=by rw[(f6J:(lo.length:Int)+((0:Nat):Int)=(lo.length:Int))];exact V aH):p:=h
theorem v1c(h:p:=by rw[V I];exact f6J):p:=h
theorem g8C(h:p:=by rw[(f6J:(lo.length:Int)+((0:Nat):Int)=(lo.length:Int))];exact V K):p:=h
theorem V0v(h:p:=by rw[P.bel.cell (x0a h3)];exact h3):p:=h
theorem R3d(h:p:=by simp at hy;subst hy;exact x8q f6J):p:=h
theorem e9Q(h:p:=by simp only[Value.ownBlock];intro hh;simp at hh;omega):p:=h
end
namespace Pu
def let1(d:Int):Int:=if d<26 then 97+d else 48+(d-26)
def wrN(bias:Int):Nat->Int->Int->List Int
 | 0,_,v=>[let1 v]
 | f+1,k,v=>if v<thr k bias then[let1 v]else let1 (thr k bias+(v-thr k bias)%(36-thr k bias))::wrN bias f (k+1) ((v-thr k bias) / (36-thr k bias))
def wrNum(v bias:Int):List Int:=wrN bias v.toNat 1 v
theorem x6C{d:Int}(T:0<=d)(D:d<=35):48<=let1 d/\let1 d<=122:=by unfold let1;exact G7p
theorem x9K{bias:Int}{f:Nat}{k v:Int}(h:v<thr k bias):wrN bias f k v=[let1 v]:=by cases f with
 | zero=>rfl
 | succ f=>rw[wrN,if_pos h]
theorem y3W{bias:Int}{f:Nat}{k v:Int}(h:¬v<thr k bias):wrN bias (f+1) k v=let1 (thr k bias+(v-thr k bias)%(36-thr k bias))::wrN bias f (k+1) ((v-thr k bias) / (36-thr k bias)):=by rw[wrN,if_neg h]
def lbi(j:Int):Int:=bits .and .i64 j (-j)
def lbOk:Nat->Bool
 | 0=>true
 | n+1=>decide (1<=lbi (n+1)/\lbi (n+1)<=n+1)&&lbOk n
theorem z1K{n j:Nat}(h:lbOk n=true)(D:1<=j)(Z:j<=n):1<=lbi j/\lbi j<=j:=by
 induction n with
 | zero=>omega
 | succ n ih =>
  simp only[lbOk,Bool.and_eq_true,decide_eq_true_eq]at h;rcases Nat.lt_or_ge n j with hj | hj
  ·grind
  ·exact ih h.2 hj
theorem y8u:lbOk 2100=true:=M3j
theorem x7X{j:Nat}(D:1<=j)(Z:j<=2100):1<=lbi j/\lbi j<=j:=z1K y8u D Z
def addF:Nat->List Int->Nat->List Int
 | 0,T,_=>T
 | f+1,T,j=>if j<T.length then addF f (T.set j (T.getD j 0+1)) (j+(lbi j).toNat)else T
def x3v:Nat->List Int->Nat->Int->Int
 | 0,_,_,n=>n
 | f+1,T,j,n=>if 0<j then x3v f T (j-(lbi j).toNat) (n+T.getD j 0)else n
def add(T:List Int)(p:Nat):List Int:=addF T.length T (p+1)
def ahead(T:List Int)(p:Nat):Int:=x3v p T p 0
theorem z0F(f:Nat)(T:List Int)(j:Nat):(addF f T j).length=T.length:=by
 induction f generalizing T j with
 | zero=>rfl
 | succ f ih =>
  rw[addF];split
  ·rw[ih];simp
  ·rfl
theorem y1x(T:List Int)(p:Nat):(add T p).length=T.length:=z0F _ _ _
def Tb(k:Int)(T:List Int):Prop:=∀t∈T,0<=t/\t<=k
theorem Tb.at{k:Int}{T:List Int}(h:Tb k T)(G:0<=k)(j:Nat):0<=T.getD j 0/\T.getD j 0<=k:=by
 rcases Nat.lt_or_ge j T.length with hj | hj
 ·rw[List.getD,List.getElem?_eq_getElem hj];exact h _ (List.getElem_mem hj)
 ·grind
def wr2(xs:List Int):List Nat->List Int->Int->Int->Int->Int->Bool->List Int->List Int×Int
 | [],_,_,_,_,_,_,out=>(out,0)
 | c::r,T,p,n,i,bias,first,out =>
  let d:=(xs.getD c 0-n)*(p+1)+ahead T c-i
  if 2147483647<d then([],113)else
   wr2 xs r (add T c) (p+1) (n+(i+d) / (p+1)) ((i+d)%(p+1)+1) (adapt d (p+1) first) false (out++wrNum d bias)
def wr1(xs:List Int):List Nat->List Int->List Int->List Int×List Int
 | [],T,out=>(T,out)
 | c::r,T,out=>wr1 xs r (add T c) (out++[xs.getD c 0])
def idx(xs:List Int)(q:Int->Bool):List Nat:=(List.range xs.length).filter fun k=>q (xs.getD k 0)
def lowq(c:Int):Bool:=decide (c<128)
def write(xs:List Int)(ord:List Nat):List Int×Int :=
 wr2 xs ord (wr1 xs (idx xs lowq) (List.replicate (xs.length+1) 0) []).1 ((idx xs lowq).length:Int) 128 0 72 true
  ((wr1 xs (idx xs lowq) (List.replicate (xs.length+1) 0) []).2++if(idx xs lowq).length=0 then[]else[45])
end Pu
def x3T(w:World)(z:Int)(e:Ending)(w':World):Prop:=e=.returned (.int .u8 z)/\w'=w
theorem x3T.mk{w:World}{z u:Int}(h:u=z):x3T w z (.returned (.int .u8 u)) w:=t5o
theorem x7Y(d:Int)(w:World)(T:0<=d)(D:d<=35):Calls prog 284 #[.int .i64 d] w (x3T w (Pu.let1 d)):=by
 by_cases hd:d<26
 ·have u:Pu.let1 d=97+d:=(by unfold Pu.let1;rw[if_pos hd]);exact G5a
 ·have u:Pu.let1 d=48+(d-26):=(by unfold Pu.let1;rw[if_neg hd]);exact G5a
def NumP(w:World)(z:Int)(e:Ending)(w':World):Prop:=e=.returned (.int .i64 z)/\(w'=w\/w'=w.drew)
theorem y5k(b:Nat)(p n i bias c L:Int)(f:Bool)(w:World)(h:StAt w b p n i bias f)(A:0<=p/\p<=3000)(E:0<=n/\n<=1114111)(hi:0<=i/\i<=3000)(I:0<=c/\c<=1114111)(y:0<=L/\L<=10000000) :
  Calls prog 243 #[.pointer (some ⟨b,0,none⟩),.int .i32 c,.int .i64 L] w (NumP w ((c-n)*(p+1)+L-i)):=by
 obtain⟨Y,o,z,s,K,C,m,S,u,U⟩:=h.cells
 have T:(c-n)*(p+1)<=1114111*3001:=by
  calc (c-n)*(p+1)<=1114111*(p+1):=Int.mul_le_mul_of_nonneg_right f6J f6J
   _<=1114111*3001:=f6J
 have l:-(1114111*3001)<=(c-n)*(p+1):=by
  have:(n-c)*(p+1)<=1114111*3001:=by
   calc (n-c)*(p+1)<=1114111*(p+1):=Int.mul_le_mul_of_nonneg_right f6J f6J
    _<=1114111*3001:=f6J
  have e:(n-c)*(p+1)=-((c-n)*(p+1)):=(by grind);omega
 go_enter func243,ntmps243;go_wp2
 all_goals try go_region
 all_goals try go_wp2
 go_ret;exact⟨by first| rfl|(congr 2<;>omega),by first| exact .inl rfl | exact .inr rfl⟩
def TAt(w:World)(g:Nat)(T:List Int):Prop:=w.heap[g]?=some (.cells (T.map (Value.int .i64)).toArray 3 (0,0))
theorem TAt.cell{w:World}{g:Nat}{T:List Int}(h:TAt w g T){j:Nat}(K:j<T.length):w.cell? ⟨g,j,none⟩=some (.int .i64 (T.getD j 0)):=by
 unfold TAt at h;simp[World.cell?,h,List.getD,K]
theorem TAt.frozen{w:World}{g:Nat}{T:List Int}(h:TAt w g T)(j:Nat):w.frozen? ⟨g,j,none⟩=false:=by
 unfold TAt at h;simp[World.frozen?,h]
theorem TAt.set{w:World}{g:Nat}{T:List Int}(h:TAt w g T)(j:Nat)(z:Int):TAt (w.setCell ⟨g,j,none⟩ (.int .i64 z)) g (T.set j z):=by
 unfold TAt at h ⊢;rw[x1o h];simp
theorem y8v{j:Nat}(D:1<=j)(Z:j<=2100):∃q:Nat,bits .and .i64 (j:Int) (-(j:Int))=(q:Int)/\q=(Pu.lbi j).toNat/\1<=q/\q<=j:=by
 have:=Pu.x7X D Z;refine⟨(Pu.lbi j).toNat,?_,rfl,f6J,f6J⟩;show Pu.lbi j=_;omega
theorem x9N(g:Nat)(T:List Int)(p:Nat)(w:World)(h:TAt w g T)(C:Pu.Tb 3000 T)(S:T.length<=2050)(A:p<T.length) :
  Calls prog 244 #[.slice (some ⟨g,0,none⟩) T.length T.length,.int .i64 p] w (x0C w (Pu.ahead T p)):=by
 have Y:Hid (∀j,j<T.length->w.cell? ⟨g,j,none⟩=some (.int .i64 (T.getD j 0))):=fun j K=>h.cell K;have B:Hid (∀j,0<=T.getD j 0/\T.getD j 0<=3000):=fun j=>C.at f6J j;have J:Pu.ahead T p=Pu.x3v p T p 0:=rfl;generalize Pu.ahead T p=r at *;have a:=O J;clear h C J;go_enter func244,ntmps244;go_wp2;go_loop [5,6] (fun I G=>∃(f j:Nat) (n:Int),I=.int .i64 n/\G=.int .i64 j/\j<=p/\j<=f/\0<=n/\n+3000*j<=3000*p/\r=Pu.x3v f T j n) (fun _ G=>(intOf G).toNat)
 case atStart=>exact⟨p,p,0,rfl,rfl,f6J,f6J,f6J,f6J,V a⟩
 case round =>
  obtain⟨f,j,n,rfl,rfl,H,M,E,s,u⟩:=hrel;by_cases K:0<j
  ·obtain⟨f,rfl⟩:∃g,f=g+1:=⟨f-1,f6J⟩;have Q:=O (u.trans (by rw[Pu.x3v,if_pos K]));have X:=V Y j f6J;have z:=V B j;obtain⟨q,N,b,c,k⟩:=y8v (j:=j) f6J f6J;rw[<- b]at Q;clear b;generalize T.getD j 0=t at *;have D:((j-q:Nat):Int)=(j:Int)-(q:Int):=f6J;have L:=O D;go_wp2;go_round
   case rel=>exact⟨f,j-q,n+t,U6t,by first| rfl|(rw[V L]) | go_num,f6J,f6J,f6J,f6J,V Q⟩
   case measure=>exact g7T
  ·have F:j=0:=f6J;subst F
   have x:Hid (n=r):=by
    show n=r;rw[u]
    cases f with
    | zero=>rfl
    | succ f=>rw[Pu.x3v,if_neg f6J]
   clear u;go_wp2;go_ret;exact x0C.mk (V x)
def AddP(w:World)(g:Nat)(T:List Int)(e:Ending)(w':World):Prop:=e=.returned (.tuple #[])/\TAt w' g T/\w.grownBy w' (some g)/\w'.heap.size=w.heap.size
theorem x8P(T:List Int)(j m:Nat)(z:Int)(K:j<T.length):(T.set j z).getD m 0=if m=j then z else T.getD m 0:=by grind
theorem y1w(g:Nat)(T:List Int)(p:Nat)(w:World)(h:TAt w g T)(hb:Pu.Tb 3000 T)(S:T.length<=2050)(A:p<=100000) :
  Calls prog 242 #[.slice (some ⟨g,0,none⟩) T.length T.length,.int .i64 p] w (AddP w g (Pu.add T p)):=by
 have B:Hid (∀j,0<=T.getD j 0/\T.getD j 0<=3000):=fun j=>hb.at f6J j;have J:Pu.add T p=Pu.addF T.length T (p+1):=rfl;generalize Pu.add T p=r at *;have a:=O J;have n:=O h;obtain⟨L,y⟩:∃L,T.length=L:=⟨_,rfl⟩;rw[y];rw[y]at S a;have F:=O y;go_enter func242,ntmps242;go_wp2;go_loopw[4] (fun G wr=>∃(f j:Nat) (U:List Int),G=.int .i64 j/\1<=j/\j<=103000/\U.length=L/\TAt wr g U/\(∀m,0<=U.getD m 0/\U.getD m 0<=3000+j)/\L<=j+f/\r=Pu.addF f U j/\w.grownBy wr (some g)/\wr.heap.size=w.heap.size) (fun G _=>L-(intOf G).toNat)
 case atStart=>exact⟨L,p+1,T,U6t,f6J,f6J,V F,V n,fun m=>by have:=V B m;exact f6J,f6J,V a,x1N w _,rfl⟩
 case round =>
  obtain⟨f,j,U,rfl,E,M,s,H,R,z,u,C,I⟩:=hrel;by_cases K:j<L
  ·obtain⟨f,rfl⟩:∃g,f=g+1:=⟨f-1,f6J⟩;have HR:=O (u.trans (by rw[Pu.addF,if_pos f6J]));have X:=H.cell (j:=j) f6J;have i:=H.frozen j;have Y:=R j;have l:=O (H.set j (U.getD j 0+1));have W:=O (x1O (j:=j) C (.int .i64 (U.getD j 0+1)));have P:Hid ((wr.setCell ⟨g,j,none⟩ (.int .i64 (U.getD j 0+1))).heap.size=w.heap.size):=f0k;have Q:Hid ((U.set j (U.getD j 0+1)).length=L):=by grind
   have d:Hid (∀m,0<=(U.set j (U.getD j 0+1)).getD m 0/\(U.set j (U.getD j 0+1)).getD m 0<=3000+j+1):=fun m=>by
    rw[x8P _ _ _ _ f6J];have D:=R m;have Z:=R j;exact G7p
   obtain⟨q,N,b,c,k⟩:=y8v (j:=j) f6J f6J;rw[<- b]at HR;generalize U.set j (U.getD j 0+1)=o at *;generalize U.getD j 0=t at *;go_wp2
   go_roundw
   case rel=>exact⟨f,j+q,o,U6t,f6J,f6J,V Q,V l,fun m=>by have:=V d m;exact f6J,f6J,V HR,V W,V P⟩
   case measure=>exact g7T
  ·have x:Hid (AddP w g r (.returned (.tuple #[])) wr):=by
    refine⟨rfl,?_,C,I⟩;rw[u]
    cases f with
    | zero=>exact H
    | succ f=>rw[Pu.addF,if_neg f6J];exact H
   go_wp2;go_end0;exact V x
theorem x6x:∃i,prog.info? 5=some i/\i.zero=some (.int .u8 0)/\i.size=1/\i.bytes=1:=by
 have h:(prog.info? 5).map (fun i=>(i.zero,i.size,i.bytes))=some (some (.int .u8 0),1,1):=f4x
 cases hq:prog.info? 5 with
 | none=>rw[hq]at h;simp at h
 | some i=>grind
theorem x0K{w:World}{A:Array Oper}{rest:List Oper}{o:Oper}{a:Act}{Q:Exit->Act->World->Prop}(C:o.guard=none)(s x:Operand)
  (y:o.op=.call { callee:=.builtin .append,args:=#[s,x],argTypes:=#[76,76] }) (B:Nat) (v:Value) (xs:List Int) (c:Int) (H:Nat) (X:a.eval s=v) (J:a.eval x=.slice (some ⟨H,0,none⟩) 1 1)
  (N:Ok .u8 5 w B v xs) (u:H=w.heap.size) (I:Fit .u8 [c]) (S:xs.length<=10000000000) (l:B<=w.heap.size)
  (h:∀v' w',Ok .u8 5 w' B v' (xs++[c])->(w.alloc (.cells #[.int .u8 c] 5)).grownBy w' v.ownBlock->(∀g,v'.ownBlock=some g->v.ownBlock=some g\/w.heap.size<=g)->wpList prog A Q rest (a.put o.dst v') w') :
  wpList prog A Q (o::rest) a (w.alloc (.cells #[.int .u8 c] 5)):=by
 obtain⟨r,hi,i,d,f⟩:=x6x;subst u;refine wpList_append_lies _ C s x 76 y B 5 r (.int .u8 0) 1 1 underlying76 hi i d f rfl e8P v _ _ X (N.row.alloc _) ⟨w.heap.size,0,none⟩ 1 1 [.int .u8 c] J rfl (cell_one_new _ _ _) (x0J .u8 _) f6J T7X f6J P7O (w.heap.size+1) (x0s _ _) ?_;intro g M w' D Z h3 E;refine h _ w' (Ok.of (N.1.app I) P8P D M7P M7P) Z (fun k G=>?_);have:k=g:=U8V;subst this;rcases h3 with h3 | h3
 ·exact .inl h3
 ·exact e5w
theorem x6z:∃i,prog.info? 3=some i/\i.zero=some (.int .i64 0)/\i.size=1/\i.bytes=8:=by
 have h:(prog.info? 3).map (fun i=>(i.zero,i.size,i.bytes))=some (some (.int .i64 0),1,8):=f4x
 cases hq:prog.info? 3 with
 | none=>rw[hq]at h;simp at h
 | some i=>grind
theorem x2b{w:World}{A:Array Oper}{rest:List Oper}{o:Oper}{a:Act}{Q:Exit->Act->World->Prop}(C:o.guard=none)(s x:Operand)
  (y:o.op=.call { callee:=.builtin .append,args:=#[s,x],argTypes:=#[275,275] }) (B:Nat) (v:Value) (xs:List Int) (c:Int) (H:Nat) (X:a.eval s=v) (J:a.eval x=.slice (some ⟨H,0,none⟩) 1 1)
  (N:Ok .i64 3 w B v xs) (u:H=w.heap.size) (I:Fit .i64 [c]) (S:xs.length<=10000000000) (l:B<=w.heap.size)
  (h:∀v' w',Ok .i64 3 w' B v' (xs++[c])->(w.alloc (.cells #[.int .i64 c] 3)).grownBy w' v.ownBlock->(∀g,v'.ownBlock=some g->v.ownBlock=some g\/w.heap.size<=g)->wpList prog A Q rest (a.put o.dst v') w') :
  wpList prog A Q (o::rest) a (w.alloc (.cells #[.int .i64 c] 3)):=by
 obtain⟨r,hi,i,d,f⟩:=x6z;subst u;refine wpList_append_lies _ C s x 275 y B 3 r (.int .i64 0) 1 8 underlying275 hi i d f rfl e8P v _ _ X (N.row.alloc _) ⟨w.heap.size,0,none⟩ 1 1 [.int .i64 c] J rfl (cell_one_new _ _ _) (x0J .i64 _) f6J T7X f6J P7O (w.heap.size+1) (x0s _ _) ?_;intro g M w' D Z h3 E;refine h _ w' (Ok.of (N.1.app I) P8P D M7P M7P) Z (fun k G=>?_);have:k=g:=U8V;subst this;rcases h3 with h3 | h3
 ·exact .inl h3
 ·exact e5w
def GrP(B:Nat)(v:Value)(w:World)(zs:List Int)(e:Ending)(w':World):Prop :=
 ∃v',e=.returned v'/\Ok .u8 5 w' B v' zs/\w.grownBy w' v.ownBlock/\∀g,v'.ownBlock=some g->v.ownBlock=some g\/w.heap.size<=g
theorem x6v{w1 w2 u:World}{E r2:Option Nat}(h:w1.grownBy w2 E)(k:w2.grownBy u r2)(hr:∀g,r2=some g->E=some g\/w1.heap.size<=g):w1.grownBy u E:=by
 refine⟨k.os.trans h.os,k.tape.trans h.tape,k.output.trans h.output,Nat.le_trans h.size k.size,fun g Y F=>?_⟩;rw[k.block g (Nat.lt_of_lt_of_le Y h.size) (fun t=>?_),h.block g Y F];rcases hr g t.symm with h1 | h1
 ·exact F h1.symm
 ·omega
theorem x9F(k bias:Int)(w:World)(G:0<=k/\k<=3000000000)(C:-1000000<=bias/\bias<=1000000) :
  Calls prog 201 #[.int .i64 k,.int .i64 bias] w (x0C w (Pu.thr k bias)):=by
 by_cases D:36*k-bias<1
 ·have u:Pu.thr k bias=1:=p8u;exact V1M
 ·by_cases Z:26<36*k-bias
  ·have u:Pu.thr k bias=26:=p4I;exact V1M
  ·have u:Pu.thr k bias=36*k-bias:=p2V;exact V1M
theorem x2I(B:Nat)(C:Value)(q:List Int)(j bias:Int)(w:World)(hv:Ok .u8 5 w B C q)(l:B<=w.heap.size)(S:q.length<=100000000)(af:0<=j/\j<=2147483647)(M:0<=bias/\bias<=468) :
  Calls prog 245 #[C,.int .i64 j,.int .i64 bias] w (GrP B C w (q++Pu.wrNum j bias)):=by
 have J:q++Pu.wrNum j bias=q++Pu.wrN bias j.toNat 1 j:=rfl;generalize q++Pu.wrNum j bias=r at *;have a:=O J;have am:=O hv;have X:Hid (∀k W,0<=k/\k<=3000000000->Calls prog 201 #[.int .i64 k,.int .i64 bias] W (x0C W (Pu.thr k bias))):=fun k W h=>x9F k bias W h f6J;have H:∀W v L,Ok .u8 5 W B v L->∀g,v.ownBlock=some g->B<=g:=fun W v L h g Y=>(h.row.lt g Y).1;have D:=O H;go_enter func245,ntmps245;go_wp2;go_loopw[0,1,6,7,8] (fun P U _ kk _ wr=>∃(f k:Nat) (y:Int) (L:List Int),U=.int .i64 y/\kk=.int .i64 ((k:Int)+1)/\0<=y/\y<=f/\k+y<=2147483647/\L.length<=100000000+k/\r=L++Pu.wrN bias f ((k:Int)+1) y/\Ok .u8 5 wr B P L/\w.grownBy wr C.ownBlock/\B<=wr.heap.size/\w.heap.size<=wr.heap.size/\∀g,P.ownBlock=some g->C.ownBlock=some g\/w.heap.size<=g) (fun _ U _ _ _ _=>(intOf U).toNat)
 case atStart=>exact⟨j.toNat,0,j,q,rfl,rfl,af.1,f6J,f6J,f6J,V a,V am,x1N w _,l,l0r _,fun g Y=>.inl Y⟩
 case round =>
  obtain⟨f,k,y,L,rfl,rfl,Q,aF,az,b,hr,aw,aq,ab,aB,s⟩:=hrel;have aC:=Pu.x1Q ((k:Int)+1) bias;have n:=fun W=>O (V X ((k:Int)+1) W f6J);have Z:=O aw;have u:=O aq;have A:=O s;by_cases ae:y<Pu.thr ((k:Int)+1) bias
  ·have ar:=Pu.x6C (d:=y) Q f6J;have F:=fun W=>O (x7Y y W Q f6J);have x:=O (hr.trans (by rw[Pu.x9K ae]));generalize Pu.let1 y=c at *;go_wp2_with(first| (go_at_call 201;refine(V (n _)).mono ?_;rintro e G ⟨rfl,rfl⟩;clear n)|(go_at_call 284;refine(V (F _)).mono ?_;rintro e G ⟨rfl,rfl⟩;clear F)|(at_builtin;refine x0K rfl (.tmp 17) (.tmp 20) rfl B _ L c _ rfl rfl (V Z) rfl (fun z o=>s9H) f6J ab ?_));intro R w2 h1 h2 h3;have aD:∀g,u0.ownBlock=some g->B<=g:=fun g Y=>V D _ _ _ (V Z) g Y
   have T:Hid (GrP B C w r (.returned R) w2):=by
    refine⟨R,rfl,by rw[V x];exact h1,?_,?_⟩
    ·exact x6v (x3J (V u) (.cells #[.int .u8 c] 5)) h2 (V A)
    ·grind
   exact v8n
  ·have K:0<=y-Pu.thr ((k:Int)+1) bias:=f6J;have ay:0<=(y-Pu.thr ((k:Int)+1) bias) / (36-Pu.thr ((k:Int)+1) bias):=Int.ediv_nonneg K f6J;have N:(y-Pu.thr ((k:Int)+1) bias) / (36-Pu.thr ((k:Int)+1) bias)<=y-Pu.thr ((k:Int)+1) bias:=Int.ediv_le_self _ K;have i:0<=(y-Pu.thr ((k:Int)+1) bias)%(36-Pu.thr ((k:Int)+1) bias):=Int.emod_nonneg _ f6J;have aA:(y-Pu.thr ((k:Int)+1) bias)%(36-Pu.thr ((k:Int)+1) bias)<36-Pu.thr ((k:Int)+1) bias:=Int.emod_lt_of_pos _ f6J;obtain⟨f,rfl⟩:∃g,f=g+1:=⟨f-1,f6J⟩;have x:=O (hr.trans (by rw[Pu.y3W ae]));have ar:=Pu.x6C (d:=Pu.thr ((k:Int)+1) bias+(y-Pu.thr ((k:Int)+1) bias)%(36-Pu.thr ((k:Int)+1) bias)) f6J f6J;have F:=fun W=>O (x7Y (Pu.thr ((k:Int)+1) bias+(y-Pu.thr ((k:Int)+1) bias)%(36-Pu.thr ((k:Int)+1) bias)) W f6J f6J);generalize Pu.let1 (Pu.thr ((k:Int)+1) bias+(y-Pu.thr ((k:Int)+1) bias)%(36-Pu.thr ((k:Int)+1) bias))=c at *;generalize Pu.thr ((k:Int)+1) bias=t at *;go_wp2_with(first| (go_at_call 201;refine(V (n _)).mono ?_;rintro e G ⟨rfl,rfl⟩;clear n)|(go_at_call 284;refine(V (F _)).mono ?_;rintro e G ⟨rfl,rfl⟩;clear F)|(at_builtin;refine x0K rfl (.tmp 25) (.tmp 33) rfl B _ L c _ rfl rfl (V Z) rfl (fun z o=>s9H) f6J ab ?_));intro R w2 h1 h2 h3;have m:w.grownBy w2 C.ownBlock:=x6v (x3J (V u) (.cells #[.int .u8 c] 5)) h2 (V A)
   have p:∀g,R.ownBlock=some g->C.ownBlock=some g\/w.heap.size<=g:=fun g Y=>by
    rcases h3 g Y with h4 | h4
    ·exact V A g h4
    ·exact e5w
   have E:w.heap.size<=w2.heap.size:=m.size;have T:=O h1;have ai:=O m;have aj:=O p;have I:Hid ((L++[c]).length<=100000000+(k+1)):=(by show _<=_;exact P8P);have ag:Hid (r=(L++[c])++Pu.wrN bias f (((k+1:Nat):Int)+1) ((y-t) / (36-t))):=(by grind);go_wp2
   go_roundw
   case rel=>exact⟨f,k+1,(y-t) / (36-t),L++[c],U6w,U6w,ay,f6J,f6J,V I,V ag,V T,V ai,f6J,E,V aj⟩
   case measure=>exact g7U
namespace Pu
def y1c(xs:List Int)(l:List Nat):List Nat:=l.mergeSort fun a b=>decide (xs.getD a 0<=xs.getD b 0)
theorem y9P(xs:List Int){l:List Nat}(h:l.length<=1):y1c xs l=l:=by
 match l,h with
 | [],_=>simp[y1c]
 | [a],_=>simp[y1c]
def x2X(c:Int):Bool:=!lowq c
end Pu
def x1X(l:List Nat):List Int:=l.map fun(k:Nat)=>(k:Int)
theorem x0F(l:List Nat):(x1X l).length=l.length:=by simp[x1X]
def XAt(w:World)(b:Nat)(v:Value):Prop:=w.heap[b]?=some (.cells #[v] 40 (0,0))
theorem XAt.cell{w:World}{b:Nat}{v:Value}(h:XAt w b v):w.cell? ⟨b,0,none⟩=some v:=by unfold XAt at h;simp[World.cell?,h]
theorem XAt.grown{w w':World}{b:Nat}{v:Value}{row:Option Nat}(h:XAt w b v)(Y:w.grownBy w' row)(F:row≠some b):XAt w' b v:=by
 unfold XAt at h ⊢;exact t4l
theorem XAt.alloc{w:World}{b:Nat}{v:Value}(h:XAt w b v)(o:Obj):XAt (w.alloc o) b v:=by
 unfold XAt at h ⊢;exact v1L
def z0A(m:Nat):Prop:=∀(xs:List Int) (b B:Nat) (xv v:Value) (l:List Nat) (w0 w:World),XAt w b xv->Sk .i32 w0 xv xs->Below w0.heap.size w0 w->w0.heap.size<=B->xs.length<=100000->l.length<=m->(∀a∈l,a<xs.length)->l.Pairwise (·<·)->Ok .i64 3 w B v (x1X l)->v.ownBlock≠some b ->
 Calls prog 281 #[v,.func (.func 282) #[] #[.pointer (some ⟨b,0,none⟩)]] w fun e w'=>e=.returned (.tuple #[])/\Ok .i64 3 w' B v (x1X (Pu.y1c xs l))/\w.grownBy w' v.ownBlock
theorem x7u(ao:Option Addr)(n cap:Nat)(k:Value)(w:World)(E:n<=1):Calls prog 307 #[.slice ao n cap,.int .i64 0,.int .i64 n,k] w fun e w'=>e=.returned (.tuple #[])/\w'=w:=by
 go_enter func307,ntmps307;go_wp2;refine wp_loop_rounds 1 ?_;rw[rounds_succ];go_wp2;go_end0;exact g9S
theorem y2F(ao:Option Addr)(n cap:Nat)(k:Value)(w:World)(E:n<=1):Calls prog 294 #[.slice ao n cap,.int .i64 n,k] w fun e w'=>e=.returned (.tuple #[])/\w'=w:=by
 have J:=fun W=>O (x7u ao n cap k W E);go_enter func294,ntmps294;go_wp2;refine wp_loop_rounds 1 ?_;rw[rounds_succ];go_wp2_with(go_at_call 307;refine(V (J _)).mono ?_;rintro e G ⟨rfl,rfl⟩;clear J);refine wp_loop_rounds 1 ?_;rw[rounds_succ];go_wp2;go_end0;exact⟨rfl,rfl⟩
theorem y9O:z0A 1:=by
 intro m b B a v l U w _ _ _ _ _ S _ _ N _;obtain⟨s,M,rfl,_,_⟩:=N.sk.shape;have c:=fun W=>O (y2F s (x1X l).length M (.func (.func 282) #[] #[.pointer (some ⟨b,0,none⟩)]) W (by rw[x0F];exact S));have T:Hid (Ok .i64 3 w B (.slice s (x1X l).length M) (x1X (Pu.y1c m l))):=(by rw[Pu.y9P m S];exact N);go_enter func281,ntmps281;go_wp2_with(go_at_call 294;refine(V (c _)).mono ?_;rintro e G ⟨rfl,rfl⟩;clear c);go_end0;exact⟨rfl,V T,x1N _ _⟩
namespace Pu
def idxk(xs:List Int)(q:Int->Bool)(k:Nat):List Nat:=(List.range k).filter fun j=>q (xs.getD j 0)
theorem x4g{xs:List Int}{q:Int->Bool}{k:Nat}(h:q (xs.getD k 0)=true):idxk xs q (k+1)=idxk xs q k++[k]:=by
 unfold idxk;rw[List.range_succ,List.filter_append];rw[List.filter_cons_of_pos (p:=fun j=>q (xs.getD j 0)) h];rfl
theorem x5m{xs:List Int}{q:Int->Bool}{k:Nat}(h:q (xs.getD k 0)=false):idxk xs q (k+1)=idxk xs q k:=by
 unfold idxk;rw[List.range_succ,List.filter_append];rw[List.filter_cons_of_neg (by rw[h];exact M7K)];simp
theorem y3r(xs:List Int)(q:Int->Bool)(k:Nat):(idxk xs q k).length<=k:=by
 unfold idxk;have:=List.length_filter_le (fun j=>q (xs.getD j 0)) (List.range k);exact W2K
theorem z3l(xs:List Int)(q:Int->Bool):∀a∈idx xs q,a<xs.length:=by
 intro a L;unfold idx at L;simpa using(List.mem_filter.1 L).1
theorem y4T(xs:List Int)(q:Int->Bool):(idx xs q).Pairwise (·<·):=(List.pairwise_lt_range).filter _
end Pu
theorem x8c(l:List Nat)(k:Nat):x1X (l++[k])=x1X l++[(k:Int)]:=by simp[x1X]
def z3O(w:World)(xs:List Int)(e:Ending)(w':World):Prop:=∃v1 v2,e=.returned (.tuple #[v1,v2])/\Ok .i64 3 w' w.heap.size v1 (x1X (Pu.idx xs Pu.lowq))/\Ok .i64 3 w' w.heap.size v2 (x1X (Pu.y1c xs (Pu.idx xs Pu.x2X)))/\Below w.heap.size w w'
structure Two(b B:Nat)(xv:Value)(w0:World)(l1 l2:List Nat)(v1 v2:Value)(wr:World):Prop where
 r1:Ok .i64 3 wr B v1 (x1X l1)
 r2:Ok .i64 3 wr B v2 (x1X l2)
 x:XAt wr b xv
 bel:Below w0.heap.size w0 wr
 hb:b<B
 hB:B<=wr.heap.size
 hw:w0.heap.size<=b
 ap:∀g,v1.ownBlock=some g->v2.ownBlock≠some g
theorem Two.left{b B:Nat}{a:Value}{U:World}{v n:List Nat}{H R v':Value}{wr w':World}{o:Obj}{k:Nat}(h:Two b B a U v n H R wr)(N:Ok .i64 3 w' B v' (x1X v++[(k:Int)]))(Y:(wr.alloc o).grownBy w' H.ownBlock)
  (y:∀g,v'.ownBlock=some g->H.ownBlock=some g\/wr.heap.size<=g):Two b B a U (v++[k]) n v' R w':=by
 have X:=x0s wr o;have D:=fun g t=>h.r1.row.lt g t;have Z:=fun g t=>h.r2.row.lt g t
 have F:R.ownBlock=none\/R.ownBlock≠H.ownBlock:=by
  cases L:R.ownBlock with
  | none=>exact .inl rfl
  | some g=>exact .inr (fun t=>h.ap g t.symm L)
 refine⟨by rw[x8c];exact N,x3p (x5T h.r2 o) Y F,(h.x.alloc o).grown Y (fun t=>by have:=(D _ t).1;have:=h.hb;exact f6J),(h.bel.alloc W2J o).grown Y W2J (fun g t=>by have:=(D g t).1;have:=h.hb;have:=h.hw;exact f6J),h.hb,I2i,h.hw,fun g t L=>?_⟩;rcases y g t with h3 | h3
 ·exact h.ap g h3 L
 ·have:=(Z g L).2;omega
theorem Two.right{b B:Nat}{a:Value}{U:World}{v n:List Nat}{H R v':Value}{wr w':World}{o:Obj}{k:Nat}(h:Two b B a U v n H R wr)(N:Ok .i64 3 w' B v' (x1X n++[(k:Int)]))(Y:(wr.alloc o).grownBy w' R.ownBlock)
  (y:∀g,v'.ownBlock=some g->R.ownBlock=some g\/wr.heap.size<=g):Two b B a U v (n++[k]) H v' w':=by
 have X:=x0s wr o;have D:=fun g t=>h.r1.row.lt g t;have Z:=fun g t=>h.r2.row.lt g t
 have F:H.ownBlock=none\/H.ownBlock≠R.ownBlock:=by
  cases L:H.ownBlock with
  | none=>exact .inl rfl
  | some g=>exact .inr (fun t=>h.ap g L t.symm)
 refine⟨x3p (x5T h.r1 o) Y F,by rw[x8c];exact N,(h.x.alloc o).grown Y (fun t=>by have:=(Z _ t).1;have:=h.hb;exact f6J),(h.bel.alloc W2J o).grown Y W2J (fun g t=>by have:=(Z g t).1;have:=h.hb;have:=h.hw;exact f6J),h.hb,I2i,h.hw,fun g t L=>?_⟩;rcases y g L with h3 | h3
 ·exact h.ap g t h3
 ·have:=(D g t).2;omega
theorem y5r(m:Nat)(c:z0A m)(v:Value)(xs:List Int)(w:World)(N:Sk .i32 w v xs)(hl:xs.length<=100000)(U:(Pu.idx xs Pu.x2X).length<=m) :
  Calls prog 241 #[v] w (z3O w xs):=by
 have af:=O c;have j:=O N;have B:=O N.1;have E:=O U;obtain⟨s,M,K,aq,ar⟩:=N.shape
 have ae:Hid (0<xs.length->∃b P,s=some ⟨b,P,none⟩/\∀W,Bw w W->∀i,i<xs.length->W.cell? ⟨b,P+i,none⟩=some (.int .i32 (xs.getD i 0))):=fun h0=>by
  obtain⟨b,P,J,he,_,_,y⟩:=N.place h0;rw[K]at he;simp only[Value.slice.injEq]at he;refine⟨b,P,he.1,fun W C i hi=>?_⟩;rw[C.cell (x0a (y i hi))];exact y i hi
 subst K
 have d:Two w.heap.size (w.heap.size+1) (.slice s xs.length M) w [] [] (.slice none 0 0) (.slice none 0 0) (w.alloc (.cells #[.slice s xs.length M] 40)) :=
  ⟨Ok.nil _ _ _ _,Ok.nil _ _ _ _,heap_alloc_new w _,(b0r).alloc (l0r _) _,f6J,P7O,f6J,fun g t=>by simp[Value.ownBlock]at t⟩
 obtain⟨l,ag⟩:∃l,w.alloc (.cells #[.slice s xs.length M] 40)=l:=⟨_,rfl⟩;rw[ag]at d;have Y:=d.x.cell;have A:=O d;obtain⟨b,C⟩:∃b,w.heap.size=b:=⟨_,rfl⟩;rw[C]at Y A;have I:=O C;go_enter func241,ntmps241;go_wp2;go_loopw[2,3,4,5,8] (fun v1 v2 _ _ i wr=>∃k:Nat,i=.int .i64 k/\k<=xs.length/\Two b (b+1) (.slice s xs.length M) w (Pu.idxk xs Pu.lowq k) (Pu.idxk xs Pu.x2X k) v1 v2 wr) (fun _ _ _ _ i _=>xs.length-(intOf i).toNat)
 case atStart=>exact⟨0,rfl,f6J,V A⟩
 case round =>
  obtain⟨k,rfl,G,r⟩:=hrel;by_cases H:k<xs.length
  ·obtain⟨p,ox,ai,y⟩:=V ae f6J;subst ai;have X:=y wr (by show Below w.heap.size w wr;rw[V I];exact V I ▸ r.bel) k H;have aw:=(V B).i32at k;have Q:=Pu.y3r xs Pu.lowq k;have am:=Pu.y3r xs Pu.x2X k;have hB:=r.hB;have n:=O r;by_cases o:xs.getD k 0<128
   ·have L:Pu.lowq (xs.getD k 0)=true:=d0t o;have ab:Pu.x2X (xs.getD k 0)=false:=(by unfold Pu.x2X;rw[L];rfl);have S:=O (Pu.x4g (xs:=xs) (q:=Pu.lowq) L);have f:=O (Pu.x5m (xs:=xs) (q:=Pu.x2X) ab);generalize xs.getD k 0=z at *;go_wp2_with(at_builtin;refine x2b rfl (.tmp 15) (.tmp 17) rfl (b+1) _ (x1X (Pu.idxk xs Pu.lowq k)) k _ rfl rfl (V n).r1 rfl (fun z o=>s9a) v2F hB ?_);intro a w' D Z R;have HN:=O ((V n).left D Z R);exact f9M
   ·have L:Pu.lowq (xs.getD k 0)=false:=d0f o;have ab:Pu.x2X (xs.getD k 0)=true:=(by unfold Pu.x2X;rw[L];rfl);have S:=O (Pu.x5m (xs:=xs) (q:=Pu.lowq) L);have f:=O (Pu.x4g (xs:=xs) (q:=Pu.x2X) ab);generalize xs.getD k 0=z at *;go_wp2_with(at_builtin;refine x2b rfl (.tmp 19) (.tmp 21) rfl (b+1) _ (x1X (Pu.idxk xs Pu.x2X k)) k _ rfl rfl (V n).r2 rfl (fun z o=>s9a) v2F hB ?_);intro a w' D Z R;have HN:=O ((V n).right D Z R);exact f9M
  ·have aj:k=xs.length:=by omega
   have u:Two b (b+1) (.slice s xs.length M) w (Pu.idx xs Pu.lowq) (Pu.idx xs Pu.x2X) u2 u3 wr:=by
    have:∀q,Pu.idxk xs q k=Pu.idx xs q:=fun q=>(by rw[aj];rfl);rw[this,this]at r;exact r
   have HC:=O (V af xs b (b+1) (.slice s xs.length M) u3 (Pu.idx xs Pu.x2X) w wr u.x (V j) u.bel v1c hl (V E) (Pu.z3l xs _) (Pu.y4T xs _) u.r2 (fun t=>by have:=(u.r2.row.lt _ t).1;exact f6J));have n:=O u;go_wp2_with(go_at_call 281;refine(V HC).mono ?_;rintro e w2 ⟨rfl,D,Z⟩)
   have T:Hid (z3O w xs (.returned (.tuple #[u2,u3])) w2):=by
    have r:=V n
    have F:u2.ownBlock=none\/u2.ownBlock≠u3.ownBlock:=by
     cases L:u2.ownBlock with
     | none=>exact .inl rfl
     | some g=>exact .inr (fun t=>r.ap g L t.symm)
    refine⟨u2,u3,rfl,(x3p r.r1 Z F).lower v1c,D.lower v1c,r.bel.grown Z (by have:=r.hB;exact v1c) (fun g t=>by have:=(r.r2.row.lt g t).1;exact v1c)⟩
   go_ret2;exact V T
namespace Pu
theorem z3S(f:Nat)(T:List Int)(j:Nat)(k:Int)(S:T.length<=2050)(K:1<=j)(D:∀m,0<=T.getD m 0/\T.getD m 0<=k+1)(Z:∀m,j<=m->T.getD m 0<=k) :
  ∀m,0<=(addF f T j).getD m 0/\(addF f T j).getD m 0<=k+1:=by
 induction f generalizing T j with
 | zero=>exact D
 | succ f ih =>
  rw[addF];split
  ·rename_i hlt
   have L:=x7X K f6J;refine ih _ _ t2X f6J (fun m=>?_) (fun m U=>?_)
   ·rw[x8P _ _ _ _ hlt];have:=D m;have:=D j;have:=Z j (l0r _);exact G7p
   ·rw[x8P _ _ _ _ hlt,if_neg f6J];exact Z m f6J
  ·exact D
theorem Tb_of{k:Int}{T:List Int}(h:∀m,0<=T.getD m 0/\T.getD m 0<=k):Tb k T:=by
 intro t K;obtain⟨i,hi,rfl⟩:=List.mem_iff_getElem.1 K;have:=h i;rw[List.getD,List.getElem?_eq_getElem hi]at this;exact this
theorem y6r{T:List Int}{k:Int}(h:Tb k T)(G:0<=k)(S:T.length<=2050)(p:Nat):Tb (k+1) (add T p):=by
 refine Tb_of (z3S _ _ _ k S f6J (fun m=>?_) (fun m _=>?_))
 ·have:=h.at G m;omega
 ·exact(h.at G m).2
theorem Tb.le{k C:Int}{T:List Int}(h:Tb k T)(G:k<=C):Tb C T:=fun t K=>by have:=h t K;exact f6J
theorem x8x(f:Nat)(T:List Int)(j:Nat)(n:Int)(h:∀m,0<=T.getD m 0/\T.getD m 0<=3000)(E:0<=n):0<=x3v f T j n/\x3v f T j n<=n+3000*f:=by
 induction f generalizing j n with
 | zero=>simp only[x3v];omega
 | succ f ih =>
  rw[x3v];have t:=h j;split
  ·grind
  ·omega
theorem x5f{T:List Int}(h:Tb 3000 T)(p:Nat):0<=ahead T p/\ahead T p<=3000*p:=by
 have:=x8x p T p 0 (fun m=>h.at f6J m) f6J;unfold ahead;omega
def wok(xs:List Int):List Nat->List Int->Int->Int->Int->Bool
 | [],_,_,_,_=>true
 | c::r,T,p,n,i =>
  let d:=(xs.getD c 0-n)*(p+1)+ahead T c-i
  decide (0<=d)&&decide (0<=n+(i+d) / (p+1)/\n+(i+d) / (p+1)<=1114111)&&(decide (2147483647<d)||wok xs r (add T c) (p+1) (n+(i+d) / (p+1)) ((i+d)%(p+1)+1))
def dlt(xs:List Int)(c:Nat)(T:List Int)(p n i:Int):Int:=(xs.getD c 0-n)*(p+1)+ahead T c-i
theorem y3T{xs:List Int}{c:Nat}{r:List Nat}{T:List Int}{p n i:Int}(h:wok xs (c::r) T p n i=true):0<=dlt xs c T p n i/\(0<=n+(i+dlt xs c T p n i) / (p+1)/\n+(i+dlt xs c T p n i) / (p+1)<=1114111) /\
  (2147483647<dlt xs c T p n i\/wok xs r (add T c) (p+1) (n+(i+dlt xs c T p n i) / (p+1)) ((i+dlt xs c T p n i)%(p+1)+1)=true):=by
 simpa[wok,dlt,and_assoc]using h
theorem y3U{xs:List Int}{c:Nat}{r:List Nat}{T:List Int}{p n i bias:Int}{f:Bool}{out:List Int}(h:2147483647<dlt xs c T p n i):wr2 xs (c::r) T p n i bias f out=([],113):=by
 show(if 2147483647<dlt xs c T p n i then([],113)else _)=_;rw[if_pos h]
theorem y3V{xs:List Int}{c:Nat}{r:List Nat}{T:List Int}{p n i bias:Int}{f:Bool}{out:List Int}(h:¬2147483647<dlt xs c T p n i):wr2 xs (c::r) T p n i bias f out =
  wr2 xs r (add T c) (p+1) (n+(i+dlt xs c T p n i) / (p+1)) ((i+dlt xs c T p n i)%(p+1)+1) (adapt (dlt xs c T p n i) (p+1) f) false (out++wrNum (dlt xs c T p n i) bias):=by
 show(if 2147483647<dlt xs c T p n i then([],113)else _)=_;rw[if_neg h];rfl
end Pu
theorem y3C(b:Nat)(p n i bias c L:Int)(f:Bool)(w:World)(h:StAt w b p n i bias f)(A:0<=p/\p<=3000)(E:0<=n/\n<=1114111)(hi:0<=i/\i<=3000)(I:0<=c/\c<=1114111)(y:0<=L/\L<=10000000) :
  Calls prog 243 #[.pointer (some ⟨b,0,none⟩),.int .i32 c,.int .i64 L] w fun e w'=>e=.returned (.int .i64 ((c-n)*(p+1)+L-i))/\∃m,w'=w.drewN m:=by
 refine(y5k b p n i bias c L f w h A E hi I y).mono ?_;rintro e w' ⟨rfl,t⟩;refine⟨rfl,?_⟩;rcases t with rfl | rfl
 ·exact⟨0,rfl⟩
 ·exact⟨1,rfl⟩
theorem StAt.drewN{w:World}{b:Nat}{p n i bias:Int}{f:Bool}(h:StAt w b p n i bias f)(m:Nat):StAt (w.drewN m) b p n i bias f:=h
theorem TAt.drewN{w:World}{g:Nat}{T:List Int}(h:TAt w g T)(m:Nat):TAt (w.drewN m) g T:=h
theorem TAt.grown{w w':World}{g:Nat}{T:List Int}{row:Option Nat}(h:TAt w g T)(Y:w.grownBy w' row)(F:row≠some g):TAt w' g T:=by
 unfold TAt at h ⊢;rw[Y.block g (Array.getElem?_eq_some_iff.1 h).1 (fun t=>F t.symm)];exact h
theorem TAt.alloc{w:World}{g:Nat}{T:List Int}(h:TAt w g T)(o:Obj):TAt (w.alloc o) g T:=by
 unfold TAt at h ⊢;exact v1L
theorem StAt.grown{w w':World}{b:Nat}{p n i bias:Int}{f:Bool}{row:Option Nat}(h:StAt w b p n i bias f)(Y:w.grownBy w' row)(F:row≠some b):StAt w' b p n i bias f:=by
 unfold StAt at h ⊢;exact t4l
theorem StAt.alloc{w:World}{b:Nat}{p n i bias:Int}{f:Bool}(h:StAt w b p n i bias f)(o:Obj):StAt (w.alloc o) b p n i bias f:=by
 unfold StAt at h ⊢;exact v1L
structure Wm(w1:World)(b g:Nat)(p n i bias:Int)(f:Bool)(T out:List Int)(bv:Value)(wr:World):Prop where
 st:StAt wr b p n i bias f
 t:TAt wr g T
 ob:Ok .u8 5 wr w1.heap.size bv out
 bel:Below w1.heap.size w1 wr
 hb:w1.heap.size<=b
 hg:w1.heap.size<=g
 hbg:b≠g
 nb:bv.ownBlock≠some b
 ng:bv.ownBlock≠some g
theorem Wm.size{w1:World}{b g:Nat}{p n i bias:Int}{f:Bool}{T out:List Int}{P:Value}{wr:World}(h:Wm w1 b g p n i bias f T out P wr):w1.heap.size<=wr.heap.size/\b<wr.heap.size/\g<wr.heap.size :=
 ⟨h.bel.size,(Array.getElem?_eq_some_iff.1 h.st).1,(Array.getElem?_eq_some_iff.1 h.t).1⟩
theorem Wm.drewN{w1:World}{b g:Nat}{p n i bias:Int}{f:Bool}{T out:List Int}{P:Value}{wr:World}(h:Wm w1 b g p n i bias f T out P wr)(m:Nat):Wm w1 b g p n i bias f T out P (wr.drewN m) :=
 ⟨h.st.drewN m,h.t.drewN m,h.ob.below (x0k ⟨m,rfl⟩),h.bel.trans ((x0k ⟨m,rfl⟩:Bw wr _).mono h.bel.size),h.hb,h.hg,h.hbg,h.nb,h.ng⟩
theorem Wm.added{w1:World}{b g:Nat}{p n i bias:Int}{f:Bool}{T A out:List Int}{P:Value}{wr w':World}{e:Ending}(h:Wm w1 b g p n i bias f T out P wr)(L:AddP wr g A e w'):Wm w1 b g p n i bias f A out P w':=by
 obtain⟨_,K,C,I⟩:=L;obtain⟨J,d,Y⟩:=h.size;exact⟨h.st.grown C (fun t=>h.hbg (by simpa using t.symm)),K,x3p h.ob C (.inr h.ng),h.bel.grown C J (fun k G=>by simp at G;have:=h.hg;exact f6J),h.hb,h.hg,h.hbg,h.nb,h.ng⟩
theorem Wm.stepped{w1:World}{b g:Nat}{p n i bias E N F A L:Int}{f:Bool}{T out:List Int}{P:Value}{wr w':World}{e:Ending}(h:Wm w1 b g p n i bias f T out P wr)(X:x3W wr b E N F A L e w'):Wm w1 b g E N F A false T out P w':=by
 obtain⟨_,B,C,I⟩:=X;obtain⟨J,d,Y⟩:=h.size;exact⟨B,h.t.grown C (fun D=>h.hbg e2V),x3p h.ob C (.inr h.nb),h.bel.grown C J (fun k G=>by simp at G;have:=h.hb;exact f6J),h.hb,h.hg,h.hbg,h.nb,h.ng⟩
theorem Wm.wrote{w1:World}{b g:Nat}{p n i bias:Int}{f:Bool}{T out B:List Int}{P D:Value}{wr U w':World}(h:Wm w1 b g p n i bias f T out P wr)(K:U=wr\/∃o,U=wr.alloc o)(y:Ok .u8 5 w' w1.heap.size D B)(C:U.grownBy w' P.ownBlock)
  (H:∀k,D.ownBlock=some k->P.ownBlock=some k\/wr.heap.size<=k):Wm w1 b g p n i bias f T B D w':=by
 obtain⟨J,d,Y⟩:=h.size;have E:∀k,P.ownBlock=some k->w1.heap.size<=k:=fun k G=>(h.ob.row.lt k G).1
 have I:StAt U b p n i bias f/\TAt U g T/\Bw w1 U/\wr.heap.size<=U.heap.size:=by
  rcases K with rfl | ⟨o,rfl⟩
  ·exact⟨h.st,h.t,h.bel,l0r _⟩
  ·exact⟨h.st.alloc o,h.t.alloc o,h.bel.alloc J o,P7O⟩
 obtain⟨M,r,q,A⟩:=I;refine⟨M.grown C h.nb,r.grown C h.ng,y,q.grown C f6J E,h.hb,h.hg,h.hbg,fun F=>?_,fun F=>?_⟩
 ·rcases H b F with h3 | h3
  ·exact h.nb h3
  ·omega
 ·rcases H g F with h3 | h3
  ·exact h.ng h3
  ·omega
theorem y6Y(w:World)(p:Addr)(c:Nat):(convert 76 9 (.slice (some p) 0 c)).run prog w=.ok (.string (strOfNums [])) w:=i7B
theorem Sk.conv{w:World}{v:Value}{zs:List Int}(h:Sk .u8 w v zs):(convert 76 9 v).run prog w=.ok (.string (strOfNums zs)) w:=by
 rcases Nat.eq_zero_or_pos zs.length with h0 | h0
 ·obtain rfl:=List.eq_nil_of_length_eq_zero h0;obtain⟨s,M,rfl,_,_⟩:=h.shape
  cases s with
  | none=>exact U0I
  | some ad=>exact y6Y w ad M
 ·exact U3h
def WrP(w:World)(r:List Int×Int)(e:Ending)(w':World):Prop:=e=.returned (.tuple #[.string (strOfNums r.1),.int .i64 r.2])/\Below w.heap.size w w'
namespace Pu
theorem z6p(bias:Int)(j:Nat):∀(f:Nat) (k v:Int),0<=v->v<2^j->(wrN bias f k v).length<=j+1:=by
 induction j with
 | zero =>
  intro f k v T D;have C:=x1Q k bias;rw[x9K (by simp at D;exact f6J)];simp
 | succ j ih =>
  intro f k v T D;have C:=x1Q k bias;by_cases N:v<thr k bias
  ·rw[x9K N];simp
  ·cases f with
   | zero=>simp[wrN]
   | succ f =>
    rw[y3W N,List.length_cons]
    have L:(v-thr k bias) / (36-thr k bias)<2^j:=by
     apply Int.ediv_lt_of_lt_mul f6J;have Z:v<2^j*2:=f6J;have A:(0:Int)<=2^j:=Int.pow_nonneg e8N
     calc v-thr k bias<2^j*2:=by omega
      _<=2^j*(36-thr k bias):=Int.mul_le_mul_of_nonneg_left f6J A
    have:=ih f (k+1) _ (Int.ediv_nonneg f6J f6J) L;omega
theorem y1p{v bias:Int}(T:0<=v)(D:v<=2147483647):(wrNum v bias).length<=32:=z6p bias 31 _ _ _ T f6J
end Pu
theorem y8A(n:Nat):(madeCells (Value.int .i64 0).cells n)=((List.replicate n (0:Int)).map (Value.int .i64)).toArray:=by
 apply Array.toList_inj.1;refine List.ext_getElem (by simp[madeCells]) fun i D Z=>?_;simp[madeCells,Value.cells,Nat.mod_one]
theorem y5h(n:Nat)(w:World)(E:n<=2050):∃W,(Instr.makeSlice 320 (.int .i64 ((n:Int)+1)) (.int .i64 ((n:Int)+1))).run prog w=.ok (.slice (some ⟨w.heap.size,0,none⟩) (n+1) (n+1)) W/\TAt W w.heap.size (List.replicate (n+1) 0)/\W=w.alloc (.cells ((List.replicate (n+1) (0:Int)).map (Value.int .i64)).toArray 3):=by
 obtain⟨r,hi,i,d,f⟩:=x6z;have h:=run_make (P:=prog) w 320 3 r (.int .i64 0) underlying320 hi i .i64 .i64 ((n:Int)+1) ((n:Int)+1) f6J f6J V8r f6J;rw[(f6J:((n:Int)+1).toNat=n+1),d,Nat.mul_one,y8A]at h;exact⟨_,h,heap_alloc_new w _,rfl⟩
theorem y5f(n:Nat)(w:World)(B:Nat)(l:B<=w.heap.size)(E:n<=2050):∃W,(Instr.makeSlice 76 (.int .i64 0) (.int .i64 ((n:Int)+1))).run prog w=.ok (.slice (some ⟨w.heap.size,0,none⟩) 0 (n+1)) W/\Ok .u8 5 W B (.slice (some ⟨w.heap.size,0,none⟩) 0 (n+1)) []/\w.grownBy W none:=by
 obtain⟨r,hi,i,d,f⟩:=x6x;obtain⟨W,D,Z,R⟩:=run_make_own (P:=prog) w B 76 5 r (.int .u8 0) 1 underlying76 hi i d .i64 .i64 (n+1) V8u T7W l;exact⟨W,by rw[(f6J:((n:Int)+1)=((n+1:Nat):Int))];exact D,Ok.of (Fit.nil _) M7N Z rfl rfl,R⟩
theorem z2Q{xs:List Int}{l:List Nat}{k:Nat}{T out:List Int}(G:k<l.length):Pu.wr1 xs (l.drop k) T out=Pu.wr1 xs (l.drop (k+1)) (Pu.add T (l.getD k 0)) (out++[xs.getD (l.getD k 0) 0]):=by
 have:l.drop k=l.getD k 0::l.drop (k+1):=(by rw[List.drop_eq_getElem_cons G,List.getD,List.getElem?_eq_getElem G];rfl);rw[this,Pu.wr1]
theorem x4c{l:List Nat}{k:Nat}(G:k<l.length):l.drop k=l.getD k 0::l.drop (k+1):=f0h
theorem x9m{l:List Nat}{k:Nat}(G:k<l.length):(x1X l).getD k 0=((l.getD k 0:Nat):Int):=by simp[x1X,List.getD,G]
theorem x5P{l:List Nat}{k:Nat}(G:k<l.length):l.getD k 0∈l:=by grind
theorem z0t(m:Nat)(HS:z0A m)(v:Value)(xs:List Int)(w:World)(hv:Sk .i32 w v xs)(hl:xs.length<=2000)(hm:(Pu.idx xs Pu.x2X).length<=m)(cD:∀z∈xs,0<=z/\z<=1114111)(ord:List Nat)(bB:Pu.y1c xs (Pu.idx xs Pu.x2X)=ord)
  (cB:∀a∈ord,a<xs.length) (cS:(Pu.idx xs Pu.lowq).length+ord.length<=2000)
  (bV:Pu.wok xs ord (Pu.wr1 xs (Pu.idx xs Pu.lowq) (List.replicate (xs.length+1) 0) []).1 ((Pu.idx xs Pu.lowq).length:Int) 128 0=true) :
  Calls prog 191 #[v] w (WrP w (Pu.write xs ord)):=by
 have HP:=O (y5r m HS v xs w hv f6J hm);obtain⟨lo,aV⟩:∃lo,Pu.idx xs Pu.lowq=lo:=⟨_,rfl⟩;have aB:=Pu.z3l xs Pu.lowq
 have aD:∀a∈lo,xs.getD a 0<128:=fun a ha=>by
  rw[<- aV]at ha;have:=(List.mem_filter.1 ha).2;simpa[Pu.lowq]using this
 have hR:Pu.write xs ord=Pu.wr2 xs ord (Pu.wr1 xs lo (List.replicate (xs.length+1) 0) []).1 (lo.length:Int) 128 0 72 true ((Pu.wr1 xs lo (List.replicate (xs.length+1) 0) []).2++if lo.length=0 then[]else[45]):=by
  unfold Pu.write;rw[aV]
 have cC:∀e w',z3O w xs e w'->∃v1 v2,e=.returned (.tuple #[v1,v2])/\Sk .i64 w' v1 (x1X lo)/\Sk .i64 w' v2 (x1X ord)/\Bw w w':=by
  rintro e w' ⟨v1,v2,h1,h2,h3,h4⟩;rw[aV]at h2;rw[bB]at h3;exact⟨v1,v2,h1,h2.sk,h3.sk,h4⟩
 rw[aV]at bV cS aB
 have bH:Hid (∀k,0<=xs.getD k 0/\xs.getD k 0<=1114111):=fun k=>by
  rcases Nat.lt_or_ge k xs.length with hk | hk
  ·rw[List.getD,List.getElem?_eq_getElem hk];exact cD _ (List.getElem_mem hk)
  ·rw[List.getD,List.getElem?_eq_none hk];exact⟨Int.le_refl 0,e8Q⟩
 generalize Pu.write xs ord=R at *;have HR:=O hR;have aL:=O bV;have cf:=O cC;have cI:=O aB;have cH:=O aD;have ce:=O cB;have HV:=O hv;obtain⟨ao,db,cY,dj,dk⟩:=hv.shape;subst cY;clear hv hm cD bB cB aV aB aD hR cC bV HS;go_enter func191,ntmps191;go_wp2_with fail;refine(V HP).mono ?_;intro e Q hp;obtain⟨v1,v2,rfl,bX,bY,bL⟩:=V cf e Q hp;have cK:=O bX;have cg:=O bY;obtain⟨a1,de,aF,_,_⟩:=bX.shape;obtain⟨a2,dh,G,_,_⟩:=bY.shape;rw[x0F]at aF G;subst aF;subst G;have l:=O bL;have bJ:=O ((V HV).below bL);clear hp bX bY bL cf HP HV;have bZ:=fun W=>O (x9P (lo.length:Int) W);go_wp2_with fail;refine c1m (V (bZ _)) fun w2 bm=>?_;clear bZ;obtain⟨W3,bh⟩:∃W3,w2.alloc (.cells #[.int .i64 (lo.length:Int),.int .i64 128,.int .i64 0,.int .i64 72,.bool true] 278)=W3:=⟨_,rfl⟩;have bC:StAt W3 w2.heap.size (lo.length:Int) 128 0 72 true:=(by rw[<- bh];exact heap_alloc_new w2 _);have cV:W3.heap.size=w2.heap.size+1:=(by rw[<- bh];exact x0s _ _);have bM:Bw Q W3:=(by rw[<- bh];exact bm.alloc bm.size _);obtain⟨W4,bw,cx,bj⟩:=y5h xs.length W3 f6J;have cW:W4.heap.size=W3.heap.size+1:=(by rw[bj];exact x0s _ _);have D:StAt W4 w2.heap.size (lo.length:Int) 128 0 72 true:=(by rw[bj];exact bC.alloc _);have cz:Bw Q W4:=(by rw[bj];exact bM.alloc bM.size _);have da:=bm.size;obtain⟨W5,bA,cw,bn⟩:=y5f xs.length W4 Q.heap.size f6J f6J;obtain⟨b,hb⟩:∃b,w2.heap.size=b:=⟨_,rfl⟩;obtain⟨g,hg⟩:∃g,W3.heap.size=g:=⟨_,rfl⟩;obtain⟨g2,bR⟩:∃g2,W4.heap.size=g2:=⟨_,rfl⟩
 have cj:Wm Q b g (lo.length:Int) 128 0 72 true (List.replicate (xs.length+1) 0) [] (.slice (some ⟨g2,0,none⟩) 0 (xs.length+1)) W5:=by
  rw[<- hb,<- hg,<- bR];refine⟨D.grown bn (by simp),cx.grown bn (by simp),cw,cz.grown bn f6J (fun k hk=>by cases hk),f6J,f6J,f6J,?_,?_⟩
  ·exact e9Q
  ·exact e9Q
 rw[hg]at bw;rw[bR]at bA;have cd:=O cj;clear bC bM cx bj cW D cz cw bn cj bm cV;go_wp2;go_loopw[8,10,32] (fun bv _ jj wr=>∃(k:Nat) (T out:List Int),jj=.int .i64 k/\k<=lo.length/\Wm Q b g (lo.length:Int) 128 0 72 true T out bv wr/\Pu.Tb k T/\T.length=xs.length+1/\out.length=k/\Pu.wr1 xs lo (List.replicate (xs.length+1) 0) []=Pu.wr1 xs (lo.drop k) T out) (fun _ _ jj _=>lo.length-(intOf jj).toNat)
 case atStart=>exact⟨0,_,[],rfl,f6J,V cd,fun t ht=>by rw[List.eq_of_mem_replicate ht];exact⟨Int.le_refl 0,Int.le_refl 0⟩,by simp,rfl,by rw[List.drop_zero]⟩
 case round =>
  clear cd bw bA bh hb hg bR;obtain⟨k,T,out,rfl,hk,P,F,B,aW,bp⟩:=hrel;by_cases H:k<lo.length
  ·obtain⟨b1,o1,di,aF,_,_,bu⟩:=(V cK).place (by rw[x0F];exact f6J);rw[x0F]at aF;simp only[Value.slice.injEq]at aF;obtain⟨rfl,h9,rfl⟩:=aF;clear h9
   have cF:wr.cell? ⟨b1,o1+k,none⟩=some (.int .i64 ((lo.getD k 0:Nat):Int)):=by
    have h3:=bu k (by rw[x0F];exact H);rw[x9m H]at h3;exact V0v
   have aT:lo.getD k 0<xs.length:=V cI _ (x5P H);have cP:=V cH _ (x5P H);have cJ:=O (bp.trans (z2Q H));generalize lo.getD k 0=c at *;obtain⟨bx,ox,ci,N,_,_,I⟩:=(V bJ).place f6J;simp only[Value.slice.injEq]at N;obtain⟨rfl,h9,rfl⟩:=N;clear h9
   have A:∀W,Bw Q W->W.cell? ⟨bx,ox+c,none⟩=some (.int .i32 (xs.getD c 0)):=fun W hb=>by
    have h3:=I c aT;rw[hb.cell (x0a h3)];exact h3
   have cG:=O A;have cE:=V bH c;have bE:=O (y1w g T c wr P.t (F.le f6J) f6J f6J);rw[B]at bE;have ar:Hid (Pu.Tb (k+1:Nat) (Pu.add T c)):=(by have:=Pu.y6r F f6J f6J c;show Pu.Tb _ _;rwa [(f6J:((k+1:Nat):Int)=(k:Int)+1)]);have aw:Hid ((Pu.add T c).length=xs.length+1):=(Pu.y1x T c).trans B;have E:=O P;clear P F B bp bu I A;generalize Pu.add T c=T2,xs.getD c 0=z at *;go_wp2_with fail;refine(V bE).mono ?_;intro e wa aS;have be:=(V E).added aS;have cR:=aS.1;subst cR;have cZ:=V cG wa be.bel;have cX:=be.size;have bG:=O be;clear aS be bE E;have dl:z%256=z:=f6J;go_wp2_with(at_builtin;refine x0K rfl (.tmp 39) (.tmp 45) rfl Q.heap.size _ out z _ rfl rfl (V bG).ob rfl (fun y hy=>R3d) f6J f6J ?_);intro v' w' h1 h2 h3;have HN:=O ((V bG).wrote (.inr ⟨_,rfl⟩) h1 h2 h3);have am:Hid ((out++[z]).length=k+1):=(by show _=_;simp[aW]);clear h1 h2 h3 bG;go_wp2
   go_roundw
   case rel=>exact⟨k+1,T2,out++[z],g2A,f6J,V HN,V ar,V aw,V am,V cJ⟩
   case measure=>exact g7V
  ·have ay:k=lo.length:=f6J;have bD:Pu.wr1 xs lo (List.replicate (xs.length+1) 0) []=(T,out):=(by rw[bp,ay,List.drop_length];rfl);rw[bD]at HR aL;have bt:Pu.Tb (lo.length:Int) T:=(by rw[<- ay];exact F);have K:=O bt;have ba:=O B;clear bp bD F bt;by_cases hz:lo.length=0
   ·have aH:=O P;have L:Hid (out.length<=3000+40*0):=(by show _<=_;exact f6J);clear P;go_wp2
    have HQ:Hid (R=Pu.wr2 xs (ord.drop 0) T ((lo.length:Int)+((0:Nat):Int)) 128 0 72 true out):=by
     show R=_;rw[List.drop_zero,V HR,if_pos hz];simp
    clear HR;go_loopw[2,3,8,12,13,56] (fun _ _ bv _ _ jj wr=>∃(k:Nat) (T out:List Int) (n i bias:Int) (f:Bool),jj=.int .i64 k/\k<=ord.length/\Wm Q b g ((lo.length:Int)+k) n i bias f T out bv wr/\Pu.Tb ((lo.length:Int)+k) T/\T.length=xs.length+1/\(0<=n/\n<=1114111)/\(0<=i/\i<=(lo.length:Int)+k)/\(0<=bias/\bias<=468)/\out.length<=3000+40*k/\Pu.wok xs (ord.drop k) T ((lo.length:Int)+k) n i=true/\R=Pu.wr2 xs (ord.drop k) T ((lo.length:Int)+k) n i bias f out) (fun _ _ _ _ _ jj _=>ord.length-(intOf jj).toNat)
    case atStart=>exact⟨0,T,out,128,0,72,true,rfl,f6J,w6w,g8C,V ba,f6J,f6J,f6J,V L,F5H,V HQ⟩
    case round =>exact p0G
   ·have cX:=P.size;have E:=O P;clear P;go_wp2_with(at_builtin;refine x0K rfl (.tmp 51) (.tmp 52) rfl Q.heap.size _ out 45 _ rfl rfl (V E).ob rfl (fun y hy=>R3d) f6J f6J ?_);intro v' w' h1 h2 h3;have aH:=O ((V E).wrote (.inr ⟨_,rfl⟩) h1 h2 h3);have L:Hid ((out++[45]).length<=3000+40*0):=(by show _<=_;exact P8Q);clear h1 h2 h3 E;go_wp2
    have HQ:Hid (R=Pu.wr2 xs (ord.drop 0) T ((lo.length:Int)+((0:Nat):Int)) 128 0 72 true (out++[45])):=by
     show R=_;rw[List.drop_zero,V HR,if_neg hz];simp
    clear HR;go_loopw[2,3,8,12,13,56] (fun _ _ bv _ _ jj wr=>∃(k:Nat) (T out:List Int) (n i bias:Int) (f:Bool),jj=.int .i64 k/\k<=ord.length/\Wm Q b g ((lo.length:Int)+k) n i bias f T out bv wr/\Pu.Tb ((lo.length:Int)+k) T/\T.length=xs.length+1/\(0<=n/\n<=1114111)/\(0<=i/\i<=(lo.length:Int)+k)/\(0<=bias/\bias<=468)/\out.length<=3000+40*k/\Pu.wok xs (ord.drop k) T ((lo.length:Int)+k) n i=true/\R=Pu.wr2 xs (ord.drop k) T ((lo.length:Int)+k) n i bias f out) (fun _ _ _ _ _ jj _=>ord.length-(intOf jj).toNat)
    case atStart=>exact⟨0,T,(out++[45]),128,0,72,true,rfl,f6J,w6w,g8C,V ba,f6J,f6J,f6J,V L,F5H,V HQ⟩
    case round =>exact p0G
namespace Pu
def ordOf(xs:List Int):List Nat:=y1c xs (idx xs x2X)
def encode(xs:List Int):List Int×Int:=if allb okb xs=false then([],31)else write xs (ordOf xs)
def t1Of(xs:List Int):List Int:=(wr1 xs (idx xs lowq) (List.replicate (xs.length+1) 0) []).1
def fine(xs:List Int):Prop:=(∀a∈ordOf xs,a<xs.length)/\(idx xs lowq).length+(ordOf xs).length<=2000/\wok xs (ordOf xs) (t1Of xs) ((idx xs lowq).length:Int) 128 0=true
end Pu
theorem y5u(v:Value)(xs:List Int)(w:World)(N:Sk .i32 w v xs):Calls prog 190 #[v] w (x2p w (allb okb xs)):=by
 have H:=O (x2h v xs w N);have L:allb okb xs=decide (fbY (fun c=>!okb c) 0 xs<0):=(by rw[y7C];simp[allb]);rw[L];go_enter func190,ntmps190;go_wp2_with fail;refine(V H).mono ?_;rintro e w ⟨rfl,rfl⟩;go_wp2;go_ret;exact x2p.mk rfl
theorem y8T{xs:List Int}(h:allb okb xs=true):∀z∈xs,0<=z/\z<=1114111:=by
 intro z o;have:=List.all_eq_true.1 h z o;have Z:Utf.okc z:=o0d this;rcases Z with h3 | h3<;>omega
theorem x4H(m:Nat)(c:z0A m)(v:Value)(xs:List Int)(w:World)(N:Sk .i32 w v xs)(E:xs.length<=2000)(U:(Pu.idx xs Pu.x2X).length<=m)(z:allb okb xs=true->Pu.fine xs) :
  Calls prog 142 #[v] w (WrP w (Pu.encode xs)):=by
 have b:=O (y5u v xs w N);obtain⟨s,M,K,f,Q⟩:=N.shape
 cases hb:allb okb xs with
 | false =>
  have T:Hid (WrP w (Pu.encode xs) (.returned (.tuple #[.string ⟨#[]⟩,.int .i64 31])) w):=by
   refine⟨?_,b0r⟩;unfold Pu.encode;rw[if_pos hb];rfl
  rw[hb]at b;subst K;go_enter func142,ntmps142;go_wp2_with(go_at_call 190;refine(V b).mono ?_;rintro e G ⟨rfl,rfl⟩;clear b);go_ret2;exact V T
 | true =>
  obtain⟨D,S,u⟩:=z hb;have C:=O (z0t m c v xs w N E U (y8T hb) (Pu.ordOf xs) rfl D S u);have Z:Pu.encode xs=Pu.write xs (Pu.ordOf xs):=(by unfold Pu.encode;rw[if_neg (by rw[hb];exact M7K)]);rw[Z];rw[hb]at b;subst K;generalize Pu.write xs (Pu.ordOf xs)=R at *;go_enter func142,ntmps142;go_wp2_with(go_at_call 190;refine(V b).mono ?_;rintro e G ⟨rfl,rfl⟩;clear b);refine c0m C fun A F=>?_;have T:Hid (WrP G R (.returned (.tuple #[.string (strOfNums R.1),.int .i64 R.2])) A):=⟨rfl,F⟩;go_wp2;go_ret2;exact V T
