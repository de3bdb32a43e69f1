/- Lemmas. -/
import Derived.Test.YtkfcabdmkmljjaaGreatDoorH3
import Derived.Laws.AppendOwnNone
import Derived.RangeFuncRecord
import Derived.Shelf.Abstract
import Derived.Lib.Walk
set_option maxHeartbeats 2000000
set_option maxRecDepth 20000
namespace Go.Proofs.YtkfcabdmkmljjaaGreatDoor
open Go.Proofs.Tryz
open Go.RowKit
section
variable{p:Prop}
theorem M5Q(h:p:=by go_ret;exact⟨rfl,rfl⟩):p:=h
theorem W6w(h:p:=by rw[List.any_eq_false];intro x A;obtain⟨i,hi,rfl⟩:=List.getElem_of_mem A;have:=h i hi;simp only[List.getD,List.getElem?_eq_getElem hi,Option.getD_some]at this;rw[this];exact Bool.false_ne_true):p:=h
theorem p2M(h:p:=by unfold LkH at *;rw[x0c h];rfl):p:=h
theorem G8t(h:p:=by go_wp2_with fail;refine c0m K fun Q b1=>?_;go_wp2;go_ret;exact⟨rfl,b1⟩):p:=h
theorem E3o(h:p:=by
 cases R with
 | false =>exact P2u
 | true =>
  go_wp2_with(first| (go_at_fn 301;refine(V K).mono ?_;rintro e Q ⟨rfl,rfl⟩)|(refine(V j).mono ?_;rintro e Q ⟨rfl,rfl⟩));exact M5Q):p:=h
theorem s7B(h:p:=by rw[IntKind.wrap_i64];exact f6J):p:=h
theorem V8W(h:p:=by show IntKind.i64.wrap (((BitVec.ofInt 64 (a:Int)|||BitVec.ofInt 64 (b:Int)).toNat:Nat):Int)=_;rw[BitVec.ofInt_natCast,BitVec.ofInt_natCast,BitVec.toNat_or,BitVec.toNat_ofNat,BitVec.toNat_ofNat,Nat.mod_eq_of_lt f6J,Nat.mod_eq_of_lt f6J];simp only[IntKind.wrap,IntKind.bits,IntKind.signed];simp;omega):p:=h
theorem S4H(h:p:=by
 cases R with
 | false =>
  go_wp2_with(go_at_fn 302;refine(V K).mono ?_;rintro e Q ⟨rfl,rfl⟩);exact M5Q
 | true =>
  go_wp2_with(first| (go_at_fn 302;refine(V K).mono ?_;rintro e Q ⟨rfl,rfl⟩)|(refine(V j).mono ?_;rintro e Q ⟨rfl,rfl⟩));exact M5Q):p:=h
theorem W2z(h:p:=by rw[beq_eq_false_iff_ne];exact Z):p:=h
theorem P2u(h:p:=by go_wp2_with(go_at_fn 301;refine(V K).mono ?_;rintro e Q ⟨rfl,rfl⟩);exact M5Q):p:=h
theorem G8w(h:p:=by
 obtain⟨k,rfl,G,J,T⟩:=hrel;by_cases E:k<xs.length
 ·obtain⟨c1,q⟩:=C _ (x0i T) k E;have n:=O J
  cases he:(xs.getD k 0 != ys.getD k 0)with
  | true =>
   have HR:=fun w' Y=>HN w' k Y M2T;generalize xs.getD k 0=x,ys.getD k 0=y at *;go_wp2;go_quiet(fail);go_wp2;go_ret;exact HR _ (x6z T nq)
  | false =>
   have ae:xs.getD k 0=ys.getD k 0:=M2T;have ab:=O (x7y (V n) E (by have:=V g;exact f6J) ae);generalize xs.getD k 0=x at *;go_wp2;go_quiet(fail);go_wp2
   go_roundw
   case rel=>exact⟨k+1,g2A,f6J,V ab,x6z T nq⟩
   case measure=>exact g8b
 ·obtain rfl:k=xs.length:=f6J;have HR:=D _ T J;go_wp2;go_ret;exact HR):p:=h
theorem f3H(h:p:=by
 rcases Nat.lt_or_ge q k with h1 | h1
 ·exact y q h1
 ·rw[(f6J:q=k)];exact h):p:=h
theorem s1h(h:p:=by go_wp2;go_ret;exact V U):p:=h
theorem G4u(h:p:=by have Y:=O J;go_wp2;go_ret;exact⟨_,rfl,by rw[V n];rfl,V Y⟩):p:=h
theorem G0D(h:p:=by intro v' w' Z D _;exact h v' w' (Ok.of (N.1.app W.1) P8P Z M7N M7N) D):p:=h
theorem P0P(h:p:=by rw[R.cell (x0a (hc k G))];exact hc k G):p:=h
theorem w8l(h:p:=by
 intro wr Y i hi;constructor
 ·rw[Y.cell (x0a (I i hi))];exact I i hi
 ·rw[Y.cell (x0a (X i f6J))];exact X i f6J):p:=h
theorem E8i(h:p:=by obtain⟨b,P,M,T,_,_,I⟩:=A.place f6J;exact⟨b,P,M,T,fun W R=>by rw[R.cell (x0a (I k G))];exact I k G⟩):p:=h
theorem I3X(h:p:=by exact h v w (by rw[List.append_nil];exact N) (World.grownBy.refl w _)):p:=h
theorem t3b(h:p:=by rw[V n];exact d0t f6J):p:=h
theorem F9b(h:p:=by go_wp2;refine wp_loop_rounds 1 ?_;rw[rounds_succ];go_wp2;go_ret;exact U _ (x6y w)):p:=h
theorem t1A(h:p:=by exact⟨0,rfl,f6J,fun q h=>absurd h f6J,b0r⟩):p:=h
end
theorem y2H:(prog.info? 21).map (fun i=>(i.zero,i.size,i.bytes))=some (some (.int .i32 0),1,4):=f4x
theorem x7y{xs ys:List Int}{k}(h:xs.take k=ys.take k)(A:k<xs.length)(hy:k<ys.length)(q:xs.getD k 0=ys.getD k 0):xs.take (k+1)=ys.take (k+1):=by
 rw[List.take_add_one,List.take_add_one,h];simp only[List.getD,List.getElem?_eq_getElem A,List.getElem?_eq_getElem hy,Option.getD_some]at q;rw[List.getElem?_eq_getElem A,List.getElem?_eq_getElem hy,q]
theorem x0W{w w' b c}(h:b=c)(Y:∃m,w'=w.drewN m):x3S w c (.returned (.bool b)) w':=E1n
theorem same_q15 v u xs ys w(N:Sk .i32 w v xs)(W:Sk .i32 w u ys) :
  Calls prog 98 #[v,u] w (x3S w (decide (xs=ys))):=by
 have z:=N.len;have j:=W.len;by_cases F:xs.length=ys.length
 ·rcases Nat.eq_zero_or_pos xs.length with h0 | h0
  ·have U:∀w',(∃m,w'=w.drewN m)->x3S w (decide (xs=ys)) (.returned (.bool true)) w':=fun w' Y=>x0W (by
    have Z:=List.eq_nil_of_length_eq_zero h0;have h2:=List.eq_nil_of_length_eq_zero (F ▸ h0)
    simp[Z,h2]) Y
   obtain⟨B,M,rfl,_,_⟩:=N.shape;obtain⟨Q,A,rfl,_,_⟩:=W.shape;rw[<- F,h0];go_enter func98,ntmps98;exact F9b
  ·have D:∀w',(∃m,w'=w.drewN m)->xs.take xs.length=ys.take xs.length->x3S w (decide (xs=ys)) (.returned (.bool true)) w':=fun w' Y p=>x0W (by
    rw[List.take_length,F,List.take_length]at p
    simp[p]) Y
   have HN:∀w' k,(∃m,w'=w.drewN m)->¬xs.getD k 0=ys.getD k 0->x3S w (decide (xs=ys)) (.returned (.bool false)) w':=fun w' k Y p=>x0W (by
    symm;rw[decide_eq_false_iff_not];intro h;subst h;exact p rfl) Y
   have r:∀wr,Bw w wr->Sk .i32 wr v xs/\Sk .i32 wr u ys:=fun wr Y=>⟨N.below Y,W.below Y⟩;obtain⟨b,P,M,rfl,af,H,I⟩:=N.place h0;obtain⟨b',R,A,rfl,c,o,X⟩:=W.place f6J
   have C:∀wr,Bw w wr->∀i,i<xs.length->wr.cell? ⟨b,P+i,none⟩=some (.int .i32 (xs.getD i 0))/\wr.cell? ⟨b',R+i,none⟩=some (.int .i32 (ys.getD i 0)):=w8l
   rw[<- F]at c ⊢;have S:=O N.1;have d:=O W.1;have g:=O F;go_enter func98,ntmps98;go_wp2;go_loopw[5] (fun i wr=>∃k:Nat,i=.int .i64 k/\k<=xs.length/\xs.take k=ys.take k/\∃m,wr=w.drewN m) (fun i _=>xs.length-(intOf i).toNat)
   case atStart=>exact⟨0,rfl,f6J,M7N,x6y w⟩
   case round =>exact G8w
 ·have U:x3S w (decide (xs=ys)) (.returned (.bool false)) w:=x0W (by
   symm;rw[decide_eq_false_iff_not];intro h;subst h;exact F rfl) (x6y w)
  have t:((xs.length:Int) != (ys.length:Int))=true:=P8P;obtain⟨B,M,rfl,_,_⟩:=N.shape;obtain⟨Q,A,rfl,_,_⟩:=W.shape;go_enter func98,ntmps98;exact m2J
theorem lit15(W:World) zs n(F:zs.length=n)(R:0<n)(A:n<=100) C(o:C=(zs.map (Value.int .i32)).toArray)(T:∀z∈zs,-2147483648<=z/\z<=2147483647):Sk .i32 (W.alloc (.cells C 21)) (.slice (some ⟨W.heap.size,0,none⟩) n n) zs:=by
 have h:Ok .i32 21 (W.alloc (.cells C 21)) W.heap.size (.slice (some ⟨W.heap.size,0,none⟩) n n) zs:=by
  refine Ok.of (n:=n) (us:=zs.map (Value.int .i32)) (fun z h=>x1j (T z h)) f6J ⟨by simp[F],Or.inr ⟨W.heap.size,n,C,rfl,l0r _,World.alloc_heap_new W _,l0r _,T7W,by rw[o];simp[F],by rw[o];exact List.take_of_length_le (by simp[F])⟩⟩ F.symm rfl
 exact h.sk
theorem x2d{K e w B}{v zs}(h:Ok K e w B v zs) o:Ok K e (w.alloc o) B v zs:=⟨h.1,h.2.1,h.2.2.alloc o⟩
theorem x0y(w:World) o:(w.alloc o).heap.size=w.heap.size+1:=f0h
theorem y3F{w ops rest o}{a Q}(T:o.guard=none)(s x:Operand)
  (X:o.op=.call { callee:=.builtin .append,args:=#[s,x],argTypes:=#[36,36] }) B v u xs ys (E:a.eval s=v) (A:a.eval x=u)
  (N:Ok .i32 21 w B v xs) (W:Sk .i32 w u ys) (S:xs.length+ys.length<=1000000000) (m:B<=w.heap.size)
  (h:∀v' w',Ok .i32 21 w' B v' (xs++ys)->w.grownBy w' v.ownBlock->wpList prog ops Q rest (a.put o.dst v') w'):wpList prog ops Q (o::rest) a w:=by
 obtain⟨r,hi,d,Y,R⟩:=info_parts y2H;rcases W.2.src with⟨F,rfl⟩ | ⟨C,M,g,q⟩
 ·obtain rfl:ys=[]:=(by simpa using F);refine wpList_append_own_none T s x 36 X B 21 r 1 underlying36 hi v _ _ E N.row A ?_;exact I3X
 ·rw[List.length_map]at g;subst g;refine wpList_append_own w T s x 36 X B 21 r (.int .i32 0) 1 4 underlying36 hi d Y R rfl e8P v _ _ E N.row C ys.length M (ys.map (Value.int .i32)) A M7N q (x0O .i32 ys) T7X f6J m ?_;exact G0D
theorem y3W v u xs ys w(N:Sk .i32 w v xs)(W:Sk .i32 w u ys) :
  Calls prog 35 #[v,u] w (x3S w (decide (xs=ys))):=by
 have z:=N.len;have j:=W.len;by_cases F:xs.length=ys.length
 ·rcases Nat.eq_zero_or_pos xs.length with h0 | h0
  ·have U:∀w',(∃m,w'=w.drewN m)->x3S w (decide (xs=ys)) (.returned (.bool true)) w':=fun w' Y=>x0W (by
    have Z:=List.eq_nil_of_length_eq_zero h0;have h2:=List.eq_nil_of_length_eq_zero (F ▸ h0)
    simp[Z,h2]) Y
   obtain⟨B,M,rfl,_,_⟩:=N.shape;obtain⟨Q,A,rfl,_,_⟩:=W.shape;rw[<- F,h0];go_enter func35,ntmps35;exact F9b
  ·have D:∀w',(∃m,w'=w.drewN m)->xs.take xs.length=ys.take xs.length->x3S w (decide (xs=ys)) (.returned (.bool true)) w':=fun w' Y p=>x0W (by
    rw[List.take_length,F,List.take_length]at p
    simp[p]) Y
   have HN:∀w' k,(∃m,w'=w.drewN m)->¬xs.getD k 0=ys.getD k 0->x3S w (decide (xs=ys)) (.returned (.bool false)) w':=fun w' k Y p=>x0W (by
    symm;rw[decide_eq_false_iff_not];intro h;subst h;exact p rfl) Y
   have r:∀wr,Bw w wr->Sk .i32 wr v xs/\Sk .i32 wr u ys:=fun wr Y=>⟨N.below Y,W.below Y⟩;obtain⟨b,P,M,rfl,af,H,I⟩:=N.place h0;obtain⟨b',R,A,rfl,c,o,X⟩:=W.place f6J
   have C:∀wr,Bw w wr->∀i,i<xs.length->wr.cell? ⟨b,P+i,none⟩=some (.int .i32 (xs.getD i 0))/\wr.cell? ⟨b',R+i,none⟩=some (.int .i32 (ys.getD i 0)):=w8l
   rw[<- F]at c ⊢;have S:=O N.1;have d:=O W.1;have g:=O F;go_enter func35,ntmps35;go_wp2;go_loopw[13] (fun i wr=>∃k:Nat,i=.int .i64 k/\k<=xs.length/\xs.take k=ys.take k/\∃m,wr=w.drewN m) (fun i _=>xs.length-(intOf i).toNat)
   case atStart=>exact⟨0,rfl,f6J,M7N,x6y w⟩
   case round =>exact G8w
 ·have U:x3S w (decide (xs=ys)) (.returned (.bool false)) w:=x0W (by
   symm;rw[decide_eq_false_iff_not];intro h;subst h;exact F rfl) (x6y w)
  have t:((xs.length:Int) != (ys.length:Int))=true:=P8P;obtain⟨B,M,rfl,_,_⟩:=N.shape;obtain⟨Q,A,rfl,_,_⟩:=W.shape;go_enter func35,ntmps35;exact m2J
namespace Bd
def rtl(k:Int):Bool:=decide (k=1)||(decide (k=2)||decide (k=3))
def has(K:List Int):Bool:=K.any rtl
def fst(l:List Int):Int:=match l with
 | []=>10
 | k::l=>if k=10 then fst l else k
def lst(K:List Int):Int:=fst K.reverse
def r5(K:List Int):Int:=if K.any rtl=true then 16 else 0
def r6(K:List Int):Int:=if lst K=0\/lst K=4 then 0 else 32
def r2(K:List Int):Int:=if K.any (fun k=>decide (k=0))=true then 2 else 0
def r3(K:List Int):Int:=if lst K=1\/lst K=2\/lst K=4\/lst K=3 then 0 else 4
def r4(K:List Int):Int:=if K.any (fun k=>decide (k=4))=true/\K.any (fun k=>decide (k=3))=true then 8 else 0
def y6H(K:List Int):Int:=if K.length=0 then 0 else if ¬(K.getD 0 0=0\/K.getD 0 0=1\/K.getD 0 0=2)then 1 else if K.getD 0 0=0 then r5 K+r6 K else r2 K+r3 K+r4 K
variable {K:List Int}
theorem x4y{i}(h:i<K.length):K.take (i+1)=K.take i++[K.getD i 0]:=f0h
theorem z3z k:lst (K++[k])=if k=10 then lst K else k:=by
 unfold lst;rw[List.reverse_append];rfl
theorem y7y{f:Int->Bool}(h:∀i,i<K.length->f (K.getD i 0)=false):K.any f=false:=W6w
theorem y2e{f:Int->Bool}{i}(hi:i<K.length)(h:f (K.getD i 0)=true):K.any f=true:=by grind
theorem z9Y(h:0<K.length)(R:K.getD 0 0≠10):lst K≠10:=by
 cases K with
 | nil=>simp at h
 | cons a l =>
  have g:a≠10:=(by grind);unfold lst;rw[List.reverse_cons]
  have S:∀m:List Int,fst (m++[a])≠10:=by
   intro m
   induction m with
   | nil=>show(if a=10 then _ else a)≠10;rw[if_neg g];exact g
   | cons b m ih =>
    show(if b=10 then fst (m++[a])else b)≠10;by_cases Y:b=10
    ·rw[if_pos Y];exact ih
    ·rw[if_neg Y];exact Y
  exact S _
end Bd
theorem y9M{X:List Int}{m:Int->Int}{i}(h:i<X.length):(X.map m).getD i 0=m (X.getD i 0):=p8I
namespace Bd
def msk(K:List Int):Nat:=K.foldl (fun a k=>a|||2^k.toNat) 0
def one(k:Int):Int:=((2^k.toNat:Nat):Int)
def Fit(K:List Int):Prop:=∀k∈K,0<=k/\k<=10
theorem z3G K k:msk (K++[k])=msk K|||2^k.toNat:=by
 unfold msk;rw[List.foldl_append];rfl
theorem cases11{k:Int}(h:0<=k/\k<=10):k=0\/k=1\/k=2\/k=3\/k=4\/k=5\/k=6\/k=7\/k=8\/k=9\/k=10:=f6J
theorem z5q{k:Int}(h:0<=k/\k<=10):2^k.toNat<2^11:=Nat.pow_lt_pow_right f6J f6J
theorem z3F K:∀(a:Nat),a<2^11->Fit K->K.foldl (fun a k=>a|||2^k.toNat) a<2^11:=by
 induction K with
 | nil=>intro a h _;exact h
 | cons k l ih =>
  intro a h z;exact ih _ (Nat.or_lt_two_pow h (z5q (z k M7K))) (fun x A=>z x (List.mem_cons_of_mem _ A))
theorem z5j{K}(h:Fit K):msk K<2048:=z3F K 0 e8M h
theorem z2j(K:List Int) j:∀(a:Nat),(K.foldl (fun a k=>a|||2^k.toNat) a).testBit j=(a.testBit j||K.any (fun k=>decide (k.toNat=j))):=by
 induction K with
 | nil=>intro a;simp
 | cons k l ih=>grind
theorem z7q K j:(msk K).testBit j=K.any (fun k=>decide (k.toNat=j)):=by
 unfold msk;rw[z2j];simp
theorem x8h{K}(h:Fit K) j:(msk K).testBit j=K.any (fun k=>decide (k=(j:Int))):=by
 rw[z7q,Bool.eq_iff_iff,List.any_eq_true,List.any_eq_true];constructor
 ·rintro⟨x,A,e⟩;have:=h x A;exact⟨x,A,by have:=o0d e;exact d0t f6J⟩
 ·grind
theorem or17{a b:Nat}(g:a<2048)(Y:b<2048):bits .or .i64 (a:Int) (b:Int)=((a|||b:Nat):Int):=by
 have B:a|||b<2^11:=Nat.or_lt_two_pow g Y;exact V8W
theorem inR17:∀a:Fin 2048,(bits .andNot .i64 ((a.val:Nat):Int) 2046==0)=!(a.val.testBit 0):=M3j
theorem inL17:∀a:Fin 2048,(bits .andNot .i64 ((a.val:Nat):Int) 2033==0)=!(a.val.testBit 1||(a.val.testBit 2||a.val.testBit 3)):=M3j
theorem dig17:∀a:Fin 2048,(bits .andNot .i64 24 ((a.val:Nat):Int)==0)=(a.val.testBit 3&&a.val.testBit 4):=M3j
theorem z5M(K:List Int):K.any rtl=(K.any (fun k=>decide (k=((1:Nat):Int)))||(K.any (fun k=>decide (k=((2:Nat):Int)))||K.any (fun k=>decide (k=((3:Nat):Int))))):=by
 induction K with
 | nil=>rfl
 | cons k l ih =>
  simp only[List.any_cons];rw[ih];unfold rtl;cases decide (k=1)<;>cases decide (k=2)<;>cases decide (k=3)<;>simp<;>assumption
end Bd
def x5G(w:World)(lv:Value)(Xs:List (List Int)):Prop:=Xs.length<=1000000000/\((Xs.length=0/\∃ao cap,lv=.slice ao 0 cap/\cap<=9223372036854775807)\/∃b off cap,lv=.slice (some ⟨b,off,none⟩) Xs.length cap/\Xs.length<=cap/\cap<=9223372036854775807/\∀i,i<Xs.length->∃xv,w.cell? ⟨b,off+i,none⟩=some xv/\Sk .i32 w xv (Xs.getD i []))
theorem x5G.below{w w' lv Xs}(h:x5G w lv Xs)(Y:Bw w w'):x5G w' lv Xs:=by
 refine⟨h.1,?_⟩;rcases h.2 with Z | ⟨b,P,M,e,Z,D,J⟩
 ·exact .inl Z
 ·refine .inr ⟨b,P,M,e,Z,D,fun i hi=>?_⟩;obtain⟨u,I,A⟩:=J i hi;exact⟨u,by rw[Y.cell (x0a I)];exact I,A.below Y⟩
theorem x5G.shape{w lv Xs}(h:x5G w lv Xs):∃ao cap,lv=.slice ao Xs.length cap/\Xs.length<=cap/\cap<=9223372036854775807:=by
 rcases h.2 with⟨R,ao,cap,e,D⟩ | ⟨b,P,cap,e,Z,D,_⟩
 ·grind
 ·exact⟨_,cap,e,Z,D⟩
theorem x5G.at{w ao n cap Xs}(h:x5G w (.slice ao n cap) Xs){i}(hi:i<Xs.length):∃b off u,ao=some ⟨b,off,none⟩/\w.cell? ⟨b,off+i,none⟩=some u/\Sk .i32 w u (Xs.getD i []):=by
 rcases h.2 with⟨R,_⟩ | ⟨b,off,A,e,_,_,J⟩
 ·omega
 ·grind
def x8T(p:Nat)(bd:Int->Int)(w:World):Prop:=(∀c,0<=bd c/\bd c<=10)/\∀c,Rune c->∀W,Below w.heap.size w W->Calls prog 167 #[.pointer (some ⟨p,0,none⟩),.int .i32 c] W (IntB W (bd c))
theorem x8T.on{p bd w W}(h:x8T p bd w)(Y:Bw w W):x8T p bd W:=⟨h.1,fun c I N R=>h.2 c I N (bthen Y R)⟩
theorem x1T s t w:Calls prog 120 #[.int .i64 s,.int .i64 t] w (fun e w'=>e=.returned (.bool (bits .andNot .i64 s t==0))/\w'=w):=by
 go_enter func120,ntmps120;exact t6u
theorem shl17{k}(h:0<=k/\k<=10):Op.shift .shl .i64 1 .i64 k=pure (.int .i64 (Bd.one k)):=by
 rcases Bd.cases11 h with rfl | rfl | rfl | rfl | rfl | rfl | rfl | rfl | rfl | rfl | rfl<;>rfl
theorem z9s{p bd w}(m:x8T p bd w){c}(I:Rune c):Calls prog 119 #[.pointer (some ⟨p,0,none⟩),.int .i32 c] w (IntB w (Bd.one (bd c))):=by
 have K:=O (m.2 c I w (b0r));have B:=shl17 (m.1 c);go_enter func119,ntmps119;exact G8t
theorem rtl17{k}(h:0<=k/\k<=10):(bits .andNot .i64 (Bd.one k) 14==0)=Bd.rtl k:=by
 rcases Bd.cases11 h with rfl | rfl | rfl | rfl | rfl | rfl | rfl | rfl | rfl | rfl | rfl<;>decide +kernel
theorem z6P{p b bd w}(m:x8T p bd w)(Y:w.cell? ⟨b,0,none⟩=some (.pointer (some ⟨p,0,none⟩))){c}(I:Rune c):Calls prog 118 #[.int .i32 c,.pointer (some ⟨b,0,none⟩)] w (x0g w (Bd.rtl (bd c))):=by
 have K:=O (z9s m I);have j:=O (fun W=>x1T (Bd.one (bd c)) 14 W);rw[rtl17 (m.1 c)]at j;go_enter func118,ntmps118;go_wp2_with fail;refine c0m K fun Q b1=>?_;go_wp2_with fail;refine(V j _).mono ?_;rintro e t ⟨rfl,rfl⟩;go_wp2;go_ret;exact⟨rfl,b1⟩
def IdxB(w:World)(b:Bool)(e:Ending)(w':World):Prop:=∃n:Int,e=.returned (.int .i64 n)/\decide (0<=n)=b/\Below w.heap.size w w'
theorem idx17(g b:Nat)(m:∀args w,(callFunc g args).run prog w=.ok (.enter g args) w)(p:Int->Bool) xv X w(A:Sk .i32 w xv X)(s:∀k,k<X.length->∀W,Bw w W->Calls prog g #[.int .i32 (X.getD k 0),.pointer (some ⟨b,0,none⟩)] W (x0g W (p (X.getD k 0)))) :
  Calls prog 66 #[xv,.func (.func g) #[] #[.pointer (some ⟨b,0,none⟩)]] w (IdxB w (X.any p)):=by
 have d:=A.len;have KP:=O s
 have C:Hid (∀(k:Nat),k<X.length->∃b P M,xv=.slice (some ⟨b,P,none⟩) X.length M/\∀W,Bw w W->W.cell? ⟨b,P+k,none⟩=some (.int .i32 (X.getD k 0))):=fun k G=>E8i
 have H:Hid ((∀q,q<X.length->p (X.getD q 0)=false)->X.any p=false):=fun h=>Bd.y7y h;have t:Hid (∀q,q<X.length->p (X.getD q 0)=true->X.any p=true):=fun q y h=>Bd.y2e y h;obtain⟨B,M,rfl,_,_⟩:=A.shape;go_enter func66,ntmps66;go_wp2;go_loopw[5,8] (fun _ Z wr=>∃k:Nat,Z=.int .i64 k/\k<=X.length/\(∀q,q<k->p (X.getD q 0)=false)/\Bw w wr) (fun _ Z _=>X.length-(intOf Z).toNat)
 case atStart=>exact t1A
 case round =>
  obtain⟨k,rfl,G,y,J⟩:=hrel;by_cases E:k<X.length
  ·have i:(k:Int)<X.length:=f6J;obtain⟨b1,P,U,T,N⟩:=V C k E;simp only[Value.slice.injEq]at T;obtain⟨rfl,-,rfl⟩:=T;have j:=N wr J;have K:=O (V KP k E wr J);have o:=O (V t k E)
   have r:Hid (p (X.getD k 0)=false->∀q,q<k+1->p (X.getD q 0)=false):=fun h q u=>f3H
   have Y:=O J;generalize p (X.getD k 0)=z at *;generalize X.getD k 0=c at *
   cases z with
   | true =>
    have n:=O (V o rfl);go_wp2_with(go_at_fn g;refine(V K).mono ?_;rintro e Q ⟨rfl,b1⟩);have F:=O (bthen (V Y) b1);go_ret;exact⟨_,rfl,t3b,V F⟩
   | false =>
    have D:=O (V r rfl);go_wp2_with(go_at_fn g;refine(V K).mono ?_;rintro e Q ⟨rfl,b1⟩);have F:=O (bthen (V Y) b1)
    go_roundw
    case rel=>exact⟨k+1,g2A,f6J,V D,V F⟩
    case measure=>exact g7T
  ·have n:=O (V H fun q h=>y q f6J);have i:¬((k:Int)<X.length):=f6J;exact G4u
theorem con17(g b:Nat)(m:∀args w,(callFunc g args).run prog w=.ok (.enter g args) w)(p:Int->Bool) xv X w(A:Sk .i32 w xv X)(s:∀k,k<X.length->∀W,Bw w W->Calls prog g #[.int .i32 (X.getD k 0),.pointer (some ⟨b,0,none⟩)] W (x0g W (p (X.getD k 0)))) :
  Calls prog 36 #[xv,.func (.func g) #[] #[.pointer (some ⟨b,0,none⟩)]] w (x0g w (X.any p)):=by
 have K:=O (idx17 g b m p xv X w A s);obtain⟨B,M,rfl,_,_⟩:=A.shape;generalize X.any p=Y at *;go_enter func36,ntmps36;go_wp2_with fail;refine(V K).mono ?_;rintro e Q ⟨n,rfl,F,b1⟩;subst F;go_wp2;go_ret;exact⟨rfl,b1⟩
theorem y2u:∀args w,(callFunc 118 args).run prog w=.ok (.enter 118 args) w:=f0h
theorem z9M{p bd w}(m:x8T p bd w){xv X}(A:Sk .i32 w xv X):Calls prog 73 #[.pointer (some ⟨p,0,none⟩),xv] w (x0g w (Bd.has (X.map bd))):=by
 have J:∀(fn:Fn) (first M:Array Value) (w:World),(Instr.makeFunc fn first M).run prog w=.ok (.func fn first M) w:=fun _ _ _ _=>rfl;have D:∀o,Bw w (w.alloc o):=fun o=>(b0r).alloc (l0r _) o;have E:Bd.has (X.map bd)=X.any (fun c=>Bd.rtl (bd c)):=by unfold Bd.has;rw[List.any_map];rfl
 have K:Hid (Calls prog 36 #[xv,.func (.func 118) #[] #[.pointer (some ⟨w.heap.size,0,none⟩)]] (w.alloc (.cells #[.pointer (some ⟨p,0,none⟩)] 23)) (x0g (w.alloc (.cells #[.pointer (some ⟨p,0,none⟩)] 23)) (Bd.has (X.map bd)))):=by
  rw[E];refine con17 _ _ y2u _ xv X _ (A.below (D _)) fun k G W R=>z6P ((m.on (D _)).on R) ?_ (x0R A G);rw[R.cell M7K];simp
 obtain⟨B,M,rfl,_,_⟩:=A.shape;clear m A E;go_enter func73,ntmps73;go_wp2_with fail;refine c0m K fun Q b1=>?_;have x:=O (bthen (D _) b1);go_wp2;go_ret;exact⟨rfl,V x⟩
def LkH(w:World)(L:Nat)(f l a:Int)(sv:Value):Prop:=w.heap[L]?=some (.cells #[.int .i64 f,.int .i64 l,.int .i64 a,sv] 340 (0,0))
section
variable {w:World} {L:Nat} {f l a:Int} {sv:Value}
theorem LkH.c0(h:LkH w L f l a sv):w.cell? ⟨L,0,none⟩=some (.int .i64 f):=cell_of (j:=0) h (by show 0<4;exact f6J)
theorem LkH.c1(h:LkH w L f l a sv):w.cell? ⟨L,1,none⟩=some (.int .i64 l):=cell_of (j:=1) h (by show 1<4;exact f6J)
theorem LkH.c2(h:LkH w L f l a sv):w.cell? ⟨L,2,none⟩=some (.int .i64 a):=cell_of (j:=2) h (by show 2<4;exact f6J)
theorem LkH.c3(h:LkH w L f l a sv):w.cell? ⟨L,3,none⟩=some sv:=cell_of (j:=3) h (by show 3<4;exact f6J)
theorem LkH.fz(h:LkH w L f l a sv) j:w.frozen? ⟨L,j,none⟩=false:=x0d h
theorem LkH.lt(h:LkH w L f l a sv):L<w.heap.size:=x0a h.c0
theorem LkH.below{w'}(h:LkH w L f l a sv)(Y:Bw w w'):LkH w' L f l a sv:=by
 unfold LkH at *;rw[Y.block L (LkH.lt h)];exact h
theorem LkH.set1(h:LkH w L f l a sv) x:LkH (w.setCell ⟨L,1,none⟩ (.int .i64 x)) L f x a sv:=p2M
theorem LkH.set2(h:LkH w L f l a sv) x:LkH (w.setCell ⟨L,2,none⟩ (.int .i64 x)) L f l x sv:=p2M
theorem LkH.set3(h:LkH w L f l a sv) x:LkH (w.setCell ⟨L,3,none⟩ x) L f l a x:=p2M
end
theorem y6l{w:World}{b j v} o(h:w.cell? ⟨b,j,none⟩=some v):(w.alloc o).cell? ⟨b,j,none⟩=some v:=by
 rw[Below.cell ((Below.refl w.heap.size w).alloc (l0r _) o) (x0a h)];exact h
theorem x4S(w:World){cs v} T{n j}(h:n=w.heap.size)(N:cs[j]?=some v):(w.alloc (.cells cs T)).cell? ⟨n,j,none⟩=some v:=by
 subst h;simp[N]
structure Cls17(w:World)(L b r q s:Nat):Prop where
 hb:w.cell? ⟨b,0,none⟩=some (.pointer (some ⟨L,0,none⟩))
 hr:w.cell? ⟨r,0,none⟩=some (.func (.func 301) #[] #[.pointer (some ⟨b,0,none⟩)])
 hq:w.cell? ⟨q,0,none⟩=some (.func (.func 302) #[] #[.pointer (some ⟨b,0,none⟩)])
 s0:w.cell? ⟨s,0,none⟩=some (.func (.func 303) #[] #[.pointer (some ⟨r,0,none⟩),.pointer (some ⟨q,0,none⟩)])
 s1:w.cell? ⟨s,1,none⟩=some (.func (.func 304) #[] #[.pointer (some ⟨r,0,none⟩),.pointer (some ⟨b,0,none⟩)])
 s2:w.cell? ⟨s,2,none⟩=some (.func (.func 305) #[] #[.pointer (some ⟨r,0,none⟩),.pointer (some ⟨b,0,none⟩)])
 s3:w.cell? ⟨s,3,none⟩=some (.func (.func 306) #[] #[.pointer (some ⟨r,0,none⟩),.pointer (some ⟨b,0,none⟩)])
 s4:w.cell? ⟨s,4,none⟩=some (.func (.func 307) #[] #[.pointer (some ⟨q,0,none⟩),.pointer (some ⟨b,0,none⟩)])
 s5:w.cell? ⟨s,5,none⟩=some (.func (.func 308) #[] #[.pointer (some ⟨q,0,none⟩),.pointer (some ⟨b,0,none⟩)])
def RofB(w:World)(L:Nat)(e:Ending)(w':World):Prop:=∃b r q s,e=.returned (.slice (some ⟨s,0,none⟩) 6 6)/\Cls17 w' L b r q s/\(w.heap.size<=b/\w.heap.size<=r/\w.heap.size<=q/\w.heap.size<=s)/\Below w.heap.size w w'
theorem z0U L w:Calls prog 292 #[.pointer (some ⟨L,0,none⟩)] w (RofB w L):=by
 have J:∀(fn:Fn) (first M:Array Value) (w:World),(Instr.makeFunc fn first M).run prog w=.ok (.func fn first M) w:=fun _ _ _ _=>rfl;have A:∀W a m fn x y,(store a (.func fn x y) m).run prog W=stored prog W a (.func fn x y) m:=fun W a m fn x y=>run_store prog W a _ m rfl;go_enter func292,ntmps292;go_wp2;go_ret;refine⟨w.heap.size,w.heap.size+1,w.heap.size+1+1,w.heap.size+1+1+1,rfl,?_,⟨f6J,f6J,f6J,f6J⟩,?_⟩
 ·constructor
  ·exact y6l _ (y6l _ (y6l _ (x4S _ _ rfl M7M)))
  ·exact y6l _ (y6l _ (x4S _ _ M7M M7M))
  ·exact y6l _ (x4S _ _ M7M M7M)
  all_goals exact x4S _ _ M7M M7M
 ·exact(((((b0r).alloc (l0r _) _).alloc M7M _).alloc P8P _).alloc P8P _)
def Sm17(w:World)(b:Bool)(e:Ending)(w':World):Prop:=e=.returned (.bool b)/\w'=w
theorem x4d:∀args w,(callFunc 301 args).run prog w=.ok (.enter 301 args) w:=f0h
theorem x6B:∀args w,(callFunc 302 args).run prog w=.ok (.enter 302 args) w:=f0h
theorem y8v:∀args w,(callFunc 303 args).run prog w=.ok (.enter 303 args) w:=f0h
theorem y8w:∀args w,(callFunc 304 args).run prog w=.ok (.enter 304 args) w:=f0h
theorem y8x:∀args w,(callFunc 305 args).run prog w=.ok (.enter 305 args) w:=f0h
theorem y8y:∀args w,(callFunc 306 args).run prog w=.ok (.enter 306 args) w:=f0h
theorem y8z:∀args w,(callFunc 307 args).run prog w=.ok (.enter 307 args) w:=f0h
theorem y8A:∀args w,(callFunc 308 args).run prog w=.ok (.enter 308 args) w:=f0h
theorem fr17{w L b r q s f l a sv}(C:Cls17 w L b r q s)(H:LkH w L f l a sv):Calls prog 301 #[.pointer (some ⟨b,0,none⟩)] w (Sm17 w (bits .andNot .i64 f 6==0)):=by
 have g:=C.hb;have S:=H.c0;have K:=O (x1T f 6 w);go_enter func301,ntmps301;exact P3m
theorem fl17{w L b r q s f l a sv}(C:Cls17 w L b r q s)(H:LkH w L f l a sv):Calls prog 302 #[.pointer (some ⟨b,0,none⟩)] w (Sm17 w (bits .andNot .i64 f 1==0)):=by
 have g:=C.hb;have S:=H.c0;have K:=O (x1T f 1 w);go_enter func302,ntmps302;exact P3m
theorem z8Y{w L b r q s f l a sv}(C:Cls17 w L b r q s)(H:LkH w L f l a sv):Calls prog 303 #[.pointer (some ⟨r,0,none⟩),.pointer (some ⟨q,0,none⟩)] w (Sm17 w ((bits .andNot .i64 f 6==0)||(bits .andNot .i64 f 1==0))):=by
 have g:=C.hr;have S:=C.hq;have P:=x4d;have E:=x6B;have K:=O (fr17 C H);have j:=O (fl17 C H);generalize(bits .andNot .i64 f 6==0)=R at *;go_enter func303,ntmps303
 cases R with
 | true =>exact P2u
 | false =>
  go_wp2_with(first| (go_at_fn 301;refine(V K).mono ?_;rintro e Q ⟨rfl,rfl⟩)|(go_at_fn 302;refine(V j).mono ?_;rintro e Q ⟨rfl,rfl⟩));exact M5Q
theorem z8Z{w L b r q s f l a sv}(C:Cls17 w L b r q s)(H:LkH w L f l a sv):Calls prog 304 #[.pointer (some ⟨r,0,none⟩),.pointer (some ⟨b,0,none⟩)] w (Sm17 w (!(bits .andNot .i64 f 6==0)||(bits .andNot .i64 a 2046==0))):=by
 have g:=C.hr;have S:=C.hb;have p:=H.c2;have P:=x4d;have K:=O (fr17 C H);have j:=O (x1T a 2046 w);generalize(bits .andNot .i64 f 6==0)=R at *;go_enter func304,ntmps304
 exact E3o
theorem z9a{w L b r q s f l a sv}(C:Cls17 w L b r q s)(H:LkH w L f l a sv):Calls prog 305 #[.pointer (some ⟨r,0,none⟩),.pointer (some ⟨b,0,none⟩)] w (Sm17 w (!(bits .andNot .i64 f 6==0)||(bits .andNot .i64 l 30==0))):=by
 have g:=C.hr;have S:=C.hb;have p:=H.c1;have P:=x4d;have K:=O (fr17 C H);have j:=O (x1T l 30 w);generalize(bits .andNot .i64 f 6==0)=R at *;go_enter func305,ntmps305
 exact E3o
theorem z9b{w L b r q s f l a sv}(C:Cls17 w L b r q s)(H:LkH w L f l a sv):Calls prog 306 #[.pointer (some ⟨r,0,none⟩),.pointer (some ⟨b,0,none⟩)] w (Sm17 w (!(bits .andNot .i64 f 6==0)||!(bits .andNot .i64 24 a==0))):=by
 have g:=C.hr;have S:=C.hb;have p:=H.c2;have P:=x4d;have K:=O (fr17 C H);have j:=O (x1T 24 a w);generalize(bits .andNot .i64 f 6==0)=R at *;go_enter func306,ntmps306
 exact E3o
theorem z9c{w L b r q s f l a sv}(C:Cls17 w L b r q s)(H:LkH w L f l a sv):Calls prog 307 #[.pointer (some ⟨q,0,none⟩),.pointer (some ⟨b,0,none⟩)] w (Sm17 w (!(bits .andNot .i64 f 1==0)||(bits .andNot .i64 a 2033==0))):=by
 have g:=C.hq;have S:=C.hb;have p:=H.c2;have P:=x6B;have K:=O (fl17 C H);have j:=O (x1T a 2033 w);generalize(bits .andNot .i64 f 1==0)=R at *;go_enter func307,ntmps307
 exact S4H
theorem z9d{w L b r q s f l a sv}(C:Cls17 w L b r q s)(H:LkH w L f l a sv):Calls prog 308 #[.pointer (some ⟨q,0,none⟩),.pointer (some ⟨b,0,none⟩)] w (Sm17 w (!(bits .andNot .i64 f 1==0)||(bits .andNot .i64 l 17==0))):=by
 have g:=C.hq;have S:=C.hb;have p:=H.c1;have P:=x6B;have K:=O (fl17 C H);have j:=O (x1T l 17 w);generalize(bits .andNot .i64 f 1==0)=R at *;go_enter func308,ntmps308
 exact S4H
namespace Bd
def lm(K:List Int):Int:=K.foldl (fun l k=>if k=10 then l else one k) 0
theorem y9I K k:lm (K++[k])=if k=10 then lm K else one k:=by
 unfold lm;rw[List.foldl_append];rfl
theorem y4v{X:List Int}{m:Int->Int}{k}(h:k<X.length):(X.take (k+1)).map m=(X.take k).map m++[m (X.getD k 0)]:=by
 rw[x4y h,List.map_append];rfl
theorem y8M{bd}(h:∀c,0<=bd c/\bd c<=10)(X:List Int):Fit (X.map bd):=by
 intro k G;obtain⟨c,_,rfl⟩:=List.mem_map.1 G;exact h c
theorem q0t{k:Int}(h:0<=k/\k<=10):2^k.toNat<2048:=z5q h
end Bd
theorem Cls17.set{w L b r q s B j}(h:Cls17 w L b r q s)(m:L<B)(A:B<=b/\B<=r/\B<=q/\B<=s) v:Cls17 (w.setCell ⟨L,j,none⟩ v) L b r q s:=by
 have k:∀{b Q:Nat} {u:Value},B<=b->w.cell? ⟨b,Q,none⟩=some u->(w.setCell ⟨L,j,none⟩ v).cell? ⟨b,Q,none⟩=some u:=fun{b Q u} hl h=>by
  rw[World.cell?_of_block (a:=⟨b,Q,none⟩) (Below.heap_setCell _ _ _ _ (fun e=>by have:b=L:=e;exact f6J))];exact h
 obtain⟨Z,D,J,H⟩:=A;exact⟨k Z h.hb,k D h.hr,k J h.hq,k H h.s0,k H h.s1,k H h.s2,k H h.s3,k H h.s4,k H h.s5⟩
def z8I(w:World)(f l a:Int)(e:Ending)(w':World):Prop:=∃L b r q s,e=.returned (.pointer (some ⟨L,0,none⟩))/\LkH w' L f l a (.slice (some ⟨s,0,none⟩) 6 6)/\Cls17 w' L b r q s/\Below w.heap.size w w'
theorem z3y{p bd w}(m:x8T p bd w){xv X}(A:Sk .i32 w xv X)(h0:0<X.length):Calls prog 261 #[.pointer (some ⟨p,0,none⟩),xv] w (z8I w (Bd.one (bd (X.getD 0 0))) (Bd.lm (X.map bd)) ((Bd.msk (X.map bd):Nat):Int)):=by
 have ar:=A.len;have KD:Hid (∀(k:Nat),k<X.length->∀W,Bw w W->Calls prog 119 #[.pointer (some ⟨p,0,none⟩),.int .i32 (X.getD k 0)] W (IntB W (Bd.one (bd (X.getD k 0))))):=fun k G W R=>z9s (m.on R) (x0R A G);have aw:=O m.1;obtain⟨b,P,M,rfl,az,aA,hc⟩:=A.place f6J
 have C:Hid (∀(k:Nat),k<X.length->∀W,Bw w W->W.cell? ⟨b,P+k,none⟩=some (.int .i32 (X.getD k 0))):=fun k G W R=>P0P
 have g:=V C 0 h0 w (b0r);have K:=O (V KD 0 h0 w (b0r));have D:Hid (X.take X.length=X):=List.take_length
 have HM:Hid (∀k:Nat,k<X.length->bits .or .i64 ((Bd.msk ((X.take k).map bd):Nat):Int) (Bd.one (bd (X.getD k 0)))=((Bd.msk ((X.take (k+1)).map bd):Nat):Int)):=fun k G=>by
  rw[Bd.y4v G,Bd.z3G];exact Bd.or17 (Bd.z5j (Bd.y8M m.1 _)) (Bd.q0t (m.1 _))
 have q:Hid (∀k:Nat,k<X.length->Bd.lm ((X.take (k+1)).map bd)=if bd (X.getD k 0)=10 then Bd.lm ((X.take k).map bd)else Bd.one (bd (X.getD k 0))):=fun k G=>by
  rw[Bd.y4v G,Bd.y9I]
 have HZ:Hid (∀k:Nat,(bd (X.getD k 0)=10->Bd.one (bd (X.getD k 0))=1024)/\(bd (X.getD k 0)≠10->(Bd.one (bd (X.getD k 0)) != 1024)=true)):=fun k=>by
  have h:=m.1 (X.getD k 0);generalize bd (X.getD k 0)=z at *;refine⟨fun e=>by subst e;rfl,fun T=>?_⟩
  rcases Bd.cases11 h with rfl | rfl | rfl | rfl | rfl | rfl | rfl | rfl | rfl | rfl | rfl<;>first| rfl | exact absurd rfl T
 have KR:=O (fun L W=>z0U L W);rw[Nat.add_zero]at g;generalize Bd.one (bd (X.getD 0 0))=f at *;generalize X.getD 0 0=c0 at *;go_enter func261,ntmps261;go_wp2_with fail;refine c0m K fun Q b1=>?_;have ag:=O b1;have N:=b1.size
 have r:Hid (LkH (Q.alloc (.cells #[.int .i64 f,.int .i64 0,.int .i64 0,.slice none 0 0] 340)) Q.heap.size f 0 0 (.slice none 0 0)):=by
  show(Q.heap.push _)[Q.heap.size]?=_;simp
 have ai:Hid (Bw w (Q.alloc (.cells #[.int .i64 f,.int .i64 0,.int .i64 0,.slice none 0 0] 340))):=(V ag).alloc N _;go_wp2;generalize hLe:Q.heap.size=L at *;go_loopw[7,8,18] (fun _ _ Z wr=>∃k:Nat,Z=.int .i64 k/\k<=X.length/\LkH wr L f (Bd.lm ((X.take k).map bd)) ((Bd.msk ((X.take k).map bd):Nat):Int) (.slice none 0 0)/\Bw w wr) (fun _ _ Z _=>X.length-(intOf Z).toNat)
 case atStart=>exact⟨0,rfl,f6J,V r,V ai⟩
 case round =>
  obtain⟨k,rfl,G,ab,J⟩:=hrel;by_cases E:k<X.length
  ·have i:(k:Int)<X.length:=f6J;have x4:=V C k E wr J;have K:=O (V KD k E wr J);have hm:=V HM k E;have ae:=O (V q k E);have af:=O (V HZ k);have Y:=O J;have F:=O ab;have I:Hid (∀W,LkH W L f (Bd.lm ((X.take (k+1)).map bd)) ((Bd.msk ((X.take (k+1)).map bd):Nat):Int) (.slice none 0 0)->Bw w W->∃n:Nat,Value.int .i64 ((k:Int)+1)=.int .i64 (n:Int)/\n<=X.length/\LkH W L f (Bd.lm ((X.take n).map bd)) ((Bd.msk ((X.take n).map bd):Nat):Int) (.slice none 0 0)/\Bw w W):=fun W h1 h2=>⟨k+1,g2A,f6J,h1,h2⟩;generalize Bd.lm ((X.take (k+1)).map bd)=l2,Bd.lm ((X.take k).map bd)=l1,((Bd.msk ((X.take (k+1)).map bd):Nat):Int)=a2,((Bd.msk ((X.take k).map bd):Nat):Int)=d,Bd.one (bd (X.getD k 0))=o at *;generalize bd (X.getD k 0)=z at *;generalize X.getD k 0=c at *;go_wp2_with fail;refine c0m K fun t u=>?_;have H2:=(V F).below u;have y2:=H2.c2;have v:=H2.fz 2;have S:=(H2.set2 a2).c1;have y5:=(H2.set2 a2).fz 1;have B:=O (x0b (bthen (V Y) u) N (j:=2) (.int .i64 a2));by_cases T:z=10
   ·obtain rfl:=(V af).1 T;have x:=V ae;rw[if_pos T]at x;subst x;have U:=O (H2.set2 a2);go_wp2
    go_roundw
    case rel=>exact V I _ (V U) (V B)
    case measure=>exact g7T
   ·have ho:=(V af).2 T;have x:=V ae;rw[if_neg T]at x;subst x;have U:=O ((H2.set2 a2).set1 l2);have aj:=O (x0b (V B) N (j:=1) (.int .i64 l2));go_wp2
    go_roundw
    case rel=>exact V I _ (V U) (V aj)
    case measure=>exact g7T
  ·have aq:k=X.length:=f6J;subst aq;rw[V D]at ab;have Y:=O J;have K:=O (V KR L wr);have F:=O ab;generalize Bd.lm (X.map bd)=l1,((Bd.msk (X.map bd):Nat):Int)=d at *;go_wp2_with fail;refine(V K).mono ?_;rintro e t ⟨u,r2,s,s2,rfl,am,y,H⟩;have H2:=(V F).below H;have y2:=H2.c3;have v:=H2.fz 3;have U:Hid (z8I w f l1 d (.returned (.pointer (some ⟨L,0,none⟩))) (t.setCell ⟨L,3,none⟩ (.slice (some ⟨s2,0,none⟩) 6 6))):=⟨L,u,r2,s,s2,rfl,H2.set3 _,am.set (V F).lt y _,x0b (bthen (V Y) H) N _⟩;exact s1h
namespace Bd
def hold(f l a:Int):Nat->Bool
 | 0=>(bits .andNot .i64 f 6==0)||(bits .andNot .i64 f 1==0)
 | 1=>!(bits .andNot .i64 f 6==0)||(bits .andNot .i64 a 2046==0)
 | 2=>!(bits .andNot .i64 f 6==0)||(bits .andNot .i64 l 30==0)
 | 3=>!(bits .andNot .i64 f 6==0)||!(bits .andNot .i64 24 a==0)
 | 4=>!(bits .andNot .i64 f 1==0)||(bits .andNot .i64 a 2033==0)
 | _=>!(bits .andNot .i64 f 1==0)||(bits .andNot .i64 l 17==0)
def acc(h:Nat->Bool):Nat->Nat
 | 0=>0
 | k+1=>if h k=true then acc h k else acc h k|||2^k
theorem x5p(h:Nat->Bool):∀k,k<=6->acc h k<2^11
 | 0,_=>by show 0<2^11;exact e8N
 | k+1,hk=>by
  have B:=x5p h k f6J;rw[acc];split
  ·exact B
  ·exact Nat.or_lt_two_pow B (Nat.pow_lt_pow_right f6J f6J)
theorem acc6(h:Nat->Bool):((acc h 6:Nat):Int)=(if h 0=true then 0 else 1)+(if h 1=true then 0 else 2)+(if h 2=true then 0 else 4)+(if h 3=true then 0 else 8)+(if h 4=true then 0 else 16)+(if h 5=true then 0 else 32):=by
 simp only[acc];generalize h 0=T;generalize h 1=b1;generalize h 2=u;generalize h 3=z;generalize h 4=U;generalize h 5=m;cases T<;>cases b1<;>cases u<;>cases z<;>cases U<;>cases m<;>rfl
theorem z7l{K}(h:Fit K):0<=lst K/\lst K<=10:=by
 unfold lst
 have S:∀m:List Int,Fit m->0<=fst m/\fst m<=10:=by
  intro m
  induction m with
  | nil=>intro _;exact⟨e8M,e8M⟩
  | cons k l ih =>
   intro o;show 0<=(if k=10 then fst l else k)/\(if k=10 then fst l else k)<=10;split
   ·exact ih fun x A=>o x (List.mem_cons_of_mem _ A)
   ·exact o k M7L
 exact S _ fun x A=>h x (List.mem_reverse.1 A)
theorem z9X K(h:lst K≠10):lm K=one (lst K):=by
 obtain⟨M,rfl⟩:∃M:List Int,K=M.reverse:=⟨K.reverse,by rw[List.reverse_reverse]⟩
 induction M with
 | nil=>exact absurd rfl h
 | cons k l ih =>
  rw[List.reverse_cons]at *;rw[z3z]at *;rw[y9I];by_cases G:k=10
  ·grind
  ·rw[if_neg G,if_neg G]
theorem or_one{z}(h:0<=z/\z<=10):(bits .andNot .i64 (one z) 6==0)=decide (z=1\/z=2)/\(bits .andNot .i64 (one z) 1==0)=decide (z=0)/\(bits .andNot .i64 (one z) 30==0)=decide (z=1\/z=2\/z=4\/z=3)/\(bits .andNot .i64 (one z) 17==0)=decide (z=0\/z=4):=by
 rcases cases11 h with rfl | rfl | rfl | rfl | rfl | rfl | rfl | rfl | rfl | rfl | rfl<;>decide +kernel
theorem y7s{K}(hK:Fit K)(R:0<K.length):((acc (hold (one (K.getD 0 0)) (lm K) ((msk K:Nat):Int)) 6:Nat):Int)=y6H K:=by
 have T:0<=K.getD 0 0/\K.getD 0 0<=10:=hK _ (by simp[List.getD,R]);have S:=z5j hK;have P:=inR17 ⟨msk K,S⟩;have E:=inL17 ⟨msk K,S⟩;have N:=dig17 ⟨msk K,S⟩;simp only at P E N;rw[x8h hK]at P;rw[x8h hK,x8h hK,x8h hK,<- z5M]at E;rw[x8h hK,x8h hK]at N;rw[acc6];simp only[hold];rw[P,E,N];obtain⟨s,v,-,-⟩:=or_one T;rw[s,v]
 have u:y6H K=if ¬(K.getD 0 0=0\/K.getD 0 0=1\/K.getD 0 0=2)then 1 else if K.getD 0 0=0 then r5 K+r6 K else r2 K+r3 K+r4 K:=by
  unfold y6H;rw[if_neg f6J]
 rw[u];have t:=z9Y R;have G:=z9X K;obtain⟨-,-,M,j⟩:=or_one (z7l hK);unfold r2 r3 r4 r5 r6;generalize K.getD 0 0=z,hA:K.any rtl=A,hB:(K.any fun k=>decide (k=((0:Nat):Int)))=B,hC:(K.any fun k=>decide (k=((3:Nat):Int)))=C,hD:(K.any fun k=>decide (k=((4:Nat):Int)))=D at *;by_cases x:z=0
 ·grind
 ·grind
end Bd
theorem y7e{k}(h:k<6):wrap64 ((2:Int)^k)=((2^k:Nat):Int):=by
 have:k=0\/k=1\/k=2\/k=3\/k=4\/k=5:=f6J;rcases this with rfl | rfl | rfl | rfl | rfl | rfl<;>decide +kernel
theorem y5s{w L b r q s f l a sv}(C:Cls17 w L b r q s)(H:LkH w L f l a sv){k}(G:k<6):∃g y A,w.cell? ⟨s,k,none⟩=some (.func (.func g) #[] #[.pointer (some ⟨y,0,none⟩),.pointer (some ⟨A,0,none⟩)])/\Calls prog g #[.pointer (some ⟨y,0,none⟩),.pointer (some ⟨A,0,none⟩)] w (Sm17 w (Bd.hold f l a k))/\(∀args w,(callFunc g args).run prog w=.ok (.enter g args) w):=by
 match k,G with
 | 0,_=>exact⟨_,_,_,C.s0,z8Y C H,y8v⟩
 | 1,_=>exact⟨_,_,_,C.s1,z8Z C H,y8w⟩
 | 2,_=>exact⟨_,_,_,C.s2,z9a C H,y8x⟩
 | 3,_=>exact⟨_,_,_,C.s3,z9b C H,y8y⟩
 | 4,_=>exact⟨_,_,_,C.s4,z9c C H,y8z⟩
 | 5,_=>exact⟨_,_,_,C.s5,z9d C H,y8A⟩
 | n+6,h=>omega
theorem q0M{p bd w}(m:x8T p bd w){xv X}(A:Sk .i32 w xv X):Calls prog 223 #[.pointer (some ⟨p,0,none⟩),xv] w (IntB w (Bd.y6H (X.map bd))):=by
 rcases Nat.eq_zero_or_pos X.length with h0 | h0
 ·obtain rfl:X=[]:=List.eq_nil_of_length_eq_zero h0;obtain⟨B,M,rfl,_,_⟩:=A.shape;have U:Hid (IntB w (Bd.y6H (List.map bd [])) (.returned (.int .i64 0)) w):=⟨rfl,b0r⟩;go_enter func223,ntmps223;go_wp2;go_ret;exact V U
 ·have E:=Bd.y7s (Bd.y8M m.1 X) (by rw[List.length_map];exact h0);rw[y9M h0]at E;have K:=O (z3y m A h0);have d:=A.len;obtain⟨B,M,rfl,_,_⟩:=A.shape;rw[<- E];generalize Bd.one (bd (X.getD 0 0))=f,Bd.lm (X.map bd)=l,((Bd.msk (X.map bd):Nat):Int)=a at *;go_enter func223,ntmps223;go_wp2_with fail;refine(V K).mono ?_;rintro e Q ⟨L,b,r,q,s,rfl,J,F,b1⟩;have v:=J.c3;have H:Hid (∀k,k<6->∃g y u,Q.cell? ⟨s,k,none⟩=some (.func (.func g) #[] #[.pointer (some ⟨y,0,none⟩),.pointer (some ⟨u,0,none⟩)])/\Calls prog g #[.pointer (some ⟨y,0,none⟩),.pointer (some ⟨u,0,none⟩)] Q (Sm17 Q (Bd.hold f l a k))/\(∀D w,(callFunc g D).run prog w=.ok (.enter g D) w)):=fun k G=>y5s F J G;have x:=O b1;generalize Bd.hold f l a=hd at *;have N:Hid (∀k,k<6->bits .or .i64 ((Bd.acc hd k:Nat):Int) ((2^k:Nat):Int)=((Bd.acc hd k|||2^k:Nat):Int)):=fun k G=>Bd.or17 (Bd.x5p hd k f6J) (show 2^k<2^11 from Nat.pow_lt_pow_right f6J f6J);have W:Hid (∀k,Bd.acc hd (k+1)=if hd k=true then Bd.acc hd k else Bd.acc hd k|||2^k):=fun k=>rfl;have c:Hid (Bd.acc hd 0=0):=rfl;generalize Bd.acc hd=j at *;go_wp2;go_loopw[5,6,7,22] (fun bv _ _ Z wr=>∃k:Nat,bv=.int .i64 ((j k:Nat):Int)/\Z=.int .i64 k/\k<=6/\wr=Q) (fun _ _ _ Z _=>6-(intOf Z).toNat)
  case atStart=>exact⟨0,by rw[V c];rfl,rfl,f6J,rfl⟩
  case round =>
   obtain⟨k,rfl,rfl,G,rfl⟩:=hrel;by_cases n:k<6
   ·have i:(k:Int)<6:=f6J;obtain⟨g,y,u,S,I,eg⟩:=V H k n;have o:=O I;have C:=V W k;have P:=V N k n;have R:=O (y7e n)
    cases hh:hd k with
    | true =>
     rw[hh]at o C;rw[if_pos rfl]at C;have T:=O C;go_wp2_with(go_at_fn g;refine(V o).mono ?_;rintro e t ⟨rfl,rfl⟩)
     go_roundw
     case rel=>exact⟨k+1,by rw[V T],g2A,f6J,trivial⟩
     case measure=>exact g7W
    | false =>
     rw[hh]at o C;rw[if_neg e8N]at C;have T:=O C;have z:=O P;go_wp2_with(go_at_fn g;refine(V o).mono ?_;rintro e t ⟨rfl,rfl⟩)
     go_roundw
     case rel=>exact⟨k+1,by rw[V T,V R,V z],g2A,f6J,trivial⟩
     case measure=>exact g7W
   ·obtain rfl:k=6:=f6J;exact E0g
