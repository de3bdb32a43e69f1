import Derived.Test.YtbmckadcjdedcaaGreatDoorF3
import Derived.Laws.AppendOwnNone
import Derived.RangeFuncRecord
import Derived.Shelf.Abstract
import Derived.Lib.Walk
set_option maxHeartbeats 2000000
set_option maxRecDepth 20000
namespace Go.Proofs.YtbmckadcjdedcaaGreatDoor
open Go.Proofs.Tryz
open Go.RowKit
section
variable{p:Prop}
theorem M5Q(h:p:=by go_ret;exact⟨rfl,rfl⟩):p:=h
theorem P3h(h:p:=by rw[List.any_eq_false];intro x J;obtain⟨i,hi,rfl⟩:=List.getElem_of_mem J;have:=h i hi;simp only[List.getD,List.getElem?_eq_getElem hi,Option.getD_some]at this;rw[this];exact Bool.false_ne_true):p:=h
theorem n4Z(h:p:=by unfold LkH at *;rw[x0f h];rfl):p:=h
theorem G8t(h:p:=by go_wp2_with fail;refine c0m K fun Q b1=>?_;go_wp2;go_ret;exact⟨rfl,b1⟩):p:=h
theorem n6k(h:p:=by
 cases R with
 | false =>exact N1o
 | true =>
  go_wp2_with(first| (go_at_fn 298;refine(V K).mono ?_;rintro e Q ⟨rfl,rfl⟩)|(refine(V o).mono ?_;rintro e Q ⟨rfl,rfl⟩));exact M5Q):p:=h
theorem s7B(h:p:=by rw[IntKind.wrap_i64];exact f6J):p:=h
theorem V8W(h:p:=by show IntKind.i64.wrap (((BitVec.ofInt 64 (a:Int)|||BitVec.ofInt 64 (b:Int)).toNat:Nat):Int)=_;rw[BitVec.ofInt_natCast,BitVec.ofInt_natCast,BitVec.toNat_or,BitVec.toNat_ofNat,BitVec.toNat_ofNat,Nat.mod_eq_of_lt f6J,Nat.mod_eq_of_lt f6J];simp only[IntKind.wrap,IntKind.bits,IntKind.signed];simp;omega):p:=h
theorem g9W(h:p:=by
 cases R with
 | false =>
  go_wp2_with(go_at_fn 299;refine(V K).mono ?_;rintro e Q ⟨rfl,rfl⟩);exact M5Q
 | true =>
  go_wp2_with(first| (go_at_fn 299;refine(V K).mono ?_;rintro e Q ⟨rfl,rfl⟩)|(refine(V o).mono ?_;rintro e Q ⟨rfl,rfl⟩));exact M5Q):p:=h
theorem r1W(h:p:=by go_wp2_with fail;refine c0m K fun Q b1=>?_;have B:=O (x0b (A _) b1);go_wp2;go_ret;exact⟨rfl,V B⟩):p:=h
theorem W2z(h:p:=by rw[beq_eq_false_iff_ne];exact Z):p:=h
theorem N1o(h:p:=by go_wp2_with(go_at_fn 298;refine(V K).mono ?_;rintro e Q ⟨rfl,rfl⟩);exact M5Q):p:=h
theorem S8u(h:p:=by rw[y];exact List.take_of_length_le (by simp[E])):p:=h
theorem t5j(h:p:=by
 cases z with
 | true =>
  have n:=O (V D rfl);go_wp2_with(go_at_fn g;refine(V K).mono ?_;rintro e Q ⟨rfl,b1⟩);have U:=O (x0b (V S) b1);go_ret;exact⟨_,rfl,t3d,V U⟩
 | false =>
  have x:=O (V T rfl);go_wp2_with(go_at_fn g;refine(V K).mono ?_;rintro e Q ⟨rfl,b1⟩);have U:=O (x0b (V S) b1)
  go_roundw
  case rel=>exact⟨k+1,g2A,f6J,V x,V U⟩
  case measure=>exact g7T):p:=h
theorem v9g(h:p:=by rw[t.cell (x0a (I k G))];exact I k G):p:=h
theorem S1f(h:p:=by
 obtain⟨k,rfl,G,s,A⟩:=hrel;by_cases H:k<xs.length
 ·obtain⟨j,c2⟩:=C _ (x0k A) k H;have n:=O s
  cases he:(xs.getD k 0 != ys.getD k 0)with
  | true =>
   have HR:=fun w' Y=>HN w' k Y M2S;generalize xs.getD k 0=x,ys.getD k 0=y at *;go_wp2;go_quiet(fail);go_wp2;go_ret;exact HR _ (x4M A nq)
  | false =>
   have z:xs.getD k 0=ys.getD k 0:=M2S;have X:=O (x7k (V n) H M8f z);generalize xs.getD k 0=x at *;go_wp2;go_quiet(fail);go_wp2
   go_roundw
   case rel=>exact⟨k+1,g2A,f6J,V X,x4M A nq⟩
   case measure=>exact g7V
 ·obtain rfl:k=xs.length:=f6J;have HR:=HE _ A s;go_wp2;go_ret;exact HR):p:=h
theorem F6F(h:p:=by
 rcases Nat.lt_or_ge q k with h1|h1
 ·exact m q h1
 ·rw[(f6J:q=k)];exact h):p:=h
theorem f6E(h:p:=by have S:=O N;go_wp2;go_ret;exact⟨_,rfl,by rw[V n];rfl,V S⟩):p:=h
theorem I3X(h:p:=by exact h v w (by rw[List.append_nil];exact N) (World.grownBy.refl w _)):p:=h
theorem t1A(h:p:=by exact⟨0,rfl,f6J,fun q h=>absurd h f6J,b0r⟩):p:=h
theorem U9J(h:p:=by intro v' w' Z D _;exact h v' w' (Ok.of (N.1.app W.1) P8P Z M7O M7O) D):p:=h
theorem t3d(h:p:=by rw[V n];exact d0t f6J):p:=h
theorem N6u(h:p:=by simpa using A):p:=h
end
theorem y2s:(prog.info? 21).map (fun i=>(i.zero,i.size,i.bytes))=some (some (.int .i32 0),1,4):=f4x
theorem x7k{xs ys:List Int}{k}(h:xs.take k=ys.take k)(J:k<xs.length)(hy:k<ys.length)(d:xs.getD k 0=ys.getD k 0):xs.take (k+1)=ys.take (k+1):=G3D
theorem x1d{w w' b c}(h:b=c)(Y:∃m,w'=w.drewN m):x1x w c (.returned (.bool b)) w':=E1n
theorem same_q15 v u xs ys w(N:Sk .i32 w v xs)(W:Sk .i32 w u ys) :
  Calls prog 39 #[v,u] w (x1x w (decide (xs=ys))):=by
 have t:=N.len;have af:=W.len;by_cases E:xs.length=ys.length
 ·rcases Nat.eq_zero_or_pos xs.length with h0|h0
  ·have T:∀w',(∃m,w'=w.drewN m)->x1x w (decide (xs=ys)) (.returned (.bool true)) w':=fun w' Y=>x1d (by
    have Z:=List.eq_nil_of_length_eq_zero h0;have D:=List.eq_nil_of_length_eq_zero (E ▸ h0)
    simp[Z,D]) Y
   exact p9k
  ·have HE:∀w',(∃m,w'=w.drewN m)->xs.take xs.length=ys.take xs.length->x1x w (decide (xs=ys)) (.returned (.bool true)) w':=fun w' Y Q=>x1d (by
    rw[List.take_length,E,List.take_length]at Q
    simp[Q]) Y
   have HN:∀w' k,(∃m,w'=w.drewN m)->¬xs.getD k 0=ys.getD k 0->x1x w (decide (xs=ys)) (.returned (.bool false)) w':=fun w' k Y Q=>x1d (by
    symm;rw[decide_eq_false_iff_not];intro h;subst h;exact Q rfl) Y
   have c:∀wr,Bw w wr->Sk .i32 wr v xs/\Sk .i32 wr u ys:=fun wr Y=>⟨N.below Y,W.below Y⟩;obtain⟨b,P,M,rfl,o,q,I⟩:=N.place h0;obtain⟨d,U,J,rfl,p,S,r⟩:=W.place f6J
   have C:∀wr,Bw w wr->∀i,i<xs.length->wr.cell? ⟨b,P+i,none⟩=some (.int .i32 (xs.getD i 0))/\wr.cell? ⟨d,U+i,none⟩=some (.int .i32 (ys.getD i 0)):=G3N
   rw[<- E]at p ⊢;have ab:=O N.1;have ae:=O W.1;have g:=O E;go_enter func39,ntmps39;go_wp2;go_loopw[5] (fun i wr=>∃k:Nat,i=.int .i64 k/\k<=xs.length/\xs.take k=ys.take k/\∃m,wr=w.drewN m) (fun i _=>xs.length-(intOf i).toNat)
   case atStart=>exact w7P
   case round =>exact S1f
 ·have T:x1x w (decide (xs=ys)) (.returned (.bool false)) w:=x1d (by
   symm;rw[decide_eq_false_iff_not];intro h;subst h;exact E rfl) (x4g w)
  have F:((xs.length:Int) != (ys.length:Int))=true:=P8P;obtain⟨R,M,rfl,_,_⟩:=N.shape;obtain⟨B,J,rfl,_,_⟩:=W.shape;go_enter func39,ntmps39;exact U7L
theorem lit15(W:World) zs n(E:zs.length=n)(A:0<n)(U:n<=100) C(y:C=(zs.map (Value.int .i32)).toArray)(o:∀z∈zs,-2147483648<=z/\z<=2147483647):Sk .i32 (W.alloc (.cells C 21)) (.slice (some ⟨W.heap.size,0,none⟩) n n) zs:=by
 have h:Ok .i32 21 (W.alloc (.cells C 21)) W.heap.size (.slice (some ⟨W.heap.size,0,none⟩) n n) zs:=by
  refine Ok.of (n:=n) (us:=zs.map (Value.int .i32)) (fun z h=>x0T (o z h)) f6J ⟨by simp[E],Or.inr ⟨W.heap.size,n,C,rfl,l0r _,World.alloc_heap_new W _,l0r _,T7W,by rw[y];simp[E],S8u⟩⟩ E.symm rfl
 exact h.sk
theorem x2p{K e w B}{v zs}(h:Ok K e w B v zs) o:Ok K e (w.alloc o) B v zs:=⟨h.1,h.2.1,h.2.2.alloc o⟩
theorem x0y(w:World) o:(w.alloc o).heap.size=w.heap.size+1:=f0h
theorem y3p{w ops rest o}{a Q}(T:o.guard=none)(s x:Operand)
  (y:o.op=.call { callee:=.builtin .append,args:=#[s,x],argTypes:=#[40,40] }) B v u xs ys (U:a.eval s=v) (J:a.eval x=u)
  (N:Ok .i32 21 w B v xs) (W:Sk .i32 w u ys) (S:xs.length+ys.length<=1000000000) (E:B<=w.heap.size)
  (h:∀v' w',Ok .i32 21 w' B v' (xs++ys)->w.grownBy w' v.ownBlock->wpList prog ops Q rest (a.put o.dst v') w'):wpList prog ops Q (o::rest) a w:=by
 obtain⟨i,hi,C,p,t⟩:=info_parts y2s;rcases W.2.src with⟨A,rfl⟩|⟨r,M,b,q⟩
 ·obtain rfl:ys=[]:=N6u;refine wpList_append_own_none T s x 40 y B 21 i 1 underlying40 hi v _ _ U N.row J ?_;exact I3X
 ·rw[List.length_map]at b;subst b;refine wpList_append_own w T s x 40 y B 21 i (.int .i32 0) 1 4 underlying40 hi C p t rfl e8P v _ _ U N.row r ys.length M (ys.map (Value.int .i32)) J M7O q (x0S .i32 ys) T7X f6J E ?_;exact U9J
theorem x8P v u xs ys w(N:Sk .i32 w v xs)(W:Sk .i32 w u ys) :
  Calls prog 31 #[v,u] w (x1x w (decide (xs=ys))):=by
 have t:=N.len;have af:=W.len;by_cases E:xs.length=ys.length
 ·rcases Nat.eq_zero_or_pos xs.length with h0|h0
  ·have T:∀w',(∃m,w'=w.drewN m)->x1x w (decide (xs=ys)) (.returned (.bool true)) w':=fun w' Y=>x1d (by
    have Z:=List.eq_nil_of_length_eq_zero h0;have D:=List.eq_nil_of_length_eq_zero (E ▸ h0)
    simp[Z,D]) Y
   obtain⟨R,M,rfl,_,_⟩:=N.shape;obtain⟨B,J,rfl,_,_⟩:=W.shape;rw[<- E,h0];go_enter func31,ntmps31;go_wp2;refine wp_loop_rounds 1 ?_;rw[rounds_succ];go_wp2;go_ret;exact T _ (x4g w)
  ·have HE:∀w',(∃m,w'=w.drewN m)->xs.take xs.length=ys.take xs.length->x1x w (decide (xs=ys)) (.returned (.bool true)) w':=fun w' Y Q=>x1d (by
    rw[List.take_length,E,List.take_length]at Q
    simp[Q]) Y
   have HN:∀w' k,(∃m,w'=w.drewN m)->¬xs.getD k 0=ys.getD k 0->x1x w (decide (xs=ys)) (.returned (.bool false)) w':=fun w' k Y Q=>x1d (by
    symm;rw[decide_eq_false_iff_not];intro h;subst h;exact Q rfl) Y
   have c:∀wr,Bw w wr->Sk .i32 wr v xs/\Sk .i32 wr u ys:=fun wr Y=>⟨N.below Y,W.below Y⟩;obtain⟨b,P,M,rfl,o,q,I⟩:=N.place h0;obtain⟨d,U,J,rfl,p,S,r⟩:=W.place f6J
   have C:∀wr,Bw w wr->∀i,i<xs.length->wr.cell? ⟨b,P+i,none⟩=some (.int .i32 (xs.getD i 0))/\wr.cell? ⟨d,U+i,none⟩=some (.int .i32 (ys.getD i 0)):=G3N
   rw[<- E]at p ⊢;have ab:=O N.1;have ae:=O W.1;have g:=O E;go_enter func31,ntmps31;go_wp2;go_loopw[13] (fun i wr=>∃k:Nat,i=.int .i64 k/\k<=xs.length/\xs.take k=ys.take k/\∃m,wr=w.drewN m) (fun i _=>xs.length-(intOf i).toNat)
   case atStart=>exact w7P
   case round =>exact S1f
 ·have T:x1x w (decide (xs=ys)) (.returned (.bool false)) w:=x1d (by
   symm;rw[decide_eq_false_iff_not];intro h;subst h;exact E rfl) (x4g w)
  have F:((xs.length:Int) != (ys.length:Int))=true:=P8P;obtain⟨R,M,rfl,_,_⟩:=N.shape;obtain⟨B,J,rfl,_,_⟩:=W.shape;go_enter func31,ntmps31;exact U7L
namespace Bd
def rtl(k:Int):Bool:=decide (k=1)||(decide (k=2)||decide (k=3))
def has(K:List Int):Bool:=K.any rtl
def fst(l:List Int):Int:=match l with
 | []=>10
 | k::l=>if k=10 then fst l else k
def lst(K:List Int):Int:=fst K.reverse
def r5(K:List Int):Int:=if K.any rtl=true then 16 else 0
def r6(K:List Int):Int:=if lst K=0\/lst K=4 then 0 else 32
def r2(K:List Int):Int:=if K.any (fun k=>decide (k=0))=true then 2 else 0
def r3(K:List Int):Int:=if lst K=1\/lst K=2\/lst K=4\/lst K=3 then 0 else 4
def r4(K:List Int):Int:=if K.any (fun k=>decide (k=4))=true/\K.any (fun k=>decide (k=3))=true then 8 else 0
def y6j(K:List Int):Int:=if K.length=0 then 0 else if ¬(K.getD 0 0=0\/K.getD 0 0=1\/K.getD 0 0=2)then 1 else if K.getD 0 0=0 then r5 K+r6 K else r2 K+r3 K+r4 K
variable {K:List Int}
theorem x4B{i}(h:i<K.length):K.take (i+1)=K.take i++[K.getD i 0]:=f0h
theorem z2u k:lst (K++[k])=if k=10 then lst K else k:=by
 unfold lst;rw[List.reverse_append];rfl
theorem y6V{f:Int->Bool}(h:∀i,i<K.length->f (K.getD i 0)=false):K.any f=false:=P3h
theorem y1O{f:Int->Bool}{i}(hi:i<K.length)(h:f (K.getD i 0)=true):K.any f=true:=by grind
theorem z8y(h:0<K.length)(A:K.getD 0 0≠10):lst K≠10:=by
 cases K with
 | nil=>simp at h
 | cons a l =>
  have g:a≠10:=(by grind);unfold lst;rw[List.reverse_cons]
  have S:∀m:List Int,fst (m++[a])≠10:=by
   intro m
   induction m with
   | nil=>show(if a=10 then _ else a)≠10;rw[if_neg g];exact g
   | cons b m ih =>
    show(if b=10 then fst (m++[a])else b)≠10;by_cases Y:b=10
    ·rw[if_pos Y];exact ih
    ·rw[if_neg Y];exact Y
  exact S _
end Bd
theorem y9e{X:List Int}{B:Int->Int}{i}(h:i<X.length):(X.map B).getD i 0=B (X.getD i 0):=p8I
namespace Bd
def msk(K:List Int):Nat:=K.foldl (fun a k=>a|||2^k.toNat) 0
def one(k:Int):Int:=((2^k.toNat:Nat):Int)
def Fit(K:List Int):Prop:=∀k∈K,0<=k/\k<=10
theorem z2A K k:msk (K++[k])=msk K|||2^k.toNat:=by
 unfold msk;rw[List.foldl_append];rfl
theorem cases11{k:Int}(h:0<=k/\k<=10):k=0\/k=1\/k=2\/k=3\/k=4\/k=5\/k=6\/k=7\/k=8\/k=9\/k=10:=f6J
theorem z4e{k:Int}(h:0<=k/\k<=10):2^k.toNat<2^11:=Nat.pow_lt_pow_right f6J f6J
theorem z2z K:∀(a:Nat),a<2^11->Fit K->K.foldl (fun a k=>a|||2^k.toNat) a<2^11:=by
 induction K with
 | nil=>intro a h _;exact h
 | cons k l ih =>
  intro a h X;exact ih _ (Nat.or_lt_two_pow h (z4e (X k M7K))) (fun x J=>X x (List.mem_cons_of_mem _ J))
theorem z3V{K}(h:Fit K):msk K<2048:=z2z K 0 e8M h
theorem z1n(K:List Int) j:∀(a:Nat),(K.foldl (fun a k=>a|||2^k.toNat) a).testBit j=(a.testBit j||K.any (fun k=>decide (k.toNat=j))):=by
 induction K with
 | nil=>intro a;simp
 | cons k l ih=>grind
theorem z6f K j:(msk K).testBit j=K.any (fun k=>decide (k.toNat=j)):=by
 unfold msk;rw[z1n];simp
theorem x7S{K}(h:Fit K) j:(msk K).testBit j=K.any (fun k=>decide (k=(j:Int))):=by
 rw[z6f,Bool.eq_iff_iff,List.any_eq_true,List.any_eq_true];constructor
 ·rintro⟨x,J,e⟩;have:=h x J;exact⟨x,J,by have:=o0d e;exact d0t f6J⟩
 ·grind
theorem or17{a b:Nat}(g:a<2048)(Y:b<2048):bits .or .i64 (a:Int) (b:Int)=((a|||b:Nat):Int):=by
 have A:a|||b<2^11:=Nat.or_lt_two_pow g Y;exact V8W
theorem inR17:∀a:Fin 2048,(bits .andNot .i64 ((a.val:Nat):Int) 2046==0)=!(a.val.testBit 0):=M3j
theorem inL17:∀a:Fin 2048,(bits .andNot .i64 ((a.val:Nat):Int) 2033==0)=!(a.val.testBit 1||(a.val.testBit 2||a.val.testBit 3)):=M3j
theorem dig17:∀a:Fin 2048,(bits .andNot .i64 24 ((a.val:Nat):Int)==0)=(a.val.testBit 3&&a.val.testBit 4):=M3j
theorem z4E(K:List Int):K.any rtl=(K.any (fun k=>decide (k=((1:Nat):Int)))||(K.any (fun k=>decide (k=((2:Nat):Int)))||K.any (fun k=>decide (k=((3:Nat):Int))))):=by
 induction K with
 | nil=>rfl
 | cons k l ih =>
  simp only[List.any_cons];rw[ih];unfold rtl;cases decide (k=1)<;>cases decide (k=2)<;>cases decide (k=3)<;>simp<;>assumption
end Bd
def x5z(w:World)(lv:Value)(Xs:List (List Int)):Prop:=Xs.length<=1000000000/\((Xs.length=0/\∃ao cap,lv=.slice ao 0 cap/\cap<=9223372036854775807)\/∃b off cap,lv=.slice (some ⟨b,off,none⟩) Xs.length cap/\Xs.length<=cap/\cap<=9223372036854775807/\∀i,i<Xs.length->∃xv,w.cell? ⟨b,off+i,none⟩=some xv/\Sk .i32 w xv (Xs.getD i []))
theorem x5z.below{w w' lv Xs}(h:x5z w lv Xs)(Y:Bw w w'):x5z w' lv Xs:=by
 refine⟨h.1,?_⟩;rcases h.2 with Z|⟨b,P,M,e,Z,D,R⟩
 ·exact .inl Z
 ·refine .inr ⟨b,P,M,e,Z,D,fun i hi=>?_⟩;obtain⟨u,I,U⟩:=R i hi;exact⟨u,by rw[Y.cell (x0a I)];exact I,U.below Y⟩
theorem x5z.shape{w lv Xs}(h:x5z w lv Xs):∃ao cap,lv=.slice ao Xs.length cap/\Xs.length<=cap/\cap<=9223372036854775807:=by
 rcases h.2 with⟨A,ao,cap,e,D⟩|⟨b,P,cap,e,Z,D,_⟩
 ·grind
 ·exact⟨_,cap,e,Z,D⟩
theorem x5z.at{w ao n cap Xs}(h:x5z w (.slice ao n cap) Xs){i}(hi:i<Xs.length):∃b off u,ao=some ⟨b,off,none⟩/\w.cell? ⟨b,off+i,none⟩=some u/\Sk .i32 w u (Xs.getD i []):=by
 rcases h.2 with⟨A,_⟩|⟨b,off,J,e,_,_,R⟩
 ·omega
 ·grind
def x8C(p:Nat)(bd:Int->Int)(w:World):Prop:=(∀c,0<=bd c/\bd c<=10)/\∀c,Rune c->∀W,Below w.heap.size w W->Calls prog 156 #[.pointer (some ⟨p,0,none⟩),.int .i32 c] W (IntB W (bd c))
theorem x8C.on{p bd w W}(h:x8C p bd w)(Y:Bw w W):x8C p bd W:=⟨h.1,fun c I A t=>h.2 c I A (x0b Y t)⟩
theorem x2f s t w:Calls prog 111 #[.int .i64 s,.int .i64 t] w (fun e w'=>e=.returned (.bool (bits .andNot .i64 s t==0))/\w'=w):=by
 go_enter func111,ntmps111;exact t6u
theorem shl17{k}(h:0<=k/\k<=10):Op.shift .shl .i64 1 .i64 k=pure (.int .i64 (Bd.one k)):=by
 rcases Bd.cases11 h with rfl|rfl|rfl|rfl|rfl|rfl|rfl|rfl|rfl|rfl|rfl<;>rfl
theorem z7Y{p bd w}(B:x8C p bd w){c}(I:Rune c):Calls prog 110 #[.pointer (some ⟨p,0,none⟩),.int .i32 c] w (IntB w (Bd.one (bd c))):=by
 have K:=O (B.2 c I w (b0r));have U:=shl17 (B.1 c);go_enter func110,ntmps110;exact G8t
theorem rtl17{k}(h:0<=k/\k<=10):(bits .andNot .i64 (Bd.one k) 14==0)=Bd.rtl k:=by
 rcases Bd.cases11 h with rfl|rfl|rfl|rfl|rfl|rfl|rfl|rfl|rfl|rfl|rfl<;>decide +kernel
theorem z5F{p b bd w}(B:x8C p bd w)(Y:w.cell? ⟨b,0,none⟩=some (.pointer (some ⟨p,0,none⟩))){c}(I:Rune c):Calls prog 109 #[.int .i32 c,.pointer (some ⟨b,0,none⟩)] w (x0c w (Bd.rtl (bd c))):=by
 have K:=O (z7Y B I);have o:=O (fun W=>x2f (Bd.one (bd c)) 14 W);rw[rtl17 (B.1 c)]at o;go_enter func109,ntmps109;go_wp2_with fail;refine c0m K fun Q b1=>?_;go_wp2_with fail;refine(V o _).mono ?_;rintro e d ⟨rfl,rfl⟩;go_wp2;go_ret;exact⟨rfl,b1⟩
def IdxB(w:World)(b:Bool)(e:Ending)(w':World):Prop:=∃n:Int,e=.returned (.int .i64 n)/\decide (0<=n)=b/\Below w.heap.size w w'
theorem idx17(g b:Nat)(o:∀args w,(callFunc g args).run prog w=.ok (.enter g args) w)(p:Int->Bool) xv X w(J:Sk .i32 w xv X)(j:∀k,k<X.length->∀W,Bw w W->Calls prog g #[.int .i32 (X.getD k 0),.pointer (some ⟨b,0,none⟩)] W (x0c W (p (X.getD k 0)))) :
  Calls prog 58 #[xv,.func (.func g) #[] #[.pointer (some ⟨b,0,none⟩)]] w (IdxB w (X.any p)):=by
 have s:=J.len;have KP:=O j
 have C:Hid (∀(k:Nat),k<X.length->∃b P M,xv=.slice (some ⟨b,P,none⟩) X.length M/\∀W,Bw w W->W.cell? ⟨b,P+k,none⟩=some (.int .i32 (X.getD k 0))):=fun k G=>by
  obtain⟨b,P,M,d,_,_,I⟩:=J.place f6J;exact⟨b,P,M,d,fun W t=>by rw[t.cell (x0a (I k G))];exact I k G⟩
 have F:Hid ((∀q,q<X.length->p (X.getD q 0)=false)->X.any p=false):=fun h=>Bd.y6V h;have E:Hid (∀q,q<X.length->p (X.getD q 0)=true->X.any p=true):=fun q m h=>Bd.y1O m h;obtain⟨R,M,rfl,_,_⟩:=J.shape;go_enter func58,ntmps58;go_wp2;go_loopw[5,8] (fun _ Z wr=>∃k:Nat,Z=.int .i64 k/\k<=X.length/\(∀q,q<k->p (X.getD q 0)=false)/\Bw w wr) (fun _ Z _=>X.length-(intOf Z).toNat)
 case atStart=>exact t1A
 case round =>
  obtain⟨k,rfl,G,m,N⟩:=hrel;by_cases H:k<X.length
  ·have r:(k:Int)<X.length:=f6J;obtain⟨b1,P,A,d,i⟩:=V C k H;simp only[Value.slice.injEq]at d;obtain⟨rfl,-,rfl⟩:=d;have u:=i wr N;have K:=O (V KP k H wr N);have D:=O (V E k H)
   have T:Hid (p (X.getD k 0)=false->∀q,q<k+1->p (X.getD q 0)=false):=fun h q Y=>F6F
   have S:=O N;generalize p (X.getD k 0)=z at *;generalize X.getD k 0=c at *
   exact t5j
  ·have n:=O (V F fun q h=>m q f6J);have r:¬((k:Int)<X.length):=f6J;exact f6E
theorem con17(g b:Nat)(D:∀args w,(callFunc g args).run prog w=.ok (.enter g args) w)(p:Int->Bool) xv X w(J:Sk .i32 w xv X)(B:∀k,k<X.length->∀W,Bw w W->Calls prog g #[.int .i32 (X.getD k 0),.pointer (some ⟨b,0,none⟩)] W (x0c W (p (X.getD k 0)))) :
  Calls prog 108 #[xv,.func (.func g) #[] #[.pointer (some ⟨b,0,none⟩)]] w (x0c w (X.any p)):=by
 have K:=O (idx17 g b D p xv X w J B);obtain⟨R,M,rfl,_,_⟩:=J.shape;generalize X.any p=Y at *;go_enter func108,ntmps108;go_wp2_with fail;refine(V K).mono ?_;rintro e Q ⟨n,rfl,E,b1⟩;subst E;go_wp2;go_ret;exact⟨rfl,b1⟩
theorem y2e:∀args w,(callFunc 109 args).run prog w=.ok (.enter 109 args) w:=f0h
theorem z8r{p bd w}(D:x8C p bd w){xv X}(J:Sk .i32 w xv X):Calls prog 67 #[.pointer (some ⟨p,0,none⟩),xv] w (x0c w (Bd.has (X.map bd))):=by
 have j:∀(fn:Fn) (first M:Array Value) (w:World),(Instr.makeFunc fn first M).run prog w=.ok (.func fn first M) w:=fun _ _ _ _=>rfl;have A:∀o,Bw w (w.alloc o):=fun o=>(b0r).alloc (l0r _) o;have E:Bd.has (X.map bd)=X.any (fun c=>Bd.rtl (bd c)):=by unfold Bd.has;rw[List.any_map];rfl
 have K:Hid (Calls prog 108 #[xv,.func (.func 109) #[] #[.pointer (some ⟨w.heap.size,0,none⟩)]] (w.alloc (.cells #[.pointer (some ⟨p,0,none⟩)] 22)) (x0c (w.alloc (.cells #[.pointer (some ⟨p,0,none⟩)] 22)) (Bd.has (X.map bd)))):=by
  rw[E];refine con17 _ _ y2e _ xv X _ (J.below (A _)) fun k G W t=>z5F ((D.on (A _)).on t) ?_ (x1c J G);rw[t.cell M7K];simp
 obtain⟨R,M,rfl,_,_⟩:=J.shape;clear D J E;go_enter func67,ntmps67;exact r1W
def LkH(w:World)(L:Nat)(f l a:Int)(sv:Value):Prop:=w.heap[L]?=some (.cells #[.int .i64 f,.int .i64 l,.int .i64 a,sv] 335 (0,0))
section
variable {w:World} {L:Nat} {f l a:Int} {sv:Value}
theorem LkH.c0(h:LkH w L f l a sv):w.cell? ⟨L,0,none⟩=some (.int .i64 f):=cell_of (j:=0) h (by show 0<4;exact f6J)
theorem LkH.c1(h:LkH w L f l a sv):w.cell? ⟨L,1,none⟩=some (.int .i64 l):=cell_of (j:=1) h (by show 1<4;exact f6J)
theorem LkH.c2(h:LkH w L f l a sv):w.cell? ⟨L,2,none⟩=some (.int .i64 a):=cell_of (j:=2) h (by show 2<4;exact f6J)
theorem LkH.c3(h:LkH w L f l a sv):w.cell? ⟨L,3,none⟩=some sv:=cell_of (j:=3) h (by show 3<4;exact f6J)
theorem LkH.fz(h:LkH w L f l a sv) j:w.frozen? ⟨L,j,none⟩=false:=x0e h
theorem LkH.lt(h:LkH w L f l a sv):L<w.heap.size:=x0a h.c0
theorem LkH.below{w'}(h:LkH w L f l a sv)(Y:Bw w w'):LkH w' L f l a sv:=by
 unfold LkH at *;rw[Y.block L (LkH.lt h)];exact h
theorem LkH.set1(h:LkH w L f l a sv) x:LkH (w.setCell ⟨L,1,none⟩ (.int .i64 x)) L f x a sv:=n4Z
theorem LkH.set2(h:LkH w L f l a sv) x:LkH (w.setCell ⟨L,2,none⟩ (.int .i64 x)) L f l x sv:=n4Z
theorem LkH.set3(h:LkH w L f l a sv) x:LkH (w.setCell ⟨L,3,none⟩ x) L f l a x:=n4Z
end
theorem y5N{w:World}{b j v} o(h:w.cell? ⟨b,j,none⟩=some v):(w.alloc o).cell? ⟨b,j,none⟩=some v:=by
 rw[Below.cell ((Below.refl w.heap.size w).alloc (l0r _) o) (x0a h)];exact h
theorem x4S(w:World){cs v} T{n j}(h:n=w.heap.size)(N:cs[j]?=some v):(w.alloc (.cells cs T)).cell? ⟨n,j,none⟩=some v:=by
 subst h;simp[N]
structure Cls17(w:World)(L b r q s:Nat):Prop where
 hb:w.cell? ⟨b,0,none⟩=some (.pointer (some ⟨L,0,none⟩))
 hr:w.cell? ⟨r,0,none⟩=some (.func (.func 298) #[] #[.pointer (some ⟨b,0,none⟩)])
 hq:w.cell? ⟨q,0,none⟩=some (.func (.func 299) #[] #[.pointer (some ⟨b,0,none⟩)])
 s0:w.cell? ⟨s,0,none⟩=some (.func (.func 300) #[] #[.pointer (some ⟨r,0,none⟩),.pointer (some ⟨q,0,none⟩)])
 s1:w.cell? ⟨s,1,none⟩=some (.func (.func 301) #[] #[.pointer (some ⟨r,0,none⟩),.pointer (some ⟨b,0,none⟩)])
 s2:w.cell? ⟨s,2,none⟩=some (.func (.func 302) #[] #[.pointer (some ⟨r,0,none⟩),.pointer (some ⟨b,0,none⟩)])
 s3:w.cell? ⟨s,3,none⟩=some (.func (.func 303) #[] #[.pointer (some ⟨r,0,none⟩),.pointer (some ⟨b,0,none⟩)])
 s4:w.cell? ⟨s,4,none⟩=some (.func (.func 304) #[] #[.pointer (some ⟨q,0,none⟩),.pointer (some ⟨b,0,none⟩)])
 s5:w.cell? ⟨s,5,none⟩=some (.func (.func 305) #[] #[.pointer (some ⟨q,0,none⟩),.pointer (some ⟨b,0,none⟩)])
def RofB(w:World)(L:Nat)(e:Ending)(w':World):Prop:=∃b r q s,e=.returned (.slice (some ⟨s,0,none⟩) 6 6)/\Cls17 w' L b r q s/\(w.heap.size<=b/\w.heap.size<=r/\w.heap.size<=q/\w.heap.size<=s)/\Below w.heap.size w w'
theorem z0i L w:Calls prog 289 #[.pointer (some ⟨L,0,none⟩)] w (RofB w L):=by
 have j:∀(fn:Fn) (first M:Array Value) (w:World),(Instr.makeFunc fn first M).run prog w=.ok (.func fn first M) w:=fun _ _ _ _=>rfl;have J:∀W a m fn x y,(store a (.func fn x y) m).run prog W=stored prog W a (.func fn x y) m:=fun W a m fn x y=>run_store prog W a _ m rfl;go_enter func289,ntmps289;go_wp2;go_ret;refine⟨w.heap.size,w.heap.size+1,w.heap.size+1+1,w.heap.size+1+1+1,rfl,?_,⟨f6J,f6J,f6J,f6J⟩,?_⟩
 ·constructor
  ·exact y5N _ (y5N _ (y5N _ (x4S _ _ rfl M7M)))
  ·exact y5N _ (y5N _ (x4S _ _ M7M M7M))
  ·exact y5N _ (x4S _ _ M7M M7M)
  all_goals exact x4S _ _ M7M M7M
 ·exact(((((b0r).alloc (l0r _) _).alloc M7M _).alloc P8P _).alloc P8P _)
def Sm17(w:World)(b:Bool)(e:Ending)(w':World):Prop:=e=.returned (.bool b)/\w'=w
theorem x4i:∀args w,(callFunc 298 args).run prog w=.ok (.enter 298 args) w:=f0h
theorem x6q:∀args w,(callFunc 299 args).run prog w=.ok (.enter 299 args) w:=f0h
theorem y7S:∀args w,(callFunc 300 args).run prog w=.ok (.enter 300 args) w:=f0h
theorem y7T:∀args w,(callFunc 301 args).run prog w=.ok (.enter 301 args) w:=f0h
theorem y7U:∀args w,(callFunc 302 args).run prog w=.ok (.enter 302 args) w:=f0h
theorem y7V:∀args w,(callFunc 303 args).run prog w=.ok (.enter 303 args) w:=f0h
theorem y7W:∀args w,(callFunc 304 args).run prog w=.ok (.enter 304 args) w:=f0h
theorem y7X:∀args w,(callFunc 305 args).run prog w=.ok (.enter 305 args) w:=f0h
theorem fr17{w L b r q s f l a sv}(C:Cls17 w L b r q s)(H:LkH w L f l a sv):Calls prog 298 #[.pointer (some ⟨b,0,none⟩)] w (Sm17 w (bits .andNot .i64 f 6==0)):=by
 have x:=C.hb;have u:=H.c0;have K:=O (x2f f 6 w);go_enter func298,ntmps298;exact P3m
theorem fl17{w L b r q s f l a sv}(C:Cls17 w L b r q s)(H:LkH w L f l a sv):Calls prog 299 #[.pointer (some ⟨b,0,none⟩)] w (Sm17 w (bits .andNot .i64 f 1==0)):=by
 have x:=C.hb;have u:=H.c0;have K:=O (x2f f 1 w);go_enter func299,ntmps299;exact P3m
theorem z7F{w L b r q s f l a sv}(C:Cls17 w L b r q s)(H:LkH w L f l a sv):Calls prog 300 #[.pointer (some ⟨r,0,none⟩),.pointer (some ⟨q,0,none⟩)] w (Sm17 w ((bits .andNot .i64 f 6==0)||(bits .andNot .i64 f 1==0))):=by
 have x:=C.hr;have u:=C.hq;have P:=x4i;have B:=x6q;have K:=O (fr17 C H);have o:=O (fl17 C H);generalize(bits .andNot .i64 f 6==0)=R at *;go_enter func300,ntmps300
 cases R with
 | true =>exact N1o
 | false =>
  go_wp2_with(first| (go_at_fn 298;refine(V K).mono ?_;rintro e Q ⟨rfl,rfl⟩)|(go_at_fn 299;refine(V o).mono ?_;rintro e Q ⟨rfl,rfl⟩));exact M5Q
theorem z7G{w L b r q s f l a sv}(C:Cls17 w L b r q s)(H:LkH w L f l a sv):Calls prog 301 #[.pointer (some ⟨r,0,none⟩),.pointer (some ⟨b,0,none⟩)] w (Sm17 w (!(bits .andNot .i64 f 6==0)||(bits .andNot .i64 a 2046==0))):=by
 have x:=C.hr;have u:=C.hb;have S:=H.c2;have P:=x4i;have K:=O (fr17 C H);have o:=O (x2f a 2046 w);generalize(bits .andNot .i64 f 6==0)=R at *;go_enter func301,ntmps301
 exact n6k
theorem z7H{w L b r q s f l a sv}(C:Cls17 w L b r q s)(H:LkH w L f l a sv):Calls prog 302 #[.pointer (some ⟨r,0,none⟩),.pointer (some ⟨b,0,none⟩)] w (Sm17 w (!(bits .andNot .i64 f 6==0)||(bits .andNot .i64 l 30==0))):=by
 have x:=C.hr;have u:=C.hb;have S:=H.c1;have P:=x4i;have K:=O (fr17 C H);have o:=O (x2f l 30 w);generalize(bits .andNot .i64 f 6==0)=R at *;go_enter func302,ntmps302
 exact n6k
theorem z7I{w L b r q s f l a sv}(C:Cls17 w L b r q s)(H:LkH w L f l a sv):Calls prog 303 #[.pointer (some ⟨r,0,none⟩),.pointer (some ⟨b,0,none⟩)] w (Sm17 w (!(bits .andNot .i64 f 6==0)||!(bits .andNot .i64 24 a==0))):=by
 have x:=C.hr;have u:=C.hb;have S:=H.c2;have P:=x4i;have K:=O (fr17 C H);have o:=O (x2f 24 a w);generalize(bits .andNot .i64 f 6==0)=R at *;go_enter func303,ntmps303
 exact n6k
theorem z7J{w L b r q s f l a sv}(C:Cls17 w L b r q s)(H:LkH w L f l a sv):Calls prog 304 #[.pointer (some ⟨q,0,none⟩),.pointer (some ⟨b,0,none⟩)] w (Sm17 w (!(bits .andNot .i64 f 1==0)||(bits .andNot .i64 a 2033==0))):=by
 have x:=C.hq;have u:=C.hb;have S:=H.c2;have P:=x6q;have K:=O (fl17 C H);have o:=O (x2f a 2033 w);generalize(bits .andNot .i64 f 1==0)=R at *;go_enter func304,ntmps304
 exact g9W
theorem z7K{w L b r q s f l a sv}(C:Cls17 w L b r q s)(H:LkH w L f l a sv):Calls prog 305 #[.pointer (some ⟨q,0,none⟩),.pointer (some ⟨b,0,none⟩)] w (Sm17 w (!(bits .andNot .i64 f 1==0)||(bits .andNot .i64 l 17==0))):=by
 have x:=C.hq;have u:=C.hb;have S:=H.c1;have P:=x6q;have K:=O (fl17 C H);have o:=O (x2f l 17 w);generalize(bits .andNot .i64 f 1==0)=R at *;go_enter func305,ntmps305
 exact g9W
namespace Bd
def lm(K:List Int):Int:=K.foldl (fun l k=>if k=10 then l else one k) 0
theorem y9b K k:lm (K++[k])=if k=10 then lm K else one k:=by
 unfold lm;rw[List.foldl_append];rfl
theorem y4b{X:List Int}{B:Int->Int}{k}(h:k<X.length):(X.take (k+1)).map B=(X.take k).map B++[B (X.getD k 0)]:=by
 rw[x4B h,List.map_append];rfl
theorem y8j{bd}(h:∀c,0<=bd c/\bd c<=10)(X:List Int):Fit (X.map bd):=by
 intro k G;obtain⟨c,_,rfl⟩:=List.mem_map.1 G;exact h c
theorem z8P{k:Int}(h:0<=k/\k<=10):2^k.toNat<2048:=z4e h
end Bd
theorem Cls17.set{w L b r q s B j}(h:Cls17 w L b r q s)(C:L<B)(U:B<=b/\B<=r/\B<=q/\B<=s) v:Cls17 (w.setCell ⟨L,j,none⟩ v) L b r q s:=by
 have k:∀{b A:Nat} {u:Value},B<=b->w.cell? ⟨b,A,none⟩=some u->(w.setCell ⟨L,j,none⟩ v).cell? ⟨b,A,none⟩=some u:=fun{b A u} hl h=>by
  rw[World.cell?_of_block (a:=⟨b,A,none⟩) (Below.heap_setCell _ _ _ _ (fun e=>by have:b=L:=e;exact f6J))];exact h
 obtain⟨Z,D,R,H⟩:=U;exact⟨k Z h.hb,k D h.hr,k R h.hq,k H h.s0,k H h.s1,k H h.s2,k H h.s3,k H h.s4,k H h.s5⟩
def z7q(w:World)(f l a:Int)(e:Ending)(w':World):Prop:=∃L b r q s,e=.returned (.pointer (some ⟨L,0,none⟩))/\LkH w' L f l a (.slice (some ⟨s,0,none⟩) 6 6)/\Cls17 w' L b r q s/\Below w.heap.size w w'
theorem z2t{p bd w}(hB:x8C p bd w){xv X}(hx:Sk .i32 w xv X)(h0:0<X.length):Calls prog 256 #[.pointer (some ⟨p,0,none⟩),xv] w (z7q w (Bd.one (bd (X.getD 0 0))) (Bd.lm (X.map bd)) ((Bd.msk (X.map bd):Nat):Int)):=by
 have s:=hx.len;have g:Hid (∀(k:Nat),k<X.length->∀W,Bw w W->Calls prog 110 #[.pointer (some ⟨p,0,none⟩),.int .i32 (X.getD k 0)] W (IntB W (Bd.one (bd (X.getD k 0))))):=fun k G W t=>z7Y (hB.on t) (x1c hx G);have D:=O hB.1;obtain⟨b,P,M,rfl,aj,q,I⟩:=hx.place f6J
 have C:Hid (∀(k:Nat),k<X.length->∀W,Bw w W->W.cell? ⟨b,P+k,none⟩=some (.int .i32 (X.getD k 0))):=fun k G W t=>v9g
 have x0:=V C 0 h0 w (b0r);have K:=O (V g 0 h0 w (b0r));have HE:Hid (X.take X.length=X):=List.take_length
 have HM:Hid (∀k:Nat,k<X.length->bits .or .i64 ((Bd.msk ((X.take k).map bd):Nat):Int) (Bd.one (bd (X.getD k 0)))=((Bd.msk ((X.take (k+1)).map bd):Nat):Int)):=fun k G=>by
  rw[Bd.y4b G,Bd.z2A];exact Bd.or17 (Bd.z3V (Bd.y8j hB.1 _)) (Bd.z8P (hB.1 _))
 have v:Hid (∀k:Nat,k<X.length->Bd.lm ((X.take (k+1)).map bd)=if bd (X.getD k 0)=10 then Bd.lm ((X.take k).map bd)else Bd.one (bd (X.getD k 0))):=fun k G=>by
  rw[Bd.y4b G,Bd.y9b]
 have Y:Hid (∀k:Nat,(bd (X.getD k 0)=10->Bd.one (bd (X.getD k 0))=1024)/\(bd (X.getD k 0)≠10->(Bd.one (bd (X.getD k 0)) != 1024)=true)):=fun k=>by
  have h:=hB.1 (X.getD k 0);generalize bd (X.getD k 0)=z at *;refine⟨fun e=>by subst e;rfl,fun hz=>?_⟩
  rcases Bd.cases11 h with rfl|rfl|rfl|rfl|rfl|rfl|rfl|rfl|rfl|rfl|rfl<;>first| rfl | exact absurd rfl hz
 have KR:=O (fun L W=>z0i L W);rw[Nat.add_zero]at x0;generalize Bd.one (bd (X.getD 0 0))=f at *;generalize X.getD 0 0=c0 at *;go_enter func256,ntmps256;go_wp2_with fail;refine c0m K fun Q b1=>?_;have U:=O b1;have T:=b1.size
 have HS:Hid (LkH (Q.alloc (.cells #[.int .i64 f,.int .i64 0,.int .i64 0,.slice none 0 0] 335)) Q.heap.size f 0 0 (.slice none 0 0)):=by
  show(Q.heap.push _)[Q.heap.size]?=_;simp
 have ae:Hid (Bw w (Q.alloc (.cells #[.int .i64 f,.int .i64 0,.int .i64 0,.slice none 0 0] 335))):=(V U).alloc T _;go_wp2;generalize hLe:Q.heap.size=L at *;go_loopw[7,8,18] (fun _ _ Z wr=>∃k:Nat,Z=.int .i64 k/\k<=X.length/\LkH wr L f (Bd.lm ((X.take k).map bd)) ((Bd.msk ((X.take k).map bd):Nat):Int) (.slice none 0 0)/\Bw w wr) (fun _ _ Z _=>X.length-(intOf Z).toNat)
 case atStart=>exact⟨0,rfl,f6J,V HS,V ae⟩
 case round =>
  obtain⟨k,rfl,G,ab,N⟩:=hrel;by_cases H:k<X.length
  ·have r:(k:Int)<X.length:=f6J;have x4:=V C k H wr N;have K:=O (V g k H wr N);have hm:=V HM k H;have A:=O (V v k H);have B:=O (V Y k);have S:=O N;have E:=O ab;have i:Hid (∀W,LkH W L f (Bd.lm ((X.take (k+1)).map bd)) ((Bd.msk ((X.take (k+1)).map bd):Nat):Int) (.slice none 0 0)->Bw w W->∃n:Nat,Value.int .i64 ((k:Int)+1)=.int .i64 (n:Int)/\n<=X.length/\LkH W L f (Bd.lm ((X.take n).map bd)) ((Bd.msk ((X.take n).map bd):Nat):Int) (.slice none 0 0)/\Bw w W):=fun W h1 h2=>⟨k+1,g2A,f6J,h1,h2⟩;generalize Bd.lm ((X.take (k+1)).map bd)=l2,Bd.lm ((X.take k).map bd)=l1,((Bd.msk ((X.take (k+1)).map bd):Nat):Int)=a2,((Bd.msk ((X.take k).map bd):Nat):Int)=a1,Bd.one (bd (X.getD k 0))=o at *;generalize bd (X.getD k 0)=z at *;generalize X.getD k 0=c at *;go_wp2_with fail;refine c0m K fun w2 m=>?_;have R:=(V E).below m;have y2:=R.c2;have y3:=R.fz 2;have y4:=(R.set2 a2).c1;have y5:=(R.set2 a2).fz 1;have J:=O (x0d (x0b (V S) m) T (j:=2) (.int .i64 a2));by_cases hz:z=10
   ·obtain rfl:=(V B).1 hz;have d:=V A;rw[if_pos hz]at d;subst d;have HF:=O (R.set2 a2);go_wp2
    go_roundw
    case rel=>exact V i _ (V HF) (V J)
    case measure=>exact g7T
   ·have y:=(V B).2 hz;have d:=V A;rw[if_neg hz]at d;subst d;have HF:=O ((R.set2 a2).set1 l2);have u:=O (x0d (V J) T (j:=1) (.int .i64 l2));go_wp2
    go_roundw
    case rel=>exact V i _ (V HF) (V u)
    case measure=>exact g7T
  ·have ai:k=X.length:=f6J;subst ai;rw[V HE]at ab;have S:=O N;have K:=O (V KR L wr);have E:=O ab;generalize Bd.lm (X.map bd)=l1,((Bd.msk (X.map bd):Nat):Int)=a1 at *;go_wp2_with fail;refine(V K).mono ?_;rintro e w2 ⟨m,r2,x,s2,rfl,ag,af,F⟩;have R:=(V E).below F;have y2:=R.c3;have y3:=R.fz 3;have HF:Hid (z7q w f l1 a1 (.returned (.pointer (some ⟨L,0,none⟩))) (w2.setCell ⟨L,3,none⟩ (.slice (some ⟨s2,0,none⟩) 6 6))):=⟨L,m,r2,x,s2,rfl,R.set3 _,ag.set (V E).lt af _,x0d (x0b (V S) F) T _⟩;exact I7o
namespace Bd
def hold(f l a:Int):Nat->Bool
 | 0=>(bits .andNot .i64 f 6==0)||(bits .andNot .i64 f 1==0)
 | 1=>!(bits .andNot .i64 f 6==0)||(bits .andNot .i64 a 2046==0)
 | 2=>!(bits .andNot .i64 f 6==0)||(bits .andNot .i64 l 30==0)
 | 3=>!(bits .andNot .i64 f 6==0)||!(bits .andNot .i64 24 a==0)
 | 4=>!(bits .andNot .i64 f 1==0)||(bits .andNot .i64 a 2033==0)
 | _=>!(bits .andNot .i64 f 1==0)||(bits .andNot .i64 l 17==0)
def acc(h:Nat->Bool):Nat->Nat
 | 0=>0
 | k+1=>if h k=true then acc h k else acc h k|||2^k
theorem x6j(h:Nat->Bool):∀k,k<=6->acc h k<2^11
 | 0,_=>by show 0<2^11;exact e8N
 | k+1,hk=>by
  have B:=x6j h k f6J;rw[acc];split
  ·exact B
  ·exact Nat.or_lt_two_pow B (Nat.pow_lt_pow_right f6J f6J)
theorem acc6(h:Nat->Bool):((acc h 6:Nat):Int)=(if h 0=true then 0 else 1)+(if h 1=true then 0 else 2)+(if h 2=true then 0 else 4)+(if h 3=true then 0 else 8)+(if h 4=true then 0 else 16)+(if h 5=true then 0 else 32):=by
 simp only[acc];generalize h 0=A;generalize h 1=b1;generalize h 2=m;generalize h 3=b;generalize h 4=X;generalize h 5=B;cases A<;>cases b1<;>cases m<;>cases b<;>cases X<;>cases B<;>rfl
theorem z6a{K}(h:Fit K):0<=lst K/\lst K<=10:=by
 unfold lst
 have S:∀m:List Int,Fit m->0<=fst m/\fst m<=10:=by
  intro m
  induction m with
  | nil=>intro _;exact⟨e8M,e8M⟩
  | cons k l ih =>
   intro z;show 0<=(if k=10 then fst l else k)/\(if k=10 then fst l else k)<=10;split
   ·exact ih fun x J=>z x (List.mem_cons_of_mem _ J)
   ·exact z k M7L
 exact S _ fun x J=>h x (List.mem_reverse.1 J)
theorem z8x K(h:lst K≠10):lm K=one (lst K):=by
 obtain⟨M,rfl⟩:∃M:List Int,K=M.reverse:=⟨K.reverse,by rw[List.reverse_reverse]⟩
 induction M with
 | nil=>exact absurd rfl h
 | cons k l ih =>
  rw[List.reverse_cons]at *;rw[z2u]at *;rw[y9b];by_cases G:k=10
  ·grind
  ·rw[if_neg G,if_neg G]
theorem or_one{z}(h:0<=z/\z<=10):(bits .andNot .i64 (one z) 6==0)=decide (z=1\/z=2)/\(bits .andNot .i64 (one z) 1==0)=decide (z=0)/\(bits .andNot .i64 (one z) 30==0)=decide (z=1\/z=2\/z=4\/z=3)/\(bits .andNot .i64 (one z) 17==0)=decide (z=0\/z=4):=by
 rcases cases11 h with rfl|rfl|rfl|rfl|rfl|rfl|rfl|rfl|rfl|rfl|rfl<;>decide +kernel
theorem y6R{K}(hK:Fit K)(H:0<K.length):((acc (hold (one (K.getD 0 0)) (lm K) ((msk K:Nat):Int)) 6:Nat):Int)=y6j K:=by
 have o:0<=K.getD 0 0/\K.getD 0 0<=10:=hK _ N3G;have S:=z3V hK;have P:=inR17 ⟨msk K,S⟩;have G:=inL17 ⟨msk K,S⟩;have E:=dig17 ⟨msk K,S⟩;simp only at P G E;rw[x7S hK]at P;rw[x7S hK,x7S hK,x7S hK,<- z4E]at G;rw[x7S hK,x7S hK]at E;rw[acc6];simp only[hold];rw[P,G,E];obtain⟨y,J,-,-⟩:=or_one o;rw[y,J]
 have u:y6j K=if ¬(K.getD 0 0=0\/K.getD 0 0=1\/K.getD 0 0=2)then 1 else if K.getD 0 0=0 then r5 K+r6 K else r2 K+r3 K+r4 K:=by
  unfold y6j;rw[if_neg f6J]
 rw[u];have F:=z8y H;have I:=z8x K;obtain⟨-,-,M,U⟩:=or_one (z6a hK);unfold r2 r3 r4 r5 r6;generalize K.getD 0 0=z,hA:K.any rtl=A,hB:(K.any fun k=>decide (k=((0:Nat):Int)))=B,hC:(K.any fun k=>decide (k=((3:Nat):Int)))=C,hD:(K.any fun k=>decide (k=((4:Nat):Int)))=D at *;by_cases d:z=0
 ·grind
 ·grind
end Bd
theorem y6H{k}(h:k<6):wrap64 ((2:Int)^k)=((2^k:Nat):Int):=by
 have:k=0\/k=1\/k=2\/k=3\/k=4\/k=5:=f6J;rcases this with rfl|rfl|rfl|rfl|rfl|rfl<;>decide +kernel
theorem y4X{w L b r q s f l a sv}(C:Cls17 w L b r q s)(H:LkH w L f l a sv){k}(G:k<6):∃g j A,w.cell? ⟨s,k,none⟩=some (.func (.func g) #[] #[.pointer (some ⟨j,0,none⟩),.pointer (some ⟨A,0,none⟩)])/\Calls prog g #[.pointer (some ⟨j,0,none⟩),.pointer (some ⟨A,0,none⟩)] w (Sm17 w (Bd.hold f l a k))/\(∀args w,(callFunc g args).run prog w=.ok (.enter g args) w):=by
 match k,G with
 | 0,_=>exact⟨_,_,_,C.s0,z7F C H,y7S⟩
 | 1,_=>exact⟨_,_,_,C.s1,z7G C H,y7T⟩
 | 2,_=>exact⟨_,_,_,C.s2,z7H C H,y7U⟩
 | 3,_=>exact⟨_,_,_,C.s3,z7I C H,y7V⟩
 | 4,_=>exact⟨_,_,_,C.s4,z7J C H,y7W⟩
 | 5,_=>exact⟨_,_,_,C.s5,z7K C H,y7X⟩
 | n+6,h=>omega
theorem z9s{p bd w}(o:x8C p bd w){xv X}(J:Sk .i32 w xv X):Calls prog 214 #[.pointer (some ⟨p,0,none⟩),xv] w (IntB w (Bd.y6j (X.map bd))):=by
 rcases Nat.eq_zero_or_pos X.length with h0|h0
 ·obtain rfl:X=[]:=List.eq_nil_of_length_eq_zero h0;obtain⟨R,M,rfl,_,_⟩:=J.shape;have T:Hid (IntB w (Bd.y6j (List.map bd [])) (.returned (.int .i64 0)) w):=⟨rfl,b0r⟩;go_enter func214,ntmps214;exact v8o
 ·have E:=Bd.y6R (Bd.y8j o.1 X) (by rw[List.length_map];exact h0);rw[y9e h0]at E;have K:=O (z2t o J h0);have v:=J.len;obtain⟨R,M,rfl,_,_⟩:=J.shape;rw[<- E];generalize Bd.one (bd (X.getD 0 0))=f,Bd.lm (X.map bd)=l,((Bd.msk (X.map bd):Nat):Int)=a at *;go_enter func214,ntmps214;go_wp2_with fail;refine(V K).mono ?_;rintro e Q ⟨L,b,r,q,s,rfl,S,t,b1⟩;have N:=S.c3;have x:Hid (∀k,k<6->∃g j n,Q.cell? ⟨s,k,none⟩=some (.func (.func g) #[] #[.pointer (some ⟨j,0,none⟩),.pointer (some ⟨n,0,none⟩)])/\Calls prog g #[.pointer (some ⟨j,0,none⟩),.pointer (some ⟨n,0,none⟩)] Q (Sm17 Q (Bd.hold f l a k))/\(∀F w,(callFunc g F).run prog w=.ok (.enter g F) w)):=fun k G=>y4X t S G;have B:=O b1;generalize Bd.hold f l a=hd at *;have c:Hid (∀k,k<6->bits .or .i64 ((Bd.acc hd k:Nat):Int) ((2^k:Nat):Int)=((Bd.acc hd k|||2^k:Nat):Int)):=fun k G=>Bd.or17 (Bd.x6j hd k f6J) (show 2^k<2^11 from Nat.pow_lt_pow_right f6J f6J);have W:Hid (∀k,Bd.acc hd (k+1)=if hd k=true then Bd.acc hd k else Bd.acc hd k|||2^k):=fun k=>rfl;have y:Hid (Bd.acc hd 0=0):=rfl;generalize Bd.acc hd=ac at *;go_wp2;go_loopw[5,6,7,22] (fun P _ _ Z wr=>∃k:Nat,P=.int .i64 ((ac k:Nat):Int)/\Z=.int .i64 k/\k<=6/\wr=Q) (fun _ _ _ Z _=>6-(intOf Z).toNat)
  case atStart=>exact⟨0,by rw[V y];rfl,rfl,f6J,rfl⟩
  case round =>
   obtain⟨k,rfl,rfl,G,rfl⟩:=hrel;by_cases H:k<6
   ·have hL:(k:Int)<6:=f6J;obtain⟨g,j,n,u,I,D⟩:=V x k H;have A:=O I;have U:=V W k;have z:=V c k H;have Y:=O (y6H H)
    cases hh:hd k with
    | true =>
     rw[hh]at A U;rw[if_pos rfl]at U;have i:=O U;go_wp2_with(go_at_fn g;refine(V A).mono ?_;rintro e d ⟨rfl,rfl⟩)
     go_roundw
     case rel=>exact⟨k+1,by rw[V i],g2A,f6J,trivial⟩
     case measure=>exact g7V
    | false =>
     rw[hh]at A U;rw[if_neg e8N]at U;have i:=O U;have C:=O z;go_wp2_with(go_at_fn g;refine(V A).mono ?_;rintro e d ⟨rfl,rfl⟩)
     go_roundw
     case rel=>exact⟨k+1,by rw[V i,V Y,V C],g2A,f6J,trivial⟩
     case measure=>exact g7V
   ·obtain rfl:k=6:=f6J;go_wp2;go_ret;exact⟨rfl,V B⟩
