/- Lemmas. -/
import Derived.Test.YtkfcabdmkmljjaaGreatDoorF3
import Derived.Laws.AppendOwnNone
import Derived.RangeFuncRecord
import Derived.Shelf.Abstract
import Derived.Lib.Walk
set_option maxHeartbeats 2000000
set_option maxRecDepth 20000
namespace Go.Proofs.YtkfcabdmkmljjaaGreatDoor
open Go.Proofs.Tryz
open Go.RowKit
section
variable{p:Prop}
theorem M5Q(h:p:=by go_ret;exact⟨rfl,rfl⟩):p:=h
theorem W6w(h:p:=by rw[List.any_eq_false];intro x A;obtain⟨i,hi,rfl⟩:=List.getElem_of_mem A;have:=h i hi;simp only[List.getD,List.getElem?_eq_getElem hi,Option.getD_some]at this;rw[this];exact Bool.false_ne_true):p:=h
theorem p2M(h:p:=by unfold LkH at *;rw[x0c h];rfl):p:=h
theorem G8t(h:p:=by go_wp2_with fail;refine c0m K fun Q b1=>?_;go_wp2;go_ret;exact⟨rfl,b1⟩):p:=h
theorem E3o(h:p:=by
 cases R with
 | false =>exact P2u
 | true =>
  go_wp2_with(first| (go_at_fn 301;refine(V K).mono ?_;rintro e Q ⟨rfl,rfl⟩)|(refine(V j).mono ?_;rintro e Q ⟨rfl,rfl⟩));exact M5Q):p:=h
theorem s7B(h:p:=by rw[IntKind.wrap_i64];exact f6J):p:=h
theorem V8W(h:p:=by show IntKind.i64.wrap (((BitVec.ofInt 64 (a:Int)|||BitVec.ofInt 64 (b:Int)).toNat:Nat):Int)=_;rw[BitVec.ofInt_natCast,BitVec.ofInt_natCast,BitVec.toNat_or,BitVec.toNat_ofNat,BitVec.toNat_ofNat,Nat.mod_eq_of_lt f6J,Nat.mod_eq_of_lt f6J];simp only[IntKind.wrap,IntKind.bits,IntKind.signed];simp;omega):p:=h
theorem S4H(h:p:=by
 cases R with
 | false =>
  go_wp2_with(go_at_fn 302;refine(V K).mono ?_;rintro e Q ⟨rfl,rfl⟩);exact M5Q
 | true =>
  go_wp2_with(first| (go_at_fn 302;refine(V K).mono ?_;rintro e Q ⟨rfl,rfl⟩)|(refine(V j).mono ?_;rintro e Q ⟨rfl,rfl⟩));exact M5Q):p:=h
theorem W2z(h:p:=by rw[beq_eq_false_iff_ne];exact Z):p:=h
theorem P2u(h:p:=by go_wp2_with(go_at_fn 301;refine(V K).mono ?_;rintro e Q ⟨rfl,rfl⟩);exact M5Q):p:=h
theorem W1B(h:p:=by
 obtain⟨k,rfl,G,s,C⟩:=hrel;by_cases E:k<xs.length
 ·obtain⟨g,Q⟩:=H _ (x0i C) k E;have n:=O s
  cases he:(xs.getD k 0 != ys.getD k 0)with
  | true =>
   have HR:=fun w' Y=>HN w' k Y M2T;generalize xs.getD k 0=x,ys.getD k 0=y at *;go_wp2;go_quiet(fail);go_wp2;go_ret;exact HR _ (x6A C nq)
  | false =>
   have R:xs.getD k 0=ys.getD k 0:=M2T;have ae:=O (x7x (V n) E (by have:=V q;exact f6J) R);generalize xs.getD k 0=x at *;go_wp2;go_quiet(fail);go_wp2
   go_roundw
   case rel=>exact⟨k+1,g2A,f6J,V ae,x6A C nq⟩
   case measure=>exact g8e
 ·obtain rfl:k=xs.length:=f6J;have HR:=D _ C s;go_wp2;go_ret;exact HR):p:=h
theorem r7T(h:p:=by obtain⟨b,P,M,s,_,_,I⟩:=A.place f6J;exact⟨b,P,M,s,fun W U=>by rw[U.cell (x0a (I k G))];exact I k G⟩):p:=h
theorem w7P(h:p:=by go_wp2;go_ret;exact⟨_,rfl,by rw[V n];rfl,V N⟩):p:=h
theorem n0d(h:p:=by intro v' w' Z D _;exact h v' w' (Ok.of (N.1.app d.1) P8P Z M7P M7P) D):p:=h
theorem m0D(h:p:=by
 intro wr Y i hi;constructor
 ·rw[Y.cell (x0a (I i hi))];exact I i hi
 ·rw[Y.cell (x0a (B i f6J))];exact B i f6J):p:=h
theorem t3a(h:p:=by rw[V n];exact d0t f6J):p:=h
theorem I3X(h:p:=by exact h v w (by rw[List.append_nil];exact N) (World.grownBy.refl w _)):p:=h
theorem t1A(h:p:=by exact⟨0,rfl,f6J,fun q h=>absurd h f6J,b0r⟩):p:=h
theorem p8M(h:p:=by go_wp2;refine wp_loop_rounds 1 ?_;rw[rounds_succ];go_wp2;go_ret;exact T _ (x6z w)):p:=h
theorem t4u(h:p:=by exact⟨k+1,g2A,f6J,V y,V R⟩):p:=h
end
theorem y2H:(prog.info? 21).map (fun i=>(i.zero,i.size,i.bytes))=some (some (.int .i32 0),1,4):=f4x
theorem x7x{xs ys:List Int}{k}(h:xs.take k=ys.take k)(A:k<xs.length)(hy:k<ys.length)(s:xs.getD k 0=ys.getD k 0):xs.take (k+1)=ys.take (k+1):=by
 rw[List.take_add_one,List.take_add_one,h];simp only[List.getD,List.getElem?_eq_getElem A,List.getElem?_eq_getElem hy,Option.getD_some]at s;rw[List.getElem?_eq_getElem A,List.getElem?_eq_getElem hy,s]
theorem x1a{w w' b c}(h:b=c)(Y:∃m,w'=w.drewN m):x3S w c (.returned (.bool b)) w':=E1n
theorem same_q15 v u xs ys w(N:Sk .i32 w v xs)(d:Sk .i32 w u ys) :
  Calls prog 98 #[v,u] w (x3S w (decide (xs=ys))):=by
 have o:=N.len;have j:=d.len;by_cases F:xs.length=ys.length
 ·rcases Nat.eq_zero_or_pos xs.length with h0 | h0
  ·have T:∀w',(∃m,w'=w.drewN m)->x3S w (decide (xs=ys)) (.returned (.bool true)) w':=fun w' Y=>x1a (by
    have Z:=List.eq_nil_of_length_eq_zero h0;have h2:=List.eq_nil_of_length_eq_zero (F ▸ h0)
    simp[Z,h2]) Y
   obtain⟨J,M,rfl,_,_⟩:=N.shape;obtain⟨X,A,rfl,_,_⟩:=d.shape;rw[<- F,h0];go_enter func98,ntmps98;exact p8M
  ·have D:∀w',(∃m,w'=w.drewN m)->xs.take xs.length=ys.take xs.length->x3S w (decide (xs=ys)) (.returned (.bool true)) w':=fun w' Y ht=>x1a (by
    rw[List.take_length,F,List.take_length]at ht
    simp[ht]) Y
   have HN:∀w' k,(∃m,w'=w.drewN m)->¬xs.getD k 0=ys.getD k 0->x3S w (decide (xs=ys)) (.returned (.bool false)) w':=fun w' k Y ht=>x1a (by
    symm;rw[decide_eq_false_iff_not];intro h;subst h;exact ht rfl) Y
   have r:∀wr,Bw w wr->Sk .i32 wr v xs/\Sk .i32 wr u ys:=fun wr Y=>⟨N.below Y,d.below Y⟩;obtain⟨b,P,M,rfl,z,t,I⟩:=N.place h0;obtain⟨b',ab,A,rfl,U,c,B⟩:=d.place f6J
   have H:∀wr,Bw w wr->∀i,i<xs.length->wr.cell? ⟨b,P+i,none⟩=some (.int .i32 (xs.getD i 0))/\wr.cell? ⟨b',ab+i,none⟩=some (.int .i32 (ys.getD i 0)):=m0D
   rw[<- F]at U ⊢;have S:=O N.1;have W:=O d.1;have q:=O F;go_enter func98,ntmps98;go_wp2;go_loopw[5] (fun i wr=>∃k:Nat,i=.int .i64 k/\k<=xs.length/\xs.take k=ys.take k/\∃m,wr=w.drewN m) (fun i _=>xs.length-(intOf i).toNat)
   case atStart=>exact⟨0,rfl,f6J,M7P,x6z w⟩
   case round =>exact W1B
 ·have T:x3S w (decide (xs=ys)) (.returned (.bool false)) w:=x1a (by
   symm;rw[decide_eq_false_iff_not];intro h;subst h;exact F rfl) (x6z w)
  have aj:((xs.length:Int) != (ys.length:Int))=true:=P8P;obtain⟨J,M,rfl,_,_⟩:=N.shape;obtain⟨X,A,rfl,_,_⟩:=d.shape;go_enter func98,ntmps98;exact U7J
theorem lit15(W:World) zs n(F:zs.length=n)(U:0<n)(B:n<=100) C(A:C=(zs.map (Value.int .i32)).toArray)(u:∀z∈zs,-2147483648<=z/\z<=2147483647):Sk .i32 (W.alloc (.cells C 21)) (.slice (some ⟨W.heap.size,0,none⟩) n n) zs:=by
 have h:Ok .i32 21 (W.alloc (.cells C 21)) W.heap.size (.slice (some ⟨W.heap.size,0,none⟩) n n) zs:=by
  refine Ok.of (n:=n) (us:=zs.map (Value.int .i32)) (fun z h=>x0O (u z h)) f6J ⟨V7O,Or.inr ⟨W.heap.size,n,C,rfl,l0r _,World.alloc_heap_new W _,l0r _,T7W,by rw[A];exact V7O,by rw[A];exact List.take_of_length_le V7O⟩⟩ F.symm rfl
 exact h.sk
theorem x2e{K e w B}{v zs}(h:Ok K e w B v zs) o:Ok K e (w.alloc o) B v zs:=⟨h.1,h.2.1,h.2.2.alloc o⟩
theorem x0A(w:World) o:(w.alloc o).heap.size=w.heap.size+1:=f0h
theorem y3D{w ops rest o}{a Q}(C:o.guard=none)(s x:Operand)
  (R:o.op=.call { callee:=.builtin .append,args:=#[s,x],argTypes:=#[36,36] }) B v u xs ys (E:a.eval s=v) (A:a.eval x=u)
  (N:Ok .i32 21 w B v xs) (d:Sk .i32 w u ys) (S:xs.length+ys.length<=1000000000) (m:B<=w.heap.size)
  (h:∀v' w',Ok .i32 21 w' B v' (xs++ys)->w.grownBy w' v.ownBlock->wpList prog ops Q rest (a.put o.dst v') w'):wpList prog ops Q (o::rest) a w:=by
 obtain⟨i,hi,q,Y,U⟩:=info_parts y2H;rcases d.2.src with⟨G,rfl⟩ | ⟨F,M,g,X⟩
 ·obtain rfl:ys=[]:=E9s;refine wpList_append_own_none C s x 36 R B 21 i 1 underlying36 hi v _ _ E N.row A ?_;exact I3X
 ·rw[List.length_map]at g;subst g;refine wpList_append_own w C s x 36 R B 21 i (.int .i32 0) 1 4 underlying36 hi q Y U rfl e8P v _ _ E N.row F ys.length M (ys.map (Value.int .i32)) A M7P X (x0T .i32 ys) T7X f6J m ?_;exact n0d
theorem y3V v u xs ys w(N:Sk .i32 w v xs)(d:Sk .i32 w u ys) :
  Calls prog 35 #[v,u] w (x3S w (decide (xs=ys))):=by
 have o:=N.len;have j:=d.len;by_cases F:xs.length=ys.length
 ·rcases Nat.eq_zero_or_pos xs.length with h0 | h0
  ·have T:∀w',(∃m,w'=w.drewN m)->x3S w (decide (xs=ys)) (.returned (.bool true)) w':=fun w' Y=>x1a (by
    have Z:=List.eq_nil_of_length_eq_zero h0;have h2:=List.eq_nil_of_length_eq_zero (F ▸ h0)
    simp[Z,h2]) Y
   obtain⟨J,M,rfl,_,_⟩:=N.shape;obtain⟨X,A,rfl,_,_⟩:=d.shape;rw[<- F,h0];go_enter func35,ntmps35;exact p8M
  ·have D:∀w',(∃m,w'=w.drewN m)->xs.take xs.length=ys.take xs.length->x3S w (decide (xs=ys)) (.returned (.bool true)) w':=fun w' Y ht=>x1a (by
    rw[List.take_length,F,List.take_length]at ht
    simp[ht]) Y
   have HN:∀w' k,(∃m,w'=w.drewN m)->¬xs.getD k 0=ys.getD k 0->x3S w (decide (xs=ys)) (.returned (.bool false)) w':=fun w' k Y ht=>x1a (by
    symm;rw[decide_eq_false_iff_not];intro h;subst h;exact ht rfl) Y
   have r:∀wr,Bw w wr->Sk .i32 wr v xs/\Sk .i32 wr u ys:=fun wr Y=>⟨N.below Y,d.below Y⟩;obtain⟨b,P,M,rfl,z,t,I⟩:=N.place h0;obtain⟨b',ab,A,rfl,U,c,B⟩:=d.place f6J
   have H:∀wr,Bw w wr->∀i,i<xs.length->wr.cell? ⟨b,P+i,none⟩=some (.int .i32 (xs.getD i 0))/\wr.cell? ⟨b',ab+i,none⟩=some (.int .i32 (ys.getD i 0)):=m0D
   rw[<- F]at U ⊢;have S:=O N.1;have W:=O d.1;have q:=O F;go_enter func35,ntmps35;go_wp2;go_loopw[13] (fun i wr=>∃k:Nat,i=.int .i64 k/\k<=xs.length/\xs.take k=ys.take k/\∃m,wr=w.drewN m) (fun i _=>xs.length-(intOf i).toNat)
   case atStart=>exact⟨0,rfl,f6J,M7P,x6z w⟩
   case round =>exact W1B
 ·have T:x3S w (decide (xs=ys)) (.returned (.bool false)) w:=x1a (by
   symm;rw[decide_eq_false_iff_not];intro h;subst h;exact F rfl) (x6z w)
  have aj:((xs.length:Int) != (ys.length:Int))=true:=P8P;obtain⟨J,M,rfl,_,_⟩:=N.shape;obtain⟨X,A,rfl,_,_⟩:=d.shape;go_enter func35,ntmps35;exact U7J
namespace Bd
def rtl(k:Int):Bool:=decide (k=1)||(decide (k=2)||decide (k=3))
def has(K:List Int):Bool:=K.any rtl
def fst(l:List Int):Int:=match l with
 | []=>10
 | k::l=>if k=10 then fst l else k
def lst(K:List Int):Int:=fst K.reverse
def r5(K:List Int):Int:=if K.any rtl=true then 16 else 0
def r6(K:List Int):Int:=if lst K=0\/lst K=4 then 0 else 32
def r2(K:List Int):Int:=if K.any (fun k=>decide (k=0))=true then 2 else 0
def r3(K:List Int):Int:=if lst K=1\/lst K=2\/lst K=4\/lst K=3 then 0 else 4
def r4(K:List Int):Int:=if K.any (fun k=>decide (k=4))=true/\K.any (fun k=>decide (k=3))=true then 8 else 0
def y6D(K:List Int):Int:=if K.length=0 then 0 else if ¬(K.getD 0 0=0\/K.getD 0 0=1\/K.getD 0 0=2)then 1 else if K.getD 0 0=0 then r5 K+r6 K else r2 K+r3 K+r4 K
variable {K:List Int}
theorem x4x{i}(h:i<K.length):K.take (i+1)=K.take i++[K.getD i 0]:=f0h
theorem z3w k:lst (K++[k])=if k=10 then lst K else k:=by
 unfold lst;rw[List.reverse_append];rfl
theorem y7u{f:Int->Bool}(h:∀i,i<K.length->f (K.getD i 0)=false):K.any f=false:=W6w
theorem y2d{f:Int->Bool}{i}(hi:i<K.length)(h:f (K.getD i 0)=true):K.any f=true:=by grind
theorem q0b(h:0<K.length)(U:K.getD 0 0≠10):lst K≠10:=by
 cases K with
 | nil=>simp at h
 | cons a l =>
  have E:a≠10:=(by grind);unfold lst;rw[List.reverse_cons]
  have S:∀m:List Int,fst (m++[a])≠10:=by
   intro m
   induction m with
   | nil=>show(if a=10 then _ else a)≠10;rw[if_neg E];exact E
   | cons b m ih =>
    show(if b=10 then fst (m++[a])else b)≠10;by_cases Y:b=10
    ·rw[if_pos Y];exact ih
    ·rw[if_neg Y];exact Y
  exact S _
end Bd
theorem y9O{X:List Int}{bd:Int->Int}{i}(h:i<X.length):(X.map bd).getD i 0=bd (X.getD i 0):=p8I
namespace Bd
def msk(K:List Int):Nat:=K.foldl (fun a k=>a|||2^k.toNat) 0
def one(k:Int):Int:=((2^k.toNat:Nat):Int)
def Fit(K:List Int):Prop:=∀k∈K,0<=k/\k<=10
theorem z3D K k:msk (K++[k])=msk K|||2^k.toNat:=by
 unfold msk;rw[List.foldl_append];rfl
theorem cases11{k:Int}(h:0<=k/\k<=10):k=0\/k=1\/k=2\/k=3\/k=4\/k=5\/k=6\/k=7\/k=8\/k=9\/k=10:=f6J
theorem z5p{k:Int}(h:0<=k/\k<=10):2^k.toNat<2^11:=Nat.pow_lt_pow_right f6J f6J
theorem z3C K:∀(a:Nat),a<2^11->Fit K->K.foldl (fun a k=>a|||2^k.toNat) a<2^11:=by
 induction K with
 | nil=>intro a h _;exact h
 | cons k l ih =>
  intro a h C;exact ih _ (Nat.or_lt_two_pow h (z5p (C k M7K))) (fun x A=>C x (List.mem_cons_of_mem _ A))
theorem z5i{K}(h:Fit K):msk K<2048:=z3C K 0 e8M h
theorem z2h(K:List Int) j:∀(a:Nat),(K.foldl (fun a k=>a|||2^k.toNat) a).testBit j=(a.testBit j||K.any (fun k=>decide (k.toNat=j))):=by
 induction K with
 | nil=>intro a;simp
 | cons k l ih=>grind
theorem z7r K j:(msk K).testBit j=K.any (fun k=>decide (k.toNat=j)):=by
 unfold msk;rw[z2h];simp
theorem x8f{K}(h:Fit K) j:(msk K).testBit j=K.any (fun k=>decide (k=(j:Int))):=by
 rw[z7r,Bool.eq_iff_iff,List.any_eq_true,List.any_eq_true];constructor
 ·rintro⟨x,A,e⟩;have:=h x A;exact⟨x,A,by have:=o0d e;exact d0t f6J⟩
 ·grind
theorem or17{a b:Nat}(E:a<2048)(Y:b<2048):bits .or .i64 (a:Int) (b:Int)=((a|||b:Nat):Int):=by
 have B:a|||b<2^11:=Nat.or_lt_two_pow E Y;exact V8W
theorem inR17:∀a:Fin 2048,(bits .andNot .i64 ((a.val:Nat):Int) 2046==0)=!(a.val.testBit 0):=M3j
theorem inL17:∀a:Fin 2048,(bits .andNot .i64 ((a.val:Nat):Int) 2033==0)=!(a.val.testBit 1||(a.val.testBit 2||a.val.testBit 3)):=M3j
theorem dig17:∀a:Fin 2048,(bits .andNot .i64 24 ((a.val:Nat):Int)==0)=(a.val.testBit 3&&a.val.testBit 4):=M3j
theorem z5M(K:List Int):K.any rtl=(K.any (fun k=>decide (k=((1:Nat):Int)))||(K.any (fun k=>decide (k=((2:Nat):Int)))||K.any (fun k=>decide (k=((3:Nat):Int))))):=by
 induction K with
 | nil=>rfl
 | cons k l ih =>
  simp only[List.any_cons];rw[ih];unfold rtl;cases decide (k=1)<;>cases decide (k=2)<;>cases decide (k=3)<;>simp<;>assumption
end Bd
def x5B(w:World)(lv:Value)(Xs:List (List Int)):Prop:=Xs.length<=1000000000/\((Xs.length=0/\∃ao cap,lv=.slice ao 0 cap/\cap<=9223372036854775807)\/∃b off cap,lv=.slice (some ⟨b,off,none⟩) Xs.length cap/\Xs.length<=cap/\cap<=9223372036854775807/\∀i,i<Xs.length->∃xv,w.cell? ⟨b,off+i,none⟩=some xv/\Sk .i32 w xv (Xs.getD i []))
theorem x5B.below{w w' lv Xs}(h:x5B w lv Xs)(Y:Bw w w'):x5B w' lv Xs:=by
 refine⟨h.1,?_⟩;rcases h.2 with Z | ⟨b,P,M,e,Z,D,J⟩
 ·exact .inl Z
 ·refine .inr ⟨b,P,M,e,Z,D,fun i hi=>?_⟩;obtain⟨v,I,A⟩:=J i hi;exact⟨v,by rw[Y.cell (x0a I)];exact I,A.below Y⟩
theorem x5B.shape{w lv Xs}(h:x5B w lv Xs):∃ao cap,lv=.slice ao Xs.length cap/\Xs.length<=cap/\cap<=9223372036854775807:=by
 rcases h.2 with⟨U,ao,cap,e,D⟩ | ⟨b,P,cap,e,Z,D,_⟩
 ·grind
 ·exact⟨_,cap,e,Z,D⟩
theorem x5B.at{w ao n cap Xs}(h:x5B w (.slice ao n cap) Xs){i}(hi:i<Xs.length):∃b off v,ao=some ⟨b,off,none⟩/\w.cell? ⟨b,off+i,none⟩=some v/\Sk .i32 w v (Xs.getD i []):=by
 rcases h.2 with⟨U,_⟩ | ⟨b,off,A,e,_,_,J⟩
 ·omega
 ·grind
def x8Q(p:Nat)(bd:Int->Int)(w:World):Prop:=(∀c,0<=bd c/\bd c<=10)/\∀c,Rune c->∀W,Below w.heap.size w W->Calls prog 167 #[.pointer (some ⟨p,0,none⟩),.int .i32 c] W (IntB W (bd c))
theorem x8Q.on{p bd w W}(h:x8Q p bd w)(Y:Bw w W):x8Q p bd W:=⟨h.1,fun c I N U=>h.2 c I N (bthen Y U)⟩
theorem x1T s t w:Calls prog 120 #[.int .i64 s,.int .i64 t] w (fun e w'=>e=.returned (.bool (bits .andNot .i64 s t==0))/\w'=w):=by
 go_enter func120,ntmps120;exact t6u
theorem shl17{k}(h:0<=k/\k<=10):Op.shift .shl .i64 1 .i64 k=pure (.int .i64 (Bd.one k)):=by
 rcases Bd.cases11 h with rfl | rfl | rfl | rfl | rfl | rfl | rfl | rfl | rfl | rfl | rfl<;>rfl
theorem z9y{p bd w}(m:x8Q p bd w){c}(I:Rune c):Calls prog 119 #[.pointer (some ⟨p,0,none⟩),.int .i32 c] w (IntB w (Bd.one (bd c))):=by
 have K:=O (m.2 c I w (b0r));have B:=shl17 (m.1 c);go_enter func119,ntmps119;exact G8t
theorem rtl17{k}(h:0<=k/\k<=10):(bits .andNot .i64 (Bd.one k) 14==0)=Bd.rtl k:=by
 rcases Bd.cases11 h with rfl | rfl | rfl | rfl | rfl | rfl | rfl | rfl | rfl | rfl | rfl<;>decide +kernel
theorem z6O{p b bd w}(m:x8Q p bd w)(Y:w.cell? ⟨b,0,none⟩=some (.pointer (some ⟨p,0,none⟩))){c}(I:Rune c):Calls prog 118 #[.int .i32 c,.pointer (some ⟨b,0,none⟩)] w (x0g w (Bd.rtl (bd c))):=by
 have K:=O (z9y m I);have j:=O (fun W=>x1T (Bd.one (bd c)) 14 W);rw[rtl17 (m.1 c)]at j;go_enter func118,ntmps118;go_wp2_with fail;refine c0m K fun Q b1=>?_;go_wp2_with fail;refine(V j _).mono ?_;rintro e u ⟨rfl,rfl⟩;go_wp2;go_ret;exact⟨rfl,b1⟩
def IdxB(w:World)(b:Bool)(e:Ending)(w':World):Prop:=∃n:Int,e=.returned (.int .i64 n)/\decide (0<=n)=b/\Below w.heap.size w w'
theorem idx17(g b:Nat)(D:∀args w,(callFunc g args).run prog w=.ok (.enter g args) w)(p:Int->Bool) xv X w(A:Sk .i32 w xv X)(T:∀k,k<X.length->∀W,Bw w W->Calls prog g #[.int .i32 (X.getD k 0),.pointer (some ⟨b,0,none⟩)] W (x0g W (p (X.getD k 0)))) :
  Calls prog 66 #[xv,.func (.func g) #[] #[.pointer (some ⟨b,0,none⟩)]] w (IdxB w (X.any p)):=by
 have B:=A.len;have KP:=O T
 have H:Hid (∀(k:Nat),k<X.length->∃b P M,xv=.slice (some ⟨b,P,none⟩) X.length M/\∀W,Bw w W->W.cell? ⟨b,P+k,none⟩=some (.int .i32 (X.getD k 0))):=fun k G=>r7T
 have m:Hid ((∀q,q<X.length->p (X.getD q 0)=false)->X.any p=false):=fun h=>Bd.y7u h;have F:Hid (∀q,q<X.length->p (X.getD q 0)=true->X.any p=true):=fun q d h=>Bd.y2d d h;obtain⟨J,M,rfl,_,_⟩:=A.shape;go_enter func66,ntmps66;go_wp2;go_loopw[5,8] (fun _ Z wr=>∃k:Nat,Z=.int .i64 k/\k<=X.length/\(∀q,q<k->p (X.getD q 0)=false)/\Bw w wr) (fun _ Z _=>X.length-(intOf Z).toNat)
 case atStart=>exact t1A
 case round =>
  obtain⟨k,rfl,G,d,C⟩:=hrel;by_cases E:k<X.length
  ·have r:(k:Int)<X.length:=f6J;obtain⟨b1,P,t,s,S⟩:=V H k E;simp only[Value.slice.injEq]at s;obtain⟨rfl,-,rfl⟩:=s;have j:=S wr C;have K:=O (V KP k E wr C);have Y:=O (V F k E)
   have o:Hid (p (X.getD k 0)=false->∀q,q<k+1->p (X.getD q 0)=false):=fun h q i=>by
    rcases Nat.lt_or_ge q k with h1 | h1
    ·exact d q h1
    ·rw[(f6J:q=k)];exact h
   have N:=O C;generalize p (X.getD k 0)=z at *;generalize X.getD k 0=c at *
   cases z with
   | true =>
    have n:=O (V Y rfl);go_wp2_with(go_at_fn g;refine(V K).mono ?_;rintro e Q ⟨rfl,b1⟩);have R:=O (bthen (V N) b1);go_ret;exact⟨_,rfl,t3a,V R⟩
   | false =>
    have y:=O (V o rfl);go_wp2_with(go_at_fn g;refine(V K).mono ?_;rintro e Q ⟨rfl,b1⟩);have R:=O (bthen (V N) b1)
    go_roundw
    case rel=>exact t4u
    case measure=>exact g7T
  ·have n:=O (V m fun q h=>d q f6J);have r:¬((k:Int)<X.length):=f6J;have N:=O C;exact w7P
theorem con17(g b:Nat)(D:∀args w,(callFunc g args).run prog w=.ok (.enter g args) w)(p:Int->Bool) xv X w(A:Sk .i32 w xv X)(s:∀k,k<X.length->∀W,Bw w W->Calls prog g #[.int .i32 (X.getD k 0),.pointer (some ⟨b,0,none⟩)] W (x0g W (p (X.getD k 0)))) :
  Calls prog 36 #[xv,.func (.func g) #[] #[.pointer (some ⟨b,0,none⟩)]] w (x0g w (X.any p)):=by
 have K:=O (idx17 g b D p xv X w A s);obtain⟨J,M,rfl,_,_⟩:=A.shape;generalize X.any p=Y at *;go_enter func36,ntmps36;go_wp2_with fail;refine(V K).mono ?_;rintro e Q ⟨n,rfl,F,b1⟩;subst F;go_wp2;go_ret;exact⟨rfl,b1⟩
theorem y2t:∀args w,(callFunc 118 args).run prog w=.ok (.enter 118 args) w:=f0h
theorem z9T{p bd w}(m:x8Q p bd w){xv X}(A:Sk .i32 w xv X):Calls prog 73 #[.pointer (some ⟨p,0,none⟩),xv] w (x0g w (Bd.has (X.map bd))):=by
 have z:∀(fn:Fn) (first M:Array Value) (w:World),(Instr.makeFunc fn first M).run prog w=.ok (.func fn first M) w:=fun _ _ _ _=>rfl;have C:∀o,Bw w (w.alloc o):=fun o=>(b0r).alloc (l0r _) o;have E:Bd.has (X.map bd)=X.any (fun c=>Bd.rtl (bd c)):=by unfold Bd.has;rw[List.any_map];rfl
 have K:Hid (Calls prog 36 #[xv,.func (.func 118) #[] #[.pointer (some ⟨w.heap.size,0,none⟩)]] (w.alloc (.cells #[.pointer (some ⟨p,0,none⟩)] 23)) (x0g (w.alloc (.cells #[.pointer (some ⟨p,0,none⟩)] 23)) (Bd.has (X.map bd)))):=by
  rw[E];refine con17 _ _ y2t _ xv X _ (A.below (C _)) fun k G W U=>z6O ((m.on (C _)).on U) ?_ (x0V A G);rw[U.cell M7K];simp
 obtain⟨J,M,rfl,_,_⟩:=A.shape;clear m A E;go_enter func73,ntmps73;go_wp2_with fail;refine c0m K fun Q b1=>?_;have x:=O (bthen (C _) b1);go_wp2;go_ret;exact⟨rfl,V x⟩
def LkH(w:World)(L:Nat)(f l a:Int)(sv:Value):Prop:=w.heap[L]?=some (.cells #[.int .i64 f,.int .i64 l,.int .i64 a,sv] 340 (0,0))
section
variable {w:World} {L:Nat} {f l a:Int} {sv:Value}
theorem LkH.c0(h:LkH w L f l a sv):w.cell? ⟨L,0,none⟩=some (.int .i64 f):=cell_of (j:=0) h (by show 0<4;exact f6J)
theorem LkH.c1(h:LkH w L f l a sv):w.cell? ⟨L,1,none⟩=some (.int .i64 l):=cell_of (j:=1) h (by show 1<4;exact f6J)
theorem LkH.c2(h:LkH w L f l a sv):w.cell? ⟨L,2,none⟩=some (.int .i64 a):=cell_of (j:=2) h (by show 2<4;exact f6J)
theorem LkH.c3(h:LkH w L f l a sv):w.cell? ⟨L,3,none⟩=some sv:=cell_of (j:=3) h (by show 3<4;exact f6J)
theorem LkH.fz(h:LkH w L f l a sv) j:w.frozen? ⟨L,j,none⟩=false:=x0d h
theorem LkH.lt(h:LkH w L f l a sv):L<w.heap.size:=x0a h.c0
theorem LkH.below{w'}(h:LkH w L f l a sv)(Y:Bw w w'):LkH w' L f l a sv:=by
 unfold LkH at *;rw[Y.block L (LkH.lt h)];exact h
theorem LkH.set1(h:LkH w L f l a sv) x:LkH (w.setCell ⟨L,1,none⟩ (.int .i64 x)) L f x a sv:=p2M
theorem LkH.set2(h:LkH w L f l a sv) x:LkH (w.setCell ⟨L,2,none⟩ (.int .i64 x)) L f l x sv:=p2M
theorem LkH.set3(h:LkH w L f l a sv) x:LkH (w.setCell ⟨L,3,none⟩ x) L f l a x:=p2M
end
theorem y6h{w:World}{b j v} o(h:w.cell? ⟨b,j,none⟩=some v):(w.alloc o).cell? ⟨b,j,none⟩=some v:=by
 rw[Below.cell ((Below.refl w.heap.size w).alloc (l0r _) o) (x0a h)];exact h
theorem x4P(w:World){cs v} T{n j}(h:n=w.heap.size)(N:cs[j]?=some v):(w.alloc (.cells cs T)).cell? ⟨n,j,none⟩=some v:=by
 subst h;simp[N]
structure Cls17(w:World)(L b r q s:Nat):Prop where
 hb:w.cell? ⟨b,0,none⟩=some (.pointer (some ⟨L,0,none⟩))
 hr:w.cell? ⟨r,0,none⟩=some (.func (.func 301) #[] #[.pointer (some ⟨b,0,none⟩)])
 hq:w.cell? ⟨q,0,none⟩=some (.func (.func 302) #[] #[.pointer (some ⟨b,0,none⟩)])
 s0:w.cell? ⟨s,0,none⟩=some (.func (.func 303) #[] #[.pointer (some ⟨r,0,none⟩),.pointer (some ⟨q,0,none⟩)])
 s1:w.cell? ⟨s,1,none⟩=some (.func (.func 304) #[] #[.pointer (some ⟨r,0,none⟩),.pointer (some ⟨b,0,none⟩)])
 s2:w.cell? ⟨s,2,none⟩=some (.func (.func 305) #[] #[.pointer (some ⟨r,0,none⟩),.pointer (some ⟨b,0,none⟩)])
 s3:w.cell? ⟨s,3,none⟩=some (.func (.func 306) #[] #[.pointer (some ⟨r,0,none⟩),.pointer (some ⟨b,0,none⟩)])
 s4:w.cell? ⟨s,4,none⟩=some (.func (.func 307) #[] #[.pointer (some ⟨q,0,none⟩),.pointer (some ⟨b,0,none⟩)])
 s5:w.cell? ⟨s,5,none⟩=some (.func (.func 308) #[] #[.pointer (some ⟨q,0,none⟩),.pointer (some ⟨b,0,none⟩)])
def RofB(w:World)(L:Nat)(e:Ending)(w':World):Prop:=∃b r q s,e=.returned (.slice (some ⟨s,0,none⟩) 6 6)/\Cls17 w' L b r q s/\(w.heap.size<=b/\w.heap.size<=r/\w.heap.size<=q/\w.heap.size<=s)/\Below w.heap.size w w'
theorem z0U L w:Calls prog 292 #[.pointer (some ⟨L,0,none⟩)] w (RofB w L):=by
 have z:∀(fn:Fn) (first M:Array Value) (w:World),(Instr.makeFunc fn first M).run prog w=.ok (.func fn first M) w:=fun _ _ _ _=>rfl;have b:∀W a m fn x y,(store a (.func fn x y) m).run prog W=stored prog W a (.func fn x y) m:=fun W a m fn x y=>run_store prog W a _ m rfl;go_enter func292,ntmps292;go_wp2;go_ret;refine⟨w.heap.size,w.heap.size+1,w.heap.size+1+1,w.heap.size+1+1+1,rfl,?_,⟨f6J,f6J,f6J,f6J⟩,?_⟩
 ·constructor
  ·exact y6h _ (y6h _ (y6h _ (x4P _ _ rfl M7M)))
  ·exact y6h _ (y6h _ (x4P _ _ M7M M7M))
  ·exact y6h _ (x4P _ _ M7M M7M)
  all_goals exact x4P _ _ M7M M7M
 ·exact(((((b0r).alloc (l0r _) _).alloc M7M _).alloc P8P _).alloc P8P _)
def Sm17(w:World)(b:Bool)(e:Ending)(w':World):Prop:=e=.returned (.bool b)/\w'=w
theorem x4d:∀args w,(callFunc 301 args).run prog w=.ok (.enter 301 args) w:=f0h
theorem x6C:∀args w,(callFunc 302 args).run prog w=.ok (.enter 302 args) w:=f0h
theorem y8t:∀args w,(callFunc 303 args).run prog w=.ok (.enter 303 args) w:=f0h
theorem y8u:∀args w,(callFunc 304 args).run prog w=.ok (.enter 304 args) w:=f0h
theorem y8v:∀args w,(callFunc 305 args).run prog w=.ok (.enter 305 args) w:=f0h
theorem y8w:∀args w,(callFunc 306 args).run prog w=.ok (.enter 306 args) w:=f0h
theorem y8x:∀args w,(callFunc 307 args).run prog w=.ok (.enter 307 args) w:=f0h
theorem y8y:∀args w,(callFunc 308 args).run prog w=.ok (.enter 308 args) w:=f0h
theorem fr17{w L b r q s f l a sv}(C:Cls17 w L b r q s)(H:LkH w L f l a sv):Calls prog 301 #[.pointer (some ⟨b,0,none⟩)] w (Sm17 w (bits .andNot .i64 f 6==0)):=by
 have p:=C.hb;have d:=H.c0;have K:=O (x1T f 6 w);go_enter func301,ntmps301;exact P3m
theorem fl17{w L b r q s f l a sv}(C:Cls17 w L b r q s)(H:LkH w L f l a sv):Calls prog 302 #[.pointer (some ⟨b,0,none⟩)] w (Sm17 w (bits .andNot .i64 f 1==0)):=by
 have p:=C.hb;have d:=H.c0;have K:=O (x1T f 1 w);go_enter func302,ntmps302;exact P3m
theorem z9e{w L b r q s f l a sv}(C:Cls17 w L b r q s)(H:LkH w L f l a sv):Calls prog 303 #[.pointer (some ⟨r,0,none⟩),.pointer (some ⟨q,0,none⟩)] w (Sm17 w ((bits .andNot .i64 f 6==0)||(bits .andNot .i64 f 1==0))):=by
 have p:=C.hr;have d:=C.hq;have P:=x4d;have z:=x6C;have K:=O (fr17 C H);have j:=O (fl17 C H);generalize(bits .andNot .i64 f 6==0)=R at *;go_enter func303,ntmps303
 cases R with
 | true =>exact P2u
 | false =>
  go_wp2_with(first| (go_at_fn 301;refine(V K).mono ?_;rintro e Q ⟨rfl,rfl⟩)|(go_at_fn 302;refine(V j).mono ?_;rintro e Q ⟨rfl,rfl⟩));exact M5Q
theorem z9f{w L b r q s f l a sv}(C:Cls17 w L b r q s)(H:LkH w L f l a sv):Calls prog 304 #[.pointer (some ⟨r,0,none⟩),.pointer (some ⟨b,0,none⟩)] w (Sm17 w (!(bits .andNot .i64 f 6==0)||(bits .andNot .i64 a 2046==0))):=by
 have p:=C.hr;have d:=C.hb;have S:=H.c2;have P:=x4d;have K:=O (fr17 C H);have j:=O (x1T a 2046 w);generalize(bits .andNot .i64 f 6==0)=R at *;go_enter func304,ntmps304
 exact E3o
theorem z9g{w L b r q s f l a sv}(C:Cls17 w L b r q s)(H:LkH w L f l a sv):Calls prog 305 #[.pointer (some ⟨r,0,none⟩),.pointer (some ⟨b,0,none⟩)] w (Sm17 w (!(bits .andNot .i64 f 6==0)||(bits .andNot .i64 l 30==0))):=by
 have p:=C.hr;have d:=C.hb;have S:=H.c1;have P:=x4d;have K:=O (fr17 C H);have j:=O (x1T l 30 w);generalize(bits .andNot .i64 f 6==0)=R at *;go_enter func305,ntmps305
 exact E3o
theorem z9h{w L b r q s f l a sv}(C:Cls17 w L b r q s)(H:LkH w L f l a sv):Calls prog 306 #[.pointer (some ⟨r,0,none⟩),.pointer (some ⟨b,0,none⟩)] w (Sm17 w (!(bits .andNot .i64 f 6==0)||!(bits .andNot .i64 24 a==0))):=by
 have p:=C.hr;have d:=C.hb;have S:=H.c2;have P:=x4d;have K:=O (fr17 C H);have j:=O (x1T 24 a w);generalize(bits .andNot .i64 f 6==0)=R at *;go_enter func306,ntmps306
 exact E3o
theorem z9i{w L b r q s f l a sv}(C:Cls17 w L b r q s)(H:LkH w L f l a sv):Calls prog 307 #[.pointer (some ⟨q,0,none⟩),.pointer (some ⟨b,0,none⟩)] w (Sm17 w (!(bits .andNot .i64 f 1==0)||(bits .andNot .i64 a 2033==0))):=by
 have p:=C.hq;have d:=C.hb;have S:=H.c2;have P:=x6C;have K:=O (fl17 C H);have j:=O (x1T a 2033 w);generalize(bits .andNot .i64 f 1==0)=R at *;go_enter func307,ntmps307
 exact S4H
theorem z9j{w L b r q s f l a sv}(C:Cls17 w L b r q s)(H:LkH w L f l a sv):Calls prog 308 #[.pointer (some ⟨q,0,none⟩),.pointer (some ⟨b,0,none⟩)] w (Sm17 w (!(bits .andNot .i64 f 1==0)||(bits .andNot .i64 l 17==0))):=by
 have p:=C.hq;have d:=C.hb;have S:=H.c1;have P:=x6C;have K:=O (fl17 C H);have j:=O (x1T l 17 w);generalize(bits .andNot .i64 f 1==0)=R at *;go_enter func308,ntmps308
 exact S4H
namespace Bd
def lm(K:List Int):Int:=K.foldl (fun l k=>if k=10 then l else one k) 0
theorem y9K K k:lm (K++[k])=if k=10 then lm K else one k:=by
 unfold lm;rw[List.foldl_append];rfl
theorem y4r{X:List Int}{bd:Int->Int}{k}(h:k<X.length):(X.take (k+1)).map bd=(X.take k).map bd++[bd (X.getD k 0)]:=by
 rw[x4x h,List.map_append];rfl
theorem y8M{bd}(h:∀c,0<=bd c/\bd c<=10)(X:List Int):Fit (X.map bd):=by
 intro k G;obtain⟨c,_,rfl⟩:=List.mem_map.1 G;exact h c
theorem q0w{k:Int}(h:0<=k/\k<=10):2^k.toNat<2048:=z5p h
end Bd
theorem Cls17.set{w L b r q s B j}(h:Cls17 w L b r q s)(m:L<B)(A:B<=b/\B<=r/\B<=q/\B<=s) v:Cls17 (w.setCell ⟨L,j,none⟩ v) L b r q s:=by
 have k:∀{b S:Nat} {u:Value},B<=b->w.cell? ⟨b,S,none⟩=some u->(w.setCell ⟨L,j,none⟩ v).cell? ⟨b,S,none⟩=some u:=fun{b S u} hl h=>by
  rw[World.cell?_of_block (a:=⟨b,S,none⟩) (Below.heap_setCell _ _ _ _ (fun e=>by have:b=L:=e;exact f6J))];exact h
 obtain⟨Z,D,J,F⟩:=A;exact⟨k Z h.hb,k D h.hr,k J h.hq,k F h.s0,k F h.s1,k F h.s2,k F h.s3,k F h.s4,k F h.s5⟩
def z8N(w:World)(f l a:Int)(e:Ending)(w':World):Prop:=∃L b r q s,e=.returned (.pointer (some ⟨L,0,none⟩))/\LkH w' L f l a (.slice (some ⟨s,0,none⟩) 6 6)/\Cls17 w' L b r q s/\Below w.heap.size w w'
theorem z3v{p bd w}(m:x8Q p bd w){xv X}(A:Sk .i32 w xv X)(h0:0<X.length):Calls prog 261 #[.pointer (some ⟨p,0,none⟩),xv] w (z8N w (Bd.one (bd (X.getD 0 0))) (Bd.lm (X.map bd)) ((Bd.msk (X.map bd):Nat):Int)):=by
 have ar:=A.len;have KD:Hid (∀(k:Nat),k<X.length->∀W,Bw w W->Calls prog 119 #[.pointer (some ⟨p,0,none⟩),.int .i32 (X.getD k 0)] W (IntB W (Bd.one (bd (X.getD k 0))))):=fun k G W U=>z9y (m.on U) (x0V A G);have aw:=O m.1;obtain⟨b,P,ay,rfl,aA,aB,I⟩:=A.place f6J
 have H:Hid (∀(k:Nat),k<X.length->∀W,Bw w W->W.cell? ⟨b,P+k,none⟩=some (.int .i32 (X.getD k 0))):=fun k G W U=>by
  rw[U.cell (x0a (I k G))];exact I k G
 have x0:=V H 0 h0 w (b0r);have K:=O (V KD 0 h0 w (b0r));have D:Hid (X.take X.length=X):=List.take_length
 have HM:Hid (∀k:Nat,k<X.length->bits .or .i64 ((Bd.msk ((X.take k).map bd):Nat):Int) (Bd.one (bd (X.getD k 0)))=((Bd.msk ((X.take (k+1)).map bd):Nat):Int)):=fun k G=>by
  rw[Bd.y4r G,Bd.z3D];exact Bd.or17 (Bd.z5i (Bd.y8M m.1 _)) (Bd.q0w (m.1 _))
 have v:Hid (∀k:Nat,k<X.length->Bd.lm ((X.take (k+1)).map bd)=if bd (X.getD k 0)=10 then Bd.lm ((X.take k).map bd)else Bd.one (bd (X.getD k 0))):=fun k G=>by
  rw[Bd.y4r G,Bd.y9K]
 have Y:Hid (∀k:Nat,(bd (X.getD k 0)=10->Bd.one (bd (X.getD k 0))=1024)/\(bd (X.getD k 0)≠10->(Bd.one (bd (X.getD k 0)) != 1024)=true)):=fun k=>by
  have h:=m.1 (X.getD k 0);generalize bd (X.getD k 0)=z at *;refine⟨fun e=>by subst e;rfl,fun u=>?_⟩
  rcases Bd.cases11 h with rfl | rfl | rfl | rfl | rfl | rfl | rfl | rfl | rfl | rfl | rfl<;>first| rfl | exact absurd rfl u
 have KR:=O (fun L W=>z0U L W);rw[Nat.add_zero]at x0;generalize Bd.one (bd (X.getD 0 0))=f at *;generalize X.getD 0 0=c0 at *;go_enter func261,ntmps261;go_wp2_with fail;refine c0m K fun Q b1=>?_;have R:=O b1;have N:=b1.size
 have r:Hid (LkH (Q.alloc (.cells #[.int .i64 f,.int .i64 0,.int .i64 0,.slice none 0 0] 340)) Q.heap.size f 0 0 (.slice none 0 0)):=by
  show(Q.heap.push _)[Q.heap.size]?=_;simp
 have aj:Hid (Bw w (Q.alloc (.cells #[.int .i64 f,.int .i64 0,.int .i64 0,.slice none 0 0] 340))):=(V R).alloc N _;go_wp2;generalize hLe:Q.heap.size=L at *;go_loopw[7,8,18] (fun _ _ Z wr=>∃k:Nat,Z=.int .i64 k/\k<=X.length/\LkH wr L f (Bd.lm ((X.take k).map bd)) ((Bd.msk ((X.take k).map bd):Nat):Int) (.slice none 0 0)/\Bw w wr) (fun _ _ Z _=>X.length-(intOf Z).toNat)
 case atStart=>exact⟨0,rfl,f6J,V r,V aj⟩
 case round =>
  obtain⟨k,rfl,G,y,ab⟩:=hrel;by_cases E:k<X.length
  ·have hL:(k:Int)<X.length:=f6J;have x4:=V H k E wr ab;have K:=O (V KD k E wr ab);have hm:=V HM k E;have S:=O (V v k E);have q:=O (V Y k);have ae:=O ab;have d:=O y;have B:Hid (∀W,LkH W L f (Bd.lm ((X.take (k+1)).map bd)) ((Bd.msk ((X.take (k+1)).map bd):Nat):Int) (.slice none 0 0)->Bw w W->∃n:Nat,Value.int .i64 ((k:Int)+1)=.int .i64 (n:Int)/\n<=X.length/\LkH W L f (Bd.lm ((X.take n).map bd)) ((Bd.msk ((X.take n).map bd):Nat):Int) (.slice none 0 0)/\Bw w W):=fun W h1 h2=>⟨k+1,g2A,f6J,h1,h2⟩;generalize Bd.lm ((X.take (k+1)).map bd)=l2,Bd.lm ((X.take k).map bd)=l1,((Bd.msk ((X.take (k+1)).map bd):Nat):Int)=a2,((Bd.msk ((X.take k).map bd):Nat):Int)=a1,Bd.one (bd (X.getD k 0))=o at *;generalize bd (X.getD k 0)=z at *;generalize X.getD k 0=c at *;go_wp2_with fail;refine c0m K fun w2 i=>?_;have C:=(V d).below i;have s:=C.c2;have y3:=C.fz 2;have y4:=(C.set2 a2).c1;have g:=(C.set2 a2).fz 1;have J:=O (x0b (bthen (V ae) i) N (j:=2) (.int .i64 a2));by_cases u:z=10
   ·obtain rfl:=(V q).1 u;have x:=V S;rw[if_pos u]at x;subst x;have T:=O (C.set2 a2);go_wp2
    go_roundw
    case rel=>exact V B _ (V T) (V J)
    case measure=>exact g7T
   ·have ho:=(V q).2 u;have x:=V S;rw[if_neg u]at x;subst x;have T:=O ((C.set2 a2).set1 l2);have M:=O (x0b (V J) N (j:=1) (.int .i64 l2));go_wp2
    go_roundw
    case rel=>exact V B _ (V T) (V M)
    case measure=>exact g7T
  ·have aq:k=X.length:=f6J;subst aq;rw[V D]at y;have ae:=O ab;have K:=O (V KR L wr);have d:=O y;generalize Bd.lm (X.map bd)=l1,((Bd.msk (X.map bd):Nat):Int)=a1 at *;go_wp2_with fail;refine(V K).mono ?_;rintro e w2 ⟨i,r2,q2,s2,rfl,am,F,t⟩;have C:=(V d).below t;have s:=C.c3;have y3:=C.fz 3;have T:Hid (z8N w f l1 a1 (.returned (.pointer (some ⟨L,0,none⟩))) (w2.setCell ⟨L,3,none⟩ (.slice (some ⟨s2,0,none⟩) 6 6))):=⟨L,i,r2,q2,s2,rfl,C.set3 _,am.set (V d).lt F _,x0b (bthen (V ae) t) N _⟩;exact v8n
namespace Bd
def hold(f l a:Int):Nat->Bool
 | 0=>(bits .andNot .i64 f 6==0)||(bits .andNot .i64 f 1==0)
 | 1=>!(bits .andNot .i64 f 6==0)||(bits .andNot .i64 a 2046==0)
 | 2=>!(bits .andNot .i64 f 6==0)||(bits .andNot .i64 l 30==0)
 | 3=>!(bits .andNot .i64 f 6==0)||!(bits .andNot .i64 24 a==0)
 | 4=>!(bits .andNot .i64 f 1==0)||(bits .andNot .i64 a 2033==0)
 | _=>!(bits .andNot .i64 f 1==0)||(bits .andNot .i64 l 17==0)
def acc(h:Nat->Bool):Nat->Nat
 | 0=>0
 | k+1=>if h k=true then acc h k else acc h k|||2^k
theorem x5l(h:Nat->Bool):∀k,k<=6->acc h k<2^11
 | 0,_=>by show 0<2^11;exact e8N
 | k+1,hk=>by
  have B:=x5l h k f6J;rw[acc];split
  ·exact B
  ·exact Nat.or_lt_two_pow B (Nat.pow_lt_pow_right f6J f6J)
theorem acc6(h:Nat->Bool):((acc h 6:Nat):Int)=(if h 0=true then 0 else 1)+(if h 1=true then 0 else 2)+(if h 2=true then 0 else 4)+(if h 3=true then 0 else 8)+(if h 4=true then 0 else 16)+(if h 5=true then 0 else 32):=by
 simp only[acc];generalize h 0=m;generalize h 1=b1;generalize h 2=i;generalize h 3=G;generalize h 4=I;generalize h 5=T;cases m<;>cases b1<;>cases i<;>cases G<;>cases I<;>cases T<;>rfl
theorem z7m{K}(h:Fit K):0<=lst K/\lst K<=10:=by
 unfold lst
 have S:∀m:List Int,Fit m->0<=fst m/\fst m<=10:=by
  intro m
  induction m with
  | nil=>intro _;exact⟨e8M,e8M⟩
  | cons k l ih =>
   intro o;show 0<=(if k=10 then fst l else k)/\(if k=10 then fst l else k)<=10;split
   ·exact ih fun x A=>o x (List.mem_cons_of_mem _ A)
   ·exact o k M7L
 exact S _ fun x A=>h x (List.mem_reverse.1 A)
theorem q0a K(h:lst K≠10):lm K=one (lst K):=by
 obtain⟨M,rfl⟩:∃M:List Int,K=M.reverse:=⟨K.reverse,by rw[List.reverse_reverse]⟩
 induction M with
 | nil=>exact absurd rfl h
 | cons k l ih =>
  rw[List.reverse_cons]at *;rw[z3w]at *;rw[y9K];by_cases G:k=10
  ·grind
  ·rw[if_neg G,if_neg G]
theorem or_one{z}(h:0<=z/\z<=10):(bits .andNot .i64 (one z) 6==0)=decide (z=1\/z=2)/\(bits .andNot .i64 (one z) 1==0)=decide (z=0)/\(bits .andNot .i64 (one z) 30==0)=decide (z=1\/z=2\/z=4\/z=3)/\(bits .andNot .i64 (one z) 17==0)=decide (z=0\/z=4):=by
 rcases cases11 h with rfl | rfl | rfl | rfl | rfl | rfl | rfl | rfl | rfl | rfl | rfl<;>decide +kernel
theorem y7o{K}(hK:Fit K)(U:0<K.length):((acc (hold (one (K.getD 0 0)) (lm K) ((msk K:Nat):Int)) 6:Nat):Int)=y6D K:=by
 have u:0<=K.getD 0 0/\K.getD 0 0<=10:=hK _ (by simp[List.getD,U]);have S:=z5i hK;have P:=inR17 ⟨msk K,S⟩;have E:=inL17 ⟨msk K,S⟩;have N:=dig17 ⟨msk K,S⟩;simp only at P E N;rw[x8f hK]at P;rw[x8f hK,x8f hK,x8f hK,<- z5M]at E;rw[x8f hK,x8f hK]at N;rw[acc6];simp only[hold];rw[P,E,N];obtain⟨s,M,-,-⟩:=or_one u;rw[s,M]
 have X:y6D K=if ¬(K.getD 0 0=0\/K.getD 0 0=1\/K.getD 0 0=2)then 1 else if K.getD 0 0=0 then r5 K+r6 K else r2 K+r3 K+r4 K:=by
  unfold y6D;rw[if_neg f6J]
 rw[X];have y:=q0b U;have I:=q0a K;obtain⟨-,-,F,R⟩:=or_one (z7m hK);unfold r2 r3 r4 r5 r6;generalize K.getD 0 0=z,hA:K.any rtl=A,hB:(K.any fun k=>decide (k=((0:Nat):Int)))=B,hC:(K.any fun k=>decide (k=((3:Nat):Int)))=C,hD:(K.any fun k=>decide (k=((4:Nat):Int)))=D at *;by_cases x:z=0
 ·grind
 ·grind
end Bd
theorem y7b{k}(h:k<6):wrap64 ((2:Int)^k)=((2^k:Nat):Int):=by
 have:k=0\/k=1\/k=2\/k=3\/k=4\/k=5:=f6J;rcases this with rfl | rfl | rfl | rfl | rfl | rfl<;>decide +kernel
theorem y5n{w L b r q s f l a sv}(C:Cls17 w L b r q s)(H:LkH w L f l a sv){k}(G:k<6):∃g A Q,w.cell? ⟨s,k,none⟩=some (.func (.func g) #[] #[.pointer (some ⟨A,0,none⟩),.pointer (some ⟨Q,0,none⟩)])/\Calls prog g #[.pointer (some ⟨A,0,none⟩),.pointer (some ⟨Q,0,none⟩)] w (Sm17 w (Bd.hold f l a k))/\(∀args w,(callFunc g args).run prog w=.ok (.enter g args) w):=by
 match k,G with
 | 0,_=>exact⟨_,_,_,C.s0,z9e C H,y8t⟩
 | 1,_=>exact⟨_,_,_,C.s1,z9f C H,y8u⟩
 | 2,_=>exact⟨_,_,_,C.s2,z9g C H,y8v⟩
 | 3,_=>exact⟨_,_,_,C.s3,z9h C H,y8w⟩
 | 4,_=>exact⟨_,_,_,C.s4,z9i C H,y8x⟩
 | 5,_=>exact⟨_,_,_,C.s5,z9j C H,y8y⟩
 | n+6,h=>omega
theorem q0O{p bd w}(m:x8Q p bd w){xv X}(A:Sk .i32 w xv X):Calls prog 223 #[.pointer (some ⟨p,0,none⟩),xv] w (IntB w (Bd.y6D (X.map bd))):=by
 rcases Nat.eq_zero_or_pos X.length with h0 | h0
 ·obtain rfl:X=[]:=List.eq_nil_of_length_eq_zero h0;obtain⟨J,M,rfl,_,_⟩:=A.shape;have T:Hid (IntB w (Bd.y6D (List.map bd [])) (.returned (.int .i64 0)) w):=⟨rfl,b0r⟩;go_enter func223,ntmps223;go_wp2;go_ret;exact V T
 ·have E:=Bd.y7o (Bd.y8M m.1 X) (by rw[List.length_map];exact h0);rw[y9O h0]at E;have K:=O (z3v m A h0);have B:=A.len;obtain⟨J,M,rfl,_,_⟩:=A.shape;rw[<- E];generalize Bd.one (bd (X.getD 0 0))=f,Bd.lm (X.map bd)=l,((Bd.msk (X.map bd):Nat):Int)=a at *;go_enter func223,ntmps223;go_wp2_with fail;refine(V K).mono ?_;rintro e Q ⟨L,b,r,q,s,rfl,y,v,b1⟩;have y3:=y.c3;have z:Hid (∀k,k<6->∃g n t,Q.cell? ⟨s,k,none⟩=some (.func (.func g) #[] #[.pointer (some ⟨n,0,none⟩),.pointer (some ⟨t,0,none⟩)])/\Calls prog g #[.pointer (some ⟨n,0,none⟩),.pointer (some ⟨t,0,none⟩)] Q (Sm17 Q (Bd.hold f l a k))/\(∀o w,(callFunc g o).run prog w=.ok (.enter g o) w)):=fun k G=>y5n v y G;have x:=O b1;generalize Bd.hold f l a=hd at *;have c:Hid (∀k,k<6->bits .or .i64 ((Bd.acc hd k:Nat):Int) ((2^k:Nat):Int)=((Bd.acc hd k|||2^k:Nat):Int)):=fun k G=>Bd.or17 (Bd.x5l hd k f6J) (show 2^k<2^11 from Nat.pow_lt_pow_right f6J f6J);have R:Hid (∀k,Bd.acc hd (k+1)=if hd k=true then Bd.acc hd k else Bd.acc hd k|||2^k):=fun k=>rfl;have Y:Hid (Bd.acc hd 0=0):=rfl;generalize Bd.acc hd=j at *;go_wp2;go_loopw[5,6,7,22] (fun P _ _ Z wr=>∃k:Nat,P=.int .i64 ((j k:Nat):Int)/\Z=.int .i64 k/\k<=6/\wr=Q) (fun _ _ _ Z _=>6-(intOf Z).toNat)
  case atStart=>exact⟨0,by rw[V Y];rfl,rfl,f6J,rfl⟩
  case round =>
   obtain⟨k,rfl,rfl,G,rfl⟩:=hrel;by_cases i:k<6
   ·have hL:(k:Int)<6:=f6J;obtain⟨g,n,t,d,I,D⟩:=V z k i;have H:=O I;have C:=V R k;have F:=V c k i;have W:=O (y7b i)
    cases hh:hd k with
    | true =>
     rw[hh]at H C;rw[if_pos rfl]at C;have N:=O C;go_wp2_with(go_at_fn g;refine(V H).mono ?_;rintro e u ⟨rfl,rfl⟩)
     go_roundw
     case rel=>exact⟨k+1,by rw[V N],g2A,f6J,trivial⟩
     case measure=>exact g7W
    | false =>
     rw[hh]at H C;rw[if_neg e8N]at C;have N:=O C;have S:=O F;go_wp2_with(go_at_fn g;refine(V H).mono ?_;rintro e u ⟨rfl,rfl⟩)
     go_roundw
     case rel=>exact⟨k+1,by rw[V N,V W,V S],g2A,f6J,trivial⟩
     case measure=>exact g7W
   ·obtain rfl:k=6:=f6J;exact E0f
