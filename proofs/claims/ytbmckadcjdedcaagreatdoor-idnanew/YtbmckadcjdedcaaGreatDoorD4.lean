/- Sq15 Ba17 Bb17 Bp17 Bc17 Br17 Bq17 Bu17 Bv17 Bw17 Bx17 By17 -/
import Derived.Test.YtbmckadcjdedcaaGreatDoorD3
import Derived.Laws.AppendOwnNone
import Derived.RangeFuncRecord
import Derived.Shelf.Abstract
import Derived.Lib.Walk
set_option maxHeartbeats 2000000
set_option maxRecDepth 20000
namespace Go.Proofs.YtbmckadcjdedcaaGreatDoor
open Go.Proofs.Tryz
open Go.RowKit
section
variable{p:Prop}
theorem M5Q(h:p:=by go_ret;exact⟨rfl,rfl⟩):p:=h
theorem P3h(h:p:=by rw[List.any_eq_false];intro x J;obtain⟨i,hi,rfl⟩:=List.getElem_of_mem J;have:=h i hi;simp only[List.getD,List.getElem?_eq_getElem hi,Option.getD_some]at this;rw[this];exact Bool.false_ne_true):p:=h
theorem n4Z(h:p:=by unfold LkH at *;rw[x0f h];rfl):p:=h
theorem G8t(h:p:=by go_wp2_with fail;refine c0m K fun Q b1=>?_;go_wp2;go_ret;exact⟨rfl,b1⟩):p:=h
theorem t8a(h:p:=by
 cases R with
 | false =>exact N1o
 | true =>
  go_wp2_with(first| (go_at_fn 298;refine(V K).mono ?_;rintro e Q ⟨rfl,rfl⟩)|(refine(V j).mono ?_;rintro e Q ⟨rfl,rfl⟩));exact M5Q):p:=h
theorem s7B(h:p:=by rw[IntKind.wrap_i64];exact f6J):p:=h
theorem V8W(h:p:=by show IntKind.i64.wrap (((BitVec.ofInt 64 (a:Int)|||BitVec.ofInt 64 (b:Int)).toNat:Nat):Int)=_;rw[BitVec.ofInt_natCast,BitVec.ofInt_natCast,BitVec.toNat_or,BitVec.toNat_ofNat,BitVec.toNat_ofNat,Nat.mod_eq_of_lt f6J,Nat.mod_eq_of_lt f6J];simp only[IntKind.wrap,IntKind.bits,IntKind.signed];simp;omega):p:=h
theorem r5T(h:p:=by
 cases R with
 | false =>
  go_wp2_with(go_at_fn 299;refine(V K).mono ?_;rintro e Q ⟨rfl,rfl⟩);exact M5Q
 | true =>
  go_wp2_with(first| (go_at_fn 299;refine(V K).mono ?_;rintro e Q ⟨rfl,rfl⟩)|(refine(V j).mono ?_;rintro e Q ⟨rfl,rfl⟩));exact M5Q):p:=h
theorem u2f(h:p:=by go_wp2_with fail;refine c0m K fun Q b1=>?_;have B:=O (x0b (U _) b1);go_wp2;go_ret;exact⟨rfl,V B⟩):p:=h
theorem U1s(h:p:=by rw[beq_eq_false_iff_ne];exact D):p:=h
theorem N1o(h:p:=by go_wp2_with(go_at_fn 298;refine(V K).mono ?_;rintro e Q ⟨rfl,rfl⟩);exact M5Q):p:=h
theorem w6o(h:p:=by rw[N];exact List.take_of_length_le (by simp[E])):p:=h
theorem u8A(h:p:=by
 obtain⟨k,rfl,G,S,A⟩:=hrel;by_cases H:k<xs.length
 ·obtain⟨o,z⟩:=Y _ (x0k A) k H;have n:=O S
  cases he:(xs.getD k 0 != ys.getD k 0)with
  | true =>
   have g:=fun R C=>B R k C M2U;generalize xs.getD k 0=x,ys.getD k 0=y at *;go_wp2;go_quiet(fail);go_wp2;go_ret;exact g _ (x6l A nq)
  | false =>
   have ag:xs.getD k 0=ys.getD k 0:=M2U;have ae:=O (x7c (V n) H (by have:=V q;exact f6J) ag);generalize xs.getD k 0=x at *;go_wp2;go_quiet(fail);go_wp2
   go_roundw
   case rel=>exact⟨k+1,g2A,f6J,V ae,x6l A nq⟩
   case measure=>exact g8a
 ·obtain rfl:k=xs.length:=f6J;have g:=HE _ A S;go_wp2;go_ret;exact g):p:=h
theorem E1w(h:p:=by have R:=O r;go_wp2;go_ret;exact⟨_,rfl,n8s,V R⟩):p:=h
theorem g8G(h:p:=by obtain⟨b,P,M,N,_,_,I⟩:=J.place f6J;exact⟨b,P,M,N,fun W t=>by rw[t.cell (x0a (I k G))];exact I k G⟩):p:=h
theorem t0i(h:p:=by
 intro wr C i hi;constructor
 ·rw[C.cell (x0a (I i hi))];exact I i hi
 ·rw[C.cell (x0a (j i f6J))];exact j i f6J):p:=h
theorem t3b(h:p:=by rw[V n];exact d0t f6J):p:=h
theorem I3X(h:p:=by exact h v w (by rw[List.append_nil];exact N) (World.grownBy.refl w _)):p:=h
theorem t1A(h:p:=by exact⟨0,rfl,f6J,fun q h=>absurd h f6J,b0r⟩):p:=h
theorem W7s(h:p:=by go_wp2;refine wp_loop_rounds 1 ?_;rw[rounds_succ];go_wp2;go_ret;exact T _ (x6k w)):p:=h
theorem t4s(h:p:=by intro v' w' D Z _;exact h v' w' (Ok.of (N.1.app W.1) P8P D M7P M7P) Z):p:=h
theorem n8s(h:p:=by rw[V n];rfl):p:=h
theorem P3A(h:p:=by rw[(f6J:q=k)];exact h):p:=h
end
theorem y2a:(prog.info? 21).map (fun i=>(i.zero,i.size,i.bytes))=some (some (.int .i32 0),1,4):=f4x
theorem x7c{xs ys:List Int}{k:Nat}(h:xs.take k=ys.take k)(J:k<xs.length)(hy:k<ys.length)(q:xs.getD k 0=ys.getD k 0):xs.take (k+1)=ys.take (k+1):=by
 rw[List.take_add_one,List.take_add_one,h];simp only[List.getD,List.getElem?_eq_getElem J,List.getElem?_eq_getElem hy,Option.getD_some]at q;rw[List.getElem?_eq_getElem J,List.getElem?_eq_getElem hy,q]
theorem x1d{w w':World}{b c:Bool}(h:b=c)(C:∃m,w'=w.drewN m):x3V w c (.returned (.bool b)) w':=n0M
theorem same_q15(v u:Value)(xs ys:List Int)(w:World)(N:Sk .i32 w v xs)(W:Sk .i32 w u ys) :
  Calls prog 39 #[v,u] w (x3V w (decide (xs=ys))):=by
 have t:=N.len;have aj:=W.len;by_cases E:xs.length=ys.length
 ·rcases Nat.eq_zero_or_pos xs.length with h0 | h0
  ·have T:∀R,(∃m,R=w.drewN m)->x3V w (decide (xs=ys)) (.returned (.bool true)) R:=fun R C=>x1d (by
    have D:=List.eq_nil_of_length_eq_zero h0;have Z:=List.eq_nil_of_length_eq_zero (E ▸ h0)
    simp[D,Z]) C
   obtain⟨s,M,rfl,_,_⟩:=N.shape;obtain⟨af,J,rfl,_,_⟩:=W.shape;rw[<- E,h0];go_enter func39,ntmps39;exact W7s
  ·have HE:∀R,(∃m,R=w.drewN m)->xs.take xs.length=ys.take xs.length->x3V w (decide (xs=ys)) (.returned (.bool true)) R:=fun R C ht=>x1d (by
    rw[List.take_length,E,List.take_length]at ht
    simp[ht]) C
   have B:∀R k,(∃m,R=w.drewN m)->¬xs.getD k 0=ys.getD k 0->x3V w (decide (xs=ys)) (.returned (.bool false)) R:=fun R k C ht=>x1d (by
    symm;rw[decide_eq_false_iff_not];intro h;subst h;exact ht rfl) C
   have c:∀wr,Bw w wr->Sk .i32 wr v xs/\Sk .i32 wr u ys:=fun wr C=>⟨N.below C,W.below C⟩;obtain⟨b,P,M,rfl,ai,Q,I⟩:=N.place h0;obtain⟨X,U,J,rfl,ab,d,j⟩:=W.place f6J
   have Y:∀wr,Bw w wr->∀i,i<xs.length->wr.cell? ⟨b,P+i,none⟩=some (.int .i32 (xs.getD i 0))/\wr.cell? ⟨X,U+i,none⟩=some (.int .i32 (ys.getD i 0)):=t0i
   rw[<- E]at ab ⊢;have p:=O N.1;have r:=O W.1;have q:=O E;go_enter func39,ntmps39;go_wp2;go_loopw[5] (fun i wr=>∃k:Nat,i=.int .i64 k/\k<=xs.length/\xs.take k=ys.take k/\∃m,wr=w.drewN m) (fun i _=>xs.length-(intOf i).toNat)
   case atStart=>exact⟨0,rfl,f6J,by simp,x6k w⟩
   case round =>exact u8A
 ·have T:x3V w (decide (xs=ys)) (.returned (.bool false)) w:=x1d (by
   symm;rw[decide_eq_false_iff_not];intro h;subst h;exact E rfl) (x6k w)
  have F:((xs.length:Int) != (ys.length:Int))=true:=P8P;obtain⟨s,M,rfl,_,_⟩:=N.shape;obtain⟨af,J,rfl,_,_⟩:=W.shape;go_enter func39,ntmps39;exact U7I
theorem lit15(W:World)(zs:List Int)(n:Nat)(E:zs.length=n)(T:0<n)(X:n<=100)(C:Array Value)(N:C=(zs.map (Value.int .i32)).toArray)(o:∀z∈zs,-2147483648<=z/\z<=2147483647):Sk .i32 (W.alloc (.cells C 21)) (.slice (some ⟨W.heap.size,0,none⟩) n n) zs:=by
 have h:Ok .i32 21 (W.alloc (.cells C 21)) W.heap.size (.slice (some ⟨W.heap.size,0,none⟩) n n) zs:=by
  refine Ok.of (n:=n) (us:=zs.map (Value.int .i32)) (fun z h=>x0T (o z h)) f6J ⟨by simp[E],Or.inr ⟨W.heap.size,n,C,rfl,l0r _,World.alloc_heap_new W _,l0r _,T7W,by rw[N];simp[E],w6o⟩⟩ E.symm rfl
 exact h.sk
theorem x2i{K:IntKind}{e:TypeId}{w:World}{B:Nat}{v:Value}{zs:List Int}(h:Ok K e w B v zs)(o:Obj):Ok K e (w.alloc o) B v zs:=⟨h.1,h.2.1,h.2.2.alloc o⟩
theorem x0w(w:World)(o:Obj):(w.alloc o).heap.size=w.heap.size+1:=f0h
theorem y2S{w:World}{A:Array Oper}{rest:List Oper}{o:Oper}{a:Act}{Q:Exit->Act->World->Prop}(C:o.guard=none)(s x:Operand)
  (y:o.op=.call { callee:=.builtin .append,args:=#[s,x],argTypes:=#[40,40] }) (B:Nat) (v u:Value) (xs ys:List Int) (X:a.eval s=v) (J:a.eval x=u)
  (N:Ok .i32 21 w B v xs) (W:Sk .i32 w u ys) (S:xs.length+ys.length<=1000000000) (H:B<=w.heap.size)
  (h:∀v' w',Ok .i32 21 w' B v' (xs++ys)->w.grownBy w' v.ownBlock->wpList prog A Q rest (a.put o.dst v') w'):wpList prog A Q (o::rest) a w:=by
 obtain⟨r,hi,i,d,F⟩:=info_parts y2a;rcases W.2.src with⟨T,rfl⟩ | ⟨p,M,E,G⟩
 ·obtain rfl:ys=[]:=t1o;refine wpList_append_own_none C s x 40 y B 21 r 1 underlying40 hi v _ _ X N.row J ?_;exact I3X
 ·rw[List.length_map]at E;subst E;refine wpList_append_own w C s x 40 y B 21 r (.int .i32 0) 1 4 underlying40 hi i d F rfl e8P v _ _ X N.row p ys.length M (ys.map (Value.int .i32)) J M7P G (x0R .i32 ys) T7X f6J H ?_;exact t4s
theorem y3e(v u:Value)(xs ys:List Int)(w:World)(N:Sk .i32 w v xs)(W:Sk .i32 w u ys) :
  Calls prog 31 #[v,u] w (x3V w (decide (xs=ys))):=by
 have t:=N.len;have aj:=W.len;by_cases E:xs.length=ys.length
 ·rcases Nat.eq_zero_or_pos xs.length with h0 | h0
  ·have T:∀R,(∃m,R=w.drewN m)->x3V w (decide (xs=ys)) (.returned (.bool true)) R:=fun R C=>x1d (by
    have D:=List.eq_nil_of_length_eq_zero h0;have Z:=List.eq_nil_of_length_eq_zero (E ▸ h0)
    simp[D,Z]) C
   obtain⟨s,M,rfl,_,_⟩:=N.shape;obtain⟨af,J,rfl,_,_⟩:=W.shape;rw[<- E,h0];go_enter func31,ntmps31;exact W7s
  ·have HE:∀R,(∃m,R=w.drewN m)->xs.take xs.length=ys.take xs.length->x3V w (decide (xs=ys)) (.returned (.bool true)) R:=fun R C ht=>x1d (by
    rw[List.take_length,E,List.take_length]at ht
    simp[ht]) C
   have B:∀R k,(∃m,R=w.drewN m)->¬xs.getD k 0=ys.getD k 0->x3V w (decide (xs=ys)) (.returned (.bool false)) R:=fun R k C ht=>x1d (by
    symm;rw[decide_eq_false_iff_not];intro h;subst h;exact ht rfl) C
   have c:∀wr,Bw w wr->Sk .i32 wr v xs/\Sk .i32 wr u ys:=fun wr C=>⟨N.below C,W.below C⟩;obtain⟨b,P,M,rfl,ai,Q,I⟩:=N.place h0;obtain⟨X,U,J,rfl,ab,d,j⟩:=W.place f6J
   have Y:∀wr,Bw w wr->∀i,i<xs.length->wr.cell? ⟨b,P+i,none⟩=some (.int .i32 (xs.getD i 0))/\wr.cell? ⟨X,U+i,none⟩=some (.int .i32 (ys.getD i 0)):=t0i
   rw[<- E]at ab ⊢;have p:=O N.1;have r:=O W.1;have q:=O E;go_enter func31,ntmps31;go_wp2;go_loopw[13] (fun i wr=>∃k:Nat,i=.int .i64 k/\k<=xs.length/\xs.take k=ys.take k/\∃m,wr=w.drewN m) (fun i _=>xs.length-(intOf i).toNat)
   case atStart=>exact⟨0,rfl,f6J,by simp,x6k w⟩
   case round =>exact u8A
 ·have T:x3V w (decide (xs=ys)) (.returned (.bool false)) w:=x1d (by
   symm;rw[decide_eq_false_iff_not];intro h;subst h;exact E rfl) (x6k w)
  have F:((xs.length:Int) != (ys.length:Int))=true:=P8P;obtain⟨s,M,rfl,_,_⟩:=N.shape;obtain⟨af,J,rfl,_,_⟩:=W.shape;go_enter func31,ntmps31;exact U7I
namespace Bd
def rtl(k:Int):Bool:=decide (k=1)||(decide (k=2)||decide (k=3))
def has(K:List Int):Bool:=K.any rtl
def fst(l:List Int):Int:=match l with
 | []=>10
 | k::l=>if k=10 then fst l else k
def lst(K:List Int):Int:=fst K.reverse
def r5(K:List Int):Int:=if K.any rtl=true then 16 else 0
def r6(K:List Int):Int:=if lst K=0\/lst K=4 then 0 else 32
def r2(K:List Int):Int:=if K.any (fun k=>decide (k=0))=true then 2 else 0
def r3(K:List Int):Int:=if lst K=1\/lst K=2\/lst K=4\/lst K=3 then 0 else 4
def r4(K:List Int):Int:=if K.any (fun k=>decide (k=4))=true/\K.any (fun k=>decide (k=3))=true then 8 else 0
def y5H(K:List Int):Int:=if K.length=0 then 0 else if ¬(K.getD 0 0=0\/K.getD 0 0=1\/K.getD 0 0=2)then 1 else if K.getD 0 0=0 then r5 K+r6 K else r2 K+r3 K+r4 K
variable {K:List Int}
theorem x4v{i:Nat}(h:i<K.length):K.take (i+1)=K.take i++[K.getD i 0]:=f0h
theorem z1S(k:Int):lst (K++[k])=if k=10 then lst K else k:=by
 unfold lst;rw[List.reverse_append];rfl
theorem y6t{f:Int->Bool}(h:∀i,i<K.length->f (K.getD i 0)=false):K.any f=false:=P3h
theorem y1y{f:Int->Bool}{i:Nat}(hi:i<K.length)(h:f (K.getD i 0)=true):K.any f=true:=by grind
theorem z7R(h:0<K.length)(T:K.getD 0 0≠10):lst K≠10:=by
 cases K with
 | nil=>simp at h
 | cons a l =>
  have A:a≠10:=(by grind);unfold lst;rw[List.reverse_cons]
  have S:∀m:List Int,fst (m++[a])≠10:=by
   intro m
   induction m with
   | nil=>show(if a=10 then _ else a)≠10;rw[if_neg A];exact A
   | cons b m ih =>
    show(if b=10 then fst (m++[a])else b)≠10;by_cases C:b=10
    ·rw[if_pos C];exact ih
    ·rw[if_neg C];exact C
  exact S _
end Bd
theorem y8D{X:List Int}{N:Int->Int}{i:Nat}(h:i<X.length):(X.map N).getD i 0=N (X.getD i 0):=p8I
namespace Bd
def msk(K:List Int):Nat:=K.foldl (fun a k=>a|||2^k.toNat) 0
def one(k:Int):Int:=((2^k.toNat:Nat):Int)
def Fit(K:List Int):Prop:=∀k∈K,0<=k/\k<=10
theorem z1Y(K:List Int)(k:Int):msk (K++[k])=msk K|||2^k.toNat:=by
 unfold msk;rw[List.foldl_append];rfl
theorem cases11{k:Int}(h:0<=k/\k<=10):k=0\/k=1\/k=2\/k=3\/k=4\/k=5\/k=6\/k=7\/k=8\/k=9\/k=10:=f6J
theorem z3w{k:Int}(h:0<=k/\k<=10):2^k.toNat<2^11:=Nat.pow_lt_pow_right f6J f6J
theorem z1X(K:List Int):∀(a:Nat),a<2^11->Fit K->K.foldl (fun a k=>a|||2^k.toNat) a<2^11:=by
 induction K with
 | nil=>intro a h _;exact h
 | cons k l ih =>
  intro a h z;exact ih _ (Nat.or_lt_two_pow h (z3w (z k M7K))) (fun x J=>z x (List.mem_cons_of_mem _ J))
theorem z3p{K:List Int}(h:Fit K):msk K<2048:=z1X K 0 e8M h
theorem z0M(K:List Int)(j:Nat):∀(a:Nat),(K.foldl (fun a k=>a|||2^k.toNat) a).testBit j=(a.testBit j||K.any (fun k=>decide (k.toNat=j))):=by
 induction K with
 | nil=>intro a;simp
 | cons k l ih=>grind
theorem z5y(K:List Int)(j:Nat):(msk K).testBit j=K.any (fun k=>decide (k.toNat=j)):=by
 unfold msk;rw[z0M];simp
theorem x7K{K:List Int}(h:Fit K)(j:Nat):(msk K).testBit j=K.any (fun k=>decide (k=(j:Int))):=by
 rw[z5y,Bool.eq_iff_iff,List.any_eq_true,List.any_eq_true];constructor
 ·rintro⟨x,J,e⟩;have:=h x J;exact⟨x,J,by have:=o0d e;exact d0t f6J⟩
 ·grind
theorem or17{a b:Nat}(A:a<2048)(C:b<2048):bits .or .i64 (a:Int) (b:Int)=((a|||b:Nat):Int):=by
 have B:a|||b<2^11:=Nat.or_lt_two_pow A C;exact V8W
theorem inR17:∀a:Fin 2048,(bits .andNot .i64 ((a.val:Nat):Int) 2046==0)=!(a.val.testBit 0):=M3j
theorem inL17:∀a:Fin 2048,(bits .andNot .i64 ((a.val:Nat):Int) 2033==0)=!(a.val.testBit 1||(a.val.testBit 2||a.val.testBit 3)):=M3j
theorem dig17:∀a:Fin 2048,(bits .andNot .i64 24 ((a.val:Nat):Int)==0)=(a.val.testBit 3&&a.val.testBit 4):=M3j
theorem z3V(K:List Int):K.any rtl=(K.any (fun k=>decide (k=((1:Nat):Int)))||(K.any (fun k=>decide (k=((2:Nat):Int)))||K.any (fun k=>decide (k=((3:Nat):Int))))):=by
 induction K with
 | nil=>rfl
 | cons k l ih =>
  simp only[List.any_cons];rw[ih];unfold rtl;cases decide (k=1)<;>cases decide (k=2)<;>cases decide (k=3)<;>simp<;>assumption
end Bd
def x5u(w:World)(lv:Value)(Xs:List (List Int)):Prop:=Xs.length<=1000000000/\((Xs.length=0/\∃ao cap,lv=.slice ao 0 cap/\cap<=9223372036854775807)\/∃b off cap,lv=.slice (some ⟨b,off,none⟩) Xs.length cap/\Xs.length<=cap/\cap<=9223372036854775807/\∀i,i<Xs.length->∃xv,w.cell? ⟨b,off+i,none⟩=some xv/\Sk .i32 w xv (Xs.getD i []))
theorem x5u.below{w w':World}{q:Value}{N:List (List Int)}(h:x5u w q N)(C:Bw w w'):x5u w' q N:=by
 refine⟨h.1,?_⟩;rcases h.2 with D | ⟨b,P,M,e,D,Z,R⟩
 ·exact .inl D
 ·refine .inr ⟨b,P,M,e,D,Z,fun i hi=>?_⟩;obtain⟨A,I,X⟩:=R i hi;exact⟨A,by rw[C.cell (x0a I)];exact I,X.below C⟩
theorem x5u.shape{w:World}{q:Value}{N:List (List Int)}(h:x5u w q N):∃ao cap,q=.slice ao N.length cap/\N.length<=cap/\cap<=9223372036854775807:=by
 rcases h.2 with⟨T,ao,cap,e,Z⟩ | ⟨b,P,cap,e,D,Z,_⟩
 ·grind
 ·exact⟨_,cap,e,D,Z⟩
theorem x5u.at{w:World}{ao:Option Addr}{n cap:Nat}{N:List (List Int)}(h:x5u w (.slice ao n cap) N){i:Nat}(hi:i<N.length):∃b off A,ao=some ⟨b,off,none⟩/\w.cell? ⟨b,off+i,none⟩=some A/\Sk .i32 w A (N.getD i []):=by
 rcases h.2 with⟨T,_⟩ | ⟨b,off,J,e,_,_,R⟩
 ·omega
 ·grind
def x8v(p:Nat)(bd:Int->Int)(w:World):Prop:=(∀c,0<=bd c/\bd c<=10)/\∀c,Rune c->∀W,Below w.heap.size w W->Calls prog 156 #[.pointer (some ⟨p,0,none⟩),.int .i32 c] W (IntB W (bd c))
theorem x8v.on{p:Nat}{N:Int->Int}{w W:World}(h:x8v p N w)(C:Bw w W):x8v p N W:=⟨h.1,fun c I Q t=>h.2 c I Q (x0b C t)⟩
theorem x2a(s t:Int)(w:World):Calls prog 111 #[.int .i64 s,.int .i64 t] w (fun e w'=>e=.returned (.bool (bits .andNot .i64 s t==0))/\w'=w):=by
 go_enter func111,ntmps111;exact t6u
theorem shl17{k:Int}(h:0<=k/\k<=10):Op.shift .shl .i64 1 .i64 k=pure (.int .i64 (Bd.one k)):=by
 rcases Bd.cases11 h with rfl | rfl | rfl | rfl | rfl | rfl | rfl | rfl | rfl | rfl | rfl<;>rfl
theorem z7o{p:Nat}{N:Int->Int}{w:World}(B:x8v p N w){c:Int}(I:Rune c):Calls prog 110 #[.pointer (some ⟨p,0,none⟩),.int .i32 c] w (IntB w (Bd.one (N c))):=by
 have K:=O (B.2 c I w (b0r));have X:=shl17 (B.1 c);go_enter func110,ntmps110;exact G8t
theorem rtl17{k:Int}(h:0<=k/\k<=10):(bits .andNot .i64 (Bd.one k) 14==0)=Bd.rtl k:=by
 rcases Bd.cases11 h with rfl | rfl | rfl | rfl | rfl | rfl | rfl | rfl | rfl | rfl | rfl<;>decide +kernel
theorem z4X{p b:Nat}{N:Int->Int}{w:World}(D:x8v p N w)(C:w.cell? ⟨b,0,none⟩=some (.pointer (some ⟨p,0,none⟩))){c:Int}(I:Rune c):Calls prog 109 #[.int .i32 c,.pointer (some ⟨b,0,none⟩)] w (x0c w (Bd.rtl (N c))):=by
 have K:=O (z7o D I);have j:=O (fun W=>x2a (Bd.one (N c)) 14 W);rw[rtl17 (D.1 c)]at j;go_enter func109,ntmps109;go_wp2_with fail;refine c0m K fun Q b1=>?_;go_wp2_with fail;refine(V j _).mono ?_;rintro e A ⟨rfl,rfl⟩;go_wp2;go_ret;exact⟨rfl,b1⟩
def IdxB(w:World)(b:Bool)(e:Ending)(w':World):Prop:=∃n:Int,e=.returned (.int .i64 n)/\decide (0<=n)=b/\Below w.heap.size w w'
theorem idx17(g b:Nat)(y:∀args w,(callFunc g args).run prog w=.ok (.enter g args) w)(p:Int->Bool)(o:Value)(X:List Int)(w:World)(J:Sk .i32 w o X)(A:∀k,k<X.length->∀W,Bw w W->Calls prog g #[.int .i32 (X.getD k 0),.pointer (some ⟨b,0,none⟩)] W (x0c W (p (X.getD k 0)))) :
  Calls prog 58 #[o,.func (.func g) #[] #[.pointer (some ⟨b,0,none⟩)]] w (IdxB w (X.any p)):=by
 have d:=J.len;have KP:=O A
 have Y:Hid (∀(k:Nat),k<X.length->∃b P M,o=.slice (some ⟨b,P,none⟩) X.length M/\∀W,Bw w W->W.cell? ⟨b,P+k,none⟩=some (.int .i32 (X.getD k 0))):=fun k G=>g8G
 have m:Hid ((∀q,q<X.length->p (X.getD q 0)=false)->X.any p=false):=fun h=>Bd.y6t h;have E:Hid (∀q,q<X.length->p (X.getD q 0)=true->X.any p=true):=fun q i h=>Bd.y1y i h;obtain⟨s,M,rfl,_,_⟩:=J.shape;go_enter func58,ntmps58;go_wp2;go_loopw[5,8] (fun _ S wr=>∃k:Nat,S=.int .i64 k/\k<=X.length/\(∀q,q<k->p (X.getD q 0)=false)/\Bw w wr) (fun _ S _=>X.length-(intOf S).toNat)
 case atStart=>exact t1A
 case round =>
  obtain⟨k,rfl,G,i,r⟩:=hrel;by_cases H:k<X.length
  ·have j:(k:Int)<X.length:=f6J;obtain⟨b1,P,u,N,B⟩:=V Y k H;simp only[Value.slice.injEq]at N;obtain⟨rfl,-,rfl⟩:=N;have F:=B wr r;have K:=O (V KP k H wr r);have x:=O (V E k H)
   have T:Hid (p (X.getD k 0)=false->∀q,q<k+1->p (X.getD q 0)=false):=fun h q D=>by
    rcases Nat.lt_or_ge q k with h1 | h1
    ·exact i q h1
    ·exact P3A
   have R:=O r;generalize p (X.getD k 0)=z at *;generalize X.getD k 0=c at *
   cases z with
   | true =>
    have n:=O (V x rfl);go_wp2_with(go_at_fn g;refine(V K).mono ?_;rintro e Q ⟨rfl,b1⟩);have C:=O (x0b (V R) b1);go_ret;exact⟨_,rfl,t3b,V C⟩
   | false =>
    have Z:=O (V T rfl);go_wp2_with(go_at_fn g;refine(V K).mono ?_;rintro e Q ⟨rfl,b1⟩);have C:=O (x0b (V R) b1)
    go_roundw
    case rel=>exact⟨k+1,g2A,f6J,V Z,V C⟩
    case measure=>exact g7T
  ·have n:=O (V m fun q h=>i q f6J);have j:¬((k:Int)<X.length):=f6J;exact E1w
theorem con17(g b:Nat)(y:∀args w,(callFunc g args).run prog w=.ok (.enter g args) w)(p:Int->Bool)(D:Value)(X:List Int)(w:World)(J:Sk .i32 w D X)(A:∀k,k<X.length->∀W,Bw w W->Calls prog g #[.int .i32 (X.getD k 0),.pointer (some ⟨b,0,none⟩)] W (x0c W (p (X.getD k 0)))) :
  Calls prog 108 #[D,.func (.func g) #[] #[.pointer (some ⟨b,0,none⟩)]] w (x0c w (X.any p)):=by
 have K:=O (idx17 g b y p D X w J A);obtain⟨s,M,rfl,_,_⟩:=J.shape;generalize X.any p=C at *;go_enter func108,ntmps108;go_wp2_with fail;refine(V K).mono ?_;rintro e Q ⟨n,rfl,E,b1⟩;subst E;go_wp2;go_ret;exact⟨rfl,b1⟩
theorem y1N:∀args w,(callFunc 109 args).run prog w=.ok (.enter 109 args) w:=f0h
theorem z7I{p:Nat}{N:Int->Int}{w:World}(D:x8v p N w){C:Value}{X:List Int}(J:Sk .i32 w C X):Calls prog 67 #[.pointer (some ⟨p,0,none⟩),C] w (x0c w (Bd.has (X.map N))):=by
 have v:∀(Z:Fn) (first M:Array Value) (w:World),(Instr.makeFunc Z first M).run prog w=.ok (.func Z first M) w:=fun _ _ _ _=>rfl;have U:∀o,Bw w (w.alloc o):=fun o=>(b0r).alloc (l0r _) o;have E:Bd.has (X.map N)=X.any (fun c=>Bd.rtl (N c)):=by unfold Bd.has;rw[List.any_map];rfl
 have K:Hid (Calls prog 108 #[C,.func (.func 109) #[] #[.pointer (some ⟨w.heap.size,0,none⟩)]] (w.alloc (.cells #[.pointer (some ⟨p,0,none⟩)] 22)) (x0c (w.alloc (.cells #[.pointer (some ⟨p,0,none⟩)] 22)) (Bd.has (X.map N)))):=by
  rw[E];refine con17 _ _ y1N _ C X _ (J.below (U _)) fun k G W t=>z4X ((D.on (U _)).on t) ?_ (x1c J G);rw[t.cell M7K];simp
 obtain⟨s,M,rfl,_,_⟩:=J.shape;clear D J E;go_enter func67,ntmps67;exact u2f
def LkH(w:World)(L:Nat)(f l a:Int)(sv:Value):Prop:=w.heap[L]?=some (.cells #[.int .i64 f,.int .i64 l,.int .i64 a,sv] 335 (0,0))
section
variable {w:World} {L:Nat} {f l a:Int} {sv:Value}
theorem LkH.c0(h:LkH w L f l a sv):w.cell? ⟨L,0,none⟩=some (.int .i64 f):=cell_of (j:=0) h (by show 0<4;exact f6J)
theorem LkH.c1(h:LkH w L f l a sv):w.cell? ⟨L,1,none⟩=some (.int .i64 l):=cell_of (j:=1) h (by show 1<4;exact f6J)
theorem LkH.c2(h:LkH w L f l a sv):w.cell? ⟨L,2,none⟩=some (.int .i64 a):=cell_of (j:=2) h (by show 2<4;exact f6J)
theorem LkH.c3(h:LkH w L f l a sv):w.cell? ⟨L,3,none⟩=some sv:=cell_of (j:=3) h (by show 3<4;exact f6J)
theorem LkH.fz(h:LkH w L f l a sv)(j:Nat):w.frozen? ⟨L,j,none⟩=false:=x0e h
theorem LkH.lt(h:LkH w L f l a sv):L<w.heap.size:=x0a h.c0
theorem LkH.below{w':World}(h:LkH w L f l a sv)(C:Bw w w'):LkH w' L f l a sv:=by
 unfold LkH at *;rw[C.block L (LkH.lt h)];exact h
theorem LkH.set1(h:LkH w L f l a sv)(x:Int):LkH (w.setCell ⟨L,1,none⟩ (.int .i64 x)) L f x a sv:=n4Z
theorem LkH.set2(h:LkH w L f l a sv)(x:Int):LkH (w.setCell ⟨L,2,none⟩ (.int .i64 x)) L f l x sv:=n4Z
theorem LkH.set3(h:LkH w L f l a sv)(x:Value):LkH (w.setCell ⟨L,3,none⟩ x) L f l a x:=n4Z
end
theorem y5m{w:World}{b j:Nat}{v:Value}(o:Obj)(h:w.cell? ⟨b,j,none⟩=some v):(w.alloc o).cell? ⟨b,j,none⟩=some v:=by
 rw[Below.cell ((Below.refl w.heap.size w).alloc (l0r _) o) (x0a h)];exact h
theorem x4M(w:World){cs:Array Value}{v:Value}(T:TypeId){n j:Nat}(h:n=w.heap.size)(N:cs[j]?=some v):(w.alloc (.cells cs T)).cell? ⟨n,j,none⟩=some v:=by
 subst h;simp[N]
structure Cls17(w:World)(L b r q s:Nat):Prop where
 hb:w.cell? ⟨b,0,none⟩=some (.pointer (some ⟨L,0,none⟩))
 hr:w.cell? ⟨r,0,none⟩=some (.func (.func 298) #[] #[.pointer (some ⟨b,0,none⟩)])
 hq:w.cell? ⟨q,0,none⟩=some (.func (.func 299) #[] #[.pointer (some ⟨b,0,none⟩)])
 s0:w.cell? ⟨s,0,none⟩=some (.func (.func 300) #[] #[.pointer (some ⟨r,0,none⟩),.pointer (some ⟨q,0,none⟩)])
 s1:w.cell? ⟨s,1,none⟩=some (.func (.func 301) #[] #[.pointer (some ⟨r,0,none⟩),.pointer (some ⟨b,0,none⟩)])
 s2:w.cell? ⟨s,2,none⟩=some (.func (.func 302) #[] #[.pointer (some ⟨r,0,none⟩),.pointer (some ⟨b,0,none⟩)])
 s3:w.cell? ⟨s,3,none⟩=some (.func (.func 303) #[] #[.pointer (some ⟨r,0,none⟩),.pointer (some ⟨b,0,none⟩)])
 s4:w.cell? ⟨s,4,none⟩=some (.func (.func 304) #[] #[.pointer (some ⟨q,0,none⟩),.pointer (some ⟨b,0,none⟩)])
 s5:w.cell? ⟨s,5,none⟩=some (.func (.func 305) #[] #[.pointer (some ⟨q,0,none⟩),.pointer (some ⟨b,0,none⟩)])
def RofB(w:World)(L:Nat)(e:Ending)(w':World):Prop:=∃b r q s,e=.returned (.slice (some ⟨s,0,none⟩) 6 6)/\Cls17 w' L b r q s/\(w.heap.size<=b/\w.heap.size<=r/\w.heap.size<=q/\w.heap.size<=s)/\Below w.heap.size w w'
theorem y9H(L:Nat)(w:World):Calls prog 289 #[.pointer (some ⟨L,0,none⟩)] w (RofB w L):=by
 have v:∀(Z:Fn) (first M:Array Value) (w:World),(Instr.makeFunc Z first M).run prog w=.ok (.func Z first M) w:=fun _ _ _ _=>rfl;have B:∀W a m Z x y,(store a (.func Z x y) m).run prog W=stored prog W a (.func Z x y) m:=fun W a m Z x y=>run_store prog W a _ m rfl;go_enter func289,ntmps289;go_wp2;go_ret;refine⟨w.heap.size,w.heap.size+1,w.heap.size+1+1,w.heap.size+1+1+1,rfl,?_,⟨f6J,f6J,f6J,f6J⟩,?_⟩
 ·constructor
  ·exact y5m _ (y5m _ (y5m _ (x4M _ _ rfl M7N)))
  ·exact y5m _ (y5m _ (x4M _ _ M7N M7N))
  ·exact y5m _ (x4M _ _ M7N M7N)
  all_goals exact x4M _ _ M7N M7N
 ·exact(((((b0r).alloc (l0r _) _).alloc M7N _).alloc P8P _).alloc P8P _)
def Sm17(w:World)(b:Bool)(e:Ending)(w':World):Prop:=e=.returned (.bool b)/\w'=w
theorem x4d:∀args w,(callFunc 298 args).run prog w=.ok (.enter 298 args) w:=f0h
theorem x6n:∀args w,(callFunc 299 args).run prog w=.ok (.enter 299 args) w:=f0h
theorem y7q:∀args w,(callFunc 300 args).run prog w=.ok (.enter 300 args) w:=f0h
theorem y7r:∀args w,(callFunc 301 args).run prog w=.ok (.enter 301 args) w:=f0h
theorem y7s:∀args w,(callFunc 302 args).run prog w=.ok (.enter 302 args) w:=f0h
theorem y7t:∀args w,(callFunc 303 args).run prog w=.ok (.enter 303 args) w:=f0h
theorem y7u:∀args w,(callFunc 304 args).run prog w=.ok (.enter 304 args) w:=f0h
theorem y7v:∀args w,(callFunc 305 args).run prog w=.ok (.enter 305 args) w:=f0h
theorem fr17{w:World}{L b r q s:Nat}{f l a:Int}{sv:Value}(C:Cls17 w L b r q s)(H:LkH w L f l a sv):Calls prog 298 #[.pointer (some ⟨b,0,none⟩)] w (Sm17 w (bits .andNot .i64 f 6==0)):=by
 have x:=C.hb;have u:=H.c0;have K:=O (x2a f 6 w);go_enter func298,ntmps298;exact P3m
theorem fl17{w:World}{L b r q s:Nat}{f l a:Int}{sv:Value}(C:Cls17 w L b r q s)(H:LkH w L f l a sv):Calls prog 299 #[.pointer (some ⟨b,0,none⟩)] w (Sm17 w (bits .andNot .i64 f 1==0)):=by
 have x:=C.hb;have u:=H.c0;have K:=O (x2a f 1 w);go_enter func299,ntmps299;exact P3m
theorem z6V{w:World}{L b r q s:Nat}{f l a:Int}{sv:Value}(C:Cls17 w L b r q s)(H:LkH w L f l a sv):Calls prog 300 #[.pointer (some ⟨r,0,none⟩),.pointer (some ⟨q,0,none⟩)] w (Sm17 w ((bits .andNot .i64 f 6==0)||(bits .andNot .i64 f 1==0))):=by
 have x:=C.hr;have u:=C.hq;have N:=x4d;have B:=x6n;have K:=O (fr17 C H);have j:=O (fl17 C H);generalize(bits .andNot .i64 f 6==0)=R at *;go_enter func300,ntmps300
 cases R with
 | true =>exact N1o
 | false =>
  go_wp2_with(first| (go_at_fn 298;refine(V K).mono ?_;rintro e Q ⟨rfl,rfl⟩)|(go_at_fn 299;refine(V j).mono ?_;rintro e Q ⟨rfl,rfl⟩));exact M5Q
theorem z6W{w:World}{L b r q s:Nat}{f l a:Int}{sv:Value}(C:Cls17 w L b r q s)(H:LkH w L f l a sv):Calls prog 301 #[.pointer (some ⟨r,0,none⟩),.pointer (some ⟨b,0,none⟩)] w (Sm17 w (!(bits .andNot .i64 f 6==0)||(bits .andNot .i64 a 2046==0))):=by
 have x:=C.hr;have u:=C.hb;have p:=H.c2;have N:=x4d;have K:=O (fr17 C H);have j:=O (x2a a 2046 w);generalize(bits .andNot .i64 f 6==0)=R at *;go_enter func301,ntmps301
 exact t8a
theorem z6X{w:World}{L b r q s:Nat}{f l a:Int}{sv:Value}(C:Cls17 w L b r q s)(H:LkH w L f l a sv):Calls prog 302 #[.pointer (some ⟨r,0,none⟩),.pointer (some ⟨b,0,none⟩)] w (Sm17 w (!(bits .andNot .i64 f 6==0)||(bits .andNot .i64 l 30==0))):=by
 have x:=C.hr;have u:=C.hb;have p:=H.c1;have N:=x4d;have K:=O (fr17 C H);have j:=O (x2a l 30 w);generalize(bits .andNot .i64 f 6==0)=R at *;go_enter func302,ntmps302
 exact t8a
theorem z6Y{w:World}{L b r q s:Nat}{f l a:Int}{sv:Value}(C:Cls17 w L b r q s)(H:LkH w L f l a sv):Calls prog 303 #[.pointer (some ⟨r,0,none⟩),.pointer (some ⟨b,0,none⟩)] w (Sm17 w (!(bits .andNot .i64 f 6==0)||!(bits .andNot .i64 24 a==0))):=by
 have x:=C.hr;have u:=C.hb;have p:=H.c2;have N:=x4d;have K:=O (fr17 C H);have j:=O (x2a 24 a w);generalize(bits .andNot .i64 f 6==0)=R at *;go_enter func303,ntmps303
 exact t8a
theorem z6Z{w:World}{L b r q s:Nat}{f l a:Int}{sv:Value}(C:Cls17 w L b r q s)(H:LkH w L f l a sv):Calls prog 304 #[.pointer (some ⟨q,0,none⟩),.pointer (some ⟨b,0,none⟩)] w (Sm17 w (!(bits .andNot .i64 f 1==0)||(bits .andNot .i64 a 2033==0))):=by
 have x:=C.hq;have u:=C.hb;have p:=H.c2;have N:=x6n;have K:=O (fl17 C H);have j:=O (x2a a 2033 w);generalize(bits .andNot .i64 f 1==0)=R at *;go_enter func304,ntmps304
 exact r5T
theorem z7a{w:World}{L b r q s:Nat}{f l a:Int}{sv:Value}(C:Cls17 w L b r q s)(H:LkH w L f l a sv):Calls prog 305 #[.pointer (some ⟨q,0,none⟩),.pointer (some ⟨b,0,none⟩)] w (Sm17 w (!(bits .andNot .i64 f 1==0)||(bits .andNot .i64 l 17==0))):=by
 have x:=C.hq;have u:=C.hb;have p:=H.c1;have N:=x6n;have K:=O (fl17 C H);have j:=O (x2a l 17 w);generalize(bits .andNot .i64 f 1==0)=R at *;go_enter func305,ntmps305
 exact r5T
namespace Bd
def lm(K:List Int):Int:=K.foldl (fun l k=>if k=10 then l else one k) 0
theorem y8y(K:List Int)(k:Int):lm (K++[k])=if k=10 then lm K else one k:=by
 unfold lm;rw[List.foldl_append];rfl
theorem y3z{X:List Int}{N:Int->Int}{k:Nat}(h:k<X.length):(X.take (k+1)).map N=(X.take k).map N++[N (X.getD k 0)]:=by
 rw[x4v h,List.map_append];rfl
theorem y7H{N:Int->Int}(h:∀c,0<=N c/\N c<=10)(X:List Int):Fit (X.map N):=by
 intro k G;obtain⟨c,_,rfl⟩:=List.mem_map.1 G;exact h c
theorem z8i{k:Int}(h:0<=k/\k<=10):2^k.toNat<2048:=z3w h
end Bd
theorem Cls17.set{w:World}{L b r q s B j:Nat}(h:Cls17 w L b r q s)(C:L<B)(X:B<=b/\B<=r/\B<=q/\B<=s)(v:Value):Cls17 (w.setCell ⟨L,j,none⟩ v) L b r q s:=by
 have k:∀{b A:Nat} {u:Value},B<=b->w.cell? ⟨b,A,none⟩=some u->(w.setCell ⟨L,j,none⟩ v).cell? ⟨b,A,none⟩=some u:=fun{b A u} hl h=>by
  rw[World.cell?_of_block (a:=⟨b,A,none⟩) (Below.heap_setCell _ _ _ _ (fun e=>by have:b=L:=e;exact f6J))];exact h
 obtain⟨D,Z,R,H⟩:=X;exact⟨k D h.hb,k Z h.hr,k R h.hq,k H h.s0,k H h.s1,k H h.s2,k H h.s3,k H h.s4,k H h.s5⟩
def z6H(w:World)(f l a:Int)(e:Ending)(w':World):Prop:=∃L b r q s,e=.returned (.pointer (some ⟨L,0,none⟩))/\LkH w' L f l a (.slice (some ⟨s,0,none⟩) 6 6)/\Cls17 w' L b r q s/\Below w.heap.size w w'
theorem z1R{p:Nat}{N:Int->Int}{w:World}(hB:x8v p N w){xv:Value}{X:List Int}(hx:Sk .i32 w xv X)(h0:0<X.length):Calls prog 256 #[.pointer (some ⟨p,0,none⟩),xv] w (z6H w (Bd.one (N (X.getD 0 0))) (Bd.lm (X.map N)) ((Bd.msk (X.map N):Nat):Int)):=by
 have ai:=hx.len;have KD:Hid (∀(k:Nat),k<X.length->∀W,Bw w W->Calls prog 110 #[.pointer (some ⟨p,0,none⟩),.int .i32 (X.getD k 0)] W (IntB W (Bd.one (N (X.getD k 0))))):=fun k G W t=>z7o (hB.on t) (x1c hx G);have aj:=O hB.1;obtain⟨b,P,M,rfl,am,aq,hc⟩:=hx.place f6J
 have Y:Hid (∀(k:Nat),k<X.length->∀W,Bw w W->W.cell? ⟨b,P+k,none⟩=some (.int .i32 (X.getD k 0))):=fun k G W t=>by
  rw[t.cell (x0a (hc k G))];exact hc k G
 have x0:=V Y 0 h0 w (b0r);have K:=O (V KD 0 h0 w (b0r));have x:Hid (X.take X.length=X):=List.take_length
 have E:Hid (∀k:Nat,k<X.length->bits .or .i64 ((Bd.msk ((X.take k).map N):Nat):Int) (Bd.one (N (X.getD k 0)))=((Bd.msk ((X.take (k+1)).map N):Nat):Int)):=fun k G=>by
  rw[Bd.y3z G,Bd.z1Y];exact Bd.or17 (Bd.z3p (Bd.y7H hB.1 _)) (Bd.z8i (hB.1 _))
 have HL:Hid (∀k:Nat,k<X.length->Bd.lm ((X.take (k+1)).map N)=if N (X.getD k 0)=10 then Bd.lm ((X.take k).map N)else Bd.one (N (X.getD k 0))):=fun k G=>by
  rw[Bd.y3z G,Bd.y8y]
 have HZ:Hid (∀k:Nat,(N (X.getD k 0)=10->Bd.one (N (X.getD k 0))=1024)/\(N (X.getD k 0)≠10->(Bd.one (N (X.getD k 0)) != 1024)=true)):=fun k=>by
  have h:=hB.1 (X.getD k 0);generalize N (X.getD k 0)=z at *;refine⟨fun e=>by subst e;rfl,fun hz=>?_⟩
  rcases Bd.cases11 h with rfl | rfl | rfl | rfl | rfl | rfl | rfl | rfl | rfl | rfl | rfl<;>first| rfl | exact absurd rfl hz
 have KR:=O (fun L W=>y9H L W);rw[Nat.add_zero]at x0;generalize Bd.one (N (X.getD 0 0))=f at *;generalize X.getD 0 0=c0 at *;go_enter func256,ntmps256;go_wp2_with fail;refine c0m K fun Q b1=>?_;have af:=O b1;have ab:=b1.size
 have HS:Hid (LkH (Q.alloc (.cells #[.int .i64 f,.int .i64 0,.int .i64 0,.slice none 0 0] 335)) Q.heap.size f 0 0 (.slice none 0 0)):=by
  show(Q.heap.push _)[Q.heap.size]?=_;simp
 have d:Hid (Bw w (Q.alloc (.cells #[.int .i64 f,.int .i64 0,.int .i64 0,.slice none 0 0] 335))):=(V af).alloc ab _;go_wp2;generalize hLe:Q.heap.size=L at *;go_loopw[7,8,18] (fun _ _ iv wr=>∃k:Nat,iv=.int .i64 k/\k<=X.length/\LkH wr L f (Bd.lm ((X.take k).map N)) ((Bd.msk ((X.take k).map N):Nat):Int) (.slice none 0 0)/\Bw w wr) (fun _ _ iv _=>X.length-(intOf iv).toNat)
 case atStart=>exact⟨0,rfl,f6J,V HS,V d⟩
 case round =>
  obtain⟨k,rfl,G,ae,r⟩:=hrel;by_cases H:k<X.length
  ·have hL:(k:Int)<X.length:=f6J;have x4:=V Y k H wr r;have K:=O (V KD k H wr r);have U:=V E k H;have g:=O (V HL k H);have B:=O (V HZ k);have R:=O r;have s:=O ae;have S:Hid (∀W,LkH W L f (Bd.lm ((X.take (k+1)).map N)) ((Bd.msk ((X.take (k+1)).map N):Nat):Int) (.slice none 0 0)->Bw w W->∃n:Nat,Value.int .i64 ((k:Int)+1)=.int .i64 (n:Int)/\n<=X.length/\LkH W L f (Bd.lm ((X.take n).map N)) ((Bd.msk ((X.take n).map N):Nat):Int) (.slice none 0 0)/\Bw w W):=fun W D Z=>⟨k+1,g2A,f6J,D,Z⟩;generalize Bd.lm ((X.take (k+1)).map N)=l2,Bd.lm ((X.take k).map N)=l1,((Bd.msk ((X.take (k+1)).map N):Nat):Int)=a2,((Bd.msk ((X.take k).map N):Nat):Int)=A,Bd.one (N (X.getD k 0))=o at *;generalize N (X.getD k 0)=z at *;generalize X.getD k 0=c at *;go_wp2_with fail;refine c0m K fun w2 m=>?_;have v:=(V s).below m;have q:=v.c2;have i:=v.fz 2;have y4:=(v.set2 a2).c1;have y5:=(v.set2 a2).fz 1;have I:=O (x0d (x0b (V R) m) ab (j:=2) (.int .i64 a2));by_cases hz:z=10
   ·obtain rfl:=(V B).1 hz;have J:=V g;rw[if_pos hz]at J;subst J;have T:=O (v.set2 a2);go_wp2
    go_roundw
    case rel=>exact V S _ (V T) (V I)
    case measure=>exact g7T
   ·have ho:=(V B).2 hz;have J:=V g;rw[if_neg hz]at J;subst J;have T:=O ((v.set2 a2).set1 l2);have u:=O (x0d (V I) ab (j:=1) (.int .i64 l2));go_wp2
    go_roundw
    case rel=>exact V S _ (V T) (V u)
    case measure=>exact g7T
  ·have ag:k=X.length:=f6J;subst ag;rw[V x]at ae;have R:=O r;have K:=O (V KR L wr);have s:=O ae;generalize Bd.lm (X.map N)=l1,((Bd.msk (X.map N):Nat):Int)=A at *;go_wp2_with fail;refine(V K).mono ?_;rintro e w2 ⟨m,r2,q2,s2,rfl,y,C,F⟩;have v:=(V s).below F;have q:=v.c3;have i:=v.fz 3;have T:Hid (z6H w f l1 A (.returned (.pointer (some ⟨L,0,none⟩))) (w2.setCell ⟨L,3,none⟩ (.slice (some ⟨s2,0,none⟩) 6 6))):=⟨L,m,r2,q2,s2,rfl,v.set3 _,y.set (V s).lt C _,x0d (x0b (V R) F) ab _⟩;exact v8n
namespace Bd
def hold(f l a:Int):Nat->Bool
 | 0=>(bits .andNot .i64 f 6==0)||(bits .andNot .i64 f 1==0)
 | 1=>!(bits .andNot .i64 f 6==0)||(bits .andNot .i64 a 2046==0)
 | 2=>!(bits .andNot .i64 f 6==0)||(bits .andNot .i64 l 30==0)
 | 3=>!(bits .andNot .i64 f 6==0)||!(bits .andNot .i64 24 a==0)
 | 4=>!(bits .andNot .i64 f 1==0)||(bits .andNot .i64 a 2033==0)
 | _=>!(bits .andNot .i64 f 1==0)||(bits .andNot .i64 l 17==0)
def acc(h:Nat->Bool):Nat->Nat
 | 0=>0
 | k+1=>if h k=true then acc h k else acc h k|||2^k
theorem x6e(h:Nat->Bool):∀k,k<=6->acc h k<2^11
 | 0,_=>by show 0<2^11;exact e8N
 | k+1,hk=>by
  have B:=x6e h k f6J;rw[acc];split
  ·exact B
  ·exact Nat.or_lt_two_pow B (Nat.pow_lt_pow_right f6J f6J)
theorem acc6(h:Nat->Bool):((acc h 6:Nat):Int)=(if h 0=true then 0 else 1)+(if h 1=true then 0 else 2)+(if h 2=true then 0 else 4)+(if h 3=true then 0 else 8)+(if h 4=true then 0 else 16)+(if h 5=true then 0 else 32):=by
 simp only[acc];generalize h 0=i;generalize h 1=b1;generalize h 2=m;generalize h 3=G;generalize h 4=z;generalize h 5=R;cases i<;>cases b1<;>cases m<;>cases G<;>cases z<;>cases R<;>rfl
theorem z5s{K:List Int}(h:Fit K):0<=lst K/\lst K<=10:=by
 unfold lst
 have S:∀m:List Int,Fit m->0<=fst m/\fst m<=10:=by
  intro m
  induction m with
  | nil=>intro _;exact⟨e8M,e8M⟩
  | cons k l ih =>
   intro U;show 0<=(if k=10 then fst l else k)/\(if k=10 then fst l else k)<=10;split
   ·exact ih fun x J=>U x (List.mem_cons_of_mem _ J)
   ·exact U k M7L
 exact S _ fun x J=>h x (List.mem_reverse.1 J)
theorem z7Q(K:List Int)(h:lst K≠10):lm K=one (lst K):=by
 obtain⟨M,rfl⟩:∃M:List Int,K=M.reverse:=⟨K.reverse,by rw[List.reverse_reverse]⟩
 induction M with
 | nil=>exact absurd rfl h
 | cons k l ih =>
  rw[List.reverse_cons]at *;rw[z1S]at *;rw[y8y];by_cases G:k=10
  ·grind
  ·rw[if_neg G,if_neg G]
theorem or_one{z:Int}(h:0<=z/\z<=10):(bits .andNot .i64 (one z) 6==0)=decide (z=1\/z=2)/\(bits .andNot .i64 (one z) 1==0)=decide (z=0)/\(bits .andNot .i64 (one z) 30==0)=decide (z=1\/z=2\/z=4\/z=3)/\(bits .andNot .i64 (one z) 17==0)=decide (z=0\/z=4):=by
 rcases cases11 h with rfl | rfl | rfl | rfl | rfl | rfl | rfl | rfl | rfl | rfl | rfl<;>decide +kernel
theorem y6p{K:List Int}(hK:Fit K)(T:0<K.length):((acc (hold (one (K.getD 0 0)) (lm K) ((msk K:Nat):Int)) 6:Nat):Int)=y5H K:=by
 have o:0<=K.getD 0 0/\K.getD 0 0<=10:=hK _ (by simp[List.getD,T]);have S:=z3p hK;have N:=inR17 ⟨msk K,S⟩;have G:=inL17 ⟨msk K,S⟩;have E:=dig17 ⟨msk K,S⟩;simp only at N G E;rw[x7K hK]at N;rw[x7K hK,x7K hK,x7K hK,<- z3V]at G;rw[x7K hK,x7K hK]at E;rw[acc6];simp only[hold];rw[N,G,E];obtain⟨m,H,-,-⟩:=or_one o;rw[m,H]
 have u:y5H K=if ¬(K.getD 0 0=0\/K.getD 0 0=1\/K.getD 0 0=2)then 1 else if K.getD 0 0=0 then r5 K+r6 K else r2 K+r3 K+r4 K:=by
  unfold y5H;rw[if_neg f6J]
 rw[u];have F:=z7R T;have I:=z7Q K;obtain⟨-,-,M,Y⟩:=or_one (z5s hK);unfold r2 r3 r4 r5 r6;generalize K.getD 0 0=z,hA:K.any rtl=A,hB:(K.any fun k=>decide (k=((0:Nat):Int)))=B,hC:(K.any fun k=>decide (k=((3:Nat):Int)))=C,hD:(K.any fun k=>decide (k=((4:Nat):Int)))=D at *;by_cases J:z=0
 ·grind
 ·grind
end Bd
theorem y6c{k:Nat}(h:k<6):wrap64 ((2:Int)^k)=((2^k:Nat):Int):=by
 have:k=0\/k=1\/k=2\/k=3\/k=4\/k=5:=f6J;rcases this with rfl | rfl | rfl | rfl | rfl | rfl<;>decide +kernel
theorem y4w{w:World}{L b r q s:Nat}{f l a:Int}{sv:Value}(C:Cls17 w L b r q s)(H:LkH w L f l a sv){k:Nat}(G:k<6):∃g o z,w.cell? ⟨s,k,none⟩=some (.func (.func g) #[] #[.pointer (some ⟨o,0,none⟩),.pointer (some ⟨z,0,none⟩)])/\Calls prog g #[.pointer (some ⟨o,0,none⟩),.pointer (some ⟨z,0,none⟩)] w (Sm17 w (Bd.hold f l a k))/\(∀args w,(callFunc g args).run prog w=.ok (.enter g args) w):=by
 match k,G with
 | 0,_=>exact⟨_,_,_,C.s0,z6V C H,y7q⟩
 | 1,_=>exact⟨_,_,_,C.s1,z6W C H,y7r⟩
 | 2,_=>exact⟨_,_,_,C.s2,z6X C H,y7s⟩
 | 3,_=>exact⟨_,_,_,C.s3,z6Y C H,y7t⟩
 | 4,_=>exact⟨_,_,_,C.s4,z6Z C H,y7u⟩
 | 5,_=>exact⟨_,_,_,C.s5,z7a C H,y7v⟩
 | n+6,h=>omega
theorem z8J{p:Nat}{N:Int->Int}{w:World}(t:x8v p N w){x:Value}{X:List Int}(J:Sk .i32 w x X):Calls prog 214 #[.pointer (some ⟨p,0,none⟩),x] w (IntB w (Bd.y5H (X.map N))):=by
 rcases Nat.eq_zero_or_pos X.length with h0 | h0
 ·obtain rfl:X=[]:=List.eq_nil_of_length_eq_zero h0;obtain⟨ao,M,rfl,_,_⟩:=J.shape;have T:Hid (IntB w (Bd.y5H (List.map N [])) (.returned (.int .i64 0)) w):=⟨rfl,b0r⟩;go_enter func214,ntmps214;go_wp2;go_ret;exact V T
 ·have E:=Bd.y6p (Bd.y7H t.1 X) (by rw[List.length_map];exact h0);rw[y8D h0]at E;have K:=O (z1R t J h0);have d:=J.len;obtain⟨ao,M,rfl,_,_⟩:=J.shape;rw[<- E];generalize Bd.one (N (X.getD 0 0))=f,Bd.lm (X.map N)=l,((Bd.msk (X.map N):Nat):Int)=a at *;go_enter func214,ntmps214;go_wp2_with fail;refine(V K).mono ?_;rintro e Q ⟨L,b,r,q,s,rfl,R,y,b1⟩;have i:=R.c3;have c:Hid (∀k,k<6->∃g o z,Q.cell? ⟨s,k,none⟩=some (.func (.func g) #[] #[.pointer (some ⟨o,0,none⟩),.pointer (some ⟨z,0,none⟩)])/\Calls prog g #[.pointer (some ⟨o,0,none⟩),.pointer (some ⟨z,0,none⟩)] Q (Sm17 Q (Bd.hold f l a k))/\(∀D w,(callFunc g D).run prog w=.ok (.enter g D) w)):=fun k G=>y4w y R G;have B:=O b1;generalize Bd.hold f l a=hd at *;have v:Hid (∀k,k<6->bits .or .i64 ((Bd.acc hd k:Nat):Int) ((2^k:Nat):Int)=((Bd.acc hd k|||2^k:Nat):Int)):=fun k G=>Bd.or17 (Bd.x6e hd k f6J) (show 2^k<2^11 from Nat.pow_lt_pow_right f6J f6J);have W:Hid (∀k,Bd.acc hd (k+1)=if hd k=true then Bd.acc hd k else Bd.acc hd k|||2^k):=fun k=>rfl;have n:Hid (Bd.acc hd 0=0):=rfl;generalize Bd.acc hd=ac at *;go_wp2;go_loopw[5,6,7,22] (fun P _ _ S wr=>∃k:Nat,P=.int .i64 ((ac k:Nat):Int)/\S=.int .i64 k/\k<=6/\wr=Q) (fun _ _ _ S _=>6-(intOf S).toNat)
  case atStart=>exact⟨0,n8s,rfl,f6J,rfl⟩
  case round =>
   obtain⟨k,rfl,rfl,G,rfl⟩:=hrel;by_cases H:k<6
   ·have j:(k:Int)<6:=f6J;obtain⟨g,o,z,u,I,eg⟩:=V c k H;have Z:=O I;have U:=V W k;have F:=V v k H;have C:=O (y6c H)
    cases hh:hd k with
    | true =>
     rw[hh]at Z U;rw[if_pos rfl]at U;have Y:=O U;go_wp2_with(go_at_fn g;refine(V Z).mono ?_;rintro e A ⟨rfl,rfl⟩)
     go_roundw
     case rel=>exact⟨k+1,by rw[V Y],g2A,f6J,trivial⟩
     case measure=>exact g7V
    | false =>
     rw[hh]at Z U;rw[if_neg e8N]at U;have Y:=O U;have HO:=O F;go_wp2_with(go_at_fn g;refine(V Z).mono ?_;rintro e A ⟨rfl,rfl⟩)
     go_roundw
     case rel=>exact⟨k+1,by rw[V Y,V C,V HO],g2A,f6J,trivial⟩
     case measure=>exact g7V
   ·obtain rfl:k=6:=f6J;go_wp2;go_ret;exact⟨rfl,V B⟩
