/- Lemmas. -/
import Derived.RangeFuncNested
import Derived.RangeFuncBound
import Derived.RangeFuncCalls
import Derived.RangeFuncLeaves
import Derived.Test.YtkfcabdmkmljjaaGreatDoorF4
import Derived.Shelf.Abstract
import Derived.Shelf.RegionOpen
import Derived.WalkKit
import Derived.OwnWalkIn
import Derived.TacticsInMore
import Derived.LoopNIn
import Derived.LoopIn
import Derived.Test.YtkfcabdmkmljjaaGreatDoorF5
set_option maxHeartbeats 2000000
set_option maxRecDepth 100000
namespace Go.Proofs.YtkfcabdmkmljjaaGreatDoor
open Go.Proofs.Tryz
open Go.RowKit
section
variable{p:Prop}
theorem W3W(h:p:=by intro c I;cases I):p:=h
theorem t5f(h:p:=by have:=run_endLoop (P:=P) S (by rw[T];exact M7L);rw[T]at this;exact this):p:=h
theorem p5F(h:p:=by simp[Value.ownBlock]at e;exact f6J):p:=h
theorem W0i(h:p:=by cases e;exact f6J):p:=h
end
def It15(F:Fence)(n:Nat)(P:Program)(g:Nat)(lb:Array Value)(N:Nat)(enc:Nat->Value->Array Value)(Pr:Nat->Value->World->World->Prop)(Rd:World->Prop):Prop :=
 ∀(l:Nat) (J Jx:Nat->World->Prop) (W:World),(∀k A,J k A->Rd A)->(∀k A B,J k A->Below A.heap.size A B->J k B) ->
  (∀k v A B,k<N->J k A->Below A.heap.size A B->Pr k v A B->YieldAt F (n-1) P l (enc k v) B fun e W'=>(e=.returned (.bool true)/\J (k+1) W')\/(e=.returned (.bool false)/\Jx k W')) ->
  J 0 W->CallsIn F n P g (#[.func (.yield l) #[] #[]]++lb) W fun e W'=>(∃v,e=.returned v)/\(J N W'\/∃k,k<N/\Jx k W')
def x8S(z:Nat)(B W:World):Prop:=W.heap[z]?=B.heap[z]?/\W.heap[z+1]?=B.heap[z+1]?
def Out15(z:Nat)(I:World->Prop)(Ix:Code->World->Prop)(B:World):Exit->Act->World->Prop
 | .normal,_,W=>x8S z B W/\I W
 | .ret,_,W=>x8S z B W/\Ix .ret W
 | .exit id,_,W=>x8S z B W/\Ix (.exit id) W
 | .goto t,_,W=>x8S z B W/\Ix (.goto t) W
 | .panic _,_,_=>False
 | .outgrown,_,_=>False
theorem y2h{A B}(h:Bw A B) l o(S:l<A.heap.size):Below (A.putObj l o).heap.size (A.putObj l o) (B.putObj l o):=by
 have L:=h.size;refine⟨h.os,h.tape,h.output,by simp;exact L,fun k G=>?_⟩;by_cases e:k=l
 ·subst e;rw[World.putObj_heap_same f6J,World.putObj_heap_same S]
 ·rw[World.putObj_heap_other e,World.putObj_heap_other e];exact h.block k E9n
theorem z7K{F n P}{g:Operand}{ps:Array Tmp}{assign body Q a w}
  (i:F.round=none) (Z:1<=n) {gf:Nat} {lb} (hg:a.eval g=.func (.func gf) #[] lb) (aB:F.fn gf) (eg:∀args w,(callFunc gf args).run P w=.ok (.enter gf args) w)
  {N:Nat} {enc:Nat->Value->Array Value} {Pr:Nat->Value->World->World->Prop} {Rd:World->Prop} (hit:It15 F (n-1) P gf lb N enc Pr Rd) (y:∀k v,(enc k v).size=ps.size)
  (I:Nat->World->Prop) (Ix:Code->Nat->World->Prop) (hR:∀k A,I k A->Rd A) (hI:∀k A B,I k A->Bw A B->I k B)
  (am:∀k A r o j,w.heap.size<=r->A.heap[r]?=some o->o.isCells=false->I k A->I k (A.putObj r j))
  (ab:∀c k A r o j,w.heap.size<=r->A.heap[r]?=some o->o.isCells=false->Ix c k A->Ix c k (A.putObj r j))
  (U:∀k v A B r j,r<A.heap.size->Pr k v A B->Pr k v (A.putObj r j) (B.putObj r j))
  (h0:I 0 w) (a₁:Nat->Value->Act)
  (ae:∀(l k:Nat) (v:Value) (W:World) (K:Act->World->Prop),K (a₁ k v) W ->
   assign.wpIn (F.inRound l) (n-1-1) P (Exit.then K (fun _ _ _=>False)) { tmps:=(ps.zip (enc k v)).foldl (fun t (p,v)=>t.setIfInBounds p v) a.tmps,defers:=[] } W)
  (D:∀(l k:Nat) (v:Value) (A B:World),k<N->l=w.heap.size+1->l<A.heap.size->I k A->Bw A B->Pr k v A B ->
   (∃r,B.heap[l]?=some (.loop r))->B.heap[w.heap.size]?=some (.deferred (some [])) ->
   body.wpIn (F.inRound l) (n-1-1) P (Out15 w.heap.size (I (k+1)) (fun c=>Ix c k) B) (a₁ k v) B)
  (aj:∀W,I N W->W.heap[w.heap.size]?=some (.deferred (some []))->Q .normal { a with defers:={ target:=.collected w.heap.size,args:=#[] }::a.defers } W)
  (H:∀c k W,k<N->Ix c k W->W.heap[w.heap.size]?=some (.deferred (some []))->c.wpIn F n P Q { a with defers:={ target:=.collected w.heap.size,args:=#[] }::a.defers } W) :
  (Code.rangeFunc g ps assign body).wpIn F n P Q a w:=by
 refine wpIn_rangeFunc ?_;intro fn aG;rw[i];obtain⟨rc,T⟩:∃rc:LoopState->Option Code->Loop,rc=fun st pe=>{ state:=st,pending:=pe,fn,tmps:=a.tmps,params:=ps,assign,body,defers:=w.heap.size }:=⟨_,rfl⟩;obtain⟨z,u⟩:∃z,w.heap.size=z:=⟨_,rfl⟩;obtain⟨q,aq⟩:∃q,(w.alloc (.deferred (some []))).alloc (.loop (rc .ready none))=q:=⟨_,rfl⟩
 have aD:q.heap[z+1]?=some (.loop (rc .ready none)):=by
  rw[<- aq,<- u];have:=World.alloc_heap_new (w.alloc (.deferred (some []))) (.loop (rc .ready none));rwa [World.size_alloc]at this
 have aA:q.heap[z]?=some (.deferred (some [])):=by
  rw[<- aq,<- u];exact(Below.heap_alloc _ _ _ M7L).trans (World.alloc_heap_new w _)
 have aC:I 0 q:=by
  refine hI 0 w q h0 ?_;rw[<- aq];exact((Below.refl _ w).alloc (l0r _) _).alloc M7L _
 have E:∀{A:World} {k:Nat} {o:Obj},A.heap[k]?=some o->k<A.heap.size:=fun h=>(Array.getElem?_eq_some_iff.1 h).1;rw[u]at am ab D aj H;refine⟨z+1,[{ target:=.collected z,args:=#[] }],q,{ target:=.fn (.func gf) lb,args:=#[.func (.yield (z+1)) #[] #[]] },q,gf,#[.func (.yield (z+1)) #[] #[]]++lb,q,?_,?_,?_,?_,fun _=>Z,?_⟩
 ·rw[<- aq,T,<- u];exact run_enterLoop_outer _ _ _ _ _
 ·simp only[resolve,hg];simp[go_sem]
 ·intro f' aw;simp[Target.leads]at aw;subst aw;exact aB
 ·simp[invoke,go_sem,eg]
 ·refine(hit (z+1) (fun k W=>I k W/\W.heap[z+1]?=some (.loop (rc .ready none))/\W.heap[z]?=some (.deferred (some [])))
   (fun k W=>∃c,Ix c k W/\W.heap[z+1]?=some (.loop (rc .done (some c)))/\W.heap[z]?=some (.deferred (some []))) q (fun k A h=>hR k A h.1)
   (fun k A B h Y=>⟨hI k A B h.1 Y,(Y.block _ (E h.2.1)).trans h.2.1,(Y.block _ (E h.2.2)).trans h.2.2⟩) ?_ ⟨aC,aD,aA⟩).mono ?_
  ·rintro k v A B hk ⟨hi,S,hd⟩ Y s;have ar:=(Y.block _ (E S)).trans S;have aF:=(Y.block _ (E hd)).trans hd;have hy:=run_yield (P:=P) (args:=enc k v) ar (by rw[T];exact y k v);rw[T]at hy;refine⟨fn,_,assign,body,hy,roundIn_of_wpIn aG (ae _ k v B _ ⟨_,run_beginRound ar (by rw[T]),?_⟩)⟩;generalize hbz:(Obj.loop { rc .ready none with state:=.busy })=C;have x:(B.putObj (z+1) C).heap[z+1]?=some C:=World.putObj_heap_same (E ar);have m:(B.putObj (z+1) C).heap[z]?=some (.deferred (some [])):=(World.putObj_heap_other f6J).trans aF;refine wpIn_mono (D (z+1) k v (A.putObj (z+1) C) (B.putObj (z+1) C) hk rfl (by simpa using E S) (am k A (z+1) _ C f6J S rfl hi) (y2h Y _ _ (E S)) (U k v A B (z+1) C (E S) s) ⟨_,by rw[<- hbz]at x ⊢;exact x⟩ m) ?_
   have fin:∀(J:Option Code) (W3:World),x8S z (B.putObj (z+1) C) W3 ->
     (Instr.endRound (z+1) J).run P W3=.ok (.bool J.isNone) (W3.putObj (z+1) (.loop (rc (if J.isNone then .ready else .done) J))) /\
     W3.heap[z+1]?=some C /\
     (W3.putObj (z+1) (.loop (rc (if J.isNone then .ready else .done) J))).heap[z+1]?=some (.loop (rc (if J.isNone then .ready else .done) J)) /\
     (W3.putObj (z+1) (.loop (rc (if J.isNone then .ready else .done) J))).heap[z]?=some (.deferred (some [])):=fun J W3 ay=>by
    have L:=ay.2.trans x;have R:=L;rw[<- hbz]at R;have:=run_endRound (P:=P) J R;rw[T]at this ⊢;exact⟨this,L,World.putObj_heap_same (E L),(World.putObj_heap_other f6J).trans (ay.1.trans m)⟩
   have G:C.isCells=false:=(by rw[<- hbz];rfl);rintro e f W3 d
   cases e with
   | normal =>
    obtain⟨X,L,R,b⟩:=fin none W3 d.1;exact⟨_,_,X,.inl ⟨rfl,am _ _ _ _ _ f6J L G d.2,R,b⟩⟩
   | ret =>
    obtain⟨X,L,R,b⟩:=fin (some .ret) W3 d.1;exact⟨_,_,X,.inr ⟨rfl,.ret,ab _ _ _ _ _ _ f6J L G d.2,R,b⟩⟩
   | exit id =>
    obtain⟨X,L,R,b⟩:=fin (some (.exit id)) W3 d.1;exact⟨_,_,X,.inr ⟨rfl,.exit id,ab _ _ _ _ _ _ f6J L G d.2,R,b⟩⟩
   | goto t =>
    obtain⟨X,L,R,b⟩:=fin (some (.goto t)) W3 d.1;exact⟨_,_,X,.inr ⟨rfl,.goto t,ab _ _ _ _ _ _ f6J L G d.2,R,b⟩⟩
   | panic ch=>exact d.elim
   | outgrown=>exact d.elim
  ·rintro e M ⟨⟨v,rfl⟩,(⟨hi,S,hd⟩ | ⟨k,hk,c,hi,S,hd⟩)⟩
   ·refine⟨none,_,t5f,?_⟩;rw[u];exact aj _ (am N M (z+1) _ _ f6J S rfl hi) ((World.putObj_heap_other f6J).trans hd)
   ·refine⟨some c,_,t5f,?_⟩;rw[u];exact H c k _ hk (ab c k M (z+1) _ _ f6J S rfl hi) ((World.putObj_heap_other f6J).trans hd)
open Go.RowKit Go.Shelf
attribute [local go_sem] Oper.semAt_some
def y3z(A:World)(p:Nat)(fl:Int)(ys:Int->List Int):Prop:=∀c,Rune c->∀W,Below A.heap.size A W->Calls prog 166 #[.pointer (some ⟨p,0,none⟩),.int .i32 c,.int .i64 fl] W (x0h W (ys c))
structure Rd15(p:Nat)(fl:Int)(ys:Int->List Int)(bd bk bf:Nat)(kv:Value)(xs:List Int)(A:World):Prop where
 d:A.cell? ⟨bd,0,none⟩=some (.pointer (some ⟨p,0,none⟩))
 k:A.cell? ⟨bk,0,none⟩=some kv
 f:A.cell? ⟨bf,0,none⟩=some (.int .i64 fl)
 sk:Sk .i32 A kv xs
 one:y3z A p fl ys
abbrev z8L(xs:List Int)(k:Nat)(v:Value):Array Value:=#[.int .i32 (xs.getD k 0),v]
abbrev Pr15(ys:Int->List Int)(xs:List Int)(k:Nat)(v:Value)(A B:World):Prop:=Ok .i32 21 B A.heap.size v (ys (xs.getD k 0))
abbrev Lb15(bd bk bf:Nat):Array Value:=#[.pointer (some ⟨bd,0,none⟩),.pointer (some ⟨bk,0,none⟩),.pointer (some ⟨bf,0,none⟩)]
theorem y6n n(F:1<=n) p fl ys bd bk bf kv xs :
  It15 Fence.wide n prog 165 (Lb15 bd bk bf) xs.length (z8L xs) (Pr15 ys xs) (Rd15 p fl ys bd bk bf kv xs):=fun l J r W x t Z U=>by
 have D:=x 0 W U;have x1:=D.d;have S:=D.k;have o:=D.sk.len;have a:=fun k A h=>O (x k A h);obtain⟨ao,cap,I,z,y⟩:=D.sk.shape;rw[I]at S;refine callsIn_of_wp func165 rfl trivial ?_ rfl;simp only[ntmps165,List.size_toArray,List.length_cons,List.length_nil,Nat.reduceAdd,Nat.reduceSub,Array.replicate_succ,Array.replicate_zero,List.push_toArray,List.append_toArray,List.nil_append,List.cons_append];gi_wp2;gi_loopw [11] (fun i wr=>∃k:Nat,i=.int .i64 k/\k<=xs.length/\J k wr) (fun i _=>xs.length-(intOf i).toNat)
 case atStart=>exact⟨0,rfl,Nat.zero_le _,U⟩
 case round =>
  obtain⟨k,rfl,G,R⟩:=hrel;by_cases E:k<xs.length
  ·have P:=V (a k wr R);obtain⟨b,off,s,C,_,_,L⟩:=P.sk.place f6J;rw[I]at C;simp only[Value.slice.injEq]at C;obtain⟨rfl,-,rfl⟩:=C;have x1:=P.d;have q:=P.f;have j:=L k E
   have H:Rune (xs.getD k 0):=by
    have:=P.sk.1 (xs.getD k 0) N0e;exact⟨this.1,this.2⟩
   have K:=O (P.one (xs.getD k 0) H wr (b0r));have Y:=fun v B=>O (Z k v wr B E R);clear P L H t Z a;unfold z8L Pr15 at Y;generalize xs.getD k 0=c at *;gi_wp2_with (refine⟨trivial,?_⟩;gi_at_call 166;refine(callsIn_wide.2 (V K)).mono ?_);rintro e M ⟨v,rfl,ok,u⟩;obtain⟨fn,m,assign,body,g,N⟩:=V (Y v M) u ok;gi_wp2;refine N.mono ?_;rintro e T (⟨rfl,Q⟩ | ⟨rfl,X⟩)
   ·gi_wp2
    go_roundw
    case rel=>exact⟨k+1,g2A,f6J,Q⟩
    case measure=>exact g7T
   ·gi_wp2;refine bodyPost_ret (results_none rfl _ _ _) rfl ?_;exact⟨⟨_,rfl⟩,.inr ⟨k,E,X⟩⟩
  ·obtain rfl:k=xs.length:=f6J;gi_wp2;go_end0;exact⟨⟨_,rfl⟩,.inl R⟩
structure Pt15(B:Nat)(p:Nat)(fl:Int)(bd bk bf:Nat)(kv:Value)(xs:List Int)(A:World):Prop where
 d:A.cell? ⟨bd,0,none⟩=some (.pointer (some ⟨p,0,none⟩))
 k:A.cell? ⟨bk,0,none⟩=some kv
 f:A.cell? ⟨bf,0,none⟩=some (.int .i64 fl)
 ok:Ok .i32 21 A B kv xs
 bd0:B<=bd
 bk0:B<=bk
 bf0:B<=bf
theorem Pt15.rd{B p fl bd bk bf kv}{xs A}(h:Pt15 B p fl bd bk bf kv xs A){ys}(R:y3z A p fl ys):Rd15 p fl ys bd bk bf kv xs A:=⟨h.d,h.k,h.f,h.ok.sk,R⟩
def y3B(w:World)(p:Nat)(fl:Int)(xs:List Int)(e:Ending)(w':World):Prop :=
 ∃bd bk bf kv,e=.returned (.func (.func 165) #[] (Lb15 bd bk bf))/\Pt15 w.heap.size p fl bd bk bf kv xs w'/\Below w.heap.size w w'
theorem x3i{K e w B B'}{v zs}(h:Ok K e w B v zs)(m:B'<=B):Ok K e w B' v zs:=by
 exact h.lower m
theorem y2V p fl xv xs w(A:Sk .i32 w xv xs)(S:xs.length<=1000000000):Calls prog 114 #[.pointer (some ⟨p,0,none⟩),xv,.int .i64 fl] w (y3B w p fl xs):=by
 obtain⟨Q,E⟩:∃Q,w.alloc (.cells #[.pointer (some ⟨p,0,none⟩)] 23)=Q:=⟨_,rfl⟩;obtain⟨u,s⟩:∃u,Q.alloc (.cells #[.int .i64 fl] 3)=u:=⟨_,rfl⟩;have b1:Bw w Q:=(by rw[<- E];exact t9C);have i:Bw Q u:=(by rw[<- s];exact t9C);have K:=O (x2L xv xs u (A.below (bthen b1 i)) S);obtain⟨J,M,rfl,_,_⟩:=A.shape;go_enter func114,ntmps114;go_wp2_with fail;refine(V K).mono ?_;rintro e B ⟨c,rfl,ok,G⟩;have Y:=bthen (bthen b1 i) G;have P:Q.heap.size=w.heap.size+1:=(by rw[<- E];exact x0A _ _);have H:u.heap.size=Q.heap.size+1:=by rw[<- s];exact x0A _ _
 have g:B.cell? ⟨w.heap.size,0,none⟩=some (.pointer (some ⟨p,0,none⟩)):=by
  have h:Q.cell? ⟨w.heap.size,0,none⟩=some (.pointer (some ⟨p,0,none⟩)):=(by rw[<- E];exact M7L);have D:u.cell? ⟨w.heap.size,0,none⟩=some (.pointer (some ⟨p,0,none⟩)):=(by rw[i.cell (x0a h)];exact h);rw[G.cell (x0a D)];exact D
 have N:B.cell? ⟨Q.heap.size,0,none⟩=some (.int .i64 fl):=by
  have h:u.cell? ⟨Q.heap.size,0,none⟩=some (.int .i64 fl):=(by rw[<- s];exact M7L);rw[G.cell (x0a h)];exact h
 have T:Hid (y3B w p fl xs (.returned (.func (.func 165) #[] (Lb15 w.heap.size B.heap.size Q.heap.size))) (B.alloc (.cells #[c] 36))):=by
  have F:Bw B (B.alloc (.cells #[c] 36)):=(b0r).alloc (l0r _) _;have d:=G.size;refine⟨_,_,_,c,rfl,⟨?_,?_,?_,?_,l0r _,f6J,f6J⟩,bthen Y F⟩
  ·rw[F.cell (x0a g)];exact g
  ·simp
  ·rw[F.cell (x0a N)];exact N
  ·exact(x3i ok f6J).below F
 obtain⟨R,L,I,_,_⟩:=ok.sk.shape;subst I;rw[P]at T;exact v8m
open Go.RowKit Go.Shelf
attribute [local go_sem] Oper.semAt_some
def x0I(ys:Int->List Int)(xs:List Int):List Int:=(xs.map ys).flatten
theorem x8o ys a b:x0I ys (a++b)=x0I ys a++x0I ys b:=by simp[x0I]
theorem y2C ys(xs:List Int){k}(G:k<xs.length):x0I ys (xs.take (k+1))=x0I ys (xs.take k)++ys (xs.getD k 0):=by
 rw[List.take_add_one,x8o,List.getElem?_eq_getElem G];simp[x0I,List.getD,List.getElem?_eq_getElem G]
theorem y8P ys xs k:(x0I ys (xs.take k)).length<=(x0I ys xs).length:=by
 conv=>rhs;rw[<- List.take_append_drop k xs,x8o,List.length_append]
 omega
structure Mi15(W0:World)(Ba:Nat)(zs:List Int)(A:World):Prop where
 box:∃v,Boxed A Ba 36 v/\Ok .i32 21 A W0.heap.size v zs
 gb:W0.grownBy A (some Ba)
theorem z9S{y A B:World}{row}(h:y.grownBy A row)(Y:Bw A B):y.grownBy B row:=⟨Y.os.trans h.os,Y.tape.trans h.tape,Y.output.trans h.output,Nat.le_trans h.size Y.size,fun k G F=>by rw[Y.block k I2e];exact g5I⟩
theorem gbP15{y A:World}{row}(h:y.grownBy A row){r} o(hr:y.heap.size<=r):y.grownBy (A.putObj r o) row:=⟨h.os,h.tape,h.output,by simpa using h.size,fun k G F=>by rw[World.putObj_heap_other f6J];exact g5I⟩
theorem q0s{A B v zs}(h:Ok .i32 21 A B v zs){r o} o'(R:A.heap[r]?=some o)(I:o.isCells=false):Ok .i32 21 (A.putObj r o') B v zs:=⟨h.1,h.2.1,ownsRow_putObj h.2.2 o' R I⟩
theorem okF15{B m v zs}(h:Ok .i32 21 B m v zs){r} o(hr:r<m):Ok .i32 21 (B.putObj r o) m v zs:=⟨h.1,h.2.1,h.2.2.kept (grownBy_putObj' B r o) (by
 rcases h.2.2.2 with⟨rfl,_⟩ | ⟨g,cap,t,rfl,Y,_⟩
 ·exact .inl rfl
 ·exact .inr (fun e=>p5F))⟩
theorem x6v{A b t v}(h:Boxed A b t v){r o} o'(R:A.heap[r]?=some o)(I:o.isCells=false):Boxed (A.putObj r o') b t v:=by
 refine h.kept (grownBy_putObj' A r o') (fun e=>?_);obtain rfl:b=r:=N5i;rw[show A.heap[b]?=_ from h]at R;cases R;cases I
theorem Mi15.below{W0 Ba zs A B}(h:Mi15 W0 Ba zs A)(Y:Bw A B):Mi15 W0 Ba zs B:=by
 obtain⟨⟨v,Z,D⟩,J⟩:=h;exact⟨⟨v,(Y.block _ Z.lt).trans Z,D.below Y⟩,z9S J Y⟩
theorem Mi15.put{W0 Ba zs A}(h:Mi15 W0 Ba zs A){r o} o'(hr:W0.heap.size<=r)(R:A.heap[r]?=some o)(I:o.isCells=false):Mi15 W0 Ba zs (A.putObj r o'):=by
 obtain⟨⟨v,Z,D⟩,J⟩:=h;exact⟨⟨v,x6v Z o' R I,q0s D o' R I⟩,gbP15 J o' hr⟩
theorem Pt15.grown{B p fl bd bk bf kv}{xs W0 A}(h:Pt15 B p fl bd bk bf kv xs W0){Ba}(H:W0.grownBy A (some Ba))(m:Ba<B):Pt15 B p fl bd bk bf kv xs A:=by
 have Z:=h.bd0;have D:=h.bk0;have J:=h.bf0;refine⟨H.cell h.d P8P,H.cell h.k P8P,H.cell h.f P8P,⟨h.ok.1,h.ok.2.1,h.ok.2.2.kept H ?_⟩,Z,D,J⟩;rcases h.ok.2.2.2 with⟨rfl,_⟩ | ⟨g,M,t,rfl,Y,_⟩
 ·exact .inl rfl
 ·exact .inr (fun e=>p5F)
theorem y4U{F n P w}{ops rest o a}{Q}(C:o.guard=none)(s x:Operand) t
  (R:o.op=.call { callee:=.builtin .append,args:=#[s,x],argTypes:=#[t,t] }) base e (i:TypeInfo) size (B:P.underlying t=some (.slice e)) (hi:P.info? e=some i)
  v m xs (L:a.eval s=v) (l:w.ownsRow base e size v m xs) (A:a.eval x=.slice none 0 0)
  (h:wpListIn F n P ops Q rest (a.put o.dst v) w):wpListIn F n P ops Q (o::rest) a w:=by
 refine wpListIn_plain C fun K hK=>?_;have G:=run_append_owned_none (P:=P) (w:=w) base t o.type e i size B hi v m xs l;unfold Oper.wpIn;refine⟨?_,?_⟩
 ·simp[Oper.about,R,resolve,Target.leads,Sem.run_pure]
 ·rw[Oper.semAt_plain F _ _ (by rw[R];exact W3W)];simp[execOp,R,resolve,invoke,builtin,L,A,G,Result.andThen];exact hK _ _ h
theorem z1Z{F n w ops}{rest o a Q}(C:o.guard=none)(s x:Operand)
  (R:o.op=.call { callee:=.builtin .append,args:=#[s,x],argTypes:=#[36,36] }) B v u xs ys (L:a.eval s=v) (A:a.eval x=u)
  (N:Ok .i32 21 w B v xs) (d:Sk .i32 w u ys) (S:xs.length+ys.length<=1000000000) (m:B<=w.heap.size)
  (h:∀v' w',Ok .i32 21 w' B v' (xs++ys)->w.grownBy w' v.ownBlock->wpListIn F n prog ops Q rest (a.put o.dst v') w'):wpListIn F n prog ops Q (o::rest) a w:=by
 obtain⟨i,hi,q,Y,U⟩:=info_parts y2H;rcases d.2.src with⟨E,rfl⟩ | ⟨f,M,g,X⟩
 ·obtain rfl:ys=[]:=(by simpa using E);refine y4U C s x 36 R B 21 i 1 underlying36 hi v _ _ L N.row A ?_;exact I3X
 ·rw[List.length_map]at g;subst g;refine wpListIn_append_own w C s x 36 R B 21 i (.int .i32 0) 1 4 underlying36 hi q Y U rfl e8P v _ _ L N.row f ys.length M (ys.map (Value.int .i32)) A M7P X (x0T .i32 ys) T7X f6J m ?_;exact n0d
theorem y1E{A B v zs}(h:Ok .i32 21 A B v zs){r o}(R:A.heap[r]?=some o)(I:o.isCells=false):some r≠v.ownBlock:=by
 rcases h.2.2.2 with⟨rfl,_⟩ | ⟨g,M,t,rfl,Y,d,_⟩
 ·exact V3I
 ·intro e;obtain rfl:r=g:=G5X;rw[d]at R;cases R;cases I
theorem z2Z{y B w1:World}{row row2}(h:y.grownBy B row)(g:B.grownBy w1 row2)(hr:∀k,row2=some k->y.heap.size<=k):y.grownBy w1 row :=
 ⟨g.os.trans h.os,g.tape.trans h.tape,g.output.trans h.output,Nat.le_trans h.size g.size,fun k G F=>by rw[g.block k I2e (fun e=>by have:=hr k e.symm;exact f6J)];exact g5I⟩
theorem z3b{y w1:World}{b}(h:y.grownBy w1 (some b)) v:y.grownBy (w1.setCell ⟨b,0,none⟩ v) (some b):=by
 have g:=grownBy_setCell' w1 b v;exact⟨g.os.trans h.os,g.tape.trans h.tape,g.output.trans h.output,Nat.le_trans h.size g.size,fun k G F=>by rw[g.block k I2e F];exact g5I⟩
theorem x7A{z B W}(h:x8S z B W){b} v(Z:b≠z)(D:b≠z+1):x8S z B (W.setCell ⟨b,0,none⟩ v) :=
 ⟨(Below.heap_setCell _ _ _ _ P8P).trans h.1,(Below.heap_setCell _ _ _ _ P8P).trans h.2⟩
def y3y(w:World)(zs:List Int)(e:Ending)(w':World):Prop :=
 Below w.heap.size w w'/\((zs.length<=65536/\∃v,e=.returned (.tuple #[v,.int .i64 0])/\Ok .i32 21 w' w.heap.size v zs)\/(65536<zs.length/\e=.returned (.tuple #[.slice none 0 0,.int .i64 2])))
theorem fin15{w W z m u zs}(N:Ok .i32 21 W m u zs)(U:Bw w W)(Z:Boxed W w.heap.size 36 (.slice none 0 0))(D:Boxed W (w.heap.size+1) 29 (.int .i64 0))
  (hK:((W.setCell ⟨w.heap.size,0,none⟩ u).setCell ⟨w.heap.size+1,0,none⟩ (.int .i64 0)).heap[z]?=some (.deferred (some []))) (B:w.heap.size+2<=m/\w.heap.size+2<=z) (S:zs.length<=65536) :
  (((W.setCell ⟨w.heap.size,0,none⟩ u).setCell ⟨w.heap.size+1,0,none⟩ (.int .i64 0)).putObj z (.deferred none)).cell? ⟨w.heap.size,0,none⟩=some u /\
  (((W.setCell ⟨w.heap.size,0,none⟩ u).setCell ⟨w.heap.size+1,0,none⟩ (.int .i64 0)).putObj z (.deferred none)).cell? ⟨w.heap.size+1,0,none⟩=some (.int .i64 0) /\
  y3y w zs (.returned (.tuple #[u,.int .i64 0])) (((W.setCell ⟨w.heap.size,0,none⟩ u).setCell ⟨w.heap.size+1,0,none⟩ (.int .i64 0)).putObj z (.deferred none)):=by
 have G:∀b,b<m->some b≠u.ownBlock:=fun b Y e=>(by have:=(N.row.lt b e.symm).1;exact f6J);have L:Ok .i32 21 (W.setCell ⟨w.heap.size,0,none⟩ u) m u zs:=⟨N.1,N.2.1,N.2.2.kept (grownBy_setCell' W _ _) (.inr (G _ f6J).symm)⟩;have Q:Ok .i32 21 ((W.setCell ⟨w.heap.size,0,none⟩ u).setCell ⟨w.heap.size+1,0,none⟩ (.int .i64 0)) m u zs:=⟨N.1,N.2.1,L.2.2.kept (grownBy_setCell' _ _ _) (.inr (G _ f6J).symm)⟩;have A:=(U.setCell (p:=⟨w.heap.size,0,none⟩) (l0r _) u).setCell (p:=⟨w.heap.size+1,0,none⟩) M7L (.int .i64 0);refine⟨(x6v ((Z.set u).other f6J _) _ hK rfl).cell,(x6v ((D.other f6J _).set _) _ hK rfl).cell,?_,.inl ⟨S,u,rfl,x3i (q0s Q _ hK rfl) f6J⟩⟩;exact A.trans ((b0r).grown (grownBy_putObj' _ z _) (by have:=(Array.getElem?_eq_some_iff.1 hK).1;exact f6J) (fun k e=>W0i))
theorem y9N p fl ys xv xs w(hx:Sk .i32 w xv xs)(hl:xs.length<=1000000000)(ho:y3z w p fl ys) :
  Calls prog 67 #[.pointer (some ⟨p,0,none⟩),xv,.int .i64 fl] w (y3y w (x0I ys xs)):=by
 obtain⟨Q,E⟩:∃Q,w.alloc (.cells #[.slice none 0 0] 36)=Q:=⟨_,rfl⟩;obtain⟨w2,s⟩:∃w2,Q.alloc (.cells #[.int .i64 0] 29)=w2:=⟨_,rfl⟩;obtain⟨w3,U⟩:∃w3,w2.alloc (.cells #[.slice none 0 0] 36)=w3:=⟨_,rfl⟩;have s1:Q.heap.size=w.heap.size+1:=(by rw[<- E];exact x0A _ _);have s2:w2.heap.size=w.heap.size+2:=(by rw[<- s,x0A,s1]);have s3:w3.heap.size=w.heap.size+3:=by rw[<- U,x0A,s2]
 have b3:Bw w w3:=by
  rw[<- U,<- s,<- E];exact r5O
 have i:Boxed w3 w.heap.size 36 (.slice none 0 0):=(by rw[<- U,<- s,<- E];exact((Boxed.new w _ _).alloc _).alloc _);have x:Boxed w3 (w.heap.size+1) 29 (.int .i64 0):=(by rw[<- U,<- s,<- s1];exact(Boxed.new Q _ _).alloc _);have L:Boxed w3 (w.heap.size+2) 36 (.slice none 0 0):=(by rw[<- U,<- s2];exact Boxed.new w2 _ _);have K:=O (y2V p fl xv xs w3 (hx.below b3) hl);obtain⟨ao,M,rfl,_,_⟩:=hx.shape;refine(callsIn_wide (n:=3)).1 ?_;refine callsIn_of_wp_marks func67 rfl trivial ?_ rfl;simp only[ntmps67,List.size_toArray,List.length_cons,List.length_nil,Nat.reduceAdd,Nat.reduceSub,Array.replicate_succ,Array.replicate_zero,List.push_toArray,List.append_toArray,List.nil_append,List.cons_append];gi_wp2_with (refine⟨trivial,?_⟩;gi_at_call 114;refine(callsIn_wide.2 (V K)).mono ?_);rintro e y ⟨bd,bk,bf,kv,rfl,pt,m⟩;gi_wp2;have aQ:=m.size;have bW:Bw w y:=bthen b3 m;have y1:Boxed y w.heap.size 36 (.slice none 0 0):=(m.block _ i.lt).trans i;have y2:Boxed y (w.heap.size+1) 29 (.int .i64 0):=(m.block _ x.lt).trans x;have y3:Boxed y (w.heap.size+2) 36 (.slice none 0 0):=(m.block _ L.lt).trans L;have t:∀A,y.grownBy A (some (w.heap.size+2))->Bw w A:=fun A H=>⟨H.os.trans bW.os,H.tape.trans bW.tape,H.output.trans bW.output,Nat.le_trans bW.size H.size,fun k hk=>(H.block k f6J P8P).trans (bW.block k hk)⟩;have aD:∀A,y.grownBy A (some (w.heap.size+2))->Rd15 p fl ys bd bk bf kv xs A:=fun A H=>(pt.grown H f6J).rd (fun c I W hW=>ho c I W ((t A H).trans (hW.mono (t A H).size)))
 refine z7K (F:=Fence.wide) rfl f6J (gf:=165) (lb:=Lb15 bd bk bf) rfl trivial (enters_of func165 f4A rfl) (y6n (3-1) f6J p fl ys bd bk bf kv xs) (fun _ _=>rfl)
  (fun k A=>Mi15 y (w.heap.size+2) (x0I ys (xs.take k)) A/\(x0I ys (xs.take k)).length<=65536)
  (fun c _ A=>c=.ret/\65536<(x0I ys xs).length/\Boxed A w.heap.size 36 (.slice none 0 0)/\Boxed A (w.heap.size+1) 29 (.int .i64 2)/\Bw w A/\w.heap.size<A.heap.size)
  (fun k A h=>aD A h.1.gb) (fun k A B h Y=>⟨h.1.below Y,h.2⟩) (fun k A r o o' X ho I h=>⟨h.1.put o' X ho I,h.2⟩)
  (fun c k A r o o' X ho I h=>⟨h.1,h.2.1,x6v h.2.2.1 o' ho I,x6v h.2.2.2.1 o' ho I,h.2.2.2.2.1.trans ((Below.refl _ A).grown (grownBy_putObj' A r o') f6J (fun k e=>W0i)),by simpa using h.2.2.2.2.2⟩)
  (fun k v A B r o' X h=>by have:=okF15 h o' X;simpa[Pr15]using this)
  ⟨⟨⟨_,y3,Ok.nil _ _ _ _⟩,World.grownBy.refl y _⟩,by simp[x0I]⟩
  (fun k v=>{ tmps:=#[.pointer (some ⟨p,0,none⟩),.slice ao xs.length M,.int .i64 fl,undef,undef,undef,.pointer (some ⟨w.heap.size,0,none⟩),.pointer (some ⟨w.heap.size+1,0,none⟩),.pointer (some ⟨w.heap.size+2,0,none⟩),undef,v,.pointer (some ⟨p,0,none⟩),.bool false,.pointer (some ⟨p,0,none⟩),.slice ao xs.length M,.int .i64 fl,.func (.func 165) #[] (Lb15 bd bk bf),.int .i32 (xs.getD k 0),v,undef,undef,undef,undef,undef,undef,undef,undef,undef,undef],defers:=[] }) ?assign ?body ?done ?stop
 case assign =>
  intro l k v W K hK;gi_wp2;exact hK
 case body =>
  rintro l k v A B hk rfl aN ⟨⟨⟨u,d,N⟩,H⟩,ab⟩ Y hp ⟨rr,z⟩ D;have b:=y2C ys xs hk;have aG:=y8P ys xs (k+1);have aj:Boxed B (w.heap.size+2) 36 u:=(Y.block _ d.lt).trans d;have P:=N.below Y;have R:=z9S H Y;have f:Sk .i32 B v (ys (xs.getD k 0)):=Ok.sk hp;have C:Boxed B w.heap.size 36 (.slice none 0 0):=(R.block _ y1.lt M7M).trans y1;have a:Boxed B (w.heap.size+1) 29 (.int .i64 0):=(R.block _ y2.lt M7M).trans y2;have aP:=f.len;obtain⟨G,J,am,_,_⟩:=P.sk.shape;obtain⟨av,cv,aK,_,_⟩:=f.shape;subst am aK;have HP:=O f;have S:=O P;have HG:=O R;have HW:=O (t B R);have aM:=(t B R).size;have aJ:=R.size;have aO:∀k,(Value.slice G (x0I ys (xs.take k)).length J).ownBlock=some k->True:=fun _ _=>trivial;have HX:=O C;have HY:=O a;have HU:=O aj;have x8:=aj.cell;have f8:=aj.frozen;have x6:=C.cell;have f6:=C.frozen;have x7:=a.cell;have f7:=a.frozen;generalize ys (xs.getD k 0)=zv at *;by_cases aL:65536<(x0I ys (xs.take k)).length+zv.length
  ·have g:(65536:Int)<((x0I ys (xs.take k)).length:Int)+(zv.length:Int):=f6J;gi_wp2;refine⟨x7A (x7A ⟨rfl,rfl⟩ _ f6J f6J) _ f6J f6J,rfl,?_,((V HX).set _).other f6J _,((V HY).other f6J _).set _,((V HW).setCell (p:=⟨w.heap.size,0,none⟩) (l0r _) _).setCell (p:=⟨w.heap.size+1,0,none⟩) M7M _,?_⟩
   ·rw[b,List.length_append]at aG;omega
   ·have Z:=(grownBy_setCell' (B.setCell ⟨w.heap.size,0,none⟩ (.slice none 0 0)) (w.heap.size+1) (.int .i64 2)).size;have h2:=(grownBy_setCell' B w.heap.size (.slice none 0 0)).size;have h3:=(V HX).lt;omega
  ·have g:((x0I ys (xs.take k)).length:Int)+(zv.length:Int)<=65536:=f6J;have aw:∀j,(Value.slice G (x0I ys (xs.take k)).length J).ownBlock=some j->y.heap.size<=j:=fun j hj=>((V S).row.lt j hj).1;have aH:=y1E (V S) z rfl;have aI:=y1E (V S) D rfl;have HL:=O aw;have T:=O aH;have aA:=O aI;gi_wp2_with (gi_at_builtin;refine z1Z rfl (.tmp 25) (.tmp 26) rfl y.heap.size _ _ _ _ rfl rfl (V S) (V HP) f6J aJ ?_);intro v' Q ae g';have q:Boxed Q (w.heap.size+2) 36 (.slice G (x0I ys (xs.take k)).length J):=(V HU).kept g' (fun e=>by have:=V HL _ e.symm;exact f6J);have q1:=q.cell;have q2:=q.frozen;have aF:=z2Z (V HG) g' (V HL);have hT:x8S y.heap.size B Q:=⟨g'.block _ (Array.getElem?_eq_some_iff.1 D).1 (V aA),g'.block _ (Array.getElem?_eq_some_iff.1 z).1 (V T)⟩
   have hF:x8S y.heap.size B (Q.setCell ⟨w.heap.size+2,0,none⟩ v')/\Mi15 y (w.heap.size+2) (x0I ys (xs.take (k+1))) (Q.setCell ⟨w.heap.size+2,0,none⟩ v')/\(x0I ys (xs.take (k+1))).length<=65536:=by
    refine⟨x7A hT _ f6J f6J,⟨⟨v',q.set v',?_⟩,z3b aF _⟩,by rw[b,List.length_append];exact f6J⟩;rw[b];refine⟨ae.1,ae.2.1,ae.2.2.kept (grownBy_setCell' Q _ v') ?_⟩;exact .inr (fun e=>by have:=(ae.row.lt _ e).1;exact f6J)
   have HF:=O hF;obtain⟨a',c',ay,_,_⟩:=ae.sk.shape;rw[List.length_append]at ay;subst ay;gi_wp2;exact V HF
 case done =>
  rintro W ⟨⟨⟨u,d,N⟩,H⟩,ab⟩ hK;rw[List.take_length]at N ab;have C:Boxed W w.heap.size 36 (.slice none 0 0):=(H.block _ y1.lt M7M).trans y1;have a:Boxed W (w.heap.size+1) 29 (.int .i64 0):=(H.block _ y2.lt M7M).trans y2;have x8:=d.cell;have x6:=C.cell;have f6:=C.frozen;have x7:=a.cell;have f7:=a.frozen;obtain⟨G,J,am,_,_⟩:=N.sk.shape;subst am;have S:=O N;have aB:=O C;have aC:=O a;have HW:=O (t W H)
  have aq:((W.setCell ⟨w.heap.size,0,none⟩ (.slice G (x0I ys xs).length J)).setCell ⟨w.heap.size+1,0,none⟩ (.int .i64 0)).heap[y.heap.size]?=some (.deferred (some [])):=by
   rw[Below.heap_setCell _ _ _ _ P8P,Below.heap_setCell _ _ _ _ P8P];exact hK
  have ar:=fin15 (V S) (V HW) (V aB) (V aC) aq f6J ab;gi_wp2;refine⟨M7M,.inl ⟨_,_,rfl,run_takeDeferred aq,?_⟩⟩;obtain⟨Z,h2,h3⟩:=ar;exact⟨_,by simp[results,Tryz.results67,go_sem,Z,h2],h3⟩
 case stop =>
  rintro c k W hk ⟨rfl,Z,h2,h3,h4,h5⟩ hK;have g1:=(x6v h2 (.deferred none) hK rfl).cell;have g2:=(x6v h3 (.deferred none) hK rfl).cell;have g3:Bw w (W.putObj y.heap.size (.deferred none)):=h4.trans ((Below.refl _ W).grown (grownBy_putObj' W _ _) f6J (fun k e=>W0i));gi_wp2;refine⟨M7M,.inl ⟨_,_,rfl,run_takeDeferred hK,?_⟩⟩;exact⟨_,by simp[results,Tryz.results67,go_sem,g1,g2],g3,.inr ⟨Z,rfl⟩⟩
