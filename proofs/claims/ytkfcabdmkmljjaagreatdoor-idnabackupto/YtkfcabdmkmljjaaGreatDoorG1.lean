/- Lemmas. -/
import Derived.RangeFuncNested
import Derived.RangeFuncBound
import Derived.RangeFuncCalls
import Derived.RangeFuncLeaves
import Derived.Test.YtkfcabdmkmljjaaGreatDoorG4
import Derived.Shelf.Abstract
import Derived.Shelf.RegionOpen
import Derived.WalkKit
import Derived.OwnWalkIn
import Derived.TacticsInMore
import Derived.LoopNIn
import Derived.LoopIn
import Derived.Test.YtkfcabdmkmljjaaGreatDoorG5
set_option maxHeartbeats 2000000
set_option maxRecDepth 100000
namespace Go.Proofs.YtkfcabdmkmljjaaGreatDoor
open Go.Proofs.Tryz
open Go.RowKit
section
variable{p:Prop}
theorem W3W(h:p:=by intro c I;cases I):p:=h
theorem G3n(h:p:=by have:=run_endLoop (P:=P) S (by rw[q];exact M7L);rw[q]at this;exact this):p:=h
theorem p5F(h:p:=by simp[Value.ownBlock]at e;exact f6J):p:=h
theorem W0i(h:p:=by cases e;exact f6J):p:=h
end
def It15(F:Fence)(n:Nat)(P:Program)(g:Nat)(lb:Array Value)(N:Nat)(enc:Nat->Value->Array Value)(Pr:Nat->Value->World->World->Prop)(Rd:World->Prop):Prop :=
 ∀(l:Nat) (J Jx:Nat->World->Prop) (W:World),(∀k A,J k A->Rd A)->(∀k A B,J k A->Below A.heap.size A B->J k B) ->
  (∀k v A B,k<N->J k A->Below A.heap.size A B->Pr k v A B->YieldAt F (n-1) P l (enc k v) B fun e W'=>(e=.returned (.bool true)/\J (k+1) W')\/(e=.returned (.bool false)/\Jx k W')) ->
  J 0 W->CallsIn F n P g (#[.func (.yield l) #[] #[]]++lb) W fun e W'=>(∃v,e=.returned v)/\(J N W'\/∃k,k<N/\Jx k W')
def x9c(z:Nat)(B W:World):Prop:=W.heap[z]?=B.heap[z]?/\W.heap[z+1]?=B.heap[z+1]?
def Out15(z:Nat)(I:World->Prop)(Ix:Code->World->Prop)(B:World):Exit->Act->World->Prop
 | .normal,_,W=>x9c z B W/\I W
 | .ret,_,W=>x9c z B W/\Ix .ret W
 | .exit id,_,W=>x9c z B W/\Ix (.exit id) W
 | .goto t,_,W=>x9c z B W/\Ix (.goto t) W
 | .panic _,_,_=>False
 | .outgrown,_,_=>False
theorem y2t{A B}(h:Bw A B) l o(S:l<A.heap.size):Below (A.putObj l o).heap.size (A.putObj l o) (B.putObj l o):=by
 have L:=h.size;refine⟨h.os,h.tape,h.output,by simp;exact L,fun k G=>?_⟩;by_cases e:k=l
 ·subst e;rw[World.putObj_heap_same f6J,World.putObj_heap_same S]
 ·rw[World.putObj_heap_other e,World.putObj_heap_other e];exact h.block k E9n
theorem z8b{F n P}{g:Operand}{ps:Array Tmp}{assign body Q a w}
  (aA:F.round=none) (Z:1<=n) {gf:Nat} {lb} (hg:a.eval g=.func (.func gf) #[] lb) (aq:F.fn gf) (eg:∀args w,(callFunc gf args).run P w=.ok (.enter gf args) w)
  {N:Nat} {enc:Nat->Value->Array Value} {H:Nat->Value->World->World->Prop} {Rd:World->Prop} (hit:It15 F (n-1) P gf lb N enc H Rd) (az:∀k v,(enc k v).size=ps.size)
  (I:Nat->World->Prop) (Ix:Code->Nat->World->Prop) (hR:∀k A,I k A->Rd A) (hI:∀k A B,I k A->Bw A B->I k B)
  (ag:∀k A r o X,w.heap.size<=r->A.heap[r]?=some o->o.isCells=false->I k A->I k (A.putObj r X))
  (i:∀c k A r o X,w.heap.size<=r->A.heap[r]?=some o->o.isCells=false->Ix c k A->Ix c k (A.putObj r X))
  (aw:∀k v A B r X,r<A.heap.size->H k v A B->H k v (A.putObj r X) (B.putObj r X))
  (h0:I 0 w) (a₁:Nat->Value->Act)
  (j:∀(l k:Nat) (v:Value) (W:World) (K:Act->World->Prop),K (a₁ k v) W ->
   assign.wpIn (F.inRound l) (n-1-1) P (Exit.then K (fun _ _ _=>False)) { tmps:=(ps.zip (enc k v)).foldl (fun t (p,v)=>t.setIfInBounds p v) a.tmps,defers:=[] } W)
  (ab:∀(l k:Nat) (v:Value) (A B:World),k<N->l=w.heap.size+1->l<A.heap.size->I k A->Bw A B->H k v A B ->
   (∃r,B.heap[l]?=some (.loop r))->B.heap[w.heap.size]?=some (.deferred (some [])) ->
   body.wpIn (F.inRound l) (n-1-1) P (Out15 w.heap.size (I (k+1)) (fun c=>Ix c k) B) (a₁ k v) B)
  (ae:∀W,I N W->W.heap[w.heap.size]?=some (.deferred (some []))->Q .normal { a with defers:={ target:=.collected w.heap.size,args:=#[] }::a.defers } W)
  (af:∀c k W,k<N->Ix c k W->W.heap[w.heap.size]?=some (.deferred (some []))->c.wpIn F n P Q { a with defers:={ target:=.collected w.heap.size,args:=#[] }::a.defers } W) :
  (Code.rangeFunc g ps assign body).wpIn F n P Q a w:=by
 refine wpIn_rangeFunc ?_;intro fn ay;rw[aA];obtain⟨rc,q⟩:∃rc:LoopState->Option Code->Loop,rc=fun m pe=>{ state:=m,pending:=pe,fn,tmps:=a.tmps,params:=ps,assign,body,defers:=w.heap.size }:=⟨_,rfl⟩;obtain⟨z,hz⟩:∃z,w.heap.size=z:=⟨_,rfl⟩;obtain⟨W1,T⟩:∃W1,(w.alloc (.deferred (some []))).alloc (.loop (rc .ready none))=W1:=⟨_,rfl⟩
 have G:W1.heap[z+1]?=some (.loop (rc .ready none)):=by
  rw[<- T,<- hz];have:=World.alloc_heap_new (w.alloc (.deferred (some []))) (.loop (rc .ready none));rwa [World.size_alloc]at this
 have am:W1.heap[z]?=some (.deferred (some [])):=by
  rw[<- T,<- hz];exact(Below.heap_alloc _ _ _ M7L).trans (World.alloc_heap_new w _)
 have ar:I 0 W1:=by
  refine hI 0 w W1 h0 ?_;rw[<- T];exact((Below.refl _ w).alloc (l0r _) _).alloc M7L _
 have E:∀{A:World} {k:Nat} {o:Obj},A.heap[k]?=some o->k<A.heap.size:=fun h=>(Array.getElem?_eq_some_iff.1 h).1;rw[hz]at ag i ab ae af;refine⟨z+1,[{ target:=.collected z,args:=#[] }],W1,{ target:=.fn (.func gf) lb,args:=#[.func (.yield (z+1)) #[] #[]] },W1,gf,#[.func (.yield (z+1)) #[] #[]]++lb,W1,?_,?_,?_,?_,fun _=>Z,?_⟩
 ·rw[<- T,q,<- hz];exact run_enterLoop_outer _ _ _ _ _
 ·simp only[resolve,hg];simp[go_sem]
 ·intro f' C;simp[Target.leads]at C;subst C;exact aq
 ·simp[invoke,go_sem,eg]
 ·refine(hit (z+1) (fun k W=>I k W/\W.heap[z+1]?=some (.loop (rc .ready none))/\W.heap[z]?=some (.deferred (some [])))
   (fun k W=>∃c,Ix c k W/\W.heap[z+1]?=some (.loop (rc .done (some c)))/\W.heap[z]?=some (.deferred (some []))) W1 (fun k A h=>hR k A h.1)
   (fun k A B h Y=>⟨hI k A B h.1 Y,(Y.block _ (E h.2.1)).trans h.2.1,(Y.block _ (E h.2.2)).trans h.2.2⟩) ?_ ⟨ar,G,am⟩).mono ?_
  ·rintro k v A B hk ⟨hi,S,hd⟩ Y s;have aj:=(Y.block _ (E S)).trans S;have R:=(Y.block _ (E hd)).trans hd;have hy:=run_yield (P:=P) (args:=enc k v) aj (by rw[q];exact az k v);rw[q]at hy;refine⟨fn,_,assign,body,hy,roundIn_of_wpIn ay (j _ k v B _ ⟨_,run_beginRound aj (by rw[q]),?_⟩)⟩;generalize hbz:(Obj.loop { rc .ready none with state:=.busy })=f;have x:(B.putObj (z+1) f).heap[z+1]?=some f:=World.putObj_heap_same (E aj);have y:(B.putObj (z+1) f).heap[z]?=some (.deferred (some [])):=(World.putObj_heap_other f6J).trans R;refine wpIn_mono (ab (z+1) k v (A.putObj (z+1) f) (B.putObj (z+1) f) hk rfl (by simpa using E S) (ag k A (z+1) _ f f6J S rfl hi) (y2t Y _ _ (E S)) (aw k v A B (z+1) f (E S) s) ⟨_,by rw[<- hbz]at x ⊢;exact x⟩ y) ?_
   have fin:∀(D:Option Code) (L:World),x9c z (B.putObj (z+1) f) L ->
     (Instr.endRound (z+1) D).run P L=.ok (.bool D.isNone) (L.putObj (z+1) (.loop (rc (if D.isNone then .ready else .done) D))) /\
     L.heap[z+1]?=some f /\
     (L.putObj (z+1) (.loop (rc (if D.isNone then .ready else .done) D))).heap[z+1]?=some (.loop (rc (if D.isNone then .ready else .done) D)) /\
     (L.putObj (z+1) (.loop (rc (if D.isNone then .ready else .done) D))).heap[z]?=some (.deferred (some [])):=fun D L b=>by
    have M:=b.2.trans x;have J:=M;rw[<- hbz]at J;have:=run_endRound (P:=P) D J;rw[q]at this ⊢;exact⟨this,M,World.putObj_heap_same (E M),(World.putObj_heap_other f6J).trans (b.1.trans y)⟩
   have ai:f.isCells=false:=(by rw[<- hbz];rfl);rintro e a3 L d
   cases e with
   | normal =>
    obtain⟨u,M,J,U⟩:=fin none L d.1;exact⟨_,_,u,.inl ⟨rfl,ag _ _ _ _ _ f6J M ai d.2,J,U⟩⟩
   | ret =>
    obtain⟨u,M,J,U⟩:=fin (some .ret) L d.1;exact⟨_,_,u,.inr ⟨rfl,.ret,i _ _ _ _ _ _ f6J M ai d.2,J,U⟩⟩
   | exit id =>
    obtain⟨u,M,J,U⟩:=fin (some (.exit id)) L d.1;exact⟨_,_,u,.inr ⟨rfl,.exit id,i _ _ _ _ _ _ f6J M ai d.2,J,U⟩⟩
   | goto t =>
    obtain⟨u,M,J,U⟩:=fin (some (.goto t)) L d.1;exact⟨_,_,u,.inr ⟨rfl,.goto t,i _ _ _ _ _ _ f6J M ai d.2,J,U⟩⟩
   | panic ch=>exact d.elim
   | outgrown=>exact d.elim
  ·rintro e W2 ⟨⟨v,rfl⟩,(⟨hi,S,hd⟩ | ⟨k,hk,c,hi,S,hd⟩)⟩
   ·refine⟨none,_,G3n,?_⟩;rw[hz];exact ae _ (ag N W2 (z+1) _ _ f6J S rfl hi) ((World.putObj_heap_other f6J).trans hd)
   ·refine⟨some c,_,G3n,?_⟩;rw[hz];exact af c k _ hk (i c k W2 (z+1) _ _ f6J S rfl hi) ((World.putObj_heap_other f6J).trans hd)
open Go.RowKit Go.Shelf
attribute [local go_sem] Oper.semAt_some
def y3M(A:World)(p:Nat)(fl:Int)(ys:Int->List Int):Prop:=∀c,Rune c->∀W,Below A.heap.size A W->Calls prog 166 #[.pointer (some ⟨p,0,none⟩),.int .i32 c,.int .i64 fl] W (x0h W (ys c))
structure Rd15(p:Nat)(fl:Int)(ys:Int->List Int)(bd bk bf:Nat)(kv:Value)(xs:List Int)(A:World):Prop where
 d:A.cell? ⟨bd,0,none⟩=some (.pointer (some ⟨p,0,none⟩))
 k:A.cell? ⟨bk,0,none⟩=some kv
 f:A.cell? ⟨bf,0,none⟩=some (.int .i64 fl)
 sk:Sk .i32 A kv xs
 one:y3M A p fl ys
abbrev z9d(xs:List Int)(k:Nat)(v:Value):Array Value:=#[.int .i32 (xs.getD k 0),v]
abbrev Pr15(ys:Int->List Int)(xs:List Int)(k:Nat)(v:Value)(A B:World):Prop:=Ok .i32 21 B A.heap.size v (ys (xs.getD k 0))
abbrev Lb15(bd bk bf:Nat):Array Value:=#[.pointer (some ⟨bd,0,none⟩),.pointer (some ⟨bk,0,none⟩),.pointer (some ⟨bf,0,none⟩)]
theorem y6E n(o:1<=n) p fl ys bd bk bf kv xs :
  It15 Fence.wide n prog 165 (Lb15 bd bk bf) xs.length (z9d xs) (Pr15 ys xs) (Rd15 p fl ys bd bk bf kv xs):=fun l J Z W Q s N R=>by
 have M:=Q 0 W R;have u:=M.d;have S:=M.k;have z:=M.sk.len;have a:=fun k A h=>O (Q k A h);obtain⟨ao,cap,I,H,g⟩:=M.sk.shape;rw[I]at S;refine callsIn_of_wp func165 rfl trivial ?_ rfl;simp only[ntmps165,List.size_toArray,List.length_cons,List.length_nil,Nat.reduceAdd,Nat.reduceSub,Array.replicate_succ,Array.replicate_zero,List.push_toArray,List.append_toArray,List.nil_append,List.cons_append];gi_wp2;gi_loopw [11] (fun i wr=>∃k:Nat,i=.int .i64 k/\k<=xs.length/\J k wr) (fun i _=>xs.length-(intOf i).toNat)
 case atStart=>exact⟨0,rfl,Nat.zero_le _,R⟩
 case round =>
  obtain⟨k,rfl,G,X⟩:=hrel;by_cases E:k<xs.length
  ·have D:=V (a k wr X);obtain⟨b,off,t,C,_,_,F⟩:=D.sk.place f6J;rw[I]at C;simp only[Value.slice.injEq]at C;obtain⟨rfl,-,rfl⟩:=C;have u:=D.d;have q:=D.f;have j:=F k E
   have y:Rune (xs.getD k 0):=by
    have:=D.sk.1 (xs.getD k 0) N0c;exact v9d
   have K:=O (D.one (xs.getD k 0) y wr (b0r));have r:=fun v B=>O (N k v wr B E X);clear D F y s N a;unfold z9d Pr15 at r;generalize xs.getD k 0=c at *;gi_wp2_with (refine⟨trivial,?_⟩;gi_at_call 166;refine(callsIn_wide.2 (V K)).mono ?_);rintro e x ⟨v,rfl,ok,m⟩;obtain⟨fn,Y,assign,body,hy,P⟩:=V (r v x) m ok;gi_wp2;refine P.mono ?_;rintro e L (⟨rfl,T⟩ | ⟨rfl,U⟩)
   ·gi_wp2
    go_roundw
    case rel=>exact⟨k+1,g2B,f6J,T⟩
    case measure=>exact g7T
   ·gi_wp2;refine bodyPost_ret (results_none rfl _ _ _) rfl ?_;exact⟨⟨_,rfl⟩,.inr ⟨k,E,U⟩⟩
  ·obtain rfl:k=xs.length:=f6J;gi_wp2;go_end0;exact⟨⟨_,rfl⟩,.inl X⟩
structure Pt15(B:Nat)(p:Nat)(fl:Int)(bd bk bf:Nat)(kv:Value)(xs:List Int)(A:World):Prop where
 d:A.cell? ⟨bd,0,none⟩=some (.pointer (some ⟨p,0,none⟩))
 k:A.cell? ⟨bk,0,none⟩=some kv
 f:A.cell? ⟨bf,0,none⟩=some (.int .i64 fl)
 ok:Ok .i32 21 A B kv xs
 bd0:B<=bd
 bk0:B<=bk
 bf0:B<=bf
theorem Pt15.rd{B p fl bd bk bf kv}{xs A}(h:Pt15 B p fl bd bk bf kv xs A){ys}(j:y3M A p fl ys):Rd15 p fl ys bd bk bf kv xs A:=⟨h.d,h.k,h.f,h.ok.sk,j⟩
def y3O(w:World)(p:Nat)(fl:Int)(xs:List Int)(e:Ending)(w':World):Prop :=
 ∃bd bk bf kv,e=.returned (.func (.func 165) #[] (Lb15 bd bk bf))/\Pt15 w.heap.size p fl bd bk bf kv xs w'/\Below w.heap.size w w'
theorem x3e{K e w B B'}{v zs}(h:Ok K e w B v zs)(l:B'<=B):Ok K e w B' v zs:=by
 exact h.lower l
theorem y3j p fl xv xs w(A:Sk .i32 w xv xs)(S:xs.length<=1000000000):Calls prog 114 #[.pointer (some ⟨p,0,none⟩),xv,.int .i64 fl] w (y3O w p fl xs):=by
 obtain⟨Q,l⟩:∃Q,w.alloc (.cells #[.pointer (some ⟨p,0,none⟩)] 23)=Q:=⟨_,rfl⟩;obtain⟨T,a⟩:∃T,Q.alloc (.cells #[.int .i64 fl] 3)=T:=⟨_,rfl⟩;have b1:Bw w Q:=(by rw[<- l];exact t9C);have m:Bw Q T:=(by rw[<- a];exact t9C);have K:=O (x2F xv xs T (A.below (bthen b1 m)) S);obtain⟨J,M,rfl,_,_⟩:=A.shape;go_enter func114,ntmps114;go_wp2_with fail;refine(V K).mono ?_;rintro e B ⟨C,rfl,ok,G⟩;have Y:=bthen (bthen b1 m) G;have L:Q.heap.size=w.heap.size+1:=(by rw[<- l];exact x0y _ _);have s:T.heap.size=Q.heap.size+1:=by rw[<- a];exact x0y _ _
 have X:B.cell? ⟨w.heap.size,0,none⟩=some (.pointer (some ⟨p,0,none⟩)):=by
  have h:Q.cell? ⟨w.heap.size,0,none⟩=some (.pointer (some ⟨p,0,none⟩)):=(by rw[<- l];exact M7L);have D:T.cell? ⟨w.heap.size,0,none⟩=some (.pointer (some ⟨p,0,none⟩)):=(by rw[m.cell (x0a h)];exact h);rw[G.cell (x0a D)];exact D
 have F:B.cell? ⟨Q.heap.size,0,none⟩=some (.int .i64 fl):=by
  have h:T.cell? ⟨Q.heap.size,0,none⟩=some (.int .i64 fl):=(by rw[<- a];exact M7L);rw[G.cell (x0a h)];exact h
 have U:Hid (y3O w p fl xs (.returned (.func (.func 165) #[] (Lb15 w.heap.size B.heap.size Q.heap.size))) (B.alloc (.cells #[C] 36))):=by
  have H:Bw B (B.alloc (.cells #[C] 36)):=(b0r).alloc (l0r _) _;have k:=G.size;refine⟨_,_,_,C,rfl,⟨?_,?_,?_,?_,l0r _,f6J,f6J⟩,bthen Y H⟩
  ·rw[H.cell (x0a X)];exact X
  ·simp
  ·rw[H.cell (x0a F)];exact F
  ·exact(x3e ok f6J).below H
 obtain⟨Z,W,I,_,_⟩:=ok.sk.shape;subst I;rw[L]at U;exact s1g
open Go.RowKit Go.Shelf
attribute [local go_sem] Oper.semAt_some
def x0F(ys:Int->List Int)(xs:List Int):List Int:=(xs.map ys).flatten
theorem x8z ys a b:x0F ys (a++b)=x0F ys a++x0F ys b:=by simp[x0F]
theorem y2Q ys(xs:List Int){k}(G:k<xs.length):x0F ys (xs.take (k+1))=x0F ys (xs.take k)++ys (xs.getD k 0):=by
 rw[List.take_add_one,x8z,List.getElem?_eq_getElem G];simp[x0F,List.getD,List.getElem?_eq_getElem G]
theorem y9c ys xs k:(x0F ys (xs.take k)).length<=(x0F ys xs).length:=by
 conv=>rhs;rw[<- List.take_append_drop k xs,x8z,List.length_append]
 omega
structure Mi15(W0:World)(Ba:Nat)(zs:List Int)(A:World):Prop where
 box:∃v,Boxed A Ba 36 v/\Ok .i32 21 A W0.heap.size v zs
 gb:W0.grownBy A (some Ba)
theorem q0i{p A B:World}{row}(h:p.grownBy A row)(Y:Bw A B):p.grownBy B row:=⟨Y.os.trans h.os,Y.tape.trans h.tape,Y.output.trans h.output,Nat.le_trans h.size Y.size,fun k G F=>by rw[Y.block k I2e];exact g5I⟩
theorem gbP15{p A:World}{row}(h:p.grownBy A row){r} o(hr:p.heap.size<=r):p.grownBy (A.putObj r o) row:=⟨h.os,h.tape,h.output,by simpa using h.size,fun k G F=>by rw[World.putObj_heap_other f6J];exact g5I⟩
theorem q0H{A B v zs}(h:Ok .i32 21 A B v zs){r o} o'(j:A.heap[r]?=some o)(I:o.isCells=false):Ok .i32 21 (A.putObj r o') B v zs:=⟨h.1,h.2.1,ownsRow_putObj h.2.2 o' j I⟩
theorem okF15{B m v zs}(h:Ok .i32 21 B m v zs){r} o(hr:r<m):Ok .i32 21 (B.putObj r o) m v zs:=⟨h.1,h.2.1,h.2.2.kept (grownBy_putObj' B r o) (by
 rcases h.2.2.2 with⟨rfl,_⟩ | ⟨g,cap,P,rfl,Y,_⟩
 ·exact U3B
 ·exact .inr (fun e=>p5F))⟩
theorem x6A{A b t v}(h:Boxed A b t v){r o} o'(j:A.heap[r]?=some o)(I:o.isCells=false):Boxed (A.putObj r o') b t v:=by
 refine h.kept (grownBy_putObj' A r o') (fun e=>?_);obtain rfl:b=r:=N5j;rw[show A.heap[b]?=_ from h]at j;cases j;cases I
theorem Mi15.below{W0 Ba zs A B}(h:Mi15 W0 Ba zs A)(Y:Bw A B):Mi15 W0 Ba zs B:=by
 obtain⟨⟨v,Z,D⟩,J⟩:=h;exact⟨⟨v,(Y.block _ Z.lt).trans Z,D.below Y⟩,q0i J Y⟩
theorem Mi15.put{W0 Ba zs A}(h:Mi15 W0 Ba zs A){r o} o'(hr:W0.heap.size<=r)(j:A.heap[r]?=some o)(I:o.isCells=false):Mi15 W0 Ba zs (A.putObj r o'):=by
 obtain⟨⟨v,Z,D⟩,J⟩:=h;exact⟨⟨v,x6A Z o' j I,q0H D o' j I⟩,gbP15 J o' hr⟩
theorem Pt15.grown{B p fl bd bk bf kv}{xs W0 A}(h:Pt15 B p fl bd bk bf kv xs W0){Ba}(C:W0.grownBy A (some Ba))(l:Ba<B):Pt15 B p fl bd bk bf kv xs A:=by
 have Z:=h.bd0;have D:=h.bk0;have J:=h.bf0;refine⟨C.cell h.d P8P,C.cell h.k P8P,C.cell h.f P8P,⟨h.ok.1,h.ok.2.1,h.ok.2.2.kept C ?_⟩,Z,D,J⟩;rcases h.ok.2.2.2 with⟨rfl,_⟩ | ⟨g,M,P,rfl,Y,_⟩
 ·exact U3B
 ·exact .inr (fun e=>p5F)
theorem y5m{F n P w}{ops rest o a}{Q}(J:o.guard=none)(s x:Operand) t
  (j:o.op=.call { callee:=.builtin .append,args:=#[s,x],argTypes:=#[t,t] }) base e (i:TypeInfo) size (U:P.underlying t=some (.slice e)) (hi:P.info? e=some i)
  v m xs (L:a.eval s=v) (B:w.ownsRow base e size v m xs) (A:a.eval x=.slice none 0 0)
  (h:wpListIn F n P ops Q rest (a.put o.dst v) w):wpListIn F n P ops Q (o::rest) a w:=by
 refine wpListIn_plain J fun K hK=>?_;have M:=run_append_owned_none (P:=P) (w:=w) base t o.type e i size U hi v m xs B;unfold Oper.wpIn;refine⟨?_,?_⟩
 ·simp[Oper.about,j,resolve,Target.leads,Sem.run_pure]
 ·rw[Oper.semAt_plain F _ _ (by rw[j];exact W3W)];simp[execOp,j,resolve,invoke,builtin,L,A,M,Result.andThen];exact hK _ _ h
theorem z2n{F n w ops}{rest o a Q}(J:o.guard=none)(s x:Operand)
  (j:o.op=.call { callee:=.builtin .append,args:=#[s,x],argTypes:=#[36,36] }) B v u xs ys (L:a.eval s=v) (A:a.eval x=u)
  (N:Ok .i32 21 w B v xs) (d:Sk .i32 w u ys) (S:xs.length+ys.length<=1000000000) (l:B<=w.heap.size)
  (h:∀v' w',Ok .i32 21 w' B v' (xs++ys)->w.grownBy w' v.ownBlock->wpListIn F n prog ops Q rest (a.put o.dst v') w'):wpListIn F n prog ops Q (o::rest) a w:=by
 obtain⟨i,hi,y,Y,m⟩:=info_parts y2U;rcases d.2.src with⟨R,rfl⟩ | ⟨p,M,r,G⟩
 ·obtain rfl:ys=[]:=s4R;refine y5m J s x 36 j B 21 i 1 underlying36 hi v _ _ L N.row A ?_;exact I3X
 ·rw[List.length_map]at r;subst r;refine wpListIn_append_own w J s x 36 j B 21 i (.int .i32 0) 1 4 underlying36 hi y Y m rfl e8P v _ _ L N.row p ys.length M (ys.map (Value.int .i32)) A M7O G (x0R .i32 ys) T7X f6J l ?_;exact n0d
theorem y1R{A B v zs}(h:Ok .i32 21 A B v zs){r o}(j:A.heap[r]?=some o)(I:o.isCells=false):some r≠v.ownBlock:=by
 rcases h.2.2.2 with⟨rfl,_⟩ | ⟨g,M,P,rfl,Y,a,_⟩
 ·exact V3H
 ·intro e;obtain rfl:r=g:=G5Y;rw[a]at j;cases j;cases I
theorem z3p{p B w1:World}{row row2}(h:p.grownBy B row)(g:B.grownBy w1 row2)(hr:∀k,row2=some k->p.heap.size<=k):p.grownBy w1 row :=
 ⟨g.os.trans h.os,g.tape.trans h.tape,g.output.trans h.output,Nat.le_trans h.size g.size,fun k G F=>by rw[g.block k I2e (fun e=>by have:=hr k e.symm;exact f6J)];exact g5I⟩
theorem z3r{p w1:World}{b}(h:p.grownBy w1 (some b)) v:p.grownBy (w1.setCell ⟨b,0,none⟩ v) (some b):=by
 have g:=grownBy_setCell' w1 b v;exact⟨g.os.trans h.os,g.tape.trans h.tape,g.output.trans h.output,Nat.le_trans h.size g.size,fun k G F=>by rw[g.block k I2e F];exact g5I⟩
theorem x7J{z B W}(h:x9c z B W){b} v(Z:b≠z)(D:b≠z+1):x9c z B (W.setCell ⟨b,0,none⟩ v) :=
 ⟨(Below.heap_setCell _ _ _ _ P8P).trans h.1,(Below.heap_setCell _ _ _ _ P8P).trans h.2⟩
def y3L(w:World)(zs:List Int)(e:Ending)(w':World):Prop :=
 Below w.heap.size w w'/\((zs.length<=65536/\∃v,e=.returned (.tuple #[v,.int .i64 0])/\Ok .i32 21 w' w.heap.size v zs)\/(65536<zs.length/\e=.returned (.tuple #[.slice none 0 0,.int .i64 2])))
theorem fin15{w W z m u zs}(E:Ok .i32 21 W m u zs)(P:Bw w W)(Z:Boxed W w.heap.size 36 (.slice none 0 0))(D:Boxed W (w.heap.size+1) 29 (.int .i64 0))
  (hK:((W.setCell ⟨w.heap.size,0,none⟩ u).setCell ⟨w.heap.size+1,0,none⟩ (.int .i64 0)).heap[z]?=some (.deferred (some []))) (T:w.heap.size+2<=m/\w.heap.size+2<=z) (S:zs.length<=65536) :
  (((W.setCell ⟨w.heap.size,0,none⟩ u).setCell ⟨w.heap.size+1,0,none⟩ (.int .i64 0)).putObj z (.deferred none)).cell? ⟨w.heap.size,0,none⟩=some u /\
  (((W.setCell ⟨w.heap.size,0,none⟩ u).setCell ⟨w.heap.size+1,0,none⟩ (.int .i64 0)).putObj z (.deferred none)).cell? ⟨w.heap.size+1,0,none⟩=some (.int .i64 0) /\
  y3L w zs (.returned (.tuple #[u,.int .i64 0])) (((W.setCell ⟨w.heap.size,0,none⟩ u).setCell ⟨w.heap.size+1,0,none⟩ (.int .i64 0)).putObj z (.deferred none)):=by
 have G:∀b,b<m->some b≠u.ownBlock:=fun b Y e=>(by have:=(E.row.lt b e.symm).1;exact f6J);have L:Ok .i32 21 (W.setCell ⟨w.heap.size,0,none⟩ u) m u zs:=⟨E.1,E.2.1,E.2.2.kept (grownBy_setCell' W _ _) (.inr (G _ f6J).symm)⟩;have M:Ok .i32 21 ((W.setCell ⟨w.heap.size,0,none⟩ u).setCell ⟨w.heap.size+1,0,none⟩ (.int .i64 0)) m u zs:=⟨E.1,E.2.1,L.2.2.kept (grownBy_setCell' _ _ _) (.inr (G _ f6J).symm)⟩;have l:=(P.setCell (p:=⟨w.heap.size,0,none⟩) (l0r _) u).setCell (p:=⟨w.heap.size+1,0,none⟩) M7L (.int .i64 0);refine⟨(x6A ((Z.set u).other f6J _) _ hK rfl).cell,(x6A ((D.other f6J _).set _) _ hK rfl).cell,?_,.inl ⟨S,u,rfl,x3e (q0H M _ hK rfl) f6J⟩⟩;exact l.trans ((b0r).grown (grownBy_putObj' _ z _) (by have:=(Array.getElem?_eq_some_iff.1 hK).1;exact f6J) (fun k e=>W0i))
theorem y9W p fl ys xv xs w(hx:Sk .i32 w xv xs)(hl:xs.length<=1000000000)(ho:y3M w p fl ys) :
  Calls prog 67 #[.pointer (some ⟨p,0,none⟩),xv,.int .i64 fl] w (y3L w (x0F ys xs)):=by
 obtain⟨Q,ag⟩:∃Q,w.alloc (.cells #[.slice none 0 0] 36)=Q:=⟨_,rfl⟩;obtain⟨T,a⟩:∃T,Q.alloc (.cells #[.int .i64 0] 29)=T:=⟨_,rfl⟩;obtain⟨w3,z⟩:∃w3,T.alloc (.cells #[.slice none 0 0] 36)=w3:=⟨_,rfl⟩;have s1:Q.heap.size=w.heap.size+1:=(by rw[<- ag];exact x0y _ _);have s2:T.heap.size=w.heap.size+2:=(by rw[<- a,x0y,s1]);have s3:w3.heap.size=w.heap.size+3:=by rw[<- z,x0y,s2]
 have b3:Bw w w3:=by
  rw[<- z,<- a,<- ag];exact g8O
 have ai:Boxed w3 w.heap.size 36 (.slice none 0 0):=(by rw[<- z,<- a,<- ag];exact((Boxed.new w _ _).alloc _).alloc _);have m:Boxed w3 (w.heap.size+1) 29 (.int .i64 0):=(by rw[<- z,<- a,<- s1];exact(Boxed.new Q _ _).alloc _);have aj:Boxed w3 (w.heap.size+2) 36 (.slice none 0 0):=(by rw[<- z,<- s2];exact Boxed.new T _ _);have K:=O (y3j p fl xv xs w3 (hx.below b3) hl);obtain⟨ao,M,rfl,_,_⟩:=hx.shape;refine(callsIn_wide (n:=3)).1 ?_;refine callsIn_of_wp_marks func67 rfl trivial ?_ rfl;simp only[ntmps67,List.size_toArray,List.length_cons,List.length_nil,Nat.reduceAdd,Nat.reduceSub,Array.replicate_succ,Array.replicate_zero,List.push_toArray,List.append_toArray,List.nil_append,List.cons_append];gi_wp2_with (refine⟨trivial,?_⟩;gi_at_call 114;refine(callsIn_wide.2 (V K)).mono ?_);rintro e W0 ⟨f,D,S,kv,rfl,pt,q⟩;gi_wp2;have aN:=q.size;have bW:Bw w W0:=bthen b3 q;have g:Boxed W0 w.heap.size 36 (.slice none 0 0):=(q.block _ ai.lt).trans ai;have P:Boxed W0 (w.heap.size+1) 29 (.int .i64 0):=(q.block _ m.lt).trans m;have y3:Boxed W0 (w.heap.size+2) 36 (.slice none 0 0):=(q.block _ aj.lt).trans aj;have L:∀A,W0.grownBy A (some (w.heap.size+2))->Bw w A:=fun A C=>⟨C.os.trans bW.os,C.tape.trans bW.tape,C.output.trans bW.output,Nat.le_trans bW.size C.size,fun k hk=>(C.block k f6J P8P).trans (bW.block k hk)⟩;have az:∀A,W0.grownBy A (some (w.heap.size+2))->Rd15 p fl ys f D S kv xs A:=fun A C=>(pt.grown C f6J).rd (fun c hc W hW=>ho c hc W ((L A C).trans (hW.mono (L A C).size)))
 refine z8b (F:=Fence.wide) rfl f6J (gf:=165) (lb:=Lb15 f D S) rfl trivial (enters_of func165 f4A rfl) (y6E (3-1) f6J p fl ys f D S kv xs) (fun _ _=>rfl)
  (fun k A=>Mi15 W0 (w.heap.size+2) (x0F ys (xs.take k)) A/\(x0F ys (xs.take k)).length<=65536)
  (fun c _ A=>c=.ret/\65536<(x0F ys xs).length/\Boxed A w.heap.size 36 (.slice none 0 0)/\Boxed A (w.heap.size+1) 29 (.int .i64 2)/\Bw w A/\w.heap.size<A.heap.size)
  (fun k A h=>az A h.1.gb) (fun k A B h hb=>⟨h.1.below hb,h.2⟩) (fun k A r o X hr ho hc h=>⟨h.1.put X hr ho hc,h.2⟩)
  (fun c k A r o X hr ho hc h=>⟨h.1,h.2.1,x6A h.2.2.1 X ho hc,x6A h.2.2.2.1 X ho hc,h.2.2.2.2.1.trans ((Below.refl _ A).grown (grownBy_putObj' A r X) f6J (fun k e=>W0i)),by simpa using h.2.2.2.2.2⟩)
  (fun k v A B r X hr h=>by have:=okF15 h X hr;simpa[Pr15]using this)
  ⟨⟨⟨_,y3,Ok.nil _ _ _ _⟩,World.grownBy.refl W0 _⟩,by simp[x0F]⟩
  (fun k v=>{ tmps:=#[.pointer (some ⟨p,0,none⟩),.slice ao xs.length M,.int .i64 fl,undef,undef,undef,.pointer (some ⟨w.heap.size,0,none⟩),.pointer (some ⟨w.heap.size+1,0,none⟩),.pointer (some ⟨w.heap.size+2,0,none⟩),undef,v,.pointer (some ⟨p,0,none⟩),.bool false,.pointer (some ⟨p,0,none⟩),.slice ao xs.length M,.int .i64 fl,.func (.func 165) #[] (Lb15 f D S),.int .i32 (xs.getD k 0),v,undef,undef,undef,undef,undef,undef,undef,undef,undef,undef],defers:=[] }) ?assign ?body ?done ?stop
 case assign =>
  intro l k v W K hK;gi_wp2;exact hK
 case body =>
  rintro l k v A B hk rfl aK ⟨⟨⟨u,hu,E⟩,C⟩,ab⟩ hb hp ⟨rr,s⟩ ae;have R:=y2Q ys xs hk;have aC:=y9c ys xs (k+1);have I:Boxed B (w.heap.size+2) 36 u:=(hb.block _ hu.lt).trans hu;have aq:=E.below hb;have G:=q0i C hb;have H:Sk .i32 B v (ys (xs.getD k 0)):=Ok.sk hp;have Y:Boxed B w.heap.size 36 (.slice none 0 0):=(G.block _ g.lt M7N).trans g;have N:Boxed B (w.heap.size+1) 29 (.int .i64 0):=(G.block _ P.lt M7N).trans P;have aM:=H.len;obtain⟨au,cu,b,_,_⟩:=aq.sk.shape;obtain⟨av,cv,aH,_,_⟩:=H.shape;subst b aH;have HP:=O H;have d:=O aq;have HG:=O G;have HW:=O (L B G);have aJ:=(L B G).size;have aG:=G.size;have aL:∀k,(Value.slice au (x0F ys (xs.take k)).length cu).ownBlock=some k->True:=fun _ _=>trivial;have HX:=O Y;have HY:=O N;have HU:=O I;have x8:=I.cell;have f8:=I.frozen;have x6:=Y.cell;have f6:=Y.frozen;have x7:=N.cell;have f7:=N.frozen;generalize ys (xs.getD k 0)=zv at *;by_cases aI:65536<(x0F ys (xs.take k)).length+zv.length
  ·have aA:(65536:Int)<((x0F ys (xs.take k)).length:Int)+(zv.length:Int):=f6J;gi_wp2;refine⟨x7J (x7J ⟨rfl,rfl⟩ _ f6J f6J) _ f6J f6J,rfl,?_,((V HX).set _).other f6J _,((V HY).other f6J _).set _,((V HW).setCell (p:=⟨w.heap.size,0,none⟩) (l0r _) _).setCell (p:=⟨w.heap.size+1,0,none⟩) M7N _,?_⟩
   ·rw[R,List.length_append]at aC;omega
   ·have Z:=(grownBy_setCell' (B.setCell ⟨w.heap.size,0,none⟩ (.slice none 0 0)) (w.heap.size+1) (.int .i64 2)).size;have h2:=(grownBy_setCell' B w.heap.size (.slice none 0 0)).size;have J:=(V HX).lt;omega
  ·have aA:((x0F ys (xs.take k)).length:Int)+(zv.length:Int)<=65536:=f6J;have x:∀j,(Value.slice au (x0F ys (xs.take k)).length cu).ownBlock=some j->W0.heap.size<=j:=fun j hj=>((V d).row.lt j hj).1;have aD:=y1R (V d) s rfl;have aF:=y1R (V d) ae rfl;have HL:=O x;have y:=O aD;have ar:=O aF;gi_wp2_with (gi_at_builtin;refine z2n rfl (.tmp 25) (.tmp 26) rfl W0.heap.size _ _ _ _ rfl rfl (V d) (V HP) f6J aG ?_);intro v' Q t g';have af:Boxed Q (w.heap.size+2) 36 (.slice au (x0F ys (xs.take k)).length cu):=(V HU).kept g' (fun e=>by have:=V HL _ e.symm;exact f6J);have q1:=af.cell;have q2:=af.frozen;have aB:=z3p (V HG) g' (V HL);have hT:x9c W0.heap.size B Q:=⟨g'.block _ (Array.getElem?_eq_some_iff.1 ae).1 (V ar),g'.block _ (Array.getElem?_eq_some_iff.1 s).1 (V y)⟩
   have hF:x9c W0.heap.size B (Q.setCell ⟨w.heap.size+2,0,none⟩ v')/\Mi15 W0 (w.heap.size+2) (x0F ys (xs.take (k+1))) (Q.setCell ⟨w.heap.size+2,0,none⟩ v')/\(x0F ys (xs.take (k+1))).length<=65536:=by
    refine⟨x7J hT _ f6J f6J,⟨⟨v',af.set v',?_⟩,z3r aB _⟩,by rw[R,List.length_append];exact f6J⟩;rw[R];refine⟨t.1,t.2.1,t.2.2.kept (grownBy_setCell' Q _ v') ?_⟩;exact .inr (fun e=>by have:=(t.row.lt _ e).1;exact f6J)
   have HF:=O hF;obtain⟨a',c',i,_,_⟩:=t.sk.shape;rw[List.length_append]at i;subst i;gi_wp2;exact V HF
 case done =>
  rintro W ⟨⟨⟨u,hu,E⟩,C⟩,ab⟩ hK;rw[List.take_length]at E ab;have Y:Boxed W w.heap.size 36 (.slice none 0 0):=(C.block _ g.lt M7N).trans g;have N:Boxed W (w.heap.size+1) 29 (.int .i64 0):=(C.block _ P.lt M7N).trans P;have x8:=hu.cell;have x6:=Y.cell;have f6:=Y.frozen;have x7:=N.cell;have f7:=N.frozen;obtain⟨au,cu,b,_,_⟩:=E.sk.shape;subst b;have d:=O E;have aw:=O Y;have ay:=O N;have HW:=O (L W C)
  have am:((W.setCell ⟨w.heap.size,0,none⟩ (.slice au (x0F ys xs).length cu)).setCell ⟨w.heap.size+1,0,none⟩ (.int .i64 0)).heap[W0.heap.size]?=some (.deferred (some [])):=by
   rw[Below.heap_setCell _ _ _ _ P8P,Below.heap_setCell _ _ _ _ P8P];exact hK
  have U:=fin15 (V d) (V HW) (V aw) (V ay) am f6J ab;gi_wp2;refine⟨M7N,.inl ⟨_,_,rfl,run_takeDeferred am,?_⟩⟩;obtain⟨Z,h2,J⟩:=U;exact⟨_,by simp[results,Tryz.results67,go_sem,Z,h2],J⟩
 case stop =>
  rintro c k W hk ⟨rfl,Z,h2,J,h4,h5⟩ hK;have g1:=(x6A h2 (.deferred none) hK rfl).cell;have g2:=(x6A J (.deferred none) hK rfl).cell;have g3:Bw w (W.putObj W0.heap.size (.deferred none)):=h4.trans ((Below.refl _ W).grown (grownBy_putObj' W _ _) f6J (fun k e=>W0i));gi_wp2;refine⟨M7N,.inl ⟨_,_,rfl,run_takeDeferred hK,?_⟩⟩;exact⟨_,by simp[results,Tryz.results67,go_sem,g1,g2],g3,.inr ⟨Z,rfl⟩⟩
