/- Lemmas. -/
import Derived.RangeFuncNested
import Derived.RangeFuncBound
import Derived.RangeFuncCalls
import Derived.RangeFuncLeaves
import Derived.Test.YtkfcabdmkmljjaaGreatDoorH4
import Derived.Shelf.Abstract
import Derived.Shelf.RegionOpen
import Derived.WalkKit
import Derived.OwnWalkIn
import Derived.TacticsInMore
import Derived.LoopNIn
import Derived.LoopIn
import Derived.Test.YtkfcabdmkmljjaaGreatDoorH5
set_option maxHeartbeats 2000000
set_option maxRecDepth 100000
namespace Go.Proofs.YtkfcabdmkmljjaaGreatDoor
open Go.Proofs.Tryz
open Go.RowKit
section
variable{p:Prop}
theorem W3W(h:p:=by intro c I;cases I):p:=h
theorem n7r(h:p:=by have:=run_endLoop (P:=P) S (by rw[H];exact M7L);rw[H]at this;exact this):p:=h
theorem p5F(h:p:=by simp[Value.ownBlock]at e;exact f6J):p:=h
theorem W0i(h:p:=by cases e;exact f6J):p:=h
end
def It15(F:Fence)(n:Nat)(P:Program)(g:Nat)(lb:Array Value)(N:Nat)(enc:Nat->Value->Array Value)(Pr:Nat->Value->World->World->Prop)(Rd:World->Prop):Prop :=
 ∀(l:Nat) (J Jx:Nat->World->Prop) (W:World),(∀k A,J k A->Rd A)->(∀k A B,J k A->Below A.heap.size A B->J k B) ->
  (∀k v A B,k<N->J k A->Below A.heap.size A B->Pr k v A B->YieldAt F (n-1) P l (enc k v) B fun e W'=>(e=.returned (.bool true)/\J (k+1) W')\/(e=.returned (.bool false)/\Jx k W')) ->
  J 0 W->CallsIn F n P g (#[.func (.yield l) #[] #[]]++lb) W fun e W'=>(∃v,e=.returned v)/\(J N W'\/∃k,k<N/\Jx k W')
def x8V(z:Nat)(B W:World):Prop:=W.heap[z]?=B.heap[z]?/\W.heap[z+1]?=B.heap[z+1]?
def Out15(z:Nat)(I:World->Prop)(Ix:Code->World->Prop)(B:World):Exit->Act->World->Prop
 | .normal,_,W=>x8V z B W/\I W
 | .ret,_,W=>x8V z B W/\Ix .ret W
 | .exit id,_,W=>x8V z B W/\Ix (.exit id) W
 | .goto t,_,W=>x8V z B W/\Ix (.goto t) W
 | .panic _,_,_=>False
 | .outgrown,_,_=>False
theorem y2h{A B}(h:Bw A B) l o(S:l<A.heap.size):Below (A.putObj l o).heap.size (A.putObj l o) (B.putObj l o):=by
 have L:=h.size;refine⟨h.os,h.tape,h.output,by simp;exact L,fun k G=>?_⟩;by_cases e:k=l
 ·subst e;rw[World.putObj_heap_same f6J,World.putObj_heap_same S]
 ·rw[World.putObj_heap_other e,World.putObj_heap_other e];exact h.block k E9n
theorem z7H{F n P}{g:Operand}{ps:Array Tmp}{assign body Q a w}
  (R:F.round=none) (Z:1<=n) {gf:Nat} {lb} (hg:a.eval g=.func (.func gf) #[] lb) (aw:F.fn gf) (m:∀args w,(callFunc gf args).run P w=.ok (.enter gf args) w)
  {N:Nat} {enc:Nat->Value->Array Value} {L:Nat->Value->World->World->Prop} {X:World->Prop} (hit:It15 F (n-1) P gf lb N enc L X) (aF:∀k v,(enc k v).size=ps.size)
  (I:Nat->World->Prop) (Ix:Code->Nat->World->Prop) (hR:∀k A,I k A->X A) (hI:∀k A B,I k A->Bw A B->I k B)
  (ai:∀k A r o i,w.heap.size<=r->A.heap[r]?=some o->o.isCells=false->I k A->I k (A.putObj r i))
  (ae:∀c k A r o i,w.heap.size<=r->A.heap[r]?=some o->o.isCells=false->Ix c k A->Ix c k (A.putObj r i))
  (aB:∀k v A B r i,r<A.heap.size->L k v A B->L k v (A.putObj r i) (B.putObj r i))
  (h0:I 0 w) (a₁:Nat->Value->Act)
  (C:∀(l k:Nat) (v:Value) (W:World) (K:Act->World->Prop),K (a₁ k v) W ->
   assign.wpIn (F.inRound l) (n-1-1) P (Exit.then K (fun _ _ _=>False)) { tmps:=(ps.zip (enc k v)).foldl (fun t (p,v)=>t.setIfInBounds p v) a.tmps,defers:=[] } W)
  (D:∀(l k:Nat) (v:Value) (A B:World),k<N->l=w.heap.size+1->l<A.heap.size->I k A->Bw A B->L k v A B ->
   (∃r,B.heap[l]?=some (.loop r))->B.heap[w.heap.size]?=some (.deferred (some [])) ->
   body.wpIn (F.inRound l) (n-1-1) P (Out15 w.heap.size (I (k+1)) (fun c=>Ix c k) B) (a₁ k v) B)
  (af:∀W,I N W->W.heap[w.heap.size]?=some (.deferred (some []))->Q .normal { a with defers:={ target:=.collected w.heap.size,args:=#[] }::a.defers } W)
  (ag:∀c k W,k<N->Ix c k W->W.heap[w.heap.size]?=some (.deferred (some []))->c.wpIn F n P Q { a with defers:={ target:=.collected w.heap.size,args:=#[] }::a.defers } W) :
  (Code.rangeFunc g ps assign body).wpIn F n P Q a w:=by
 refine wpIn_rangeFunc ?_;intro fn aD;rw[R];obtain⟨rc,H⟩:∃rc:LoopState->Option Code->Loop,rc=fun st pe=>{ state:=st,pending:=pe,fn,tmps:=a.tmps,params:=ps,assign,body,defers:=w.heap.size }:=⟨_,rfl⟩;obtain⟨z,hz⟩:∃z,w.heap.size=z:=⟨_,rfl⟩;obtain⟨d,aj⟩:∃d,(w.alloc (.deferred (some []))).alloc (.loop (rc .ready none))=d:=⟨_,rfl⟩
 have aA:d.heap[z+1]?=some (.loop (rc .ready none)):=by
  rw[<- aj,<- hz];have:=World.alloc_heap_new (w.alloc (.deferred (some []))) (.loop (rc .ready none));rwa [World.size_alloc]at this
 have ar:d.heap[z]?=some (.deferred (some [])):=by
  rw[<- aj,<- hz];exact(Below.heap_alloc _ _ _ M7L).trans (World.alloc_heap_new w _)
 have az:I 0 d:=by
  refine hI 0 w d h0 ?_;rw[<- aj];exact((Below.refl _ w).alloc (l0r _) _).alloc M7L _
 have E:∀{A:World} {k:Nat} {o:Obj},A.heap[k]?=some o->k<A.heap.size:=fun h=>(Array.getElem?_eq_some_iff.1 h).1;rw[hz]at ai ae D af ag;refine⟨z+1,[{ target:=.collected z,args:=#[] }],d,{ target:=.fn (.func gf) lb,args:=#[.func (.yield (z+1)) #[] #[]] },d,gf,#[.func (.yield (z+1)) #[] #[]]++lb,d,?_,?_,?_,?_,fun _=>Z,?_⟩
 ·rw[<- aj,H,<- hz];exact run_enterLoop_outer _ _ _ _ _
 ·simp only[resolve,hg];simp[go_sem]
 ·intro f' am;simp[Target.leads]at am;subst am;exact aw
 ·simp[invoke,go_sem,m]
 ·refine(hit (z+1) (fun k W=>I k W/\W.heap[z+1]?=some (.loop (rc .ready none))/\W.heap[z]?=some (.deferred (some [])))
   (fun k W=>∃c,Ix c k W/\W.heap[z+1]?=some (.loop (rc .done (some c)))/\W.heap[z]?=some (.deferred (some []))) d (fun k A h=>hR k A h.1)
   (fun k A B h Y=>⟨hI k A B h.1 Y,(Y.block _ (E h.2.1)).trans h.2.1,(Y.block _ (E h.2.2)).trans h.2.2⟩) ?_ ⟨az,aA,ar⟩).mono ?_
  ·rintro k v A B hk ⟨hi,S,hd⟩ Y s;have T:=(Y.block _ (E S)).trans S;have aC:=(Y.block _ (E hd)).trans hd;have hy:=run_yield (P:=P) (args:=enc k v) T (by rw[H];exact aF k v);rw[H]at hy;refine⟨fn,_,assign,body,hy,roundIn_of_wpIn aD (C _ k v B _ ⟨_,run_beginRound T (by rw[H]),?_⟩)⟩;generalize hbz:(Obj.loop { rc .ready none with state:=.busy })=b;have x:(B.putObj (z+1) b).heap[z+1]?=some b:=World.putObj_heap_same (E T);have j:(B.putObj (z+1) b).heap[z]?=some (.deferred (some [])):=(World.putObj_heap_other f6J).trans aC;refine wpIn_mono (D (z+1) k v (A.putObj (z+1) b) (B.putObj (z+1) b) hk rfl (by simpa using E S) (ai k A (z+1) _ b f6J S rfl hi) (y2h Y _ _ (E S)) (aB k v A B (z+1) b (E S) s) ⟨_,by rw[<- hbz]at x ⊢;exact x⟩ j) ?_
   have fin:∀(J:Option Code) (q:World),x8V z (B.putObj (z+1) b) q ->
     (Instr.endRound (z+1) J).run P q=.ok (.bool J.isNone) (q.putObj (z+1) (.loop (rc (if J.isNone then .ready else .done) J))) /\
     q.heap[z+1]?=some b /\
     (q.putObj (z+1) (.loop (rc (if J.isNone then .ready else .done) J))).heap[z+1]?=some (.loop (rc (if J.isNone then .ready else .done) J)) /\
     (q.putObj (z+1) (.loop (rc (if J.isNone then .ready else .done) J))).heap[z]?=some (.deferred (some [])):=fun J q aq=>by
    have M:=aq.2.trans x;have ab:=M;rw[<- hbz]at ab;have:=run_endRound (P:=P) J ab;rw[H]at this ⊢;exact⟨this,M,World.putObj_heap_same (E M),(World.putObj_heap_other f6J).trans (aq.1.trans j)⟩
   have G:b.isCells=false:=(by rw[<- hbz];rfl);rintro e f q y
   cases e with
   | normal =>
    obtain⟨u,M,ab,U⟩:=fin none q y.1;exact⟨_,_,u,.inl ⟨rfl,ai _ _ _ _ _ f6J M G y.2,ab,U⟩⟩
   | ret =>
    obtain⟨u,M,ab,U⟩:=fin (some .ret) q y.1;exact⟨_,_,u,.inr ⟨rfl,.ret,ae _ _ _ _ _ _ f6J M G y.2,ab,U⟩⟩
   | exit id =>
    obtain⟨u,M,ab,U⟩:=fin (some (.exit id)) q y.1;exact⟨_,_,u,.inr ⟨rfl,.exit id,ae _ _ _ _ _ _ f6J M G y.2,ab,U⟩⟩
   | goto t =>
    obtain⟨u,M,ab,U⟩:=fin (some (.goto t)) q y.1;exact⟨_,_,u,.inr ⟨rfl,.goto t,ae _ _ _ _ _ _ f6J M G y.2,ab,U⟩⟩
   | panic ch=>exact y.elim
   | outgrown=>exact y.elim
  ·rintro e W2 ⟨⟨v,rfl⟩,(⟨hi,S,hd⟩ | ⟨k,hk,c,hi,S,hd⟩)⟩
   ·refine⟨none,_,n7r,?_⟩;rw[hz];exact af _ (ai N W2 (z+1) _ _ f6J S rfl hi) ((World.putObj_heap_other f6J).trans hd)
   ·refine⟨some c,_,n7r,?_⟩;rw[hz];exact ag c k _ hk (ae c k W2 (z+1) _ _ f6J S rfl hi) ((World.putObj_heap_other f6J).trans hd)
open Go.RowKit Go.Shelf
attribute [local go_sem] Oper.semAt_some
def y3A(A:World)(p:Nat)(fl:Int)(ys:Int->List Int):Prop:=∀c,Rune c->∀W,Below A.heap.size A W->Calls prog 166 #[.pointer (some ⟨p,0,none⟩),.int .i32 c,.int .i64 fl] W (x0h W (ys c))
structure Rd15(p:Nat)(fl:Int)(ys:Int->List Int)(bd bk bf:Nat)(kv:Value)(xs:List Int)(A:World):Prop where
 d:A.cell? ⟨bd,0,none⟩=some (.pointer (some ⟨p,0,none⟩))
 k:A.cell? ⟨bk,0,none⟩=some kv
 f:A.cell? ⟨bf,0,none⟩=some (.int .i64 fl)
 sk:Sk .i32 A kv xs
 one:y3A A p fl ys
abbrev z8G(xs:List Int)(k:Nat)(v:Value):Array Value:=#[.int .i32 (xs.getD k 0),v]
abbrev Pr15(ys:Int->List Int)(xs:List Int)(k:Nat)(v:Value)(A B:World):Prop:=Ok .i32 21 B A.heap.size v (ys (xs.getD k 0))
abbrev Lb15(bd bk bf:Nat):Array Value:=#[.pointer (some ⟨bd,0,none⟩),.pointer (some ⟨bk,0,none⟩),.pointer (some ⟨bf,0,none⟩)]
theorem y6r n(t:1<=n) p fl ys bd bk bf kv xs :
  It15 Fence.wide n prog 165 (Lb15 bd bk bf) xs.length (z8G xs) (Pr15 ys xs) (Rd15 p fl ys bd bk bf kv xs):=fun l J g W I N Z R=>by
 have D:=I 0 W R;have S:=D.d;have s:=D.k;have z:=D.sk.len;have L:=fun k A h=>O (I k A h);obtain⟨ao,cap,P,r,H⟩:=D.sk.shape;rw[P]at s;refine callsIn_of_wp func165 rfl trivial ?_ rfl;simp only[ntmps165,List.size_toArray,List.length_cons,List.length_nil,Nat.reduceAdd,Nat.reduceSub,Array.replicate_succ,Array.replicate_zero,List.push_toArray,List.append_toArray,List.nil_append,List.cons_append];gi_wp2;gi_loopw [11] (fun i wr=>∃k:Nat,i=.int .i64 k/\k<=xs.length/\J k wr) (fun i _=>xs.length-(intOf i).toNat)
 case atStart=>exact⟨0,rfl,Nat.zero_le _,R⟩
 case round =>
  obtain⟨k,rfl,G,X⟩:=hrel;by_cases E:k<xs.length
  ·have M:=V (L k wr X);obtain⟨b,off,m,C,_,_,F⟩:=M.sk.place f6J;rw[P]at C;simp only[Value.slice.injEq]at C;obtain⟨rfl,-,rfl⟩:=C;have S:=M.d;have y:=M.f;have j:=F k E
   have U:Rune (xs.getD k 0):=by
    have:=M.sk.1 (xs.getD k 0) N0c;exact v9c
   have K:=O (M.one (xs.getD k 0) U wr (b0r));have o:=fun v B=>O (Z k v wr B E X);clear M F U N Z L;unfold z8G Pr15 at o;generalize xs.getD k 0=c at *;gi_wp2_with (refine⟨trivial,?_⟩;gi_at_call 166;refine(callsIn_wide.2 (V K)).mono ?_);rintro e x ⟨v,rfl,ok,u⟩;obtain⟨fn,a,assign,body,hy,Y⟩:=V (o v x) u ok;gi_wp2;refine Y.mono ?_;rintro e q (⟨rfl,Q⟩ | ⟨rfl,T⟩)
   ·gi_wp2
    go_roundw
    case rel=>exact⟨k+1,g2A,f6J,Q⟩
    case measure=>exact g7T
   ·gi_wp2;refine bodyPost_ret (results_none rfl _ _ _) rfl ?_;exact⟨⟨_,rfl⟩,.inr ⟨k,E,T⟩⟩
  ·obtain rfl:k=xs.length:=f6J;gi_wp2;go_end0;exact⟨⟨_,rfl⟩,.inl X⟩
structure Pt15(B:Nat)(p:Nat)(fl:Int)(bd bk bf:Nat)(kv:Value)(xs:List Int)(A:World):Prop where
 d:A.cell? ⟨bd,0,none⟩=some (.pointer (some ⟨p,0,none⟩))
 k:A.cell? ⟨bk,0,none⟩=some kv
 f:A.cell? ⟨bf,0,none⟩=some (.int .i64 fl)
 ok:Ok .i32 21 A B kv xs
 bd0:B<=bd
 bk0:B<=bk
 bf0:B<=bf
theorem Pt15.rd{B p fl bd bk bf kv}{xs A}(h:Pt15 B p fl bd bk bf kv xs A){ys}(X:y3A A p fl ys):Rd15 p fl ys bd bk bf kv xs A:=⟨h.d,h.k,h.f,h.ok.sk,X⟩
def y3C(w:World)(p:Nat)(fl:Int)(xs:List Int)(e:Ending)(w':World):Prop :=
 ∃bd bk bf kv,e=.returned (.func (.func 165) #[] (Lb15 bd bk bf))/\Pt15 w.heap.size p fl bd bk bf kv xs w'/\Below w.heap.size w w'
theorem x3g{K e w B B'}{v zs}(h:Ok K e w B v zs)(m:B'<=B):Ok K e w B' v zs:=by
 exact h.lower m
theorem y2W p fl xv xs w(A:Sk .i32 w xv xs)(S:xs.length<=1000000000):Calls prog 114 #[.pointer (some ⟨p,0,none⟩),xv,.int .i64 fl] w (y3C w p fl xs):=by
 obtain⟨Q,T⟩:∃Q,w.alloc (.cells #[.pointer (some ⟨p,0,none⟩)] 23)=Q:=⟨_,rfl⟩;obtain⟨t,s⟩:∃t,Q.alloc (.cells #[.int .i64 fl] 3)=t:=⟨_,rfl⟩;have b1:Bw w Q:=(by rw[<- T];exact t9C);have u:Bw Q t:=(by rw[<- s];exact t9C);have K:=O (x2I xv xs t (A.below (bthen b1 u)) S);obtain⟨B,M,rfl,_,_⟩:=A.shape;go_enter func114,ntmps114;go_wp2_with fail;refine(V K).mono ?_;rintro e G ⟨L,rfl,ok,z⟩;have Y:=bthen (bthen b1 u) z;have E:Q.heap.size=w.heap.size+1:=(by rw[<- T];exact x0y _ _);have J:t.heap.size=Q.heap.size+1:=by rw[<- s];exact x0y _ _
 have y:G.cell? ⟨w.heap.size,0,none⟩=some (.pointer (some ⟨p,0,none⟩)):=by
  have h:Q.cell? ⟨w.heap.size,0,none⟩=some (.pointer (some ⟨p,0,none⟩)):=(by rw[<- T];exact M7L);have D:t.cell? ⟨w.heap.size,0,none⟩=some (.pointer (some ⟨p,0,none⟩)):=(by rw[u.cell (x0a h)];exact h);rw[z.cell (x0a D)];exact D
 have q:G.cell? ⟨Q.heap.size,0,none⟩=some (.int .i64 fl):=by
  have h:t.cell? ⟨Q.heap.size,0,none⟩=some (.int .i64 fl):=(by rw[<- s];exact M7L);rw[z.cell (x0a h)];exact h
 have U:Hid (y3C w p fl xs (.returned (.func (.func 165) #[] (Lb15 w.heap.size G.heap.size Q.heap.size))) (G.alloc (.cells #[L] 36))):=by
  have H:Bw G (G.alloc (.cells #[L] 36)):=(b0r).alloc (l0r _) _;have d:=z.size;refine⟨_,_,_,L,rfl,⟨?_,?_,?_,?_,l0r _,f6J,f6J⟩,bthen Y H⟩
  ·rw[H.cell (x0a y)];exact y
  ·simp
  ·rw[H.cell (x0a q)];exact q
  ·exact(x3g ok f6J).below H
 obtain⟨I,F,P,_,_⟩:=ok.sk.shape;subst P;rw[E]at U;exact s1g
open Go.RowKit Go.Shelf
attribute [local go_sem] Oper.semAt_some
def x0G(ys:Int->List Int)(xs:List Int):List Int:=(xs.map ys).flatten
theorem x8s ys a b:x0G ys (a++b)=x0G ys a++x0G ys b:=by simp[x0G]
theorem y2D ys(xs:List Int){k}(G:k<xs.length):x0G ys (xs.take (k+1))=x0G ys (xs.take k)++ys (xs.getD k 0):=by
 rw[List.take_add_one,x8s,List.getElem?_eq_getElem G];simp[x0G,List.getD,List.getElem?_eq_getElem G]
theorem y8Q ys xs k:(x0G ys (xs.take k)).length<=(x0G ys xs).length:=by
 conv=>rhs;rw[<- List.take_append_drop k xs,x8s,List.length_append]
 omega
structure Mi15(W0:World)(Ba:Nat)(zs:List Int)(A:World):Prop where
 box:∃v,Boxed A Ba 36 v/\Ok .i32 21 A W0.heap.size v zs
 gb:W0.grownBy A (some Ba)
theorem z9L{X A B:World}{row}(h:X.grownBy A row)(Y:Bw A B):X.grownBy B row:=⟨Y.os.trans h.os,Y.tape.trans h.tape,Y.output.trans h.output,Nat.le_trans h.size Y.size,fun k G F=>by rw[Y.block k I2e];exact g5I⟩
theorem gbP15{X A:World}{row}(h:X.grownBy A row){r} o(hr:X.heap.size<=r):X.grownBy (A.putObj r o) row:=⟨h.os,h.tape,h.output,by simpa using h.size,fun k G F=>by rw[World.putObj_heap_other f6J];exact g5I⟩
theorem q0o{A B v zs}(h:Ok .i32 21 A B v zs){r o} o'(X:A.heap[r]?=some o)(I:o.isCells=false):Ok .i32 21 (A.putObj r o') B v zs:=⟨h.1,h.2.1,ownsRow_putObj h.2.2 o' X I⟩
theorem okF15{B m v zs}(h:Ok .i32 21 B m v zs){r} o(hr:r<m):Ok .i32 21 (B.putObj r o) m v zs:=⟨h.1,h.2.1,h.2.2.kept (grownBy_putObj' B r o) (by
 rcases h.2.2.2 with⟨rfl,_⟩ | ⟨g,cap,Q,rfl,Y,_⟩
 ·exact U3y
 ·exact .inr (fun e=>p5F))⟩
theorem x6v{A b t v}(h:Boxed A b t v){r o} o'(X:A.heap[r]?=some o)(I:o.isCells=false):Boxed (A.putObj r o') b t v:=by
 refine h.kept (grownBy_putObj' A r o') (fun e=>?_);obtain rfl:b=r:=N5i;rw[show A.heap[b]?=_ from h]at X;cases X;cases I
theorem Mi15.below{W0 Ba zs A B}(h:Mi15 W0 Ba zs A)(Y:Bw A B):Mi15 W0 Ba zs B:=by
 obtain⟨⟨v,Z,D⟩,J⟩:=h;exact⟨⟨v,(Y.block _ Z.lt).trans Z,D.below Y⟩,z9L J Y⟩
theorem Mi15.put{W0 Ba zs A}(h:Mi15 W0 Ba zs A){r o} o'(hr:W0.heap.size<=r)(X:A.heap[r]?=some o)(I:o.isCells=false):Mi15 W0 Ba zs (A.putObj r o'):=by
 obtain⟨⟨v,Z,D⟩,J⟩:=h;exact⟨⟨v,x6v Z o' X I,q0o D o' X I⟩,gbP15 J o' hr⟩
theorem Pt15.grown{B p fl bd bk bf kv}{xs W0 A}(h:Pt15 B p fl bd bk bf kv xs W0){Ba}(C:W0.grownBy A (some Ba))(m:Ba<B):Pt15 B p fl bd bk bf kv xs A:=by
 have Z:=h.bd0;have D:=h.bk0;have J:=h.bf0;refine⟨C.cell h.d P8P,C.cell h.k P8P,C.cell h.f P8P,⟨h.ok.1,h.ok.2.1,h.ok.2.2.kept C ?_⟩,Z,D,J⟩;rcases h.ok.2.2.2 with⟨rfl,_⟩ | ⟨g,M,Q,rfl,Y,_⟩
 ·exact U3y
 ·exact .inr (fun e=>p5F)
theorem y4Z{F n P w}{ops rest o a}{Q}(T:o.guard=none)(s x:Operand) t
  (X:o.op=.call { callee:=.builtin .append,args:=#[s,x],argTypes:=#[t,t] }) base e (i:TypeInfo) size (p:P.underlying t=some (.slice e)) (hi:P.info? e=some i)
  v m xs (L:a.eval s=v) (C:w.ownsRow base e size v m xs) (A:a.eval x=.slice none 0 0)
  (h:wpListIn F n P ops Q rest (a.put o.dst v) w):wpListIn F n P ops Q (o::rest) a w:=by
 refine wpListIn_plain T fun K hK=>?_;have B:=run_append_owned_none (P:=P) (w:=w) base t o.type e i size p hi v m xs C;unfold Oper.wpIn;refine⟨?_,?_⟩
 ·simp[Oper.about,X,resolve,Target.leads,Sem.run_pure]
 ·rw[Oper.semAt_plain F _ _ (by rw[X];exact W3W)];simp[execOp,X,resolve,invoke,builtin,L,A,B,Result.andThen];exact hK _ _ h
theorem z2c{F n w ops}{rest o a Q}(T:o.guard=none)(s x:Operand)
  (X:o.op=.call { callee:=.builtin .append,args:=#[s,x],argTypes:=#[36,36] }) B v u xs ys (L:a.eval s=v) (A:a.eval x=u)
  (N:Ok .i32 21 w B v xs) (W:Sk .i32 w u ys) (S:xs.length+ys.length<=1000000000) (m:B<=w.heap.size)
  (h:∀v' w',Ok .i32 21 w' B v' (xs++ys)->w.grownBy w' v.ownBlock->wpListIn F n prog ops Q rest (a.put o.dst v') w'):wpListIn F n prog ops Q (o::rest) a w:=by
 obtain⟨r,hi,d,Y,R⟩:=info_parts y2H;rcases W.2.src with⟨E,rfl⟩ | ⟨C,M,g,q⟩
 ·obtain rfl:ys=[]:=f3J;refine y4Z T s x 36 X B 21 r 1 underlying36 hi v _ _ L N.row A ?_;exact I3X
 ·rw[List.length_map]at g;subst g;refine wpListIn_append_own w T s x 36 X B 21 r (.int .i32 0) 1 4 underlying36 hi d Y R rfl e8P v _ _ L N.row C ys.length M (ys.map (Value.int .i32)) A M7N q (x0O .i32 ys) T7X f6J m ?_;exact G0D
theorem y1F{A B v zs}(h:Ok .i32 21 A B v zs){r o}(X:A.heap[r]?=some o)(I:o.isCells=false):some r≠v.ownBlock:=by
 rcases h.2.2.2 with⟨rfl,_⟩ | ⟨g,M,Q,rfl,Y,T,_⟩
 ·exact V3I
 ·intro e;obtain rfl:r=g:=G5X;rw[T]at X;cases X;cases I
theorem z3c{X B w1:World}{row row2}(h:X.grownBy B row)(g:B.grownBy w1 row2)(hr:∀k,row2=some k->X.heap.size<=k):X.grownBy w1 row :=
 ⟨g.os.trans h.os,g.tape.trans h.tape,g.output.trans h.output,Nat.le_trans h.size g.size,fun k G F=>by rw[g.block k I2e (fun e=>by have:=hr k e.symm;exact f6J)];exact g5I⟩
theorem z3e{X w1:World}{b}(h:X.grownBy w1 (some b)) v:X.grownBy (w1.setCell ⟨b,0,none⟩ v) (some b):=by
 have g:=grownBy_setCell' w1 b v;exact⟨g.os.trans h.os,g.tape.trans h.tape,g.output.trans h.output,Nat.le_trans h.size g.size,fun k G F=>by rw[g.block k I2e F];exact g5I⟩
theorem x7B{z B W}(h:x8V z B W){b} v(Z:b≠z)(D:b≠z+1):x8V z B (W.setCell ⟨b,0,none⟩ v) :=
 ⟨(Below.heap_setCell _ _ _ _ P8P).trans h.1,(Below.heap_setCell _ _ _ _ P8P).trans h.2⟩
def y3z(w:World)(zs:List Int)(e:Ending)(w':World):Prop :=
 Below w.heap.size w w'/\((zs.length<=65536/\∃v,e=.returned (.tuple #[v,.int .i64 0])/\Ok .i32 21 w' w.heap.size v zs)\/(65536<zs.length/\e=.returned (.tuple #[.slice none 0 0,.int .i64 2])))
theorem fin15{w W z m u zs}(H:Ok .i32 21 W m u zs)(R:Bw w W)(Z:Boxed W w.heap.size 36 (.slice none 0 0))(D:Boxed W (w.heap.size+1) 29 (.int .i64 0))
  (hK:((W.setCell ⟨w.heap.size,0,none⟩ u).setCell ⟨w.heap.size+1,0,none⟩ (.int .i64 0)).heap[z]?=some (.deferred (some []))) (T:w.heap.size+2<=m/\w.heap.size+2<=z) (S:zs.length<=65536) :
  (((W.setCell ⟨w.heap.size,0,none⟩ u).setCell ⟨w.heap.size+1,0,none⟩ (.int .i64 0)).putObj z (.deferred none)).cell? ⟨w.heap.size,0,none⟩=some u /\
  (((W.setCell ⟨w.heap.size,0,none⟩ u).setCell ⟨w.heap.size+1,0,none⟩ (.int .i64 0)).putObj z (.deferred none)).cell? ⟨w.heap.size+1,0,none⟩=some (.int .i64 0) /\
  y3z w zs (.returned (.tuple #[u,.int .i64 0])) (((W.setCell ⟨w.heap.size,0,none⟩ u).setCell ⟨w.heap.size+1,0,none⟩ (.int .i64 0)).putObj z (.deferred none)):=by
 have N:∀b,b<m->some b≠u.ownBlock:=fun b Y e=>(by have:=(H.row.lt b e.symm).1;exact f6J);have M:Ok .i32 21 (W.setCell ⟨w.heap.size,0,none⟩ u) m u zs:=⟨H.1,H.2.1,H.2.2.kept (grownBy_setCell' W _ _) (.inr (N _ f6J).symm)⟩;have o:Ok .i32 21 ((W.setCell ⟨w.heap.size,0,none⟩ u).setCell ⟨w.heap.size+1,0,none⟩ (.int .i64 0)) m u zs:=⟨H.1,H.2.1,M.2.2.kept (grownBy_setCell' _ _ _) (.inr (N _ f6J).symm)⟩;have A:=(R.setCell (p:=⟨w.heap.size,0,none⟩) (l0r _) u).setCell (p:=⟨w.heap.size+1,0,none⟩) M7L (.int .i64 0);refine⟨(x6v ((Z.set u).other f6J _) _ hK rfl).cell,(x6v ((D.other f6J _).set _) _ hK rfl).cell,?_,.inl ⟨S,u,rfl,x3g (q0o o _ hK rfl) f6J⟩⟩;exact A.trans ((b0r).grown (grownBy_putObj' _ z _) (by have:=(Array.getElem?_eq_some_iff.1 hK).1;exact f6J) (fun k e=>W0i))
theorem y9L p fl ys xv xs w(hx:Sk .i32 w xv xs)(hl:xs.length<=1000000000)(ho:y3A w p fl ys) :
  Calls prog 67 #[.pointer (some ⟨p,0,none⟩),xv,.int .i64 fl] w (y3z w (x0G ys xs)):=by
 obtain⟨Q,T⟩:∃Q,w.alloc (.cells #[.slice none 0 0] 36)=Q:=⟨_,rfl⟩;obtain⟨t,s⟩:∃t,Q.alloc (.cells #[.int .i64 0] 29)=t:=⟨_,rfl⟩;obtain⟨G,M⟩:∃G,t.alloc (.cells #[.slice none 0 0] 36)=G:=⟨_,rfl⟩;have s1:Q.heap.size=w.heap.size+1:=(by rw[<- T];exact x0y _ _);have s2:t.heap.size=w.heap.size+2:=(by rw[<- s,x0y,s1]);have s3:G.heap.size=w.heap.size+3:=by rw[<- M,x0y,s2]
 have b3:Bw w G:=by
  rw[<- M,<- s,<- T];exact r5O
 have g:Boxed G w.heap.size 36 (.slice none 0 0):=(by rw[<- M,<- s,<- T];exact((Boxed.new w _ _).alloc _).alloc _);have z:Boxed G (w.heap.size+1) 29 (.int .i64 0):=(by rw[<- M,<- s,<- s1];exact(Boxed.new Q _ _).alloc _);have N:Boxed G (w.heap.size+2) 36 (.slice none 0 0):=(by rw[<- M,<- s2];exact Boxed.new t _ _);have K:=O (y2W p fl xv xs G (hx.below b3) hl);obtain⟨ao,ai,rfl,_,_⟩:=hx.shape;refine(callsIn_wide (n:=3)).1 ?_;refine callsIn_of_wp_marks func67 rfl trivial ?_ rfl;simp only[ntmps67,List.size_toArray,List.length_cons,List.length_nil,Nat.reduceAdd,Nat.reduceSub,Array.replicate_succ,Array.replicate_zero,List.push_toArray,List.append_toArray,List.nil_append,List.cons_append];gi_wp2_with (refine⟨trivial,?_⟩;gi_at_call 114;refine(callsIn_wide.2 (V K)).mono ?_);rintro e X ⟨m,E,S,kv,rfl,pt,b0⟩;gi_wp2;have aP:=b0.size;have bW:Bw w X:=bthen b3 b0;have y1:Boxed X w.heap.size 36 (.slice none 0 0):=(b0.block _ g.lt).trans g;have a:Boxed X (w.heap.size+1) 29 (.int .i64 0):=(b0.block _ z.lt).trans z;have y3:Boxed X (w.heap.size+2) 36 (.slice none 0 0):=(b0.block _ N.lt).trans N;have f:∀A,X.grownBy A (some (w.heap.size+2))->Bw w A:=fun A C=>⟨C.os.trans bW.os,C.tape.trans bW.tape,C.output.trans bW.output,Nat.le_trans bW.size C.size,fun k hk=>(C.block k f6J P8P).trans (bW.block k hk)⟩;have aB:∀A,X.grownBy A (some (w.heap.size+2))->Rd15 p fl ys m E S kv xs A:=fun A C=>(pt.grown C f6J).rd (fun c I W hW=>ho c I W ((f A C).trans (hW.mono (f A C).size)))
 refine z7H (F:=Fence.wide) rfl f6J (gf:=165) (lb:=Lb15 m E S) rfl trivial (enters_of func165 f4A rfl) (y6r (3-1) f6J p fl ys m E S kv xs) (fun _ _=>rfl)
  (fun k A=>Mi15 X (w.heap.size+2) (x0G ys (xs.take k)) A/\(x0G ys (xs.take k)).length<=65536)
  (fun c _ A=>c=.ret/\65536<(x0G ys xs).length/\Boxed A w.heap.size 36 (.slice none 0 0)/\Boxed A (w.heap.size+1) 29 (.int .i64 2)/\Bw w A/\w.heap.size<A.heap.size)
  (fun k A h=>aB A h.1.gb) (fun k A B h Y=>⟨h.1.below Y,h.2⟩) (fun k A r o i hr ho I h=>⟨h.1.put i hr ho I,h.2⟩)
  (fun c k A r o i hr ho I h=>⟨h.1,h.2.1,x6v h.2.2.1 i ho I,x6v h.2.2.2.1 i ho I,h.2.2.2.2.1.trans ((Below.refl _ A).grown (grownBy_putObj' A r i) f6J (fun k e=>W0i)),by simpa using h.2.2.2.2.2⟩)
  (fun k v A B r i hr h=>by have:=okF15 h i hr;simpa[Pr15]using this)
  ⟨⟨⟨_,y3,Ok.nil _ _ _ _⟩,World.grownBy.refl X _⟩,by simp[x0G]⟩
  (fun k v=>{ tmps:=#[.pointer (some ⟨p,0,none⟩),.slice ao xs.length ai,.int .i64 fl,undef,undef,undef,.pointer (some ⟨w.heap.size,0,none⟩),.pointer (some ⟨w.heap.size+1,0,none⟩),.pointer (some ⟨w.heap.size+2,0,none⟩),undef,v,.pointer (some ⟨p,0,none⟩),.bool false,.pointer (some ⟨p,0,none⟩),.slice ao xs.length ai,.int .i64 fl,.func (.func 165) #[] (Lb15 m E S),.int .i32 (xs.getD k 0),v,undef,undef,undef,undef,undef,undef,undef,undef,undef,undef],defers:=[] }) ?assign ?body ?done ?stop
 case assign =>
  intro l k v W K hK;gi_wp2;exact hK
 case body =>
  rintro l k v A B hk rfl aM ⟨⟨⟨u,hu,H⟩,C⟩,d⟩ Y hp ⟨rr,ab⟩ ae;have af:=y2D ys xs hk;have aF:=y8Q ys xs (k+1);have J:Boxed B (w.heap.size+2) 36 u:=(Y.block _ hu.lt).trans hu;have R:=H.below Y;have L:=z9L C Y;have U:Sk .i32 B v (ys (xs.getD k 0)):=Ok.sk hp;have y:Boxed B w.heap.size 36 (.slice none 0 0):=(L.block _ y1.lt M7M).trans y1;have q:Boxed B (w.heap.size+1) 29 (.int .i64 0):=(L.block _ a.lt M7M).trans a;have aO:=U.len;obtain⟨au,cu,b,_,_⟩:=R.sk.shape;obtain⟨av,cv,aJ,_,_⟩:=U.shape;subst b aJ;have HP:=O U;have x:=O R;have HG:=O L;have HW:=O (f B L);have aL:=(f B L).size;have aI:=L.size;have aN:∀k,(Value.slice au (x0G ys (xs.take k)).length cu).ownBlock=some k->True:=fun _ _=>trivial;have HX:=O y;have HY:=O q;have HU:=O J;have x8:=J.cell;have f8:=J.frozen;have x6:=y.cell;have f6:=y.frozen;have x7:=q.cell;have f7:=q.frozen;generalize ys (xs.getD k 0)=zv at *;by_cases aK:65536<(x0G ys (xs.take k)).length+zv.length
  ·have aC:(65536:Int)<((x0G ys (xs.take k)).length:Int)+(zv.length:Int):=f6J;gi_wp2;refine⟨x7B (x7B ⟨rfl,rfl⟩ _ f6J f6J) _ f6J f6J,rfl,?_,((V HX).set _).other f6J _,((V HY).other f6J _).set _,((V HW).setCell (p:=⟨w.heap.size,0,none⟩) (l0r _) _).setCell (p:=⟨w.heap.size+1,0,none⟩) M7M _,?_⟩
   ·rw[af,List.length_append]at aF;omega
   ·have Z:=(grownBy_setCell' (B.setCell ⟨w.heap.size,0,none⟩ (.slice none 0 0)) (w.heap.size+1) (.int .i64 2)).size;have h2:=(grownBy_setCell' B w.heap.size (.slice none 0 0)).size;have h3:=(V HX).lt;omega
  ·have aC:((x0G ys (xs.take k)).length:Int)+(zv.length:Int)<=65536:=f6J;have am:∀j,(Value.slice au (x0G ys (xs.take k)).length cu).ownBlock=some j->X.heap.size<=j:=fun j hj=>((V x).row.lt j hj).1;have aG:=y1F (V x) ab rfl;have aH:=y1F (V x) ae rfl;have HL:=O am;have ar:=O aG;have aw:=O aH;gi_wp2_with (gi_at_builtin;refine z2c rfl (.tmp 25) (.tmp 26) rfl X.heap.size _ _ _ _ rfl rfl (V x) (V HP) f6J aI ?_);intro v' Q D g';have ag:Boxed Q (w.heap.size+2) 36 (.slice au (x0G ys (xs.take k)).length cu):=(V HU).kept g' (fun e=>by have:=V HL _ e.symm;exact f6J);have q1:=ag.cell;have q2:=ag.frozen;have aD:=z3c (V HG) g' (V HL);have hT:x8V X.heap.size B Q:=⟨g'.block _ (Array.getElem?_eq_some_iff.1 ae).1 (V aw),g'.block _ (Array.getElem?_eq_some_iff.1 ab).1 (V ar)⟩
   have hF:x8V X.heap.size B (Q.setCell ⟨w.heap.size+2,0,none⟩ v')/\Mi15 X (w.heap.size+2) (x0G ys (xs.take (k+1))) (Q.setCell ⟨w.heap.size+2,0,none⟩ v')/\(x0G ys (xs.take (k+1))).length<=65536:=by
    refine⟨x7B hT _ f6J f6J,⟨⟨v',ag.set v',?_⟩,z3e aD _⟩,by rw[af,List.length_append];exact f6J⟩;rw[af];refine⟨D.1,D.2.1,D.2.2.kept (grownBy_setCell' Q _ v') ?_⟩;exact .inr (fun e=>by have:=(D.row.lt _ e).1;exact f6J)
   have HF:=O hF;obtain⟨a',c',aq,_,_⟩:=D.sk.shape;rw[List.length_append]at aq;subst aq;gi_wp2;exact V HF
 case done =>
  rintro W ⟨⟨⟨u,hu,H⟩,C⟩,d⟩ hK;rw[List.take_length]at H d;have y:Boxed W w.heap.size 36 (.slice none 0 0):=(C.block _ y1.lt M7M).trans y1;have q:Boxed W (w.heap.size+1) 29 (.int .i64 0):=(C.block _ a.lt M7M).trans a;have x8:=hu.cell;have x6:=y.cell;have f6:=y.frozen;have x7:=q.cell;have f7:=q.frozen;obtain⟨au,cu,b,_,_⟩:=H.sk.shape;subst b;have x:=O H;have az:=O y;have aA:=O q;have HW:=O (f W C)
  have P:((W.setCell ⟨w.heap.size,0,none⟩ (.slice au (x0G ys xs).length cu)).setCell ⟨w.heap.size+1,0,none⟩ (.int .i64 0)).heap[X.heap.size]?=some (.deferred (some [])):=by
   rw[Below.heap_setCell _ _ _ _ P8P,Below.heap_setCell _ _ _ _ P8P];exact hK
  have aj:=fin15 (V x) (V HW) (V az) (V aA) P f6J d;gi_wp2;refine⟨M7M,.inl ⟨_,_,rfl,run_takeDeferred P,?_⟩⟩;obtain⟨Z,h2,h3⟩:=aj;exact⟨_,by simp[results,Tryz.results67,go_sem,Z,h2],h3⟩
 case stop =>
  rintro c k W hk ⟨rfl,Z,h2,h3,h4,h5⟩ hK;have g1:=(x6v h2 (.deferred none) hK rfl).cell;have g2:=(x6v h3 (.deferred none) hK rfl).cell;have g3:Bw w (W.putObj X.heap.size (.deferred none)):=h4.trans ((Below.refl _ W).grown (grownBy_putObj' W _ _) f6J (fun k e=>W0i));gi_wp2;refine⟨M7M,.inl ⟨_,_,rfl,run_takeDeferred hK,?_⟩⟩;exact⟨_,by simp[results,Tryz.results67,go_sem,g1,g2],g3,.inr ⟨Z,rfl⟩⟩
