import Derived.RangeFuncNested
import Derived.RangeFuncBound
import Derived.RangeFuncCalls
import Derived.RangeFuncLeaves
import Derived.Test.YtbmckadcjdedcaaGreatDoorF4
import Derived.Shelf.Abstract
import Derived.Shelf.RegionOpen
import Derived.WalkKit
import Derived.OwnWalkIn
import Derived.TacticsInMore
import Derived.LoopNIn
import Derived.LoopIn
import Derived.Test.YtbmckadcjdedcaaGreatDoorF5
set_option maxHeartbeats 2000000
set_option maxRecDepth 100000
namespace Go.Proofs.YtbmckadcjdedcaaGreatDoor
open Go.Proofs.Tryz
open Go.RowKit
section
variable{p:Prop}
theorem W3W(h:p:=by intro c I;cases I):p:=h
theorem G3n(h:p:=by have:=run_endLoop (P:=P) S (by rw[q];exact M7L);rw[q]at this;exact this):p:=h
theorem p5F(h:p:=by simp[Value.ownBlock]at e;exact f6J):p:=h
theorem W0i(h:p:=by cases e;exact f6J):p:=h
end
def It15(F:Fence)(n:Nat)(P:Program)(g:Nat)(lb:Array Value)(N:Nat)(enc:Nat->Value->Array Value)(Pr:Nat->Value->World->World->Prop)(Rd:World->Prop):Prop :=
 ∀(l:Nat) (J Jx:Nat->World->Prop) (W:World),(∀k A,J k A->Rd A)->(∀k A B,J k A->Below A.heap.size A B->J k B) ->
  (∀k v A B,k<N->J k A->Below A.heap.size A B->Pr k v A B->YieldAt F (n-1) P l (enc k v) B fun e W'=>(e=.returned (.bool true)/\J (k+1) W')\/(e=.returned (.bool false)/\Jx k W')) ->
  J 0 W->CallsIn F n P g (#[.func (.yield l) #[] #[]]++lb) W fun e W'=>(∃v,e=.returned v)/\(J N W'\/∃k,k<N/\Jx k W')
def x8D(z:Nat)(B W:World):Prop:=W.heap[z]?=B.heap[z]?/\W.heap[z+1]?=B.heap[z+1]?
def Out15(z:Nat)(I:World->Prop)(Ix:Code->World->Prop)(B:World):Exit->Act->World->Prop
 | .normal,_,W=>x8D z B W/\I W
 | .ret,_,W=>x8D z B W/\Ix .ret W
 | .exit id,_,W=>x8D z B W/\Ix (.exit id) W
 | .goto t,_,W=>x8D z B W/\Ix (.goto t) W
 | .panic _,_,_=>False
 | .outgrown,_,_=>False
theorem y1R{A B}(h:Bw A B) l o(S:l<A.heap.size):Below (A.putObj l o).heap.size (A.putObj l o) (B.putObj l o):=by
 have U:=h.size;refine⟨h.os,h.tape,h.output,by simp;exact U,fun k G=>?_⟩;by_cases e:k=l
 ·subst e;rw[World.putObj_heap_same f6J,World.putObj_heap_same S]
 ·rw[World.putObj_heap_other e,World.putObj_heap_other e];exact h.block k E9n
theorem z6y{F n P}{g:Operand}{ps:Array Tmp}{assign body Q a w}
  (i:F.round=none) (Z:1<=n) {gf:Nat} {lb} (hg:a.eval g=.func (.func gf) #[] lb) (ar:F.fn gf) (eg:∀args w,(callFunc gf args).run P w=.ok (.enter gf args) w)
  {N:Nat} {enc:Nat->Value->Array Value} {L:Nat->Value->World->World->Prop} {Rd:World->Prop} (hit:It15 F (n-1) P gf lb N enc L Rd) (X:∀k v,(enc k v).size=ps.size)
  (I:Nat->World->Prop) (Ix:Code->Nat->World->Prop) (hR:∀k A,I k A->Rd A) (hI:∀k A B,I k A->Bw A B->I k B)
  (J:∀k A r o s,w.heap.size<=r->A.heap[r]?=some o->o.isCells=false->I k A->I k (A.putObj r s))
  (y:∀c k A r o s,w.heap.size<=r->A.heap[r]?=some o->o.isCells=false->Ix c k A->Ix c k (A.putObj r s))
  (T:∀k v A B r s,r<A.heap.size->L k v A B->L k v (A.putObj r s) (B.putObj r s))
  (h0:I 0 w) (a₁:Nat->Value->Act)
  (ae:∀(l k:Nat) (v:Value) (W:World) (K:Act->World->Prop),K (a₁ k v) W ->
   assign.wpIn (F.inRound l) (n-1-1) P (Exit.then K (fun _ _ _=>False)) { tmps:=(ps.zip (enc k v)).foldl (fun t (p,v)=>t.setIfInBounds p v) a.tmps,defers:=[] } W)
  (D:∀(l k:Nat) (v:Value) (A B:World),k<N->l=w.heap.size+1->l<A.heap.size->I k A->Bw A B->L k v A B ->
   (∃r,B.heap[l]?=some (.loop r))->B.heap[w.heap.size]?=some (.deferred (some [])) ->
   body.wpIn (F.inRound l) (n-1-1) P (Out15 w.heap.size (I (k+1)) (fun c=>Ix c k) B) (a₁ k v) B)
  (af:∀W,I N W->W.heap[w.heap.size]?=some (.deferred (some []))->Q .normal { a with defers:={ target:=.collected w.heap.size,args:=#[] }::a.defers } W)
  (ag:∀c k W,k<N->Ix c k W->W.heap[w.heap.size]?=some (.deferred (some []))->c.wpIn F n P Q { a with defers:={ target:=.collected w.heap.size,args:=#[] }::a.defers } W) :
  (Code.rangeFunc g ps assign body).wpIn F n P Q a w:=by
 refine wpIn_rangeFunc ?_;intro fn az;rw[i];obtain⟨rc,q⟩:∃rc:LoopState->Option Code->Loop,rc=fun st pe=>{ state:=st,pending:=pe,fn,tmps:=a.tmps,params:=ps,assign,body,defers:=w.heap.size }:=⟨_,rfl⟩;obtain⟨z,hz⟩:∃z,w.heap.size=z:=⟨_,rfl⟩;obtain⟨f,ai⟩:∃f,(w.alloc (.deferred (some []))).alloc (.loop (rc .ready none))=f:=⟨_,rfl⟩
 have ay:f.heap[z+1]?=some (.loop (rc .ready none)):=by
  rw[<- ai,<- hz];have:=World.alloc_heap_new (w.alloc (.deferred (some []))) (.loop (rc .ready none));rwa [World.size_alloc]at this
 have aq:f.heap[z]?=some (.deferred (some [])):=by
  rw[<- ai,<- hz];exact(Below.heap_alloc _ _ _ M7L).trans (World.alloc_heap_new w _)
 have aw:I 0 f:=by
  refine hI 0 w f h0 ?_;rw[<- ai];exact((Below.refl _ w).alloc (l0r _) _).alloc M7L _
 have H:∀{A:World} {k:Nat} {o:Obj},A.heap[k]?=some o->k<A.heap.size:=fun h=>(Array.getElem?_eq_some_iff.1 h).1;rw[hz]at J y D af ag;refine⟨z+1,[{ target:=.collected z,args:=#[] }],f,{ target:=.fn (.func gf) lb,args:=#[.func (.yield (z+1)) #[] #[]] },f,gf,#[.func (.yield (z+1)) #[] #[]]++lb,f,?_,?_,?_,?_,fun _=>Z,?_⟩
 ·rw[<- ai,q,<- hz];exact run_enterLoop_outer _ _ _ _ _
 ·simp only[resolve,hg];simp[go_sem]
 ·intro f' G;simp[Target.leads]at G;subst G;exact ar
 ·simp[invoke,go_sem,eg]
 ·refine(hit (z+1) (fun k W=>I k W/\W.heap[z+1]?=some (.loop (rc .ready none))/\W.heap[z]?=some (.deferred (some [])))
   (fun k W=>∃c,Ix c k W/\W.heap[z+1]?=some (.loop (rc .done (some c)))/\W.heap[z]?=some (.deferred (some []))) f (fun k A h=>hR k A h.1)
   (fun k A B h Y=>⟨hI k A B h.1 Y,(Y.block _ (H h.2.1)).trans h.2.1,(Y.block _ (H h.2.2)).trans h.2.2⟩) ?_ ⟨aw,ay,aq⟩).mono ?_
  ·rintro k v A B hk ⟨hi,S,hd⟩ Y hp;have M:=(Y.block _ (H S)).trans S;have U:=(Y.block _ (H hd)).trans hd;have hy:=run_yield (P:=P) (args:=enc k v) M (by rw[q];exact X k v);rw[q]at hy;refine⟨fn,_,assign,body,hy,roundIn_of_wpIn az (ae _ k v B _ ⟨_,run_beginRound M (by rw[q]),?_⟩)⟩;generalize hbz:(Obj.loop { rc .ready none with state:=.busy })=C;have d:(B.putObj (z+1) C).heap[z+1]?=some C:=World.putObj_heap_same (H M);have am:(B.putObj (z+1) C).heap[z]?=some (.deferred (some [])):=(World.putObj_heap_other f6J).trans U;refine wpIn_mono (D (z+1) k v (A.putObj (z+1) C) (B.putObj (z+1) C) hk rfl (by simpa using H S) (J k A (z+1) _ C f6J S rfl hi) (y1R Y _ _ (H S)) (T k v A B (z+1) C (H S) hp) ⟨_,by rw[<- hbz]at d ⊢;exact d⟩ am) ?_
   have fin:∀(E:Option Code) (x:World),x8D z (B.putObj (z+1) C) x ->
     (Instr.endRound (z+1) E).run P x=.ok (.bool E.isNone) (x.putObj (z+1) (.loop (rc (if E.isNone then .ready else .done) E))) /\
     x.heap[z+1]?=some C /\
     (x.putObj (z+1) (.loop (rc (if E.isNone then .ready else .done) E))).heap[z+1]?=some (.loop (rc (if E.isNone then .ready else .done) E)) /\
     (x.putObj (z+1) (.loop (rc (if E.isNone then .ready else .done) E))).heap[z]?=some (.deferred (some [])):=fun E x b=>by
    have R:=b.2.trans d;have ab:=R;rw[<- hbz]at ab;have:=run_endRound (P:=P) E ab;rw[q]at this ⊢;exact⟨this,R,World.putObj_heap_same (H R),(World.putObj_heap_other f6J).trans (b.1.trans am)⟩
   have aj:C.isCells=false:=(by rw[<- hbz];rfl);rintro e a3 x m
   cases e with
   | normal =>
    obtain⟨u,R,ab,j⟩:=fin none x m.1;exact⟨_,_,u,.inl ⟨rfl,J _ _ _ _ _ f6J R aj m.2,ab,j⟩⟩
   | ret =>
    obtain⟨u,R,ab,j⟩:=fin (some .ret) x m.1;exact⟨_,_,u,.inr ⟨rfl,.ret,y _ _ _ _ _ _ f6J R aj m.2,ab,j⟩⟩
   | exit id =>
    obtain⟨u,R,ab,j⟩:=fin (some (.exit id)) x m.1;exact⟨_,_,u,.inr ⟨rfl,.exit id,y _ _ _ _ _ _ f6J R aj m.2,ab,j⟩⟩
   | goto t =>
    obtain⟨u,R,ab,j⟩:=fin (some (.goto t)) x m.1;exact⟨_,_,u,.inr ⟨rfl,.goto t,y _ _ _ _ _ _ f6J R aj m.2,ab,j⟩⟩
   | panic ch=>exact m.elim
   | outgrown=>exact m.elim
  ·rintro e W2 ⟨⟨v,rfl⟩,(⟨hi,S,hd⟩|⟨k,hk,c,hi,S,hd⟩)⟩
   ·refine⟨none,_,G3n,?_⟩;rw[hz];exact af _ (J N W2 (z+1) _ _ f6J S rfl hi) ((World.putObj_heap_other f6J).trans hd)
   ·refine⟨some c,_,G3n,?_⟩;rw[hz];exact ag c k _ hk (y c k W2 (z+1) _ _ f6J S rfl hi) ((World.putObj_heap_other f6J).trans hd)
open Go.RowKit Go.Shelf
attribute [local go_sem] Oper.semAt_some
def x9W(A:World)(p:Nat)(fl:Int)(ys:Int->List Int):Prop:=∀c,Rune c->∀W,Below A.heap.size A W->Calls prog 54 #[.pointer (some ⟨p,0,none⟩),.int .i32 c,.int .i64 fl] W (x0j W (ys c))
structure Rd15(p:Nat)(fl:Int)(ys:Int->List Int)(bd bk bf:Nat)(kv:Value)(xs:List Int)(A:World):Prop where
 d:A.cell? ⟨bd,0,none⟩=some (.pointer (some ⟨p,0,none⟩))
 k:A.cell? ⟨bk,0,none⟩=some kv
 f:A.cell? ⟨bf,0,none⟩=some (.int .i64 fl)
 sk:Sk .i32 A kv xs
 one:x9W A p fl ys
abbrev z7o(xs:List Int)(k:Nat)(v:Value):Array Value:=#[.int .i32 (xs.getD k 0),v]
abbrev Pr15(ys:Int->List Int)(xs:List Int)(k:Nat)(v:Value)(A B:World):Prop:=Ok .i32 21 B A.heap.size v (ys (xs.getD k 0))
abbrev Lb15(bd bk bf:Nat):Array Value:=#[.pointer (some ⟨bd,0,none⟩),.pointer (some ⟨bk,0,none⟩),.pointer (some ⟨bf,0,none⟩)]
theorem y5U n(E:1<=n) p fl ys bd bk bf kv xs :
  It15 Fence.wide n prog 53 (Lb15 bd bk bf) xs.length (z7o xs) (Pr15 ys xs) (Rd15 p fl ys bd bk bf kv xs):=fun l J j W F L Y y=>by
 have M:=F 0 W y;have u:=M.d;have S:=M.k;have z:=M.sk.len;have a:=fun k A h=>O (F k A h);obtain⟨ao,cap,I,o,q⟩:=M.sk.shape;rw[I]at S;refine callsIn_of_wp func53 rfl trivial ?_ rfl;simp only[ntmps53,List.size_toArray,List.length_cons,List.length_nil,Nat.reduceAdd,Nat.reduceSub,Array.replicate_succ,Array.replicate_zero,List.push_toArray,List.append_toArray,List.nil_append,List.cons_append];gi_wp2;gi_loopw [11] (fun i wr=>∃k:Nat,i=.int .i64 k/\k<=xs.length/\J k wr) (fun i _=>xs.length-(intOf i).toNat)
 case atStart=>exact⟨0,rfl,Nat.zero_le _,y⟩
 case round =>
  obtain⟨k,rfl,G,r⟩:=hrel;by_cases H:k<xs.length
  ·have Q:=V (a k wr r);obtain⟨b,off,s,C,_,_,t⟩:=Q.sk.place f6J;rw[I]at C;simp only[Value.slice.injEq]at C;obtain⟨rfl,-,rfl⟩:=C;have u:=Q.d;have x3:=Q.f;have g:=t k H
   have N:Rune (xs.getD k 0):=by
    have:=Q.sk.1 (xs.getD k 0) N3G;exact⟨this.1,this.2⟩
   have K:=O (Q.one (xs.getD k 0) N wr (b0r));have D:=fun v B=>O (Y k v wr B H r);clear Q t N L Y a;unfold z7o Pr15 at D;generalize xs.getD k 0=c at *;gi_wp2_with (refine⟨trivial,?_⟩;gi_at_call 54;refine(callsIn_wide.2 (V K)).mono ?_);rintro e X ⟨v,rfl,ok,m⟩;obtain⟨fn,Z,assign,body,U,P⟩:=V (D v X) m ok;gi_wp2;refine P.mono ?_;rintro e x (⟨rfl,R⟩|⟨rfl,T⟩)
   ·gi_wp2
    go_roundw
    case rel=>exact⟨k+1,g2A,f6J,R⟩
    case measure=>exact g7T
   ·gi_wp2;refine bodyPost_ret (results_none rfl _ _ _) rfl ?_;exact⟨⟨_,rfl⟩,.inr ⟨k,H,T⟩⟩
  ·obtain rfl:k=xs.length:=f6J;gi_wp2;go_end0;exact⟨⟨_,rfl⟩,.inl r⟩
structure Pt15(B:Nat)(p:Nat)(fl:Int)(bd bk bf:Nat)(kv:Value)(xs:List Int)(A:World):Prop where
 d:A.cell? ⟨bd,0,none⟩=some (.pointer (some ⟨p,0,none⟩))
 k:A.cell? ⟨bk,0,none⟩=some kv
 f:A.cell? ⟨bf,0,none⟩=some (.int .i64 fl)
 ok:Ok .i32 21 A B kv xs
 bd0:B<=bd
 bk0:B<=bk
 bf0:B<=bf
theorem Pt15.rd{B p fl bd bk bf kv}{xs A}(h:Pt15 B p fl bd bk bf kv xs A){ys}(y:x9W A p fl ys):Rd15 p fl ys bd bk bf kv xs A:=⟨h.d,h.k,h.f,h.ok.sk,y⟩
def y3n(w:World)(p:Nat)(fl:Int)(xs:List Int)(e:Ending)(w':World):Prop :=
 ∃bd bk bf kv,e=.returned (.func (.func 53) #[] (Lb15 bd bk bf))/\Pt15 w.heap.size p fl bd bk bf kv xs w'/\Below w.heap.size w w'
theorem x3x{K e w B B'}{v zs}(h:Ok K e w B v zs)(l:B'<=B):Ok K e w B' v zs:=by
 exact h.lower l
theorem y2F p fl xv xs w(J:Sk .i32 w xv xs)(S:xs.length<=1000000000):Calls prog 28 #[.pointer (some ⟨p,0,none⟩),xv,.int .i64 fl] w (y3n w p fl xs):=by
 obtain⟨Q,F⟩:∃Q,w.alloc (.cells #[.pointer (some ⟨p,0,none⟩)] 22)=Q:=⟨_,rfl⟩;obtain⟨d,N⟩:∃d,Q.alloc (.cells #[.int .i64 fl] 3)=d:=⟨_,rfl⟩;have b1:Bw w Q:=(by rw[<- F];exact t9C);have m:Bw Q d:=(by rw[<- N];exact t9C);have K:=O (x2Y xv xs d (J.below (x0b b1 m)) S);obtain⟨R,M,rfl,_,_⟩:=J.shape;go_enter func28,ntmps28;go_wp2_with fail;refine(V K).mono ?_;rintro e x ⟨C,rfl,ok,b⟩;have Y:=x0b (x0b b1 m) b;have L:Q.heap.size=w.heap.size+1:=(by rw[<- F];exact x0y _ _);have s:d.heap.size=Q.heap.size+1:=by rw[<- N];exact x0y _ _
 have j:x.cell? ⟨w.heap.size,0,none⟩=some (.pointer (some ⟨p,0,none⟩)):=by
  have h:Q.cell? ⟨w.heap.size,0,none⟩=some (.pointer (some ⟨p,0,none⟩)):=(by rw[<- F];exact M7L);have D:d.cell? ⟨w.heap.size,0,none⟩=some (.pointer (some ⟨p,0,none⟩)):=(by rw[m.cell (x0a h)];exact h);rw[b.cell (x0a D)];exact D
 have G:x.cell? ⟨Q.heap.size,0,none⟩=some (.int .i64 fl):=by
  have h:d.cell? ⟨Q.heap.size,0,none⟩=some (.int .i64 fl):=(by rw[<- N];exact M7L);rw[b.cell (x0a h)];exact h
 have T:Hid (y3n w p fl xs (.returned (.func (.func 53) #[] (Lb15 w.heap.size x.heap.size Q.heap.size))) (x.alloc (.cells #[C] 40))):=by
  have H:Bw x (x.alloc (.cells #[C] 40)):=(b0r).alloc (l0r _) _;have B:=b.size;refine⟨_,_,_,C,rfl,⟨?_,?_,?_,?_,l0r _,f6J,f6J⟩,x0b Y H⟩
  ·rw[H.cell (x0a j)];exact j
  ·simp
  ·rw[H.cell (x0a G)];exact G
  ·exact(x3x ok f6J).below H
 obtain⟨P,E,I,_,_⟩:=ok.sk.shape;subst I;rw[L]at T;exact v8m
open Go.RowKit Go.Shelf
attribute [local go_sem] Oper.semAt_some
def flat15(ys:Int->List Int)(xs:List Int):List Int:=(xs.map ys).flatten
theorem x8b ys a b:flat15 ys (a++b)=flat15 ys a++flat15 ys b:=by simp[flat15]
theorem y2n ys(xs:List Int){k}(G:k<xs.length):flat15 ys (xs.take (k+1))=flat15 ys (xs.take k)++ys (xs.getD k 0):=by
 rw[List.take_add_one,x8b,List.getElem?_eq_getElem G];simp[flat15,List.getD,List.getElem?_eq_getElem G]
theorem y8m ys xs k:(flat15 ys (xs.take k)).length<=(flat15 ys xs).length:=by
 conv=>rhs;rw[<- List.take_append_drop k xs,x8b,List.length_append]
 omega
structure Mi15(W0:World)(Ba:Nat)(zs:List Int)(A:World):Prop where
 box:∃v,Boxed A Ba 40 v/\Ok .i32 21 A W0.heap.size v zs
 gb:W0.grownBy A (some Ba)
theorem z8q{U A B:World}{row}(h:U.grownBy A row)(Y:Bw A B):U.grownBy B row:=⟨Y.os.trans h.os,Y.tape.trans h.tape,Y.output.trans h.output,Nat.le_trans h.size Y.size,fun k G E=>by rw[Y.block k I2e];exact g5F⟩
theorem gbP15{U A:World}{row}(h:U.grownBy A row){r} o(hr:U.heap.size<=r):U.grownBy (A.putObj r o) row:=⟨h.os,h.tape,h.output,by simpa using h.size,fun k G E=>by rw[World.putObj_heap_other f6J];exact g5F⟩
theorem z8M{A B v zs}(h:Ok .i32 21 A B v zs){r o} o'(y:A.heap[r]?=some o)(I:o.isCells=false):Ok .i32 21 (A.putObj r o') B v zs:=⟨h.1,h.2.1,ownsRow_putObj h.2.2 o' y I⟩
theorem okF15{B m v zs}(h:Ok .i32 21 B m v zs){r} o(hr:r<m):Ok .i32 21 (B.putObj r o) m v zs:=⟨h.1,h.2.1,h.2.2.kept (grownBy_putObj' B r o) (by
 rcases h.2.2.2 with⟨rfl,_⟩|⟨g,cap,T,rfl,Y,_⟩
 ·exact .inl rfl
 ·exact .inr (fun e=>p5F))⟩
theorem x6m{A b t v}(h:Boxed A b t v){r o} o'(y:A.heap[r]?=some o)(I:o.isCells=false):Boxed (A.putObj r o') b t v:=by
 refine h.kept (grownBy_putObj' A r o') (fun e=>?_);obtain rfl:b=r:=N5i;rw[show A.heap[b]?=_ from h]at y;cases y;cases I
theorem Mi15.below{W0 Ba zs A B}(h:Mi15 W0 Ba zs A)(Y:Bw A B):Mi15 W0 Ba zs B:=by
 obtain⟨⟨v,Z,D⟩,R⟩:=h;exact⟨⟨v,(Y.block _ Z.lt).trans Z,D.below Y⟩,z8q R Y⟩
theorem Mi15.put{W0 Ba zs A}(h:Mi15 W0 Ba zs A){r o} o'(hr:W0.heap.size<=r)(y:A.heap[r]?=some o)(I:o.isCells=false):Mi15 W0 Ba zs (A.putObj r o'):=by
 obtain⟨⟨v,Z,D⟩,R⟩:=h;exact⟨⟨v,x6m Z o' y I,z8M D o' y I⟩,gbP15 R o' hr⟩
theorem Pt15.grown{B p fl bd bk bf kv}{xs W0 A}(h:Pt15 B p fl bd bk bf kv xs W0){Ba}(C:W0.grownBy A (some Ba))(l:Ba<B):Pt15 B p fl bd bk bf kv xs A:=by
 have Z:=h.bd0;have D:=h.bk0;have R:=h.bf0;refine⟨C.cell h.d P8P,C.cell h.k P8P,C.cell h.f P8P,⟨h.ok.1,h.ok.2.1,h.ok.2.2.kept C ?_⟩,Z,D,R⟩;rcases h.ok.2.2.2 with⟨rfl,_⟩|⟨g,M,T,rfl,Y,_⟩
 ·exact .inl rfl
 ·exact .inr (fun e=>p5F)
theorem y4D{F n P w}{ops rest o a}{Q}(T:o.guard=none)(s x:Operand) t
  (y:o.op=.call { callee:=.builtin .append,args:=#[s,x],argTypes:=#[t,t] }) base e (i:TypeInfo) size (A:P.underlying t=some (.slice e)) (hi:P.info? e=some i)
  v m xs (U:a.eval s=v) (R:w.ownsRow base e size v m xs) (J:a.eval x=.slice none 0 0)
  (h:wpListIn F n P ops Q rest (a.put o.dst v) w):wpListIn F n P ops Q (o::rest) a w:=by
 refine wpListIn_plain T fun K hK=>?_;have H:=run_append_owned_none (P:=P) (w:=w) base t o.type e i size A hi v m xs R;unfold Oper.wpIn;refine⟨?_,?_⟩
 ·simp[Oper.about,y,resolve,Target.leads,Sem.run_pure]
 ·rw[Oper.semAt_plain F _ _ (by rw[y];exact W3W)];simp[execOp,y,resolve,invoke,builtin,U,J,H,Result.andThen];exact hK _ _ h
theorem z1j{F n w ops}{rest o a Q}(T:o.guard=none)(s x:Operand)
  (y:o.op=.call { callee:=.builtin .append,args:=#[s,x],argTypes:=#[40,40] }) B v u xs ys (U:a.eval s=v) (J:a.eval x=u)
  (N:Ok .i32 21 w B v xs) (W:Sk .i32 w u ys) (S:xs.length+ys.length<=1000000000) (l:B<=w.heap.size)
  (h:∀v' w',Ok .i32 21 w' B v' (xs++ys)->w.grownBy w' v.ownBlock->wpListIn F n prog ops Q rest (a.put o.dst v') w'):wpListIn F n prog ops Q (o::rest) a w:=by
 obtain⟨i,hi,f,p,t⟩:=info_parts y2s;rcases W.2.src with⟨A,rfl⟩|⟨r,M,b,q⟩
 ·obtain rfl:ys=[]:=N6u;refine y4D T s x 40 y B 21 i 1 underlying40 hi v _ _ U N.row J ?_;exact I3X
 ·rw[List.length_map]at b;subst b;refine wpListIn_append_own w T s x 40 y B 21 i (.int .i32 0) 1 4 underlying40 hi f p t rfl e8P v _ _ U N.row r ys.length M (ys.map (Value.int .i32)) J M7O q (x0S .i32 ys) T7X f6J l ?_;exact U9J
theorem y1l{A B v zs}(h:Ok .i32 21 A B v zs){r o}(y:A.heap[r]?=some o)(I:o.isCells=false):some r≠v.ownBlock:=by
 rcases h.2.2.2 with⟨rfl,_⟩|⟨g,M,T,rfl,Y,W,_⟩
 ·exact V3H
 ·intro e;obtain rfl:r=g:=G5X;rw[W]at y;cases y;cases I
theorem z1X{U B w1:World}{row row2}(h:U.grownBy B row)(g:B.grownBy w1 row2)(hr:∀k,row2=some k->U.heap.size<=k):U.grownBy w1 row :=
 ⟨g.os.trans h.os,g.tape.trans h.tape,g.output.trans h.output,Nat.le_trans h.size g.size,fun k G E=>by rw[g.block k I2e (fun e=>by have:=hr k e.symm;exact f6J)];exact g5F⟩
theorem z1Z{U w1:World}{b}(h:U.grownBy w1 (some b)) v:U.grownBy (w1.setCell ⟨b,0,none⟩ v) (some b):=by
 have g:=grownBy_setCell' w1 b v;exact⟨g.os.trans h.os,g.tape.trans h.tape,g.output.trans h.output,Nat.le_trans h.size g.size,fun k G E=>by rw[g.block k I2e E];exact g5F⟩
theorem x7m{z B W}(h:x8D z B W){b} v(Z:b≠z)(D:b≠z+1):x8D z B (W.setCell ⟨b,0,none⟩ v) :=
 ⟨(Below.heap_setCell _ _ _ _ P8P).trans h.1,(Below.heap_setCell _ _ _ _ P8P).trans h.2⟩
def y3l(w:World)(zs:List Int)(e:Ending)(w':World):Prop :=
 Below w.heap.size w w'/\((zs.length<=65536/\∃v,e=.returned (.tuple #[v,.int .i64 0])/\Ok .i32 21 w' w.heap.size v zs)\/(65536<zs.length/\e=.returned (.tuple #[.slice none 0 0,.int .i64 2])))
theorem fin15{w W z m u zs}(L:Ok .i32 21 W m u zs)(t:Bw w W)(Z:Boxed W w.heap.size 40 (.slice none 0 0))(D:Boxed W (w.heap.size+1) 29 (.int .i64 0))
  (hK:((W.setCell ⟨w.heap.size,0,none⟩ u).setCell ⟨w.heap.size+1,0,none⟩ (.int .i64 0)).heap[z]?=some (.deferred (some []))) (o:w.heap.size+2<=m/\w.heap.size+2<=z) (S:zs.length<=65536) :
  (((W.setCell ⟨w.heap.size,0,none⟩ u).setCell ⟨w.heap.size+1,0,none⟩ (.int .i64 0)).putObj z (.deferred none)).cell? ⟨w.heap.size,0,none⟩=some u /\
  (((W.setCell ⟨w.heap.size,0,none⟩ u).setCell ⟨w.heap.size+1,0,none⟩ (.int .i64 0)).putObj z (.deferred none)).cell? ⟨w.heap.size+1,0,none⟩=some (.int .i64 0) /\
  y3l w zs (.returned (.tuple #[u,.int .i64 0])) (((W.setCell ⟨w.heap.size,0,none⟩ u).setCell ⟨w.heap.size+1,0,none⟩ (.int .i64 0)).putObj z (.deferred none)):=by
 have v:∀b,b<m->some b≠u.ownBlock:=fun b Y e=>(by have:=(L.row.lt b e.symm).1;exact f6J);have B:Ok .i32 21 (W.setCell ⟨w.heap.size,0,none⟩ u) m u zs:=⟨L.1,L.2.1,L.2.2.kept (grownBy_setCell' W _ _) (.inr (v _ f6J).symm)⟩;have M:Ok .i32 21 ((W.setCell ⟨w.heap.size,0,none⟩ u).setCell ⟨w.heap.size+1,0,none⟩ (.int .i64 0)) m u zs:=⟨L.1,L.2.1,B.2.2.kept (grownBy_setCell' _ _ _) (.inr (v _ f6J).symm)⟩;have l:=(t.setCell (p:=⟨w.heap.size,0,none⟩) (l0r _) u).setCell (p:=⟨w.heap.size+1,0,none⟩) M7L (.int .i64 0);refine⟨(x6m ((Z.set u).other f6J _) _ hK rfl).cell,(x6m ((D.other f6J _).set _) _ hK rfl).cell,?_,.inl ⟨S,u,rfl,x3x (z8M M _ hK rfl) f6J⟩⟩;exact l.trans ((b0r).grown (grownBy_putObj' _ z _) (by have:=(Array.getElem?_eq_some_iff.1 hK).1;exact f6J) (fun k e=>W0i))
theorem y0L p fl ys xv xs w(hx:Sk .i32 w xv xs)(hl:xs.length<=1000000000)(y:x9W w p fl ys) :
  Calls prog 14 #[.pointer (some ⟨p,0,none⟩),xv,.int .i64 fl] w (y3l w (flat15 ys xs)):=by
 obtain⟨Q,ag⟩:∃Q,w.alloc (.cells #[.slice none 0 0] 40)=Q:=⟨_,rfl⟩;obtain⟨d,N⟩:∃d,Q.alloc (.cells #[.int .i64 0] 29)=d:=⟨_,rfl⟩;obtain⟨x,ab⟩:∃x,d.alloc (.cells #[.slice none 0 0] 40)=x:=⟨_,rfl⟩;have s1:Q.heap.size=w.heap.size+1:=(by rw[<- ag];exact x0y _ _);have s2:d.heap.size=w.heap.size+2:=(by rw[<- N,x0y,s1]);have s3:x.heap.size=w.heap.size+3:=by rw[<- ab,x0y,s2]
 have b3:Bw w x:=by
  rw[<- ab,<- N,<- ag];exact(((b0r).alloc (l0r _) _).alloc M7N _).alloc P8P _
 have H:Boxed x w.heap.size 40 (.slice none 0 0):=(by rw[<- ab,<- N,<- ag];exact((Boxed.new w _ _).alloc _).alloc _);have D:Boxed x (w.heap.size+1) 29 (.int .i64 0):=(by rw[<- ab,<- N,<- s1];exact(Boxed.new Q _ _).alloc _);have R:Boxed x (w.heap.size+2) 40 (.slice none 0 0):=(by rw[<- ab,<- s2];exact Boxed.new d _ _);have K:=O (y2F p fl xv xs x (hx.below b3) hl);obtain⟨ao,M,rfl,_,_⟩:=hx.shape;refine(callsIn_wide (n:=3)).1 ?_;refine callsIn_of_wp_marks func14 rfl trivial ?_ rfl;simp only[ntmps14,List.size_toArray,List.length_cons,List.length_nil,Nat.reduceAdd,Nat.reduceSub,Array.replicate_succ,Array.replicate_zero,List.push_toArray,List.append_toArray,List.nil_append,List.cons_append];gi_wp2_with (refine⟨trivial,?_⟩;gi_at_call 28;refine(callsIn_wide.2 (V K)).mono ?_);rintro e U ⟨bd,bk,Z,kv,rfl,pt,f⟩;gi_wp2;have aL:=f.size;have bW:Bw w U:=x0b b3 f;have m:Boxed U w.heap.size 40 (.slice none 0 0):=(f.block _ H.lt).trans H;have a:Boxed U (w.heap.size+1) 29 (.int .i64 0):=(f.block _ D.lt).trans D;have y3:Boxed U (w.heap.size+2) 40 (.slice none 0 0):=(f.block _ R.lt).trans R;have i:∀A,U.grownBy A (some (w.heap.size+2))->Bw w A:=fun A C=>⟨C.os.trans bW.os,C.tape.trans bW.tape,C.output.trans bW.output,Nat.le_trans bW.size C.size,fun k hk=>(C.block k f6J P8P).trans (bW.block k hk)⟩;have ay:∀A,U.grownBy A (some (w.heap.size+2))->Rd15 p fl ys bd bk Z kv xs A:=fun A C=>(pt.grown C f6J).rd (fun c hc W hW=>y c hc W ((i A C).trans (hW.mono (i A C).size)))
 refine z6y (F:=Fence.wide) rfl f6J (gf:=53) (lb:=Lb15 bd bk Z) rfl trivial (enters_of func53 f4z rfl) (y5U (3-1) f6J p fl ys bd bk Z kv xs) (fun _ _=>rfl)
  (fun k A=>Mi15 U (w.heap.size+2) (flat15 ys (xs.take k)) A/\(flat15 ys (xs.take k)).length<=65536)
  (fun c _ A=>c=.ret/\65536<(flat15 ys xs).length/\Boxed A w.heap.size 40 (.slice none 0 0)/\Boxed A (w.heap.size+1) 29 (.int .i64 2)/\Bw w A/\w.heap.size<A.heap.size)
  (fun k A h=>ay A h.1.gb) (fun k A B h Y=>⟨h.1.below Y,h.2⟩) (fun k A r o o' hr y hc h=>⟨h.1.put o' hr y hc,h.2⟩)
  (fun c k A r o o' hr y hc h=>⟨h.1,h.2.1,x6m h.2.2.1 o' y hc,x6m h.2.2.2.1 o' y hc,h.2.2.2.2.1.trans ((Below.refl _ A).grown (grownBy_putObj' A r o') f6J (fun k e=>W0i)),by simpa using h.2.2.2.2.2⟩)
  (fun k v A B r o' hr h=>by have:=okF15 h o' hr;simpa[Pr15]using this)
  ⟨⟨⟨_,y3,Ok.nil _ _ _ _⟩,World.grownBy.refl U _⟩,by simp[flat15]⟩
  (fun k v=>{ tmps:=#[.pointer (some ⟨p,0,none⟩),.slice ao xs.length M,.int .i64 fl,undef,undef,undef,.pointer (some ⟨w.heap.size,0,none⟩),.pointer (some ⟨w.heap.size+1,0,none⟩),.pointer (some ⟨w.heap.size+2,0,none⟩),undef,v,.pointer (some ⟨p,0,none⟩),.bool false,.pointer (some ⟨p,0,none⟩),.slice ao xs.length M,.int .i64 fl,.func (.func 53) #[] (Lb15 bd bk Z),.int .i32 (xs.getD k 0),v,undef,undef,undef,undef,undef,undef,undef,undef,undef,undef],defers:=[] }) ?assign ?body ?done ?stop
 case assign =>
  intro l k v W K hK;gi_wp2;exact hK
 case body =>
  rintro l k v A B hk rfl aI ⟨⟨⟨u,hu,L⟩,C⟩,s⟩ Y hp ⟨rr,E⟩ I;have J:=y2n ys xs hk;have aA:=y8m ys xs (k+1);have af:Boxed B (w.heap.size+2) 40 u:=(Y.block _ hu.lt).trans hu;have aj:=L.below Y;have P:=z8q C Y;have T:Sk .i32 B v (ys (xs.getD k 0)):=Ok.sk hp;have z1:Boxed B w.heap.size 40 (.slice none 0 0):=(P.block _ m.lt M7N).trans m;have g:Boxed B (w.heap.size+1) 29 (.int .i64 0):=(P.block _ a.lt M7N).trans a;have aK:=T.len;obtain⟨au,cu,t,_,_⟩:=aj.sk.shape;obtain⟨av,cv,aF,_,_⟩:=T.shape;subst t aF;have HP:=O T;have HO:=O aj;have HG:=O P;have HW:=O (i B P);have aH:=(i B P).size;have aD:=P.size;have aJ:∀k,(Value.slice au (flat15 ys (xs.take k)).length cu).ownBlock=some k->True:=fun _ _=>trivial;have HX:=O z1;have HY:=O g;have HU:=O af;have x8:=af.cell;have f8:=af.frozen;have x6:=z1.cell;have f6:=z1.frozen;have x7:=g.cell;have f7:=g.frozen;generalize ys (xs.getD k 0)=zv at *;by_cases aG:65536<(flat15 ys (xs.take k)).length+zv.length
  ·have z:(65536:Int)<((flat15 ys (xs.take k)).length:Int)+(zv.length:Int):=f6J;gi_wp2;refine⟨x7m (x7m ⟨rfl,rfl⟩ _ f6J f6J) _ f6J f6J,rfl,?_,((V HX).set _).other f6J _,((V HY).other f6J _).set _,((V HW).setCell (p:=⟨w.heap.size,0,none⟩) (l0r _) _).setCell (p:=⟨w.heap.size+1,0,none⟩) M7N _,?_⟩
   ·rw[J,List.length_append]at aA;omega
   ·have h1:=(grownBy_setCell' (B.setCell ⟨w.heap.size,0,none⟩ (.slice none 0 0)) (w.heap.size+1) (.int .i64 2)).size;have h2:=(grownBy_setCell' B w.heap.size (.slice none 0 0)).size;have h3:=(V HX).lt;omega
  ·have z:((flat15 ys (xs.take k)).length:Int)+(zv.length:Int)<=65536:=f6J;have X:∀j,(Value.slice au (flat15 ys (xs.take k)).length cu).ownBlock=some j->U.heap.size<=j:=fun j hj=>((V HO).row.lt j hj).1;have aB:=y1l (V HO) E rfl;have aC:=y1l (V HO) I rfl;have HL:=O X;have am:=O aB;have aq:=O aC;gi_wp2_with (gi_at_builtin;refine z1j rfl (.tmp 25) (.tmp 26) rfl U.heap.size _ _ _ _ rfl rfl (V HO) (V HP) f6J aD ?_);intro v' Q G S;have ae:Boxed Q (w.heap.size+2) 40 (.slice au (flat15 ys (xs.take k)).length cu):=(V HU).kept S (fun e=>by have:=V HL _ e.symm;exact f6J);have q1:=ae.cell;have q2:=ae.frozen;have az:=z1X (V HG) S (V HL);have hT:x8D U.heap.size B Q:=⟨S.block _ (Array.getElem?_eq_some_iff.1 I).1 (V aq),S.block _ (Array.getElem?_eq_some_iff.1 E).1 (V am)⟩
   have hF:x8D U.heap.size B (Q.setCell ⟨w.heap.size+2,0,none⟩ v')/\Mi15 U (w.heap.size+2) (flat15 ys (xs.take (k+1))) (Q.setCell ⟨w.heap.size+2,0,none⟩ v')/\(flat15 ys (xs.take (k+1))).length<=65536:=by
    refine⟨x7m hT _ f6J f6J,⟨⟨v',ae.set v',?_⟩,z1Z az _⟩,by rw[J,List.length_append];exact f6J⟩;rw[J];refine⟨G.1,G.2.1,G.2.2.kept (grownBy_setCell' Q _ v') ?_⟩;exact .inr (fun e=>by have:=(G.row.lt _ e).1;exact f6J)
   have HF:=O hF;obtain⟨a',c',b,_,_⟩:=G.sk.shape;rw[List.length_append]at b;subst b;gi_wp2;exact V HF
 case done =>
  rintro W ⟨⟨⟨u,hu,L⟩,C⟩,s⟩ hK;rw[List.take_length]at L s;have z1:Boxed W w.heap.size 40 (.slice none 0 0):=(C.block _ m.lt M7N).trans m;have g:Boxed W (w.heap.size+1) 29 (.int .i64 0):=(C.block _ a.lt M7N).trans a;have x8:=hu.cell;have x6:=z1.cell;have f6:=z1.frozen;have x7:=g.cell;have f7:=g.frozen;obtain⟨au,cu,t,_,_⟩:=L.sk.shape;subst t;have HO:=O L;have ar:=O z1;have aw:=O g;have HW:=O (i W C)
  have ai:((W.setCell ⟨w.heap.size,0,none⟩ (.slice au (flat15 ys xs).length cu)).setCell ⟨w.heap.size+1,0,none⟩ (.int .i64 0)).heap[U.heap.size]?=some (.deferred (some [])):=by
   rw[Below.heap_setCell _ _ _ _ P8P,Below.heap_setCell _ _ _ _ P8P];exact hK
  have q:=fin15 (V HO) (V HW) (V ar) (V aw) ai f6J s;gi_wp2;refine⟨M7N,.inl ⟨_,_,rfl,run_takeDeferred ai,?_⟩⟩;obtain⟨h1,h2,h3⟩:=q;exact⟨_,by simp[results,Tryz.results14,go_sem,h1,h2],h3⟩
 case stop =>
  rintro c k W hk ⟨rfl,h1,h2,h3,h4,h5⟩ hK;have g1:=(x6m h2 (.deferred none) hK rfl).cell;have g2:=(x6m h3 (.deferred none) hK rfl).cell;have g3:Bw w (W.putObj U.heap.size (.deferred none)):=h4.trans ((Below.refl _ W).grown (grownBy_putObj' W _ _) f6J (fun k e=>W0i));gi_wp2;refine⟨M7N,.inl ⟨_,_,rfl,run_takeDeferred hK,?_⟩⟩;exact⟨_,by simp[results,Tryz.results14,go_sem,g1,g2],g3,.inr ⟨h1,rfl⟩⟩
