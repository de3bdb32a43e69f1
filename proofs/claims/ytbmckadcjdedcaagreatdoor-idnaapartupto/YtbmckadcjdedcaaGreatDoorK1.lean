/- Lemmas. -/
import Derived.RangeFuncNested
import Derived.RangeFuncBound
import Derived.RangeFuncCalls
import Derived.RangeFuncLeaves
import Derived.Test.YtbmckadcjdedcaaGreatDoorK4
import Derived.Shelf.Abstract
import Derived.Shelf.RegionOpen
import Derived.WalkKit
import Derived.OwnWalkIn
import Derived.TacticsInMore
import Derived.LoopNIn
import Derived.LoopIn
import Derived.Test.YtbmckadcjdedcaaGreatDoorK5
set_option maxHeartbeats 2000000
set_option maxRecDepth 100000
namespace Go.Proofs.YtbmckadcjdedcaaGreatDoor
open Go.Proofs.Tryz
open Go.RowKit
section
variable{p:Prop}
theorem r3t(h:p:=by intro c T;cases T):p:=h
theorem t8q(h:p:=by have:=run_endLoop (P:=P) S (by rw[C];exact M7L);rw[C]at this;exact this):p:=h
theorem p5F(h:p:=by simp[Value.ownBlock]at e;exact f6J):p:=h
theorem W0i(h:p:=by cases e;exact f6J):p:=h
end
def It15(F:Fence)(n:Nat)(P:Program)(g:Nat)(lb:Array Value)(N:Nat)(enc:Nat->Value->Array Value)(Pr:Nat->Value->World->World->Prop)(Rd:World->Prop):Prop :=
 ∀(l:Nat) (J Jx:Nat->World->Prop) (W:World),(∀k A,J k A->Rd A)->(∀k A B,J k A->Below A.heap.size A B->J k B) ->
  (∀k v A B,k<N->J k A->Below A.heap.size A B->Pr k v A B->YieldAt F (n-1) P l (enc k v) B fun e W'=>(e=.returned (.bool true)/\J (k+1) W')\/(e=.returned (.bool false)/\Jx k W')) ->
  J 0 W->CallsIn F n P g (#[.func (.yield l) #[] #[]]++lb) W fun e W'=>(∃v,e=.returned v)/\(J N W'\/∃k,k<N/\Jx k W')
def x8A(z:Nat)(B W:World):Prop:=W.heap[z]?=B.heap[z]?/\W.heap[z+1]?=B.heap[z+1]?
def Out15(z:Nat)(I:World->Prop)(Ix:Code->World->Prop)(B:World):Exit->Act->World->Prop
 | .normal,_,W=>x8A z B W/\I W
 | .ret,_,W=>x8A z B W/\Ix .ret W
 | .exit id,_,W=>x8A z B W/\Ix (.exit id) W
 | .goto t,_,W=>x8A z B W/\Ix (.goto t) W
 | .panic _,_,_=>False
 | .outgrown,_,_=>False
theorem y1G{A B}(h:Bw A B) l o(S:l<A.heap.size):Below (A.putObj l o).heap.size (A.putObj l o) (B.putObj l o):=by
 have X:=h.size;refine⟨h.os,h.tape,h.output,by simp;exact X,fun k G=>?_⟩;by_cases e:k=l
 ·subst e;rw[World.putObj_heap_same f6J,World.putObj_heap_same S]
 ·rw[World.putObj_heap_other e,World.putObj_heap_other e];exact h.block k E9n
theorem z6w{F n P}{g:Operand}{ps:Array Tmp}{assign body Q a w}
  (b:F.round=none) (h1:1<=n) {gf:Nat} {lb} (hg:a.eval g=.func (.func gf) #[] lb) (ar:F.fn gf) (Z:∀args w,(callFunc gf args).run P w=.ok (.enter gf args) w)
  {N:Nat} {enc:Nat->Value->Array Value} {M:Nat->Value->World->World->Prop} {X:World->Prop} (hit:It15 F (n-1) P gf lb N enc M X) (aB:∀k v,(enc k v).size=ps.size)
  (I:Nat->World->Prop) (Ix:Code->Nat->World->Prop) (hR:∀k A,I k A->X A) (hI:∀k A B,I k A->Bw A B->I k B)
  (J:∀k A r o f,w.heap.size<=r->A.heap[r]?=some o->o.isCells=false->I k A->I k (A.putObj r f))
  (y:∀c k A r o f,w.heap.size<=r->A.heap[r]?=some o->o.isCells=false->Ix c k A->Ix c k (A.putObj r f))
  (ay:∀k v A B r f,r<A.heap.size->M k v A B->M k v (A.putObj r f) (B.putObj r f))
  (h0:I 0 w) (a₁:Nat->Value->Act)
  (ae:∀(l k:Nat) (v:Value) (W:World) (K:Act->World->Prop),K (a₁ k v) W ->
   assign.wpIn (F.inRound l) (n-1-1) P (Exit.then K (fun _ _ _=>False)) { tmps:=(ps.zip (enc k v)).foldl (fun t (p,v)=>t.setIfInBounds p v) a.tmps,defers:=[] } W)
  (D:∀(l k:Nat) (v:Value) (A B:World),k<N->l=w.heap.size+1->l<A.heap.size->I k A->Bw A B->M k v A B ->
   (∃r,B.heap[l]?=some (.loop r))->B.heap[w.heap.size]?=some (.deferred (some [])) ->
   body.wpIn (F.inRound l) (n-1-1) P (Out15 w.heap.size (I (k+1)) (fun c=>Ix c k) B) (a₁ k v) B)
  (E:∀W,I N W->W.heap[w.heap.size]?=some (.deferred (some []))->Q .normal { a with defers:={ target:=.collected w.heap.size,args:=#[] }::a.defers } W)
  (af:∀c k W,k<N->Ix c k W->W.heap[w.heap.size]?=some (.deferred (some []))->c.wpIn F n P Q { a with defers:={ target:=.collected w.heap.size,args:=#[] }::a.defers } W) :
  (Code.rangeFunc g ps assign body).wpIn F n P Q a w:=by
 refine wpIn_rangeFunc ?_;intro fn aA;rw[b];obtain⟨rc,C⟩:∃rc:LoopState->Option Code->Loop,rc=fun st pe=>{ state:=st,pending:=pe,fn,tmps:=a.tmps,params:=ps,assign,body,defers:=w.heap.size }:=⟨_,rfl⟩;obtain⟨z,hz⟩:∃z,w.heap.size=z:=⟨_,rfl⟩;obtain⟨q,ag⟩:∃q,(w.alloc (.deferred (some []))).alloc (.loop (rc .ready none))=q:=⟨_,rfl⟩
 have L:q.heap[z+1]?=some (.loop (rc .ready none)):=by
  rw[<- ag,<- hz];have:=World.alloc_heap_new (w.alloc (.deferred (some []))) (.loop (rc .ready none));rwa [World.size_alloc]at this
 have aq:q.heap[z]?=some (.deferred (some [])):=by
  rw[<- ag,<- hz];exact(Below.heap_alloc _ _ _ M7L).trans (World.alloc_heap_new w _)
 have aw:I 0 q:=by
  refine hI 0 w q h0 ?_;rw[<- ag];exact((Below.refl _ w).alloc (l0r _) _).alloc M7L _
 have H:∀{A:World} {k:Nat} {o:Obj},A.heap[k]?=some o->k<A.heap.size:=fun h=>(Array.getElem?_eq_some_iff.1 h).1;rw[hz]at J y D E af;refine⟨z+1,[{ target:=.collected z,args:=#[] }],q,{ target:=.fn (.func gf) lb,args:=#[.func (.yield (z+1)) #[] #[]] },q,gf,#[.func (.yield (z+1)) #[] #[]]++lb,q,?_,?_,?_,?_,fun _=>h1,?_⟩
 ·rw[<- ag,C,<- hz];exact run_enterLoop_outer _ _ _ _ _
 ·simp only[resolve,hg];simp[go_sem]
 ·intro f' am;simp[Target.leads]at am;subst am;exact ar
 ·simp[invoke,go_sem,Z]
 ·refine(hit (z+1) (fun k W=>I k W/\W.heap[z+1]?=some (.loop (rc .ready none))/\W.heap[z]?=some (.deferred (some [])))
   (fun k W=>∃c,Ix c k W/\W.heap[z+1]?=some (.loop (rc .done (some c)))/\W.heap[z]?=some (.deferred (some []))) q (fun k A h=>hR k A h.1)
   (fun k A B h hb=>⟨hI k A B h.1 hb,(hb.block _ (H h.2.1)).trans h.2.1,(hb.block _ (H h.2.2)).trans h.2.2⟩) ?_ ⟨aw,L,aq⟩).mono ?_
  ·rintro k v A B hk ⟨hi,S,hd⟩ hb hp;have ai:=(hb.block _ (H S)).trans S;have az:=(hb.block _ (H hd)).trans hd;have s:=run_yield (P:=P) (args:=enc k v) ai (by rw[C];exact aB k v);rw[C]at s;refine⟨fn,_,assign,body,s,roundIn_of_wpIn aA (ae _ k v B _ ⟨_,run_beginRound ai (by rw[C]),?_⟩)⟩;generalize hbz:(Obj.loop { rc .ready none with state:=.busy })=j;have u:(B.putObj (z+1) j).heap[z+1]?=some j:=World.putObj_heap_same (H ai);have aj:(B.putObj (z+1) j).heap[z]?=some (.deferred (some [])):=(World.putObj_heap_other f6J).trans az;refine wpIn_mono (D (z+1) k v (A.putObj (z+1) j) (B.putObj (z+1) j) hk rfl (by simpa using H S) (J k A (z+1) _ j f6J S rfl hi) (y1G hb _ _ (H S)) (ay k v A B (z+1) j (H S) hp) ⟨_,by rw[<- hbz]at u ⊢;exact u⟩ aj) ?_
   have fin:∀(R:Option Code) (Y:World),x8A z (B.putObj (z+1) j) Y ->
     (Instr.endRound (z+1) R).run P Y=.ok (.bool R.isNone) (Y.putObj (z+1) (.loop (rc (if R.isNone then .ready else .done) R))) /\
     Y.heap[z+1]?=some j /\
     (Y.putObj (z+1) (.loop (rc (if R.isNone then .ready else .done) R))).heap[z+1]?=some (.loop (rc (if R.isNone then .ready else .done) R)) /\
     (Y.putObj (z+1) (.loop (rc (if R.isNone then .ready else .done) R))).heap[z]?=some (.deferred (some [])):=fun R Y U=>by
    have T:=U.2.trans u;have ab:=T;rw[<- hbz]at ab;have:=run_endRound (P:=P) R ab;rw[C]at this ⊢;exact⟨this,T,World.putObj_heap_same (H T),(World.putObj_heap_other f6J).trans (U.1.trans aj)⟩
   have G:j.isCells=false:=(by rw[<- hbz];rfl);rintro e d Y m
   cases e with
   | normal =>
    obtain⟨hr,T,ab,i⟩:=fin none Y m.1;exact⟨_,_,hr,.inl ⟨rfl,J _ _ _ _ _ f6J T G m.2,ab,i⟩⟩
   | ret =>
    obtain⟨hr,T,ab,i⟩:=fin (some .ret) Y m.1;exact⟨_,_,hr,.inr ⟨rfl,.ret,y _ _ _ _ _ _ f6J T G m.2,ab,i⟩⟩
   | exit id =>
    obtain⟨hr,T,ab,i⟩:=fin (some (.exit id)) Y m.1;exact⟨_,_,hr,.inr ⟨rfl,.exit id,y _ _ _ _ _ _ f6J T G m.2,ab,i⟩⟩
   | goto t =>
    obtain⟨hr,T,ab,i⟩:=fin (some (.goto t)) Y m.1;exact⟨_,_,hr,.inr ⟨rfl,.goto t,y _ _ _ _ _ _ f6J T G m.2,ab,i⟩⟩
   | panic ch=>exact m.elim
   | outgrown=>exact m.elim
  ·rintro e x ⟨⟨v,rfl⟩,(⟨hi,S,hd⟩ | ⟨k,hk,c,hi,S,hd⟩)⟩
   ·refine⟨none,_,t8q,?_⟩;rw[hz];exact E _ (J N x (z+1) _ _ f6J S rfl hi) ((World.putObj_heap_other f6J).trans hd)
   ·refine⟨some c,_,t8q,?_⟩;rw[hz];exact af c k _ hk (y c k x (z+1) _ _ f6J S rfl hi) ((World.putObj_heap_other f6J).trans hd)
open Go.RowKit Go.Shelf
attribute [local go_sem] Oper.semAt_some
def y3c(A:World)(p:Nat)(fl:Int)(ys:Int->List Int):Prop:=∀c,Rune c->∀W,Below A.heap.size A W->Calls prog 54 #[.pointer (some ⟨p,0,none⟩),.int .i32 c,.int .i64 fl] W (x0j W (ys c))
structure Rd15(p:Nat)(fl:Int)(ys:Int->List Int)(bd bk bf:Nat)(kv:Value)(xs:List Int)(A:World):Prop where
 d:A.cell? ⟨bd,0,none⟩=some (.pointer (some ⟨p,0,none⟩))
 k:A.cell? ⟨bk,0,none⟩=some kv
 f:A.cell? ⟨bf,0,none⟩=some (.int .i64 fl)
 sk:Sk .i32 A kv xs
 one:y3c A p fl ys
abbrev z7n(xs:List Int)(k:Nat)(v:Value):Array Value:=#[.int .i32 (xs.getD k 0),v]
abbrev Pr15(ys:Int->List Int)(xs:List Int)(k:Nat)(v:Value)(A B:World):Prop:=Ok .i32 21 B A.heap.size v (ys (xs.getD k 0))
abbrev Lb15(bd bk bf:Nat):Array Value:=#[.pointer (some ⟨bd,0,none⟩),.pointer (some ⟨bk,0,none⟩),.pointer (some ⟨bf,0,none⟩)]
theorem y5J n(z:1<=n) p fl ys bd bk bf kv xs :
  It15 Fence.wide n prog 53 (Lb15 bd bk bf) xs.length (z7n xs) (Pr15 ys xs) (Rd15 p fl ys bd bk bf kv xs):=fun l J U W X r Q t=>by
 have L:=X 0 W t;have u:=L.d;have y:=L.k;have j:=L.sk.len;have a:=fun k A h=>O (X k A h);obtain⟨ao,cap,T,q,F⟩:=L.sk.shape;rw[T]at y;refine callsIn_of_wp func53 rfl trivial ?_ rfl;simp only[ntmps53,List.size_toArray,List.length_cons,List.length_nil,Nat.reduceAdd,Nat.reduceSub,Array.replicate_succ,Array.replicate_zero,List.push_toArray,List.append_toArray,List.nil_append,List.cons_append];gi_wp2;gi_loopw [11] (fun i wr=>∃k:Nat,i=.int .i64 k/\k<=xs.length/\J k wr) (fun i _=>xs.length-(intOf i).toNat)
 case atStart=>exact⟨0,rfl,Nat.zero_le _,t⟩
 case round =>
  obtain⟨k,rfl,G,Z⟩:=hrel;by_cases H:k<xs.length
  ·have I:=V (a k wr Z);obtain⟨b,off,o,C,_,_,E⟩:=I.sk.place f6J;rw[T]at C;simp only[Value.slice.injEq]at C;obtain⟨rfl,-,rfl⟩:=C;have u:=I.d;have g:=I.f;have x4:=E k H
   have N:Rune (xs.getD k 0):=by
    have:=I.sk.1 (xs.getD k 0) N3H;exact⟨this.1,this.2⟩
   have K:=O (I.one (xs.getD k 0) N wr (b0r));have D:=fun v B=>O (Q k v wr B H Z);clear I E N r Q a;unfold z7n Pr15 at D;generalize xs.getD k 0=c at *;gi_wp2_with (refine⟨trivial,?_⟩;gi_at_call 54;refine(callsIn_wide.2 (V K)).mono ?_);rintro e x ⟨v,rfl,ok,m⟩;obtain⟨fn,S,assign,body,s,R⟩:=V (D v x) m ok;gi_wp2;refine R.mono ?_;rintro e Y (⟨rfl,M⟩ | ⟨rfl,P⟩)
   ·gi_wp2
    go_roundw
    case rel=>exact⟨k+1,g2A,f6J,M⟩
    case measure=>exact g7T
   ·gi_wp2;refine bodyPost_ret (results_none rfl _ _ _) rfl ?_;exact⟨⟨_,rfl⟩,.inr ⟨k,H,P⟩⟩
  ·obtain rfl:k=xs.length:=f6J;gi_wp2;go_end0;exact⟨⟨_,rfl⟩,.inl Z⟩
structure Pt15(B:Nat)(p:Nat)(fl:Int)(bd bk bf:Nat)(kv:Value)(xs:List Int)(A:World):Prop where
 d:A.cell? ⟨bd,0,none⟩=some (.pointer (some ⟨p,0,none⟩))
 k:A.cell? ⟨bk,0,none⟩=some kv
 f:A.cell? ⟨bf,0,none⟩=some (.int .i64 fl)
 ok:Ok .i32 21 A B kv xs
 bd0:B<=bd
 bk0:B<=bk
 bf0:B<=bf
theorem Pt15.rd{B p fl bd bk bf kv}{xs A}(h:Pt15 B p fl bd bk bf kv xs A){ys}(j:y3c A p fl ys):Rd15 p fl ys bd bk bf kv xs A:=⟨h.d,h.k,h.f,h.ok.sk,j⟩
def y3e(w:World)(p:Nat)(fl:Int)(xs:List Int)(e:Ending)(w':World):Prop :=
 ∃bd bk bf kv,e=.returned (.func (.func 53) #[] (Lb15 bd bk bf))/\Pt15 w.heap.size p fl bd bk bf kv xs w'/\Below w.heap.size w w'
theorem x3u{K e w B B'}{v zs}(h:Ok K e w B v zs)(l:B'<=B):Ok K e w B' v zs:=by
 exact h.lower l
theorem y2x p fl xv xs w(J:Sk .i32 w xv xs)(S:xs.length<=1000000000):Calls prog 28 #[.pointer (some ⟨p,0,none⟩),xv,.int .i64 fl] w (y3e w p fl xs):=by
 obtain⟨I,B⟩:∃I,w.alloc (.cells #[.pointer (some ⟨p,0,none⟩)] 22)=I:=⟨_,rfl⟩;obtain⟨d,H⟩:∃d,I.alloc (.cells #[.int .i64 fl] 3)=d:=⟨_,rfl⟩;have b1:Bw w I:=(by rw[<- B];exact t9C);have m:Bw I d:=(by rw[<- H];exact t9C);have K:=O (x2W xv xs d (J.below (x0b b1 m)) S);obtain⟨R,M,rfl,_,_⟩:=J.shape;go_enter func28,ntmps28;go_wp2_with fail;refine(V K).mono ?_;rintro e P ⟨l,rfl,ok,L⟩;have Q:=x0b (x0b b1 m) L;have N:I.heap.size=w.heap.size+1:=(by rw[<- B];exact x0x _ _);have F:d.heap.size=I.heap.size+1:=by rw[<- H];exact x0x _ _
 have C:P.cell? ⟨w.heap.size,0,none⟩=some (.pointer (some ⟨p,0,none⟩)):=by
  have h:I.cell? ⟨w.heap.size,0,none⟩=some (.pointer (some ⟨p,0,none⟩)):=(by rw[<- B];exact M7L);have D:d.cell? ⟨w.heap.size,0,none⟩=some (.pointer (some ⟨p,0,none⟩)):=(by rw[m.cell (x0a h)];exact h);rw[L.cell (x0a D)];exact D
 have U:P.cell? ⟨I.heap.size,0,none⟩=some (.int .i64 fl):=by
  have h:d.cell? ⟨I.heap.size,0,none⟩=some (.int .i64 fl):=(by rw[<- H];exact M7L);rw[L.cell (x0a h)];exact h
 have Y:Hid (y3e w p fl xs (.returned (.func (.func 53) #[] (Lb15 w.heap.size P.heap.size I.heap.size))) (P.alloc (.cells #[l] 40))):=by
  have z:Bw P (P.alloc (.cells #[l] 40)):=(b0r).alloc (l0r _) _;have E:=L.size;refine⟨_,_,_,l,rfl,⟨?_,?_,?_,?_,l0r _,f6J,f6J⟩,x0b Q z⟩
  ·rw[z.cell (x0a C)];exact C
  ·simp
  ·rw[z.cell (x0a U)];exact U
  ·exact(x3u ok f6J).below z
 obtain⟨W,G,T,_,_⟩:=ok.sk.shape;subst T;rw[N]at Y;exact R3J
open Go.RowKit Go.Shelf
attribute [local go_sem] Oper.semAt_some
def x0H(ys:Int->List Int)(xs:List Int):List Int:=(xs.map ys).flatten
theorem x7Z ys a b:x0H ys (a++b)=x0H ys a++x0H ys b:=by simp[x0H]
theorem y2e ys(xs:List Int){k}(G:k<xs.length):x0H ys (xs.take (k+1))=x0H ys (xs.take k)++ys (xs.getD k 0):=by
 rw[List.take_add_one,x7Z,List.getElem?_eq_getElem G];simp[x0H,List.getD,List.getElem?_eq_getElem G]
theorem y8h ys xs k:(x0H ys (xs.take k)).length<=(x0H ys xs).length:=by
 conv=>rhs;rw[<- List.take_append_drop k xs,x7Z,List.length_append]
 omega
structure Mi15(W0:World)(Ba:Nat)(zs:List Int)(A:World):Prop where
 box:∃v,Boxed A Ba 40 v/\Ok .i32 21 A W0.heap.size v zs
 gb:W0.grownBy A (some Ba)
theorem z8q{H A B:World}{row}(h:H.grownBy A row)(Q:Bw A B):H.grownBy B row:=⟨Q.os.trans h.os,Q.tape.trans h.tape,Q.output.trans h.output,Nat.le_trans h.size Q.size,fun k G E=>by rw[Q.block k I2e];exact g5F⟩
theorem gbP15{H A:World}{row}(h:H.grownBy A row){r} o(hr:H.heap.size<=r):H.grownBy (A.putObj r o) row:=⟨h.os,h.tape,h.output,by simpa using h.size,fun k G E=>by rw[World.putObj_heap_other f6J];exact g5F⟩
theorem z8N{A B v zs}(h:Ok .i32 21 A B v zs){r o} o'(j:A.heap[r]?=some o)(T:o.isCells=false):Ok .i32 21 (A.putObj r o') B v zs:=⟨h.1,h.2.1,ownsRow_putObj h.2.2 o' j T⟩
theorem okF15{B m v zs}(h:Ok .i32 21 B m v zs){r} o(hr:r<m):Ok .i32 21 (B.putObj r o) m v zs:=⟨h.1,h.2.1,h.2.2.kept (grownBy_putObj' B r o) (by
 rcases h.2.2.2 with⟨rfl,_⟩ | ⟨g,cap,t,rfl,Q,_⟩
 ·exact U3z
 ·exact .inr (fun e=>p5F))⟩
theorem x6p{A b t v}(h:Boxed A b t v){r o} o'(j:A.heap[r]?=some o)(T:o.isCells=false):Boxed (A.putObj r o') b t v:=by
 refine h.kept (grownBy_putObj' A r o') (fun e=>?_);obtain rfl:b=r:=N5i;rw[show A.heap[b]?=_ from h]at j;cases j;cases T
theorem Mi15.below{W0 Ba zs A B}(h:Mi15 W0 Ba zs A)(Q:Bw A B):Mi15 W0 Ba zs B:=by
 obtain⟨⟨v,Z,D⟩,R⟩:=h;exact⟨⟨v,(Q.block _ Z.lt).trans Z,D.below Q⟩,z8q R Q⟩
theorem Mi15.put{W0 Ba zs A}(h:Mi15 W0 Ba zs A){r o} o'(hr:W0.heap.size<=r)(j:A.heap[r]?=some o)(T:o.isCells=false):Mi15 W0 Ba zs (A.putObj r o'):=by
 obtain⟨⟨v,Z,D⟩,R⟩:=h;exact⟨⟨v,x6p Z o' j T,z8N D o' j T⟩,gbP15 R o' hr⟩
theorem Pt15.grown{B p fl bd bk bf kv}{xs W0 A}(h:Pt15 B p fl bd bk bf kv xs W0){Ba}(C:W0.grownBy A (some Ba))(l:Ba<B):Pt15 B p fl bd bk bf kv xs A:=by
 have Z:=h.bd0;have D:=h.bk0;have R:=h.bf0;refine⟨C.cell h.d P8P,C.cell h.k P8P,C.cell h.f P8P,⟨h.ok.1,h.ok.2.1,h.ok.2.2.kept C ?_⟩,Z,D,R⟩;rcases h.ok.2.2.2 with⟨rfl,_⟩ | ⟨g,M,t,rfl,Q,_⟩
 ·exact U3z
 ·exact .inr (fun e=>p5F)
theorem y4r{F n P w}{ops rest o a}{Q}(I:o.guard=none)(s x:Operand) t
  (j:o.op=.call { callee:=.builtin .append,args:=#[s,x],argTypes:=#[t,t] }) base e (i:TypeInfo) size (A:P.underlying t=some (.slice e)) (hi:P.info? e=some i)
  v m xs (X:a.eval s=v) (E:w.ownsRow base e size v m xs) (J:a.eval x=.slice none 0 0)
  (h:wpListIn F n P ops Q rest (a.put o.dst v) w):wpListIn F n P ops Q (o::rest) a w:=by
 refine wpListIn_plain I fun K hK=>?_;have C:=run_append_owned_none (P:=P) (w:=w) base t o.type e i size A hi v m xs E;unfold Oper.wpIn;refine⟨?_,?_⟩
 ·simp[Oper.about,j,resolve,Target.leads,Sem.run_pure]
 ·rw[Oper.semAt_plain F _ _ (by rw[j];exact r3t)];simp[execOp,j,resolve,invoke,builtin,X,J,C,Result.andThen];exact hK _ _ h
theorem z1g{F n w ops}{rest o a Q}(I:o.guard=none)(s x:Operand)
  (j:o.op=.call { callee:=.builtin .append,args:=#[s,x],argTypes:=#[40,40] }) B v u xs ys (X:a.eval s=v) (J:a.eval x=u)
  (N:Ok .i32 21 w B v xs) (W:Sk .i32 w u ys) (S:xs.length+ys.length<=1000000000) (l:B<=w.heap.size)
  (h:∀v' w',Ok .i32 21 w' B v' (xs++ys)->w.grownBy w' v.ownBlock->wpListIn F n prog ops Q rest (a.put o.dst v') w'):wpListIn F n prog ops Q (o::rest) a w:=by
 obtain⟨r,hi,p,i,f⟩:=info_parts y2k;rcases W.2.src with⟨A,rfl⟩ | ⟨q,M,z,T⟩
 ·obtain rfl:ys=[]:=(by simpa using A);refine y4r I s x 40 j B 21 r 1 underlying40 hi v _ _ X N.row J ?_;exact I3X
 ·rw[List.length_map]at z;subst z;refine wpListIn_append_own w I s x 40 j B 21 r (.int .i32 0) 1 4 underlying40 hi p i f rfl e8P v _ _ X N.row q ys.length M (ys.map (Value.int .i32)) J M7O T (x0U .i32 ys) T7X f6J l ?_;exact U9J
theorem y1b{A B v zs}(h:Ok .i32 21 A B v zs){r o}(j:A.heap[r]?=some o)(T:o.isCells=false):some r≠v.ownBlock:=by
 rcases h.2.2.2 with⟨rfl,_⟩ | ⟨g,M,t,rfl,Q,X,_⟩
 ·exact V3H
 ·intro e;obtain rfl:r=g:=G5X;rw[X]at j;cases j;cases T
theorem z1T{H B w1:World}{row row2}(h:H.grownBy B row)(g:B.grownBy w1 row2)(hr:∀k,row2=some k->H.heap.size<=k):H.grownBy w1 row :=
 ⟨g.os.trans h.os,g.tape.trans h.tape,g.output.trans h.output,Nat.le_trans h.size g.size,fun k G E=>by rw[g.block k I2e (fun e=>by have:=hr k e.symm;exact f6J)];exact g5F⟩
theorem z1V{H w1:World}{b}(h:H.grownBy w1 (some b)) v:H.grownBy (w1.setCell ⟨b,0,none⟩ v) (some b):=by
 have g:=grownBy_setCell' w1 b v;exact⟨g.os.trans h.os,g.tape.trans h.tape,g.output.trans h.output,Nat.le_trans h.size g.size,fun k G E=>by rw[g.block k I2e E];exact g5F⟩
theorem x7l{z B W}(h:x8A z B W){b} v(Z:b≠z)(D:b≠z+1):x8A z B (W.setCell ⟨b,0,none⟩ v) :=
 ⟨(Below.heap_setCell _ _ _ _ P8P).trans h.1,(Below.heap_setCell _ _ _ _ P8P).trans h.2⟩
def y3b(w:World)(zs:List Int)(e:Ending)(w':World):Prop :=
 Below w.heap.size w w'/\((zs.length<=65536/\∃v,e=.returned (.tuple #[v,.int .i64 0])/\Ok .i32 21 w' w.heap.size v zs)\/(65536<zs.length/\e=.returned (.tuple #[.slice none 0 0,.int .i64 2])))
theorem fin15{w W z m u zs}(L:Ok .i32 21 W m u zs)(U:Bw w W)(Z:Boxed W w.heap.size 40 (.slice none 0 0))(D:Boxed W (w.heap.size+1) 29 (.int .i64 0))
  (hK:((W.setCell ⟨w.heap.size,0,none⟩ u).setCell ⟨w.heap.size+1,0,none⟩ (.int .i64 0)).heap[z]?=some (.deferred (some []))) (o:w.heap.size+2<=m/\w.heap.size+2<=z) (S:zs.length<=65536) :
  (((W.setCell ⟨w.heap.size,0,none⟩ u).setCell ⟨w.heap.size+1,0,none⟩ (.int .i64 0)).putObj z (.deferred none)).cell? ⟨w.heap.size,0,none⟩=some u /\
  (((W.setCell ⟨w.heap.size,0,none⟩ u).setCell ⟨w.heap.size+1,0,none⟩ (.int .i64 0)).putObj z (.deferred none)).cell? ⟨w.heap.size+1,0,none⟩=some (.int .i64 0) /\
  y3b w zs (.returned (.tuple #[u,.int .i64 0])) (((W.setCell ⟨w.heap.size,0,none⟩ u).setCell ⟨w.heap.size+1,0,none⟩ (.int .i64 0)).putObj z (.deferred none)):=by
 have P:∀b,b<m->some b≠u.ownBlock:=fun b Q e=>(by have:=(L.row.lt b e.symm).1;exact f6J);have B:Ok .i32 21 (W.setCell ⟨w.heap.size,0,none⟩ u) m u zs:=⟨L.1,L.2.1,L.2.2.kept (grownBy_setCell' W _ _) (.inr (P _ f6J).symm)⟩;have E:Ok .i32 21 ((W.setCell ⟨w.heap.size,0,none⟩ u).setCell ⟨w.heap.size+1,0,none⟩ (.int .i64 0)) m u zs:=⟨L.1,L.2.1,B.2.2.kept (grownBy_setCell' _ _ _) (.inr (P _ f6J).symm)⟩;have l:=(U.setCell (p:=⟨w.heap.size,0,none⟩) (l0r _) u).setCell (p:=⟨w.heap.size+1,0,none⟩) M7L (.int .i64 0);refine⟨(x6p ((Z.set u).other f6J _) _ hK rfl).cell,(x6p ((D.other f6J _).set _) _ hK rfl).cell,?_,.inl ⟨S,u,rfl,x3u (z8N E _ hK rfl) f6J⟩⟩;exact l.trans ((b0r).grown (grownBy_putObj' _ z _) (by have:=(Array.getElem?_eq_some_iff.1 hK).1;exact f6J) (fun k e=>W0i))
theorem y8Y p fl ys xv xs w(hx:Sk .i32 w xv xs)(hl:xs.length<=1000000000)(ho:y3c w p fl ys) :
  Calls prog 14 #[.pointer (some ⟨p,0,none⟩),xv,.int .i64 fl] w (y3b w (x0H ys xs)):=by
 obtain⟨I,ai⟩:∃I,w.alloc (.cells #[.slice none 0 0] 40)=I:=⟨_,rfl⟩;obtain⟨d,af⟩:∃d,I.alloc (.cells #[.int .i64 0] 29)=d:=⟨_,rfl⟩;obtain⟨P,g⟩:∃P,d.alloc (.cells #[.slice none 0 0] 40)=P:=⟨_,rfl⟩;have s1:I.heap.size=w.heap.size+1:=(by rw[<- ai];exact x0x _ _);have s2:d.heap.size=w.heap.size+2:=(by rw[<- af,x0x,s1]);have s3:P.heap.size=w.heap.size+3:=by rw[<- g,x0x,s2]
 have b3:Bw w P:=by
  rw[<- g,<- af,<- ai];exact(((b0r).alloc (l0r _) _).alloc M7N _).alloc P8P _
 have J:Boxed P w.heap.size 40 (.slice none 0 0):=(by rw[<- g,<- af,<- ai];exact((Boxed.new w _ _).alloc _).alloc _);have q:Boxed P (w.heap.size+1) 29 (.int .i64 0):=(by rw[<- g,<- af,<- s1];exact(Boxed.new I _ _).alloc _);have aj:Boxed P (w.heap.size+2) 40 (.slice none 0 0):=(by rw[<- g,<- s2];exact Boxed.new d _ _);have K:=O (y2x p fl xv xs P (hx.below b3) hl);obtain⟨ao,M,rfl,_,_⟩:=hx.shape;refine(callsIn_wide (n:=3)).1 ?_;refine callsIn_of_wp_marks func14 rfl trivial ?_ rfl;simp only[ntmps14,List.size_toArray,List.length_cons,List.length_nil,Nat.reduceAdd,Nat.reduceSub,Array.replicate_succ,Array.replicate_zero,List.push_toArray,List.append_toArray,List.nil_append,List.cons_append];gi_wp2_with (refine⟨trivial,?_⟩;gi_at_call 28;refine(callsIn_wide.2 (V K)).mono ?_);rintro e H ⟨bd,bk,Z,kv,rfl,pt,b0⟩;gi_wp2;have aO:=b0.size;have bW:Bw w H:=x0b b3 b0;have m:Boxed H w.heap.size 40 (.slice none 0 0):=(b0.block _ J.lt).trans J;have t:Boxed H (w.heap.size+1) 29 (.int .i64 0):=(b0.block _ q.lt).trans q;have y3:Boxed H (w.heap.size+2) 40 (.slice none 0 0):=(b0.block _ aj.lt).trans aj;have b:∀A,H.grownBy A (some (w.heap.size+2))->Bw w A:=fun A C=>⟨C.os.trans bW.os,C.tape.trans bW.tape,C.output.trans bW.output,Nat.le_trans bW.size C.size,fun k hk=>(C.block k f6J P8P).trans (bW.block k hk)⟩;have aA:∀A,H.grownBy A (some (w.heap.size+2))->Rd15 p fl ys bd bk Z kv xs A:=fun A C=>(pt.grown C f6J).rd (fun c T W hW=>ho c T W ((b A C).trans (hW.mono (b A C).size)))
 refine z6w (F:=Fence.wide) rfl f6J (gf:=53) (lb:=Lb15 bd bk Z) rfl trivial (enters_of func53 f4z rfl) (y5J (3-1) f6J p fl ys bd bk Z kv xs) (fun _ _=>rfl)
  (fun k A=>Mi15 H (w.heap.size+2) (x0H ys (xs.take k)) A/\(x0H ys (xs.take k)).length<=65536)
  (fun c _ A=>c=.ret/\65536<(x0H ys xs).length/\Boxed A w.heap.size 40 (.slice none 0 0)/\Boxed A (w.heap.size+1) 29 (.int .i64 2)/\Bw w A/\w.heap.size<A.heap.size)
  (fun k A h=>aA A h.1.gb) (fun k A B h Q=>⟨h.1.below Q,h.2⟩) (fun k A r o f hr ho T h=>⟨h.1.put f hr ho T,h.2⟩)
  (fun c k A r o f hr ho T h=>⟨h.1,h.2.1,x6p h.2.2.1 f ho T,x6p h.2.2.2.1 f ho T,h.2.2.2.2.1.trans ((Below.refl _ A).grown (grownBy_putObj' A r f) f6J (fun k e=>W0i)),by simpa using h.2.2.2.2.2⟩)
  (fun k v A B r f hr h=>by have:=okF15 h f hr;simpa[Pr15]using this)
  ⟨⟨⟨_,y3,Ok.nil _ _ _ _⟩,World.grownBy.refl H _⟩,by simp[x0H]⟩
  (fun k v=>{ tmps:=#[.pointer (some ⟨p,0,none⟩),.slice ao xs.length M,.int .i64 fl,undef,undef,undef,.pointer (some ⟨w.heap.size,0,none⟩),.pointer (some ⟨w.heap.size+1,0,none⟩),.pointer (some ⟨w.heap.size+2,0,none⟩),undef,v,.pointer (some ⟨p,0,none⟩),.bool false,.pointer (some ⟨p,0,none⟩),.slice ao xs.length M,.int .i64 fl,.func (.func 53) #[] (Lb15 bd bk Z),.int .i32 (xs.getD k 0),v,undef,undef,undef,undef,undef,undef,undef,undef,undef,undef],defers:=[] }) ?assign ?body ?done ?stop
 case assign =>
  intro l k v W K hK;gi_wp2;exact hK
 case body =>
  rintro l k v A B hk rfl aL ⟨⟨⟨u,hu,L⟩,C⟩,s⟩ Q hp ⟨rr,ab⟩ ag;have E:=y2e ys xs hk;have aD:=y8h ys xs (k+1);have N:Boxed B (w.heap.size+2) 40 u:=(Q.block _ hu.lt).trans hu;have ar:=L.below Q;have X:=z8q C Q;have Y:Sk .i32 B v (ys (xs.getD k 0)):=Ok.sk hp;have a:Boxed B w.heap.size 40 (.slice none 0 0):=(X.block _ m.lt M7N).trans m;have U:Boxed B (w.heap.size+1) 29 (.int .i64 0):=(X.block _ t.lt M7N).trans t;have aN:=Y.len;obtain⟨D,cu,S,_,_⟩:=ar.sk.shape;obtain⟨av,cv,aI,_,_⟩:=Y.shape;subst S aI;have HP:=O Y;have x:=O ar;have HG:=O X;have HW:=O (b B X);have aK:=(b B X).size;have aH:=X.size;have aM:∀k,(Value.slice D (x0H ys (xs.take k)).length cu).ownBlock=some k->True:=fun _ _=>trivial;have HX:=O a;have HY:=O U;have HU:=O N;have x8:=N.cell;have f8:=N.frozen;have x6:=a.cell;have f6:=a.frozen;have x7:=U.cell;have f7:=U.frozen;generalize ys (xs.getD k 0)=zv at *;by_cases aJ:65536<(x0H ys (xs.take k)).length+zv.length
  ·have aB:(65536:Int)<((x0H ys (xs.take k)).length:Int)+(zv.length:Int):=f6J;gi_wp2;refine⟨x7l (x7l ⟨rfl,rfl⟩ _ f6J f6J) _ f6J f6J,rfl,?_,((V HX).set _).other f6J _,((V HY).other f6J _).set _,((V HW).setCell (p:=⟨w.heap.size,0,none⟩) (l0r _) _).setCell (p:=⟨w.heap.size+1,0,none⟩) M7N _,?_⟩
   ·rw[E,List.length_append]at aD;omega
   ·have h1:=(grownBy_setCell' (B.setCell ⟨w.heap.size,0,none⟩ (.slice none 0 0)) (w.heap.size+1) (.int .i64 2)).size;have h2:=(grownBy_setCell' B w.heap.size (.slice none 0 0)).size;have R:=(V HX).lt;omega
  ·have aB:((x0H ys (xs.take k)).length:Int)+(zv.length:Int)<=65536:=f6J;have G:∀j,(Value.slice D (x0H ys (xs.take k)).length cu).ownBlock=some j->H.heap.size<=j:=fun j hj=>((V x).row.lt j hj).1;have aF:=y1b (V x) ab rfl;have aG:=y1b (V x) ag rfl;have HL:=O G;have y:=O aF;have aw:=O aG;gi_wp2_with (gi_at_builtin;refine z1g rfl (.tmp 25) (.tmp 26) rfl H.heap.size _ _ _ _ rfl rfl (V x) (V HP) f6J aH ?_);intro v' I ae g';have i:Boxed I (w.heap.size+2) 40 (.slice D (x0H ys (xs.take k)).length cu):=(V HU).kept g' (fun e=>by have:=V HL _ e.symm;exact f6J);have q1:=i.cell;have q2:=i.frozen;have aC:=z1T (V HG) g' (V HL);have hT:x8A H.heap.size B I:=⟨g'.block _ (Array.getElem?_eq_some_iff.1 ag).1 (V aw),g'.block _ (Array.getElem?_eq_some_iff.1 ab).1 (V y)⟩
   have hF:x8A H.heap.size B (I.setCell ⟨w.heap.size+2,0,none⟩ v')/\Mi15 H (w.heap.size+2) (x0H ys (xs.take (k+1))) (I.setCell ⟨w.heap.size+2,0,none⟩ v')/\(x0H ys (xs.take (k+1))).length<=65536:=by
    refine⟨x7l hT _ f6J f6J,⟨⟨v',i.set v',?_⟩,z1V aC _⟩,by rw[E,List.length_append];exact f6J⟩;rw[E];refine⟨ae.1,ae.2.1,ae.2.2.kept (grownBy_setCell' I _ v') ?_⟩;exact .inr (fun e=>by have:=(ae.row.lt _ e).1;exact f6J)
   have HF:=O hF;obtain⟨a',c',z,_,_⟩:=ae.sk.shape;rw[List.length_append]at z;subst z;gi_wp2;exact V HF
 case done =>
  rintro W ⟨⟨⟨u,hu,L⟩,C⟩,s⟩ hK;rw[List.take_length]at L s;have a:Boxed W w.heap.size 40 (.slice none 0 0):=(C.block _ m.lt M7N).trans m;have U:Boxed W (w.heap.size+1) 29 (.int .i64 0):=(C.block _ t.lt M7N).trans t;have x8:=hu.cell;have x6:=a.cell;have f6:=a.frozen;have x7:=U.cell;have f7:=U.frozen;obtain⟨D,cu,S,_,_⟩:=L.sk.shape;subst S;have x:=O L;have ay:=O a;have az:=O U;have HW:=O (b W C)
  have am:((W.setCell ⟨w.heap.size,0,none⟩ (.slice D (x0H ys xs).length cu)).setCell ⟨w.heap.size+1,0,none⟩ (.int .i64 0)).heap[H.heap.size]?=some (.deferred (some [])):=by
   rw[Below.heap_setCell _ _ _ _ P8P,Below.heap_setCell _ _ _ _ P8P];exact hK
  have aq:=fin15 (V x) (V HW) (V ay) (V az) am f6J s;gi_wp2;refine⟨M7N,.inl ⟨_,_,rfl,run_takeDeferred am,?_⟩⟩;obtain⟨h1,h2,R⟩:=aq;exact⟨_,by simp[results,Tryz.results14,go_sem,h1,h2],R⟩
 case stop =>
  rintro c k W hk ⟨rfl,h1,h2,R,h4,h5⟩ hK;have g1:=(x6p h2 (.deferred none) hK rfl).cell;have g2:=(x6p R (.deferred none) hK rfl).cell;have g3:Bw w (W.putObj H.heap.size (.deferred none)):=h4.trans ((Below.refl _ W).grown (grownBy_putObj' W _ _) f6J (fun k e=>W0i));gi_wp2;refine⟨M7N,.inl ⟨_,_,rfl,run_takeDeferred hK,?_⟩⟩;exact⟨_,by simp[results,Tryz.results14,go_sem,g1,g2],g3,.inr ⟨h1,rfl⟩⟩
