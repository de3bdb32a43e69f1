/- Ra15 Rc15 Re15 Rf15 -/
import Derived.RangeFuncNested
import Derived.RangeFuncBound
import Derived.RangeFuncCalls
import Derived.RangeFuncLeaves
import Derived.Test.YtbmckadcjdedcaaGreatDoorD4
import Derived.Shelf.Abstract
import Derived.Shelf.RegionOpen
import Derived.WalkKit
import Derived.OwnWalkIn
import Derived.TacticsInMore
import Derived.LoopNIn
import Derived.LoopIn
import Derived.Test.YtbmckadcjdedcaaGreatDoorD5
set_option maxHeartbeats 2000000
set_option maxRecDepth 100000
namespace Go.Proofs.YtbmckadcjdedcaaGreatDoor
open Go.Proofs.Tryz
open Go.RowKit
section
variable{p:Prop}
theorem W3W(h:p:=by intro c I;cases I):p:=h
theorem E1G(h:p:=by have:=run_endLoop (P:=P) S (by rw[J];exact M7L);rw[J]at this;exact this):p:=h
theorem p5F(h:p:=by simp[Value.ownBlock]at e;exact f6J):p:=h
theorem W0i(h:p:=by cases e;exact f6J):p:=h
end
def It15(F:Fence)(n:Nat)(P:Program)(g:Nat)(lb:Array Value)(N:Nat)(enc:Nat->Value->Array Value)(Pr:Nat->Value->World->World->Prop)(Rd:World->Prop):Prop :=
 ∀(l:Nat) (J Jx:Nat->World->Prop) (W:World),(∀k A,J k A->Rd A)->(∀k A B,J k A->Below A.heap.size A B->J k B) ->
  (∀k v A B,k<N->J k A->Below A.heap.size A B->Pr k v A B->YieldAt F (n-1) P l (enc k v) B fun e W'=>(e=.returned (.bool true)/\J (k+1) W')\/(e=.returned (.bool false)/\Jx k W')) ->
  J 0 W->CallsIn F n P g (#[.func (.yield l) #[] #[]]++lb) W fun e W'=>(∃v,e=.returned v)/\(J N W'\/∃k,k<N/\Jx k W')
def x8w(z:Nat)(B W:World):Prop:=W.heap[z]?=B.heap[z]?/\W.heap[z+1]?=B.heap[z+1]?
def Out15(z:Nat)(I:World->Prop)(Ix:Code->World->Prop)(B:World):Exit->Act->World->Prop
 | .normal,_,W=>x8w z B W/\I W
 | .ret,_,W=>x8w z B W/\Ix .ret W
 | .exit id,_,W=>x8w z B W/\Ix (.exit id) W
 | .goto t,_,W=>x8w z B W/\Ix (.goto t) W
 | .panic _,_,_=>False
 | .outgrown,_,_=>False
theorem y1B{A B:World}(h:Bw A B)(l:Nat)(o:Obj)(S:l<A.heap.size):Below (A.putObj l o).heap.size (A.putObj l o) (B.putObj l o):=by
 have X:=h.size;refine⟨h.os,h.tape,h.output,by simp;exact X,fun k G=>?_⟩;by_cases e:k=l
 ·subst e;rw[World.putObj_heap_same f6J,World.putObj_heap_same S]
 ·rw[World.putObj_heap_other e,World.putObj_heap_other e];exact h.block k E9n
theorem z5P{F:Fence}{n:Nat}{P:Program}{g:Operand}{ps:Array Tmp}{assign j:Code}{Q:Exit->Act->World->Prop}{a:Act}{w:World}
  (b:F.round=none) (h1:1<=n) {gf:Nat} {lb:Array Value} (hg:a.eval g=.func (.func gf) #[] lb) (aA:F.fn gf) (y:∀args w,(callFunc gf args).run P w=.ok (.enter gf args) w)
  {N:Nat} {ag:Nat->Value->Array Value} {Pr:Nat->Value->World->World->Prop} {Rd:World->Prop} (hit:It15 F (n-1) P gf lb N ag Pr Rd) (aD:∀k v,(ag k v).size=ps.size)
  (I:Nat->World->Prop) (Ix:Code->Nat->World->Prop) (hR:∀k A,I k A->Rd A) (i:∀k A B,I k A->Bw A B->I k B)
  (ai:∀k A r o s,w.heap.size<=r->A.heap[r]?=some o->o.isCells=false->I k A->I k (A.putObj r s))
  (C:∀c k A r o s,w.heap.size<=r->A.heap[r]?=some o->o.isCells=false->Ix c k A->Ix c k (A.putObj r s))
  (X:∀k v A B r s,r<A.heap.size->Pr k v A B->Pr k v (A.putObj r s) (B.putObj r s))
  (h0:I 0 w) (a₁:Nat->Value->Act)
  (E:∀(l k:Nat) (v:Value) (W:World) (K:Act->World->Prop),K (a₁ k v) W ->
   assign.wpIn (F.inRound l) (n-1-1) P (Exit.then K (fun _ _ _=>False)) { tmps:=(ps.zip (ag k v)).foldl (fun t (p,v)=>t.setIfInBounds p v) a.tmps,defers:=[] } W)
  (ae:∀(l k:Nat) (v:Value) (A B:World),k<N->l=w.heap.size+1->l<A.heap.size->I k A->Bw A B->Pr k v A B ->
   (∃r,B.heap[l]?=some (.loop r))->B.heap[w.heap.size]?=some (.deferred (some [])) ->
   j.wpIn (F.inRound l) (n-1-1) P (Out15 w.heap.size (I (k+1)) (fun c=>Ix c k) B) (a₁ k v) B)
  (G:∀W,I N W->W.heap[w.heap.size]?=some (.deferred (some []))->Q .normal { a with defers:={ target:=.collected w.heap.size,args:=#[] }::a.defers } W)
  (af:∀c k W,k<N->Ix c k W->W.heap[w.heap.size]?=some (.deferred (some []))->c.wpIn F n P Q { a with defers:={ target:=.collected w.heap.size,args:=#[] }::a.defers } W) :
  (Code.rangeFunc g ps assign j).wpIn F n P Q a w:=by
 refine wpIn_rangeFunc ?_;intro fn Z;rw[b];obtain⟨rc,J⟩:∃rc:LoopState->Option Code->Loop,rc=fun m pe=>{ state:=m,pending:=pe,fn,tmps:=a.tmps,params:=ps,assign,body:=j,defers:=w.heap.size }:=⟨_,rfl⟩;obtain⟨z,hz⟩:∃z,w.heap.size=z:=⟨_,rfl⟩;obtain⟨f,aj⟩:∃f,(w.alloc (.deferred (some []))).alloc (.loop (rc .ready none))=f:=⟨_,rfl⟩
 have aC:f.heap[z+1]?=some (.loop (rc .ready none)):=by
  rw[<- aj,<- hz];have:=World.alloc_heap_new (w.alloc (.deferred (some []))) (.loop (rc .ready none));rwa [World.size_alloc]at this
 have T:f.heap[z]?=some (.deferred (some [])):=by
  rw[<- aj,<- hz];exact(Below.heap_alloc _ _ _ M7L).trans (World.alloc_heap_new w _)
 have aB:I 0 f:=by
  refine i 0 w f h0 ?_;rw[<- aj];exact((Below.refl _ w).alloc (l0r _) _).alloc M7L _
 have H:∀{A:World} {k:Nat} {o:Obj},A.heap[k]?=some o->k<A.heap.size:=fun h=>(Array.getElem?_eq_some_iff.1 h).1;rw[hz]at ai C ae G af;refine⟨z+1,[{ target:=.collected z,args:=#[] }],f,{ target:=.fn (.func gf) lb,args:=#[.func (.yield (z+1)) #[] #[]] },f,gf,#[.func (.yield (z+1)) #[] #[]]++lb,f,?_,?_,?_,?_,fun _=>h1,?_⟩
 ·rw[<- aj,J,<- hz];exact run_enterLoop_outer _ _ _ _ _
 ·simp only[resolve,hg];simp[go_sem]
 ·intro f' ay;simp[Target.leads]at ay;subst ay;exact aA
 ·simp[invoke,go_sem,y]
 ·refine(hit (z+1) (fun k W=>I k W/\W.heap[z+1]?=some (.loop (rc .ready none))/\W.heap[z]?=some (.deferred (some [])))
   (fun k W=>∃c,Ix c k W/\W.heap[z+1]?=some (.loop (rc .done (some c)))/\W.heap[z]?=some (.deferred (some []))) f (fun k A h=>hR k A h.1)
   (fun k A B h hb=>⟨i k A B h.1 hb,(hb.block _ (H h.2.1)).trans h.2.1,(hb.block _ (H h.2.2)).trans h.2.2⟩) ?_ ⟨aB,aC,T⟩).mono ?_
  ·rintro k v A B hk ⟨hi,S,hd⟩ hb hp;have ar:=(hb.block _ (H S)).trans S;have Y:=(hb.block _ (H hd)).trans hd;have x:=run_yield (P:=P) (args:=ag k v) ar (by rw[J];exact aD k v);rw[J]at x;refine⟨fn,_,assign,j,x,roundIn_of_wpIn Z (E _ k v B _ ⟨_,run_beginRound ar W6A,?_⟩)⟩;generalize hbz:(Obj.loop { rc .ready none with state:=.busy })=D;have aq:(B.putObj (z+1) D).heap[z+1]?=some D:=World.putObj_heap_same (H ar);have aw:(B.putObj (z+1) D).heap[z]?=some (.deferred (some [])):=(World.putObj_heap_other f6J).trans Y;refine wpIn_mono (ae (z+1) k v (A.putObj (z+1) D) (B.putObj (z+1) D) hk rfl (by simpa using H S) (ai k A (z+1) _ D f6J S rfl hi) (y1B hb _ _ (H S)) (X k v A B (z+1) D (H S) hp) ⟨_,by rw[<- hbz]at aq ⊢;exact aq⟩ aw) ?_
   have fin:∀(M:Option Code) (q:World),x8w z (B.putObj (z+1) D) q ->
     (Instr.endRound (z+1) M).run P q=.ok (.bool M.isNone) (q.putObj (z+1) (.loop (rc (if M.isNone then .ready else .done) M))) /\
     q.heap[z+1]?=some D /\
     (q.putObj (z+1) (.loop (rc (if M.isNone then .ready else .done) M))).heap[z+1]?=some (.loop (rc (if M.isNone then .ready else .done) M)) /\
     (q.putObj (z+1) (.loop (rc (if M.isNone then .ready else .done) M))).heap[z]?=some (.deferred (some [])):=fun M q az=>by
    have R:=az.2.trans aq;have U:=R;rw[<- hbz]at U;have:=run_endRound (P:=P) M U;rw[J]at this ⊢;exact⟨this,R,World.putObj_heap_same (H R),(World.putObj_heap_other f6J).trans (az.1.trans aw)⟩
   have am:D.isCells=false:=(by rw[<- hbz];rfl);rintro e d q L
   cases e with
   | normal =>
    obtain⟨u,R,U,ab⟩:=fin none q L.1;exact⟨_,_,u,.inl ⟨rfl,ai _ _ _ _ _ f6J R am L.2,U,ab⟩⟩
   | ret =>
    obtain⟨u,R,U,ab⟩:=fin (some .ret) q L.1;exact⟨_,_,u,.inr ⟨rfl,.ret,C _ _ _ _ _ _ f6J R am L.2,U,ab⟩⟩
   | exit id =>
    obtain⟨u,R,U,ab⟩:=fin (some (.exit id)) q L.1;exact⟨_,_,u,.inr ⟨rfl,.exit id,C _ _ _ _ _ _ f6J R am L.2,U,ab⟩⟩
   | goto t =>
    obtain⟨u,R,U,ab⟩:=fin (some (.goto t)) q L.1;exact⟨_,_,u,.inr ⟨rfl,.goto t,C _ _ _ _ _ _ f6J R am L.2,U,ab⟩⟩
   | panic ch=>exact L.elim
   | outgrown=>exact L.elim
  ·rintro e W2 ⟨⟨v,rfl⟩,(⟨hi,S,hd⟩ | ⟨k,hk,c,hi,S,hd⟩)⟩
   ·refine⟨none,_,E1G,?_⟩;rw[hz];exact G _ (ai N W2 (z+1) _ _ f6J S rfl hi) ((World.putObj_heap_other f6J).trans hd)
   ·refine⟨some c,_,E1G,?_⟩;rw[hz];exact af c k _ hk (C c k W2 (z+1) _ _ f6J S rfl hi) ((World.putObj_heap_other f6J).trans hd)
open Go.RowKit Go.Shelf
attribute [local go_sem] Oper.semAt_some
def y2O(A:World)(p:Nat)(fl:Int)(ys:Int->List Int):Prop:=∀c,Rune c->∀W,Below A.heap.size A W->Calls prog 54 #[.pointer (some ⟨p,0,none⟩),.int .i32 c,.int .i64 fl] W (x0j W (ys c))
structure Rd15(p:Nat)(fl:Int)(ys:Int->List Int)(bd bk bf:Nat)(kv:Value)(xs:List Int)(A:World):Prop where
 d:A.cell? ⟨bd,0,none⟩=some (.pointer (some ⟨p,0,none⟩))
 k:A.cell? ⟨bk,0,none⟩=some kv
 f:A.cell? ⟨bf,0,none⟩=some (.int .i64 fl)
 sk:Sk .i32 A kv xs
 one:y2O A p fl ys
abbrev z6F(xs:List Int)(k:Nat)(v:Value):Array Value:=#[.int .i32 (xs.getD k 0),v]
abbrev Pr15(ys:Int->List Int)(xs:List Int)(k:Nat)(v:Value)(A B:World):Prop:=Ok .i32 21 B A.heap.size v (ys (xs.getD k 0))
abbrev Lb15(bd bk bf:Nat):Array Value:=#[.pointer (some ⟨bd,0,none⟩),.pointer (some ⟨bk,0,none⟩),.pointer (some ⟨bf,0,none⟩)]
theorem y5s(n:Nat)(E:1<=n)(p:Nat)(fl:Int)(ys:Int->List Int)(N S a:Nat)(I:Value)(xs:List Int) :
  It15 Fence.wide n prog 53 (Lb15 N S a) xs.length (z6F xs) (Pr15 ys xs) (Rd15 p fl ys N S a I xs):=fun l J Jx W X o z T=>by
 have M:=X 0 W T;have u:=M.d;have x2:=M.k;have t:=M.sk.len;have g:=fun k A h=>O (X k A h);obtain⟨ao,cap,U,ae,Q⟩:=M.sk.shape;rw[U]at x2;refine callsIn_of_wp func53 rfl trivial ?_ rfl;simp only[ntmps53,List.size_toArray,List.length_cons,List.length_nil,Nat.reduceAdd,Nat.reduceSub,Array.replicate_succ,Array.replicate_zero,List.push_toArray,List.append_toArray,List.nil_append,List.cons_append];gi_wp2;gi_loopw [11] (fun i wr=>∃k:Nat,i=.int .i64 k/\k<=xs.length/\J k wr) (fun i _=>xs.length-(intOf i).toNat)
 case atStart=>exact⟨0,rfl,Nat.zero_le _,T⟩
 case round =>
  obtain⟨k,rfl,G,hj⟩:=hrel;by_cases H:k<xs.length
  ·have P:=V (g k wr hj);obtain⟨b,off,ab,D,_,_,y⟩:=P.sk.place f6J;rw[U]at D;simp only[Value.slice.injEq]at D;obtain⟨rfl,-,rfl⟩:=D;have u:=P.d;have R:=P.f;have F:=y k H
   have L:Rune (xs.getD k 0):=by
    have:=P.sk.1 (xs.getD k 0) N3G;exact⟨this.1,this.2⟩
   have K:=O (P.one (xs.getD k 0) L wr (b0r));have x:=fun v B=>O (z k v wr B H hj);clear P y L o z g;unfold z6F Pr15 at x;generalize xs.getD k 0=c at *;gi_wp2_with (refine⟨trivial,?_⟩;gi_at_call 54;refine(callsIn_wide.2 (V K)).mono ?_);rintro e W2 ⟨v,rfl,ok,m⟩;obtain⟨Z,C,assign,j,hy,Y⟩:=V (x v W2) m ok;gi_wp2;refine Y.mono ?_;rintro e q (⟨rfl,r⟩ | ⟨rfl,s⟩)
   ·gi_wp2
    go_roundw
    case rel=>exact⟨k+1,g2A,f6J,r⟩
    case measure=>exact g7T
   ·gi_wp2;refine bodyPost_ret (results_none rfl _ _ _) rfl ?_;exact⟨⟨_,rfl⟩,.inr ⟨k,H,s⟩⟩
  ·obtain rfl:k=xs.length:=f6J;gi_wp2;go_end0;exact⟨⟨_,rfl⟩,.inl hj⟩
structure Pt15(B:Nat)(p:Nat)(fl:Int)(bd bk bf:Nat)(kv:Value)(xs:List Int)(A:World):Prop where
 d:A.cell? ⟨bd,0,none⟩=some (.pointer (some ⟨p,0,none⟩))
 k:A.cell? ⟨bk,0,none⟩=some kv
 f:A.cell? ⟨bf,0,none⟩=some (.int .i64 fl)
 ok:Ok .i32 21 A B kv xs
 bd0:B<=bd
 bk0:B<=bk
 bf0:B<=bf
theorem Pt15.rd{B p:Nat}{fl:Int}{N S a:Nat}{I:Value}{xs:List Int}{A:World}(h:Pt15 B p fl N S a I xs A){ys:Int->List Int}(y:y2O A p fl ys):Rd15 p fl ys N S a I xs A:=⟨h.d,h.k,h.f,h.ok.sk,y⟩
def y2Q(w:World)(p:Nat)(fl:Int)(xs:List Int)(e:Ending)(w':World):Prop :=
 ∃bd bk bf kv,e=.returned (.func (.func 53) #[] (Lb15 bd bk bf))/\Pt15 w.heap.size p fl bd bk bf kv xs w'/\Below w.heap.size w w'
theorem x3q{K:IntKind}{e:TypeId}{w:World}{B E:Nat}{v:Value}{zs:List Int}(h:Ok K e w B v zs)(l:E<=B):Ok K e w E v zs:=by
 exact h.lower l
theorem y2n(p:Nat)(fl:Int)(a:Value)(xs:List Int)(w:World)(J:Sk .i32 w a xs)(S:xs.length<=1000000000):Calls prog 28 #[.pointer (some ⟨p,0,none⟩),a,.int .i64 fl] w (y2Q w p fl xs):=by
 obtain⟨Q,H⟩:∃Q,w.alloc (.cells #[.pointer (some ⟨p,0,none⟩)] 22)=Q:=⟨_,rfl⟩;obtain⟨A,P⟩:∃A,Q.alloc (.cells #[.int .i64 fl] 3)=A:=⟨_,rfl⟩;have b1:Bw w Q:=(by rw[<- H];exact t9C);have m:Bw Q A:=(by rw[<- P];exact t9C);have K:=O (x2T a xs A (J.below (x0b b1 m)) S);obtain⟨s,M,rfl,_,_⟩:=J.shape;go_enter func28,ntmps28;go_wp2_with fail;refine(V K).mono ?_;rintro e u ⟨I,rfl,ok,G⟩;have C:=x0b (x0b b1 m) G;have F:Q.heap.size=w.heap.size+1:=(by rw[<- H];exact x0w _ _);have d:A.heap.size=Q.heap.size+1:=by rw[<- P];exact x0w _ _
 have o:u.cell? ⟨w.heap.size,0,none⟩=some (.pointer (some ⟨p,0,none⟩)):=by
  have h:Q.cell? ⟨w.heap.size,0,none⟩=some (.pointer (some ⟨p,0,none⟩)):=(by rw[<- H];exact M7L);have Z:A.cell? ⟨w.heap.size,0,none⟩=some (.pointer (some ⟨p,0,none⟩)):=(by rw[m.cell (x0a h)];exact h);rw[G.cell (x0a Z)];exact Z
 have z:u.cell? ⟨Q.heap.size,0,none⟩=some (.int .i64 fl):=by
  have h:A.cell? ⟨Q.heap.size,0,none⟩=some (.int .i64 fl):=(by rw[<- P];exact M7L);rw[G.cell (x0a h)];exact h
 have T:Hid (y2Q w p fl xs (.returned (.func (.func 53) #[] (Lb15 w.heap.size u.heap.size Q.heap.size))) (u.alloc (.cells #[I] 40))):=by
  have E:Bw u (u.alloc (.cells #[I] 40)):=(b0r).alloc (l0r _) _;have D:=G.size;refine⟨_,_,_,I,rfl,⟨?_,?_,?_,?_,l0r _,f6J,f6J⟩,x0b C E⟩
  ·rw[E.cell (x0a o)];exact o
  ·simp
  ·rw[E.cell (x0a z)];exact z
  ·exact(x3q ok f6J).below E
 obtain⟨W,R,U,_,_⟩:=ok.sk.shape;subst U;rw[F]at T;exact v8m
open Go.RowKit Go.Shelf
attribute [local go_sem] Oper.semAt_some
def x0I(ys:Int->List Int)(xs:List Int):List Int:=(xs.map ys).flatten
theorem x7T(ys:Int->List Int)(a b:List Int):x0I ys (a++b)=x0I ys a++x0I ys b:=by simp[x0I]
theorem y1V(ys:Int->List Int)(xs:List Int){k:Nat}(G:k<xs.length):x0I ys (xs.take (k+1))=x0I ys (xs.take k)++ys (xs.getD k 0):=by
 rw[List.take_add_one,x7T,List.getElem?_eq_getElem G];simp[x0I,List.getD,List.getElem?_eq_getElem G]
theorem y7K(ys:Int->List Int)(xs:List Int)(k:Nat):(x0I ys (xs.take k)).length<=(x0I ys xs).length:=by
 conv=>rhs;rw[<- List.take_append_drop k xs,x7T,List.length_append]
 omega
structure Mi15(W0:World)(Ba:Nat)(zs:List Int)(A:World):Prop where
 box:∃v,Boxed A Ba 40 v/\Ok .i32 21 A W0.heap.size v zs
 gb:W0.grownBy A (some Ba)
theorem z7H{l A B:World}{row:Option Nat}(h:l.grownBy A row)(C:Bw A B):l.grownBy B row:=⟨C.os.trans h.os,C.tape.trans h.tape,C.output.trans h.output,Nat.le_trans h.size C.size,fun k G E=>by rw[C.block k I2e];exact g5F⟩
theorem gbP15{l A:World}{row:Option Nat}(h:l.grownBy A row){r:Nat}(o:Obj)(hr:l.heap.size<=r):l.grownBy (A.putObj r o) row:=⟨h.os,h.tape,h.output,by simpa using h.size,fun k G E=>by rw[World.putObj_heap_other f6J];exact g5F⟩
theorem z8e{A:World}{B:Nat}{v:Value}{zs:List Int}(h:Ok .i32 21 A B v zs){r:Nat}{o:Obj}(s:Obj)(y:A.heap[r]?=some o)(I:o.isCells=false):Ok .i32 21 (A.putObj r s) B v zs:=⟨h.1,h.2.1,ownsRow_putObj h.2.2 s y I⟩
theorem okF15{B:World}{m:Nat}{v:Value}{zs:List Int}(h:Ok .i32 21 B m v zs){r:Nat}(o:Obj)(hr:r<m):Ok .i32 21 (B.putObj r o) m v zs:=⟨h.1,h.2.1,h.2.2.kept (grownBy_putObj' B r o) (by
 rcases h.2.2.2 with⟨rfl,_⟩ | ⟨g,cap,P,rfl,C,_⟩
 ·exact .inl rfl
 ·exact .inr (fun e=>p5F))⟩
theorem x6h{A:World}{b:Nat}{t:TypeId}{v:Value}(h:Boxed A b t v){r:Nat}{o:Obj}(s:Obj)(y:A.heap[r]?=some o)(I:o.isCells=false):Boxed (A.putObj r s) b t v:=by
 refine h.kept (grownBy_putObj' A r s) (fun e=>?_);obtain rfl:b=r:=N5i;rw[show A.heap[b]?=_ from h]at y;cases y;cases I
theorem Mi15.below{l:World}{E:Nat}{zs:List Int}{A B:World}(h:Mi15 l E zs A)(C:Bw A B):Mi15 l E zs B:=by
 obtain⟨⟨v,D,Z⟩,R⟩:=h;exact⟨⟨v,(C.block _ D.lt).trans D,Z.below C⟩,z7H R C⟩
theorem Mi15.put{l:World}{E:Nat}{zs:List Int}{A:World}(h:Mi15 l E zs A){r:Nat}{o:Obj}(s:Obj)(hr:l.heap.size<=r)(y:A.heap[r]?=some o)(I:o.isCells=false):Mi15 l E zs (A.putObj r s):=by
 obtain⟨⟨v,D,Z⟩,R⟩:=h;exact⟨⟨v,x6h D s y I,z8e Z s y I⟩,gbP15 R s hr⟩
theorem Pt15.grown{B p:Nat}{fl:Int}{N S a:Nat}{I:Value}{xs:List Int}{l A:World}(h:Pt15 B p fl N S a I xs l){E:Nat}(Y:l.grownBy A (some E))(F:E<B):Pt15 B p fl N S a I xs A:=by
 have D:=h.bd0;have Z:=h.bk0;have R:=h.bf0;refine⟨Y.cell h.d P8P,Y.cell h.k P8P,Y.cell h.f P8P,⟨h.ok.1,h.ok.2.1,h.ok.2.2.kept Y ?_⟩,D,Z,R⟩;rcases h.ok.2.2.2 with⟨rfl,_⟩ | ⟨g,M,P,rfl,C,_⟩
 ·exact .inl rfl
 ·exact .inr (fun e=>p5F)
theorem y4c{F:Fence}{n:Nat}{P:Program}{w:World}{A:Array Oper}{rest:List Oper}{o:Oper}{a:Act}{Q:Exit->Act->World->Prop}(C:o.guard=none)(s x:Operand)(t:TypeId)
  (y:o.op=.call { callee:=.builtin .append,args:=#[s,x],argTypes:=#[t,t] }) (base:Nat) (e:TypeId) (i:TypeInfo) (size:Nat) (D:P.underlying t=some (.slice e)) (hi:P.info? e=some i)
  (v:Value) (m:Nat) (xs:List Value) (X:a.eval s=v) (B:w.ownsRow base e size v m xs) (J:a.eval x=.slice none 0 0)
  (h:wpListIn F n P A Q rest (a.put o.dst v) w):wpListIn F n P A Q (o::rest) a w:=by
 refine wpListIn_plain C fun K hK=>?_;have H:=run_append_owned_none (P:=P) (w:=w) base t o.type e i size D hi v m xs B;unfold Oper.wpIn;refine⟨?_,?_⟩
 ·simp[Oper.about,y,resolve,Target.leads,Sem.run_pure]
 ·rw[Oper.semAt_plain F _ _ (by rw[y];exact W3W)];simp[execOp,y,resolve,invoke,builtin,X,J,H,Result.andThen];exact hK _ _ h
theorem z0I{F:Fence}{n:Nat}{w:World}{A:Array Oper}{rest:List Oper}{o:Oper}{a:Act}{Q:Exit->Act->World->Prop}(C:o.guard=none)(s x:Operand)
  (y:o.op=.call { callee:=.builtin .append,args:=#[s,x],argTypes:=#[40,40] }) (B:Nat) (v u:Value) (xs ys:List Int) (X:a.eval s=v) (J:a.eval x=u)
  (N:Ok .i32 21 w B v xs) (W:Sk .i32 w u ys) (S:xs.length+ys.length<=1000000000) (l:B<=w.heap.size)
  (h:∀v' w',Ok .i32 21 w' B v' (xs++ys)->w.grownBy w' v.ownBlock->wpListIn F n prog A Q rest (a.put o.dst v') w'):wpListIn F n prog A Q (o::rest) a w:=by
 obtain⟨r,hi,i,d,f⟩:=info_parts y2a;rcases W.2.src with⟨T,rfl⟩ | ⟨p,M,E,G⟩
 ·obtain rfl:ys=[]:=t1o;refine y4c C s x 40 y B 21 r 1 underlying40 hi v _ _ X N.row J ?_;exact I3X
 ·rw[List.length_map]at E;subst E;refine wpListIn_append_own w C s x 40 y B 21 r (.int .i32 0) 1 4 underlying40 hi i d f rfl e8P v _ _ X N.row p ys.length M (ys.map (Value.int .i32)) J M7P G (x0R .i32 ys) T7X f6J l ?_;exact t4s
theorem y0W{A:World}{B:Nat}{v:Value}{zs:List Int}(h:Ok .i32 21 A B v zs){r:Nat}{o:Obj}(y:A.heap[r]?=some o)(I:o.isCells=false):some r≠v.ownBlock:=by
 rcases h.2.2.2 with⟨rfl,_⟩ | ⟨g,M,P,rfl,C,W,_⟩
 ·exact V3H
 ·intro e;obtain rfl:r=g:=G5X;rw[W]at y;cases y;cases I
theorem z1u{l B w1:World}{row A:Option Nat}(h:l.grownBy B row)(g:B.grownBy w1 A)(hr:∀k,A=some k->l.heap.size<=k):l.grownBy w1 row :=
 ⟨g.os.trans h.os,g.tape.trans h.tape,g.output.trans h.output,Nat.le_trans h.size g.size,fun k G E=>by rw[g.block k I2e (fun e=>by have:=hr k e.symm;exact f6J)];exact g5F⟩
theorem z1w{l w1:World}{b:Nat}(h:l.grownBy w1 (some b))(v:Value):l.grownBy (w1.setCell ⟨b,0,none⟩ v) (some b):=by
 have g:=grownBy_setCell' w1 b v;exact⟨g.os.trans h.os,g.tape.trans h.tape,g.output.trans h.output,Nat.le_trans h.size g.size,fun k G E=>by rw[g.block k I2e E];exact g5F⟩
theorem x7e{z:Nat}{B W:World}(h:x8w z B W){b:Nat}(v:Value)(D:b≠z)(Z:b≠z+1):x8w z B (W.setCell ⟨b,0,none⟩ v) :=
 ⟨(Below.heap_setCell _ _ _ _ P8P).trans h.1,(Below.heap_setCell _ _ _ _ P8P).trans h.2⟩
def y2N(w:World)(zs:List Int)(e:Ending)(w':World):Prop :=
 Below w.heap.size w w'/\((zs.length<=65536/\∃v,e=.returned (.tuple #[v,.int .i64 0])/\Ok .i32 21 w' w.heap.size v zs)\/(65536<zs.length/\e=.returned (.tuple #[.slice none 0 0,.int .i64 2])))
theorem fin15{w W:World}{z m:Nat}{u:Value}{zs:List Int}(J:Ok .i32 21 W m u zs)(t:Bw w W)(D:Boxed W w.heap.size 40 (.slice none 0 0))(Z:Boxed W (w.heap.size+1) 29 (.int .i64 0))
  (hK:((W.setCell ⟨w.heap.size,0,none⟩ u).setCell ⟨w.heap.size+1,0,none⟩ (.int .i64 0)).heap[z]?=some (.deferred (some []))) (o:w.heap.size+2<=m/\w.heap.size+2<=z) (S:zs.length<=65536) :
  (((W.setCell ⟨w.heap.size,0,none⟩ u).setCell ⟨w.heap.size+1,0,none⟩ (.int .i64 0)).putObj z (.deferred none)).cell? ⟨w.heap.size,0,none⟩=some u /\
  (((W.setCell ⟨w.heap.size,0,none⟩ u).setCell ⟨w.heap.size+1,0,none⟩ (.int .i64 0)).putObj z (.deferred none)).cell? ⟨w.heap.size+1,0,none⟩=some (.int .i64 0) /\
  y2N w zs (.returned (.tuple #[u,.int .i64 0])) (((W.setCell ⟨w.heap.size,0,none⟩ u).setCell ⟨w.heap.size+1,0,none⟩ (.int .i64 0)).putObj z (.deferred none)):=by
 have s:∀b,b<m->some b≠u.ownBlock:=fun b C e=>(by have:=(J.row.lt b e.symm).1;exact f6J);have M:Ok .i32 21 (W.setCell ⟨w.heap.size,0,none⟩ u) m u zs:=⟨J.1,J.2.1,J.2.2.kept (grownBy_setCell' W _ _) (.inr (s _ f6J).symm)⟩;have r:Ok .i32 21 ((W.setCell ⟨w.heap.size,0,none⟩ u).setCell ⟨w.heap.size+1,0,none⟩ (.int .i64 0)) m u zs:=⟨J.1,J.2.1,M.2.2.kept (grownBy_setCell' _ _ _) (.inr (s _ f6J).symm)⟩;have l:=(t.setCell (p:=⟨w.heap.size,0,none⟩) (l0r _) u).setCell (p:=⟨w.heap.size+1,0,none⟩) M7L (.int .i64 0);refine⟨(x6h ((D.set u).other f6J _) _ hK rfl).cell,(x6h ((Z.other f6J _).set _) _ hK rfl).cell,?_,.inl ⟨S,u,rfl,x3q (z8e r _ hK rfl) f6J⟩⟩;exact l.trans ((b0r).grown (grownBy_putObj' _ z _) (by have:=(Array.getElem?_eq_some_iff.1 hK).1;exact f6J) (fun k e=>W0i))
theorem y8C(p:Nat)(fl:Int)(ys:Int->List Int)(xv:Value)(xs:List Int)(w:World)(hx:Sk .i32 w xv xs)(hl:xs.length<=1000000000)(y:y2O w p fl ys) :
  Calls prog 14 #[.pointer (some ⟨p,0,none⟩),xv,.int .i64 fl] w (y2N w (x0I ys xs)):=by
 obtain⟨Q,af⟩:∃Q,w.alloc (.cells #[.slice none 0 0] 40)=Q:=⟨_,rfl⟩;obtain⟨w2,P⟩:∃w2,Q.alloc (.cells #[.int .i64 0] 29)=w2:=⟨_,rfl⟩;obtain⟨w3,L⟩:∃w3,w2.alloc (.cells #[.slice none 0 0] 40)=w3:=⟨_,rfl⟩;have s1:Q.heap.size=w.heap.size+1:=(by rw[<- af];exact x0w _ _);have s2:w2.heap.size=w.heap.size+2:=(by rw[<- P,x0w,s1]);have s3:w3.heap.size=w.heap.size+3:=by rw[<- L,x0w,s2]
 have b3:Bw w w3:=by
  rw[<- L,<- P,<- af];exact(((b0r).alloc (l0r _) _).alloc M7O _).alloc P8P _
 have G:Boxed w3 w.heap.size 40 (.slice none 0 0):=(by rw[<- L,<- P,<- af];exact((Boxed.new w _ _).alloc _).alloc _);have m:Boxed w3 (w.heap.size+1) 29 (.int .i64 0):=(by rw[<- L,<- P,<- s1];exact(Boxed.new Q _ _).alloc _);have N:Boxed w3 (w.heap.size+2) 40 (.slice none 0 0):=(by rw[<- L,<- s2];exact Boxed.new w2 _ _);have K:=O (y2n p fl xv xs w3 (hx.below b3) hl);obtain⟨ao,ag,rfl,_,_⟩:=hx.shape;refine(callsIn_wide (n:=3)).1 ?_;refine callsIn_of_wp_marks func14 rfl trivial ?_ rfl;simp only[ntmps14,List.size_toArray,List.length_cons,List.length_nil,Nat.reduceAdd,Nat.reduceSub,Array.replicate_succ,Array.replicate_zero,List.push_toArray,List.append_toArray,List.nil_append,List.cons_append];gi_wp2_with (refine⟨trivial,?_⟩;gi_at_call 28;refine(callsIn_wide.2 (V K)).mono ?_);rintro e W0 ⟨bd,bk,bf,kv,rfl,pt,i⟩;gi_wp2;have aM:=i.size;have M:Bw w W0:=x0b b3 i;have t:Boxed W0 w.heap.size 40 (.slice none 0 0):=(i.block _ G.lt).trans G;have q:Boxed W0 (w.heap.size+1) 29 (.int .i64 0):=(i.block _ m.lt).trans m;have y3:Boxed W0 (w.heap.size+2) 40 (.slice none 0 0):=(i.block _ N.lt).trans N;have f:∀A,W0.grownBy A (some (w.heap.size+2))->Bw w A:=fun A Y=>⟨Y.os.trans M.os,Y.tape.trans M.tape,Y.output.trans M.output,Nat.le_trans M.size Y.size,fun k hk=>(Y.block k f6J P8P).trans (M.block k hk)⟩;have az:∀A,W0.grownBy A (some (w.heap.size+2))->Rd15 p fl ys bd bk bf kv xs A:=fun A Y=>(pt.grown Y f6J).rd (fun c I W hW=>y c I W ((f A Y).trans (hW.mono (f A Y).size)))
 refine z5P (F:=Fence.wide) rfl f6J (gf:=53) (lb:=Lb15 bd bk bf) rfl trivial (enters_of func53 f4z rfl) (y5s (3-1) f6J p fl ys bd bk bf kv xs) (fun _ _=>rfl)
  (fun k A=>Mi15 W0 (w.heap.size+2) (x0I ys (xs.take k)) A/\(x0I ys (xs.take k)).length<=65536)
  (fun c _ A=>c=.ret/\65536<(x0I ys xs).length/\Boxed A w.heap.size 40 (.slice none 0 0)/\Boxed A (w.heap.size+1) 29 (.int .i64 2)/\Bw w A/\w.heap.size<A.heap.size)
  (fun k A h=>az A h.1.gb) (fun k A B h C=>⟨h.1.below C,h.2⟩) (fun k A r o s hr y I h=>⟨h.1.put s hr y I,h.2⟩)
  (fun c k A r o s hr y I h=>⟨h.1,h.2.1,x6h h.2.2.1 s y I,x6h h.2.2.2.1 s y I,h.2.2.2.2.1.trans ((Below.refl _ A).grown (grownBy_putObj' A r s) f6J (fun k e=>W0i)),by simpa using h.2.2.2.2.2⟩)
  (fun k v A B r s hr h=>by have:=okF15 h s hr;simpa[Pr15]using this)
  ⟨⟨⟨_,y3,Ok.nil _ _ _ _⟩,World.grownBy.refl W0 _⟩,by simp[x0I]⟩
  (fun k v=>{ tmps:=#[.pointer (some ⟨p,0,none⟩),.slice ao xs.length ag,.int .i64 fl,undef,undef,undef,.pointer (some ⟨w.heap.size,0,none⟩),.pointer (some ⟨w.heap.size+1,0,none⟩),.pointer (some ⟨w.heap.size+2,0,none⟩),undef,v,.pointer (some ⟨p,0,none⟩),.bool false,.pointer (some ⟨p,0,none⟩),.slice ao xs.length ag,.int .i64 fl,.func (.func 53) #[] (Lb15 bd bk bf),.int .i32 (xs.getD k 0),v,undef,undef,undef,undef,undef,undef,undef,undef,undef,undef],defers:=[] }) ?assign ?body ?done ?stop
 case assign =>
  intro l k v W K hK;gi_wp2;exact hK
 case body =>
  rintro l k v A B hk rfl aJ ⟨⟨⟨u,hu,J⟩,Y⟩,d⟩ C hp ⟨rr,x⟩ H;have ab:=y1V ys xs hk;have aB:=y7K ys xs (k+1);have ae:Boxed B (w.heap.size+2) 40 u:=(C.block _ hu.lt).trans hu;have R:=J.below C;have b:=z7H Y C;have T:Sk .i32 B v (ys (xs.getD k 0)):=Ok.sk hp;have U:Boxed B w.heap.size 40 (.slice none 0 0):=(b.block _ t.lt M7O).trans t;have X:Boxed B (w.heap.size+1) 29 (.int .i64 0):=(b.block _ q.lt M7O).trans q;have aL:=T.len;obtain⟨au,cu,S,_,_⟩:=R.sk.shape;obtain⟨av,cv,aG,_,_⟩:=T.shape;subst S aG;have HP:=O T;have HO:=O R;have HG:=O b;have HW:=O (f B b);have aI:=(f B b).size;have aF:=b.size;have aK:∀k,(Value.slice au (x0I ys (xs.take k)).length cu).ownBlock=some k->True:=fun _ _=>trivial;have HX:=O U;have HY:=O X;have HU:=O ae;have x8:=ae.cell;have f8:=ae.frozen;have x6:=U.cell;have f6:=U.frozen;have x7:=X.cell;have f7:=X.frozen;generalize ys (xs.getD k 0)=zv at *;by_cases aH:65536<(x0I ys (xs.take k)).length+zv.length
  ·have z:(65536:Int)<((x0I ys (xs.take k)).length:Int)+(zv.length:Int):=f6J;gi_wp2;refine⟨x7e (x7e ⟨rfl,rfl⟩ _ f6J f6J) _ f6J f6J,rfl,?_,((V HX).set _).other f6J _,((V HY).other f6J _).set _,((V HW).setCell (p:=⟨w.heap.size,0,none⟩) (l0r _) _).setCell (p:=⟨w.heap.size+1,0,none⟩) M7O _,?_⟩
   ·rw[ab,List.length_append]at aB;omega
   ·have h1:=(grownBy_setCell' (B.setCell ⟨w.heap.size,0,none⟩ (.slice none 0 0)) (w.heap.size+1) (.int .i64 2)).size;have Z:=(grownBy_setCell' B w.heap.size (.slice none 0 0)).size;have h3:=(V HX).lt;omega
  ·have z:((x0I ys (xs.take k)).length:Int)+(zv.length:Int)<=65536:=f6J;have D:∀j,(Value.slice au (x0I ys (xs.take k)).length cu).ownBlock=some j->W0.heap.size<=j:=fun j hj=>((V HO).row.lt j hj).1;have aC:=y0W (V HO) x rfl;have aD:=y0W (V HO) H rfl;have HL:=O D;have aq:=O aC;have ar:=O aD;gi_wp2_with (gi_at_builtin;refine z0I rfl (.tmp 25) (.tmp 26) rfl W0.heap.size _ _ _ _ rfl rfl (V HO) (V HP) f6J aF ?_);intro a Q E g';have g:Boxed Q (w.heap.size+2) 40 (.slice au (x0I ys (xs.take k)).length cu):=(V HU).kept g' (fun e=>by have:=V HL _ e.symm;exact f6J);have q1:=g.cell;have q2:=g.frozen;have aA:=z1u (V HG) g' (V HL);have hT:x8w W0.heap.size B Q:=⟨g'.block _ (Array.getElem?_eq_some_iff.1 H).1 (V ar),g'.block _ (Array.getElem?_eq_some_iff.1 x).1 (V aq)⟩
   have hF:x8w W0.heap.size B (Q.setCell ⟨w.heap.size+2,0,none⟩ a)/\Mi15 W0 (w.heap.size+2) (x0I ys (xs.take (k+1))) (Q.setCell ⟨w.heap.size+2,0,none⟩ a)/\(x0I ys (xs.take (k+1))).length<=65536:=by
    refine⟨x7e hT _ f6J f6J,⟨⟨a,g.set a,?_⟩,z1w aA _⟩,by rw[ab,List.length_append];exact f6J⟩;rw[ab];refine⟨E.1,E.2.1,E.2.2.kept (grownBy_setCell' Q _ a) ?_⟩;exact .inr (fun e=>by have:=(E.row.lt _ e).1;exact f6J)
   have HF:=O hF;obtain⟨a',c',am,_,_⟩:=E.sk.shape;rw[List.length_append]at am;subst am;gi_wp2;exact V HF
 case done =>
  rintro W ⟨⟨⟨u,hu,J⟩,Y⟩,d⟩ hK;rw[List.take_length]at J d;have U:Boxed W w.heap.size 40 (.slice none 0 0):=(Y.block _ t.lt M7O).trans t;have X:Boxed W (w.heap.size+1) 29 (.int .i64 0):=(Y.block _ q.lt M7O).trans q;have x8:=hu.cell;have x6:=U.cell;have f6:=U.frozen;have x7:=X.cell;have f7:=X.frozen;obtain⟨au,cu,S,_,_⟩:=J.sk.shape;subst S;have HO:=O J;have aw:=O U;have ay:=O X;have HW:=O (f W Y)
  have ai:((W.setCell ⟨w.heap.size,0,none⟩ (.slice au (x0I ys xs).length cu)).setCell ⟨w.heap.size+1,0,none⟩ (.int .i64 0)).heap[W0.heap.size]?=some (.deferred (some [])):=by
   rw[Below.heap_setCell _ _ _ _ P8P,Below.heap_setCell _ _ _ _ P8P];exact hK
  have aj:=fin15 (V HO) (V HW) (V aw) (V ay) ai f6J d;gi_wp2;refine⟨M7O,.inl ⟨_,_,rfl,run_takeDeferred ai,?_⟩⟩;obtain⟨h1,Z,h3⟩:=aj;exact⟨_,by simp[results,Tryz.results14,go_sem,h1,Z],h3⟩
 case stop =>
  rintro c k W hk ⟨rfl,h1,Z,h3,h4,h5⟩ hK;have g1:=(x6h Z (.deferred none) hK rfl).cell;have g2:=(x6h h3 (.deferred none) hK rfl).cell;have g3:Bw w (W.putObj W0.heap.size (.deferred none)):=h4.trans ((Below.refl _ W).grown (grownBy_putObj' W _ _) f6J (fun k e=>W0i));gi_wp2;refine⟨M7O,.inl ⟨_,_,rfl,run_takeDeferred hK,?_⟩⟩;exact⟨_,by simp[results,Tryz.results14,go_sem,g1,g2],g3,.inr ⟨h1,rfl⟩⟩
