/- Ra15 Sq15 Rc15 Re15 -/
import Derived.RangeFuncNested
import Derived.RangeFuncBound
import Derived.RangeFuncCalls
import Derived.RangeFuncLeaves
import Derived.Laws.AppendOwnNone
import Derived.RangeFuncRecord
import Derived.Shelf.Abstract
import Derived.Shelf.RegionOpen
import Derived.WalkKit
import Derived.OwnWalkIn
import Derived.TacticsInMore
import Derived.LoopNIn
import Derived.LoopIn
import Derived.Test.YtfemhegfjfhnbaaGreatDoorW4
namespace Go.Proofs.YtfemhegfjfhnbaaGreatDoor
open Go.RowKit
def It15 (F:Fence) (n:Nat) (P:Program) (g:Nat) (lb:Array Value) (N:Nat) (enc:Nat→Value→Array Value) (Pr:Nat→Value→World→World→Prop) (Rd:World→Prop):Prop :=
 ∀ (l:Nat) (J Jx:Nat→World→Prop) (W:World),(∀ k A,J k A→Rd A)→(∀ k A B,J k A→Below A.heap.size A B→J k B) →
  (∀ k v A B,k<N→J k A→Below A.heap.size A B→Pr k v A B→YieldAt F (n - 1) P l (enc k v) B fun e W'=>(e=.returned (.bool true)∧J (k+1) W')∨(e=.returned (.bool false)∧Jx k W')) →
  J 0 W→CallsIn F n P g (#[.func (.yield l) #[] #[]]++lb) W fun e W'=>(∃ v,e=.returned v)∧(J N W'∨∃ k,k<N∧Jx k W')
def Two15 (z:Nat) (B W:World):Prop:=W.heap[z]?=B.heap[z]?∧W.heap[z+1]?=B.heap[z+1]?
def Out15 (z:Nat) (I:World→Prop) (Ix:Code→World→Prop) (B:World):Exit→Act→World→Prop
 | .normal,_,W=>Two15 z B W∧I W
 | .ret,_,W=>Two15 z B W∧Ix .ret W
 | .exit id,_,W=>Two15 z B W∧Ix (.exit id) W
 | .goto t,_,W=>Two15 z B W∧Ix (.goto t) W
 | .panic _,_,_=>False
 | .outgrown,_,_=>False
theorem below_put15 {A B:World} (h:Below A.heap.size A B) (l:Nat) (o:Obj) (hl:l<A.heap.size):Below (A.putObj l o).heap.size (A.putObj l o) (B.putObj l o):=by
 have hs:=h.size
 refine ⟨h.os,h.tape,h.output,by simp; exact hs,fun k hk=>?_⟩
 by_cases e:k=l
 ·subst e; rw [World.putObj_heap_same (by omega),World.putObj_heap_same hl]
 ·rw [World.putObj_heap_other e,World.putObj_heap_other e]
  exact h.block k (by simpa using hk)
theorem range15 {F:Fence} {n:Nat} {P:Program} {g:Operand} {ps:Array Tmp} {assign body:Code} {Q:Exit→Act→World→Prop} {a:Act} {w:World}
  (hro:F.round=none) (h1:1≤n) {gf:Nat} {lb:Array Value} (hg:a.eval g=.func (.func gf) #[] lb) (hFg:F.fn gf) (eg:∀ args w,(callFunc gf args).run P w=.ok (.enter gf args) w)
  {N:Nat} {enc:Nat→Value→Array Value} {Pr:Nat→Value→World→World→Prop} {Rd:World→Prop} (hit:It15 F (n - 1) P gf lb N enc Pr Rd) (hps:∀ k v,(enc k v).size=ps.size)
  (I:Nat→World→Prop) (Ix:Code→Nat→World→Prop) (hR:∀ k A,I k A→Rd A) (hI:∀ k A B,I k A→Below A.heap.size A B→I k B)
  (hIp:∀ k A r o o',w.heap.size≤r→A.heap[r]?=some o→o.isCells=false→I k A→I k (A.putObj r o'))
  (hIx:∀ c k A r o o',w.heap.size≤r→A.heap[r]?=some o→o.isCells=false→Ix c k A→Ix c k (A.putObj r o'))
  (hPr:∀ k v A B r o',r<A.heap.size→Pr k v A B→Pr k v (A.putObj r o') (B.putObj r o'))
  (h0:I 0 w) (a₁:Nat→Value→Act)
  (hassign:∀ (l k:Nat) (v:Value) (W:World) (K:Act→World→Prop),K (a₁ k v) W →
   assign.wpIn (F.inRound l) (n - 1 - 1) P (Exit.then K (fun _ _ _=>False)) { tmps:=(ps.zip (enc k v)).foldl (fun t (p,v)=>t.setIfInBounds p v) a.tmps,defers:=[] } W)
  (hbody:∀ (l k:Nat) (v:Value) (A B:World),k<N→l=w.heap.size+1→l<A.heap.size→I k A→Below A.heap.size A B→Pr k v A B →
   (∃ r,B.heap[l]?=some (.loop r))→B.heap[w.heap.size]?=some (.deferred (some [])) →
   body.wpIn (F.inRound l) (n - 1 - 1) P (Out15 w.heap.size (I (k+1)) (fun c=>Ix c k) B) (a₁ k v) B)
  (hdone:∀ W,I N W→W.heap[w.heap.size]?=some (.deferred (some []))→Q .normal { a with defers:={ target:=.collected w.heap.size,args:=#[] } :: a.defers } W)
  (hstop:∀ c k W,k<N→Ix c k W→W.heap[w.heap.size]?=some (.deferred (some []))→c.wpIn F n P Q { a with defers:={ target:=.collected w.heap.size,args:=#[] } :: a.defers } W) :
  (Code.rangeFunc g ps assign body).wpIn F n P Q a w:=by
 refine wpIn_rangeFunc ?_
 intro fn hfn
 rw [hro]
 obtain ⟨rc,hrc⟩:∃ rc:LoopState→Option Code→Loop,rc=fun st pe=>{ state:=st,pending:=pe,fn,tmps:=a.tmps,params:=ps,assign,body,defers:=w.heap.size }:=⟨_,rfl⟩
 obtain ⟨z,hz⟩:∃ z,w.heap.size=z:=⟨_,rfl⟩
 obtain ⟨W1,hW1⟩:∃ W1,(w.alloc (.deferred (some []))).alloc (.loop (rc .ready none))=W1:=⟨_,rfl⟩
 have hL1:W1.heap[z+1]?=some (.loop (rc .ready none)):=by
  rw [← hW1,← hz]; have:=World.alloc_heap_new (w.alloc (.deferred (some []))) (.loop (rc .ready none)); rwa [World.size_alloc] at this
 have hD1:W1.heap[z]?=some (.deferred (some [])):=by
  rw [← hW1,← hz]; exact (Below.heap_alloc _ _ _ (by simp)).trans (World.alloc_heap_new w _)
 have hI1:I 0 W1:=by
  refine hI 0 w W1 h0 ?_
  rw [← hW1]; exact ((Below.refl _ w).alloc (Nat.le_refl _) _).alloc (by simp) _
 have hlt:∀ {A:World} {k:Nat} {o:Obj},A.heap[k]?=some o→k<A.heap.size:=fun h=>(Array.getElem?_eq_some_iff.1 h).1
 rw [hz] at hIp hIx hbody hdone hstop
 refine ⟨z+1,[{ target:=.collected z,args:=#[] }],W1,{ target:=.fn (.func gf) lb,args:=#[.func (.yield (z+1)) #[] #[]] },W1,gf,#[.func (.yield (z+1)) #[] #[]]++lb,W1,?_,?_,?_,?_,fun _=>h1,?_⟩
 ·rw [← hW1,hrc,← hz]; exact run_enterLoop_outer _ _ _ _ _
 ·simp only [resolve,hg]
  simp [go_sem]
 ·intro f' hf'; simp [Target.leads] at hf'; subst hf'; exact hFg
 ·simp [invoke,go_sem,eg]
 ·refine (hit (z+1) (fun k W=>I k W∧W.heap[z+1]?=some (.loop (rc .ready none))∧W.heap[z]?=some (.deferred (some [])))
   (fun k W=>∃ c,Ix c k W∧W.heap[z+1]?=some (.loop (rc .done (some c)))∧W.heap[z]?=some (.deferred (some []))) W1 (fun k A h=>hR k A h.1)
   (fun k A B h hb=>⟨hI k A B h.1 hb,(hb.block _ (hlt h.2.1)).trans h.2.1,(hb.block _ (hlt h.2.2)).trans h.2.2⟩) ?_ ⟨hI1,hL1,hD1⟩).mono ?_
  ·rintro k v A B hk ⟨hi,hl,hd⟩ hb hp
   have hlB:=(hb.block _ (hlt hl)).trans hl
   have hdB:=(hb.block _ (hlt hd)).trans hd
   have hy:=run_yield (P:=P) (args:=enc k v) hlB (by rw [hrc]; exact hps k v)
   rw [hrc] at hy
   refine ⟨fn,_,assign,body,hy,roundIn_of_wpIn hfn (hassign _ k v B _ ⟨_,run_beginRound hlB (by rw [hrc]),?_⟩)⟩
   clear hy
   generalize hbz:(Obj.loop { rc .ready none with state:=.busy })=bz
   have hl2:(B.putObj (z+1) bz).heap[z+1]?=some bz:=World.putObj_heap_same (hlt hlB)
   have hd2:(B.putObj (z+1) bz).heap[z]?=some (.deferred (some [])):=(World.putObj_heap_other (by omega)).trans hdB
   refine wpIn_mono (hbody (z+1) k v (A.putObj (z+1) bz) (B.putObj (z+1) bz) hk rfl (by simpa using hlt hl) (hIp k A (z+1) _ bz (by omega) hl rfl hi) (below_put15 hb _ _ (hlt hl)) (hPr k v A B (z+1) bz (hlt hl) hp) ⟨_,by rw [← hbz] at hl2 ⊢; exact hl2⟩ hd2) ?_
   have fin:∀ (jump:Option Code) (W3:World),Two15 z (B.putObj (z+1) bz) W3 →
     (Instr.endRound (z+1) jump).run P W3=.ok (.bool jump.isNone) (W3.putObj (z+1) (.loop (rc (if jump.isNone then .ready else .done) jump))) ∧
     W3.heap[z+1]?=some bz ∧
     (W3.putObj (z+1) (.loop (rc (if jump.isNone then .ready else .done) jump))).heap[z+1]?=some (.loop (rc (if jump.isNone then .ready else .done) jump)) ∧
     (W3.putObj (z+1) (.loop (rc (if jump.isNone then .ready else .done) jump))).heap[z]?=some (.deferred (some [])):=fun jump W3 hk3=>by
    have hl3:=hk3.2.trans hl2
    have hl4:=hl3
    rw [← hbz] at hl4
    have:=run_endRound (P:=P) jump hl4
    rw [hrc] at this ⊢
    exact ⟨this,hl3,World.putObj_heap_same (hlt hl3),(World.putObj_heap_other (by omega)).trans (hk3.1.trans hd2)⟩
   have hnc:bz.isCells=false:=by rw [← hbz]; rfl
   rintro e a3 W3 hq
   cases e with
   | normal =>
    obtain ⟨hr,hl3,hl4,hd4⟩:=fin none W3 hq.1
    exact ⟨_,_,hr,.inl ⟨rfl,hIp _ _ _ _ _ (by omega) hl3 hnc hq.2,hl4,hd4⟩⟩
   | ret =>
    obtain ⟨hr,hl3,hl4,hd4⟩:=fin (some .ret) W3 hq.1
    exact ⟨_,_,hr,.inr ⟨rfl,.ret,hIx _ _ _ _ _ _ (by omega) hl3 hnc hq.2,hl4,hd4⟩⟩
   | exit id =>
    obtain ⟨hr,hl3,hl4,hd4⟩:=fin (some (.exit id)) W3 hq.1
    exact ⟨_,_,hr,.inr ⟨rfl,.exit id,hIx _ _ _ _ _ _ (by omega) hl3 hnc hq.2,hl4,hd4⟩⟩
   | goto t =>
    obtain ⟨hr,hl3,hl4,hd4⟩:=fin (some (.goto t)) W3 hq.1
    exact ⟨_,_,hr,.inr ⟨rfl,.goto t,hIx _ _ _ _ _ _ (by omega) hl3 hnc hq.2,hl4,hd4⟩⟩
   | panic ch=>exact hq.elim
   | outgrown=>exact hq.elim
  ·rintro e W2 ⟨⟨v,rfl⟩,(⟨hi,hl,hd⟩ | ⟨k,hk,c,hi,hl,hd⟩)⟩
   ·refine ⟨none,_,by have:=run_endLoop (P:=P) hl (by rw [hrc]; simp); rw [hrc] at this; exact this,?_⟩
    rw [hz]
    exact hdone _ (hIp N W2 (z+1) _ _ (by omega) hl rfl hi) ((World.putObj_heap_other (by omega)).trans hd)
   ·refine ⟨some c,_,by have:=run_endLoop (P:=P) hl (by rw [hrc]; simp); rw [hrc] at this; exact this,?_⟩
    rw [hz]
    exact hstop c k _ hk (hIx c k W2 (z+1) _ _ (by omega) hl rfl hi) ((World.putObj_heap_other (by omega)).trans hd)
theorem infoR15:(Tryz.prog.info? 21).map (fun i=>(i.zero,i.size,i.bytes))=some (some (.int .i32 0),1,4):=by kernel_rfl
theorem take_next15 {xs ys:List Int} {k:Nat} (h:xs.take k=ys.take k) (hx:k<xs.length) (hy:k<ys.length) (he:xs.getD k 0=ys.getD k 0):xs.take (k+1)=ys.take (k+1):=by
 rw [List.take_add_one,List.take_add_one,h]
 simp only [List.getD,List.getElem?_eq_getElem hx,List.getElem?_eq_getElem hy,Option.getD_some] at he
 rw [List.getElem?_eq_getElem hx,List.getElem?_eq_getElem hy,he]
theorem draws_mk15 {w w':World} {b c:Bool} (h:b=c) (hb:∃ m,w'=w.drewN m):Draws w c (.returned (.bool b)) w':=by subst h; exact ⟨rfl,hb⟩
set_option maxHeartbeats 1000000 in
theorem same_q15 (v u:Value) (xs ys:List Int) (w:World) (hv:Sk .i32 w v xs) (hu:Sk .i32 w u ys) :
  Calls Tryz.prog 12 #[v,u] w (Draws w (decide (xs=ys))):=by
 have hlx:=hv.len
 have hly:=hu.len
 by_cases hn:xs.length=ys.length
 ·rcases Nat.eq_zero_or_pos xs.length with h0 | h0
  ·have HF:∀ w',(∃ m,w'=w.drewN m)→Draws w (decide (xs=ys)) (.returned (.bool true)) w':=fun w' hb=>draws_mk15 (by
    have h1:=List.eq_nil_of_length_eq_zero h0
    have h2:=List.eq_nil_of_length_eq_zero (hn ▸ h0)
    simp [h1,h2]) hb
   obtain ⟨ao,cap,rfl,_,_⟩:=hv.shape
   obtain ⟨ao',cap',rfl,_,_⟩:=hu.shape
   rw [← hn,h0]
   clear hv hu
   generalize decide (xs=ys)=b at *
   go_enter Tryz.func12,Tryz.ntmps12
   go_wp2
   refine wp_loop_rounds 1 ?_
   rw [rounds_succ]
   go_wp2
   go_ret
   exact HF _ (drew0 w)
  ·have HE:∀ w',(∃ m,w'=w.drewN m)→xs.take xs.length=ys.take xs.length→Draws w (decide (xs=ys)) (.returned (.bool true)) w':=fun w' hb ht=>draws_mk15 (by
    rw [List.take_length,hn,List.take_length] at ht
    simp [ht]) hb
   have HN:∀ w' k,(∃ m,w'=w.drewN m)→¬ xs.getD k 0=ys.getD k 0→Draws w (decide (xs=ys)) (.returned (.bool false)) w':=fun w' k hb ht=>draws_mk15 (by
    symm; rw [decide_eq_false_iff_not]; intro h; subst h; exact ht rfl) hb
   have HS:∀ wr,Below w.heap.size w wr→Sk .i32 wr v xs∧Sk .i32 wr u ys:=fun wr hb=>⟨hv.below hb,hu.below hb⟩
   obtain ⟨b,off,cap,rfl,hc1,hc2,hc⟩:=hv.place h0
   obtain ⟨b',off',cap',rfl,hc1',hc2',hc'⟩:=hu.place (by omega)
   have HC:∀ wr,Below w.heap.size w wr→∀ i,i<xs.length→wr.cell? ⟨b,off+i,none⟩=some (.int .i32 (xs.getD i 0))∧wr.cell? ⟨b',off'+i,none⟩=some (.int .i32 (ys.getD i 0)):=by
    intro wr hb i hi
    constructor
    ·rw [hb.cell (lt_of_cell? (hc i hi))]; exact hc i hi
    ·rw [hb.cell (lt_of_cell? (hc' i (by omega)))]; exact hc' i (by omega)
   rw [← hn] at hc1' ⊢
   have HFx:=Hd hv.1
   have HFy:=Hd hu.1
   have hln:=Hd hn
   clear hv hu HS hc hc' hn
   generalize decide (xs=ys)=bb at *
   go_enter Tryz.func12,Tryz.ntmps12
   go_wp2
   go_loopw [5] (fun i wr=>∃ k:Nat,i=.int .i64 k∧k≤xs.length∧xs.take k=ys.take k∧∃ m,wr=w.drewN m) (fun i _=>xs.length - (intOf i).toNat)
   case atStart=>exact ⟨0,rfl,by omega,by simp,drew0 w⟩
   case round =>
    obtain ⟨k,rfl,hk,htk,hbel⟩:=hrel
    by_cases hlt:k<xs.length
    ·obtain ⟨c1,c2⟩:=HC _ (drewB hbel) k hlt
     have HT:=Hd htk
     clear htk
     cases he:(xs.getD k 0 != ys.getD k 0) with
     | true =>
      have HR:=fun w' hb=>HN w' k hb (by simpa using he)
      clear HN HE HC
      generalize xs.getD k 0=x at *
      generalize ys.getD k 0=y at *
      go_wp2
      go_quiet (fail)
      go_wp2
      go_ret
      exact HR _ (drews hbel nq)
     | false =>
      have he':xs.getD k 0=ys.getD k 0:=by simpa using he
      have HT2:=Hd (take_next15 (Uh HT) hlt (by have:=Uh hln; omega) he')
      clear HN HE HC HT he'
      generalize xs.getD k 0=x at *
      generalize ys.getD k 0=y at *
      go_wp2
      go_quiet (fail)
      go_wp2
      go_roundw
      case rel=>exact ⟨k+1,by go_num,by omega,Uh HT2,drews hbel nq⟩
      case measure=>simp [intOf]; omega
    ·obtain rfl:k=xs.length:=by omega
     have HR:=HE _ hbel htk
     clear HN HE HC
     go_wp2
     go_ret
     exact HR
 ·have HF:Draws w (decide (xs=ys)) (.returned (.bool false)) w:=draws_mk15 (by
   symm; rw [decide_eq_false_iff_not]; intro h; subst h; exact hn rfl) (drew0 w)
  have hne:((xs.length:Int) != (ys.length:Int))=true:=by simp; omega
  obtain ⟨ao,cap,rfl,_,_⟩:=hv.shape
  obtain ⟨ao',cap',rfl,_,_⟩:=hu.shape
  clear hv hu hn
  generalize decide (xs=ys)=b at *
  go_enter Tryz.func12,Tryz.ntmps12
  go_wp2
  go_ret
  exact HF
theorem lit15 (W:World) (zs:List Int) (n:Nat) (hn:zs.length=n) (h0:0<n) (hs:n≤100) (C:Array Value) (hC:C=(zs.map (Value.int .i32)).toArray) (hz:∀ z∈zs,-2147483648≤z∧z≤2147483647):Sk .i32 (W.alloc (.cells C 21)) (.slice (some ⟨W.heap.size,0,none⟩) n n) zs:=by
 have h:Ok .i32 21 (W.alloc (.cells C 21)) W.heap.size (.slice (some ⟨W.heap.size,0,none⟩) n n) zs:=by
  refine Ok.of (n:=n) (us:=zs.map (Value.int .i32)) (fun z h=>i32_fit (hz z h)) (by omega) ⟨by simp [hn],Or.inr ⟨W.heap.size,n,C,rfl,Nat.le_refl _,World.alloc_heap_new W _,Nat.le_refl _,by unfold maxLen; omega,by rw [hC]; simp [hn],by rw [hC]; exact List.take_of_length_le (by simp [hn])⟩⟩ hn.symm rfl
 exact h.sk
theorem ok_alloc15 {K:IntKind} {e:TypeId} {w:World} {B:Nat} {v:Value} {zs:List Int} (h:Ok K e w B v zs) (o:Obj):Ok K e (w.alloc o) B v zs:=⟨h.1,h.2.1,h.2.2.alloc o⟩
theorem alloc_size15 (w:World) (o:Obj):(w.alloc o).heap.size=w.heap.size+1:=by show (w.heap.push o).size=_; rw [Array.size_push]
theorem app_sk15 {w:World} {ops:Array Oper} {rest:List Oper} {o:Oper} {a:Act} {Q:Exit→Act→World→Prop} (hgd:o.guard=none) (s x:Operand)
  (ho:o.op=.call { callee:=.builtin .append,args:=#[s,x],argTypes:=#[23,23] }) (B:Nat) (v u:Value) (xs ys:List Int) (hs:a.eval s=v) (hx:a.eval x=u)
  (hv:Ok .i32 21 w B v xs) (hu:Sk .i32 w u ys) (hl:xs.length+ys.length≤1000000000) (hB:B≤w.heap.size)
  (h:∀ v' w',Ok .i32 21 w' B v' (xs++ys)→w.grownBy w' v.ownBlock→wpList Tryz.prog ops Q rest (a.put o.dst v') w'):wpList Tryz.prog ops Q (o :: rest) a w:=by
 obtain ⟨i0,hi,hz0,hz1,hz2⟩:=info_parts infoR15
 rcases hu.2.src with ⟨h0,rfl⟩ | ⟨ad,cap,hve,hcells⟩
 ·obtain rfl:ys=[]:=by simpa using h0
  refine wpList_append_own_none hgd s x 23 ho B 21 i0 1 Tryz.underlying23 hi v _ _ hs hv.row hx ?_
  exact h v w (by rw [List.append_nil]; exact hv) (World.grownBy.refl w _)
 ·rw [List.length_map] at hve
  subst hve
  refine wpList_append_own w hgd s x 23 ho B 21 i0 (.int .i32 0) 1 4 Tryz.underlying23 hi hz0 hz1 hz2 rfl (by decide) v _ _ hs hv.row ad ys.length cap (ys.map (Value.int .i32)) hx (by simp) hcells (ints_one .i32 ys) (by unfold maxLen; omega) (by omega) hB ?_
  intro v' w' h1 h2 _
  exact h v' w' (Ok.of (hv.1.app hu.1) (by simp; omega) h1 (by simp) (by simp)) h2
set_option maxRecDepth 20000 in
set_option maxHeartbeats 1000000 in
theorem equalR15 (v u:Value) (xs ys:List Int) (w:World) (hv:Sk .i32 w v xs) (hu:Sk .i32 w u ys) :
  Calls Tryz.prog 24 #[v,u] w (Draws w (decide (xs=ys))):=by
 have hlx:=hv.len
 have hly:=hu.len
 by_cases hn:xs.length=ys.length
 ·rcases Nat.eq_zero_or_pos xs.length with h0 | h0
  ·have HF:∀ w',(∃ m,w'=w.drewN m)→Draws w (decide (xs=ys)) (.returned (.bool true)) w':=fun w' hb=>draws_mk15 (by
    have h1:=List.eq_nil_of_length_eq_zero h0
    have h2:=List.eq_nil_of_length_eq_zero (hn ▸ h0)
    simp [h1,h2]) hb
   obtain ⟨ao,cap,rfl,_,_⟩:=hv.shape
   obtain ⟨ao',cap',rfl,_,_⟩:=hu.shape
   rw [← hn,h0]
   clear hv hu
   generalize decide (xs=ys)=b at *
   go_enter Tryz.func24,Tryz.ntmps24
   go_wp2
   refine wp_loop_rounds 1 ?_
   rw [rounds_succ]
   go_wp2
   go_ret
   exact HF _ (drew0 w)
  ·have HE:∀ w',(∃ m,w'=w.drewN m)→xs.take xs.length=ys.take xs.length→Draws w (decide (xs=ys)) (.returned (.bool true)) w':=fun w' hb ht=>draws_mk15 (by
    rw [List.take_length,hn,List.take_length] at ht
    simp [ht]) hb
   have HN:∀ w' k,(∃ m,w'=w.drewN m)→¬ xs.getD k 0=ys.getD k 0→Draws w (decide (xs=ys)) (.returned (.bool false)) w':=fun w' k hb ht=>draws_mk15 (by
    symm; rw [decide_eq_false_iff_not]; intro h; subst h; exact ht rfl) hb
   have HS:∀ wr,Below w.heap.size w wr→Sk .i32 wr v xs∧Sk .i32 wr u ys:=fun wr hb=>⟨hv.below hb,hu.below hb⟩
   obtain ⟨b,off,cap,rfl,hc1,hc2,hc⟩:=hv.place h0
   obtain ⟨b',off',cap',rfl,hc1',hc2',hc'⟩:=hu.place (by omega)
   have HC:∀ wr,Below w.heap.size w wr→∀ i,i<xs.length→wr.cell? ⟨b,off+i,none⟩=some (.int .i32 (xs.getD i 0))∧wr.cell? ⟨b',off'+i,none⟩=some (.int .i32 (ys.getD i 0)):=by
    intro wr hb i hi
    constructor
    ·rw [hb.cell (lt_of_cell? (hc i hi))]; exact hc i hi
    ·rw [hb.cell (lt_of_cell? (hc' i (by omega)))]; exact hc' i (by omega)
   rw [← hn] at hc1' ⊢
   have HFx:=Hd hv.1
   have HFy:=Hd hu.1
   have hln:=Hd hn
   clear hv hu HS hc hc' hn
   generalize decide (xs=ys)=bb at *
   go_enter Tryz.func24,Tryz.ntmps24
   go_wp2
   go_loopw [13] (fun i wr=>∃ k:Nat,i=.int .i64 k∧k≤xs.length∧xs.take k=ys.take k∧∃ m,wr=w.drewN m) (fun i _=>xs.length - (intOf i).toNat)
   case atStart=>exact ⟨0,rfl,by omega,by simp,drew0 w⟩
   case round =>
    obtain ⟨k,rfl,hk,htk,hbel⟩:=hrel
    by_cases hlt:k<xs.length
    ·obtain ⟨c1,c2⟩:=HC _ (drewB hbel) k hlt
     have HT:=Hd htk
     clear htk
     cases he:(xs.getD k 0 != ys.getD k 0) with
     | true =>
      have HR:=fun w' hb=>HN w' k hb (by simpa using he)
      clear HN HE HC
      generalize xs.getD k 0=x at *
      generalize ys.getD k 0=y at *
      go_wp2
      go_quiet (fail)
      go_wp2
      go_ret
      exact HR _ (drews hbel nq)
     | false =>
      have he':xs.getD k 0=ys.getD k 0:=by simpa using he
      have HT2:=Hd (take_next15 (Uh HT) hlt (by have:=Uh hln; omega) he')
      clear HN HE HC HT he'
      generalize xs.getD k 0=x at *
      generalize ys.getD k 0=y at *
      go_wp2
      go_quiet (fail)
      go_wp2
      go_roundw
      case rel=>exact ⟨k+1,by go_num,by omega,Uh HT2,drews hbel nq⟩
      case measure=>simp [intOf]; omega
    ·obtain rfl:k=xs.length:=by omega
     have HR:=HE _ hbel htk
     clear HN HE HC
     go_wp2
     go_ret
     exact HR
 ·have HF:Draws w (decide (xs=ys)) (.returned (.bool false)) w:=draws_mk15 (by
   symm; rw [decide_eq_false_iff_not]; intro h; subst h; exact hn rfl) (drew0 w)
  have hne:((xs.length:Int) != (ys.length:Int))=true:=by simp; omega
  obtain ⟨ao,cap,rfl,_,_⟩:=hv.shape
  obtain ⟨ao',cap',rfl,_,_⟩:=hu.shape
  clear hv hu hn
  generalize decide (xs=ys)=b at *
  go_enter Tryz.func24,Tryz.ntmps24
  go_wp2
  go_ret
  exact HF
open Go.RowKit Go.Shelf
attribute [local go_sem] Oper.semAt_some
def OneC15 (A:World) (p:Nat) (fl:Int) (ys:Int→List Int):Prop:=∀ c,Rune c→∀ W,Below A.heap.size A W→Calls Tryz.prog 15 #[.pointer (some ⟨p,0,none⟩),.int .i32 c,.int .i64 fl] W (RunesNew W (ys c))
structure Rd15 (p:Nat) (fl:Int) (ys:Int→List Int) (bd bk bf:Nat) (kv:Value) (xs:List Int) (A:World):Prop where
 d:A.cell? ⟨bd,0,none⟩=some (.pointer (some ⟨p,0,none⟩))
 k:A.cell? ⟨bk,0,none⟩=some kv
 f:A.cell? ⟨bf,0,none⟩=some (.int .i64 fl)
 sk:Sk .i32 A kv xs
 one:OneC15 A p fl ys
abbrev Enc15 (xs:List Int) (k:Nat) (v:Value):Array Value:=#[.int .i32 (xs.getD k 0),v]
abbrev Pr15 (ys:Int→List Int) (xs:List Int) (k:Nat) (v:Value) (A B:World):Prop:=Ok .i32 21 B A.heap.size v (ys (xs.getD k 0))
abbrev Lb15 (bd bk bf:Nat):Array Value:=#[.pointer (some ⟨bd,0,none⟩),.pointer (some ⟨bk,0,none⟩),.pointer (some ⟨bf,0,none⟩)]
set_option maxRecDepth 100000 in
set_option maxHeartbeats 2000000 in
theorem parts_it15 (n:Nat) (hn:1≤n) (p:Nat) (fl:Int) (ys:Int→List Int) (bd bk bf:Nat) (kv:Value) (xs:List Int) :
  It15 Fence.wide n Tryz.prog 29 (Lb15 bd bk bf) xs.length (Enc15 xs) (Pr15 ys xs) (Rd15 p fl ys bd bk bf kv xs):=fun l J Jx W hR hJ hY h0=>by
 have r0:=hR 0 W h0
 have x1:=r0.d
 have x2:=r0.k
 have hlx:=r0.sk.len
 have HR:=fun k A h=>Hd (hR k A h)
 clear hR
 obtain ⟨ao,cap,hkv,hc1,hc2⟩:=r0.sk.shape
 rw [hkv] at x2
 clear r0
 refine callsIn_of_wp Tryz.func29 rfl trivial ?_ rfl
 simp only [Tryz.ntmps29,List.size_toArray,List.length_cons,List.length_nil,Nat.reduceAdd,Nat.reduceSub,Array.replicate_succ,Array.replicate_zero,List.push_toArray,List.append_toArray,List.nil_append,List.cons_append]
 gi_wp2
 gi_loopw [11] (fun i wr=>∃ k:Nat,i=.int .i64 k∧k≤xs.length∧J k wr) (fun i _=>xs.length - (intOf i).toNat)
 case atStart=>exact ⟨0,rfl,Nat.zero_le _,h0⟩
 case round =>
  obtain ⟨k,rfl,hk,hj⟩:=hrel
  clear x1 x2 h0
  by_cases hlt:k<xs.length
  ·have rk:=Uh (HR k wr hj)
   obtain ⟨b,off,cap',hkv',_,_,hcl⟩:=rk.sk.place (by omega)
   rw [hkv] at hkv'
   simp only [Value.slice.injEq] at hkv'
   obtain ⟨rfl,-,rfl⟩:=hkv'
   have x1:=rk.d
   have x3:=rk.f
   have x4:=hcl k hlt
   have hrn:Rune (xs.getD k 0):=by
    have:=rk.sk.1 (xs.getD k 0) (by simp [List.getD,hlt])
    exact ⟨this.1,this.2⟩
   have K:=Hd (rk.one (xs.getD k 0) hrn wr (Below.refl _ _))
   have HY:=fun v B=>Hd (hY k v wr B hlt hj)
   clear rk hcl hrn hJ hY HR
   unfold Enc15 Pr15 at HY
   generalize xs.getD k 0=c at *
   gi_wp2_with (refine ⟨trivial,?_⟩; gi_at_call 15; refine (callsIn_wide.2 (Uh K)).mono ?_)
   rintro e W2 ⟨v,rfl,ok,b2⟩
   obtain ⟨fn,tmps,assign,body,hy,hRd⟩:=Uh (HY v W2) b2 ok
   clear K HY x1 x3 x4 b2 ok
   gi_wp2
   refine hRd.mono ?_
   rintro e W3 (⟨rfl,hj3⟩ | ⟨rfl,hx3⟩)
   ·gi_wp2
    go_roundw
    case rel=>exact ⟨k+1,by go_num,by omega,hj3⟩
    case measure=>simp [intOf]; omega
   ·gi_wp2
    refine bodyPost_ret (results_none rfl _ _ _) rfl ?_
    exact ⟨⟨_,rfl⟩,.inr ⟨k,hlt,hx3⟩⟩
  ·obtain rfl:k=xs.length:=by omega
   clear hJ hY HR
   gi_wp2
   go_end0
   exact ⟨⟨_,rfl⟩,.inl hj⟩
structure Pt15 (B:Nat) (p:Nat) (fl:Int) (bd bk bf:Nat) (kv:Value) (xs:List Int) (A:World):Prop where
 d:A.cell? ⟨bd,0,none⟩=some (.pointer (some ⟨p,0,none⟩))
 k:A.cell? ⟨bk,0,none⟩=some kv
 f:A.cell? ⟨bf,0,none⟩=some (.int .i64 fl)
 ok:Ok .i32 21 A B kv xs
 bd0:B≤bd
 bk0:B≤bk
 bf0:B≤bf
theorem Pt15.rd {B p:Nat} {fl:Int} {bd bk bf:Nat} {kv:Value} {xs:List Int} {A:World} (h:Pt15 B p fl bd bk bf kv xs A) {ys:Int→List Int} (ho:OneC15 A p fl ys):Rd15 p fl ys bd bk bf kv xs A:=⟨h.d,h.k,h.f,h.ok.sk,ho⟩
def PartsB15 (w:World) (p:Nat) (fl:Int) (xs:List Int) (e:Ending) (w':World):Prop :=
 ∃ bd bk bf kv,e=.returned (.func (.func 29) #[] (Lb15 bd bk bf))∧Pt15 w.heap.size p fl bd bk bf kv xs w'∧Below w.heap.size w w'
theorem ok_lower15 {K:IntKind} {e:TypeId} {w:World} {B B':Nat} {v:Value} {zs:List Int} (h:Ok K e w B v zs) (hB:B'≤B):Ok K e w B' v zs:=by
 exact h.lower hB
set_option maxRecDepth 8000 in
set_option maxHeartbeats 1000000 in
theorem parts_any15 (p:Nat) (fl:Int) (xv:Value) (xs:List Int) (w:World) (hx:Sk .i32 w xv xs) (hl:xs.length≤1000000000):Calls Tryz.prog 17 #[.pointer (some ⟨p,0,none⟩),xv,.int .i64 fl] w (PartsB15 w p fl xs):=by
 obtain ⟨w1,hw1⟩:∃ w1,w.alloc (.cells #[.pointer (some ⟨p,0,none⟩)] 24)=w1:=⟨_,rfl⟩
 obtain ⟨w2,hw2⟩:∃ w2,w1.alloc (.cells #[.int .i64 fl] 3)=w2:=⟨_,rfl⟩
 have b1:Below w.heap.size w w1:=by rw [← hw1]; exact (Below.refl _ _).alloc (Nat.le_refl _) _
 have b2:Below w1.heap.size w1 w2:=by rw [← hw2]; exact (Below.refl _ _).alloc (Nat.le_refl _) _
 have K:=Hd (clone_any xv xs w2 (hx.below (bthen b1 b2)) hl)
 obtain ⟨ao,cap,rfl,_,_⟩:=hx.shape
 clear hx
 go_enter Tryz.func17,Tryz.ntmps17
 go_wp2_with fail
 refine (Uh K).mono ?_
 rintro e w3 ⟨kv,rfl,ok,b3⟩
 have hb:=bthen (bthen b1 b2) b3
 have s1:w1.heap.size=w.heap.size+1:=by rw [← hw1]; exact alloc_size15 _ _
 have s2:w2.heap.size=w1.heap.size+1:=by rw [← hw2]; exact alloc_size15 _ _
 have c1:w3.cell? ⟨w.heap.size,0,none⟩=some (.pointer (some ⟨p,0,none⟩)):=by
  have h:w1.cell? ⟨w.heap.size,0,none⟩=some (.pointer (some ⟨p,0,none⟩)):=by rw [← hw1]; simp
  have h2:w2.cell? ⟨w.heap.size,0,none⟩=some (.pointer (some ⟨p,0,none⟩)):=by rw [b2.cell (lt_of_cell? h)]; exact h
  rw [b3.cell (lt_of_cell? h2)]; exact h2
 have c2:w3.cell? ⟨w1.heap.size,0,none⟩=some (.int .i64 fl):=by
  have h:w2.cell? ⟨w1.heap.size,0,none⟩=some (.int .i64 fl):=by rw [← hw2]; simp
  rw [b3.cell (lt_of_cell? h)]; exact h
 have HF:Hid (PartsB15 w p fl xs (.returned (.func (.func 29) #[] (Lb15 w.heap.size w3.heap.size w1.heap.size))) (w3.alloc (.cells #[kv] 23))):=by
  have h4:Below w3.heap.size w3 (w3.alloc (.cells #[kv] 23)):=(Below.refl _ _).alloc (Nat.le_refl _) _
  have hs3:=b3.size
  refine ⟨_,_,_,kv,rfl,⟨?_,?_,?_,?_,Nat.le_refl _,by omega,by omega⟩,bthen hb h4⟩
  ·rw [h4.cell (lt_of_cell? c1)]; exact c1
  ·simp
  ·rw [h4.cell (lt_of_cell? c2)]; exact c2
  ·exact (ok_lower15 ok (by omega)).below h4
 obtain ⟨ak,ck,hkv,_,_⟩:=ok.sk.shape
 subst hkv
 clear K ok b1 b2 b3 c1 c2 hb s2
 rw [s1] at HF
 go_wp2
 go_ret
 exact Uh HF
end Go.Proofs.YtfemhegfjfhnbaaGreatDoor
