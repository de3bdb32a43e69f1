/- Sq15 Ba17 Bb17 Bp17 Br17 Bq17 Bu17 Bc17 Bv17 Bw17 Bx17 By17 -/
import Derived.Test.YtkglkajjofidoaaGreatDoorV2
import Derived.Laws.AppendOwnNone
import Derived.RangeFuncRecord
import Derived.Shelf.Abstract
import Derived.Lib.Walk
set_option maxHeartbeats 8000000
set_option maxRecDepth 20000
namespace Go.Proofs.YtkglkajjofidoaaGreatDoor
open Go.Proofs.Tryz
open Go.RowKit
theorem y4h:(prog.info? 21).map (fun i=>(i.zero,i.size,i.bytes))=some (some (.int .i32 0),1,4):=by kernel_rfl
theorem x5t {xs ys:List Int} {k:Nat} (h:xs.take k=ys.take k) (hx:k<xs.length) (hy:k<ys.length) (he:xs.getD k 0=ys.getD k 0):xs.take (k+1)=ys.take (k+1):=by
 rw [List.take_add_one,List.take_add_one,h];simp only [List.getD,List.getElem?_eq_getElem hx,List.getElem?_eq_getElem hy,Option.getD_some] at he;rw [List.getElem?_eq_getElem hx,List.getElem?_eq_getElem hy,he]
theorem x0Q {w w':World} {b c:Bool} (h:b=c) (hb:∃ m,w'=w.drewN m):x3a w c (.returned (.bool b)) w':=by subst h; exact ⟨rfl,hb⟩
theorem y7C (v u:Value) (xs ys:List Int) (w:World) (hv:Sk .i32 w v xs) (hu:Sk .i32 w u ys) :
  Calls prog 51 #[v,u] w (x3a w (decide (xs=ys))):=by
 have co:=hv.len;have cq:=hu.len;by_cases hn:xs.length=ys.length
 ·rcases Nat.eq_zero_or_pos xs.length with h0 | h0
  ·have HF:∀ w',(∃ m,w'=w.drewN m)->x3a w (decide (xs=ys)) (.returned (.bool true)) w':=fun w' hb=>x0Q (by
    have h1:=List.eq_nil_of_length_eq_zero h0;have h2:=List.eq_nil_of_length_eq_zero (hn ▸ h0)
    simp [h1,h2]) hb
   obtain ⟨ao,cap,rfl,_,_⟩:=hv.shape;obtain ⟨bt,ag,rfl,_,_⟩:=hu.shape;rw [<- hn,h0];clear hv hu;generalize decide (xs=ys)=b at *;go_enter func51,ntmps51;go_wp2;refine wp_loop_rounds 1 ?_;rw [rounds_succ];go_wp2;go_ret;exact HF _ (x4J w)
  ·have HE:∀ w',(∃ m,w'=w.drewN m)->xs.take xs.length=ys.take xs.length->x3a w (decide (xs=ys)) (.returned (.bool true)) w':=fun w' hb ht=>x0Q (by
    rw [List.take_length,hn,List.take_length] at ht
    simp [ht]) hb
   have HN:∀ w' k,(∃ m,w'=w.drewN m)->¬ xs.getD k 0=ys.getD k 0->x3a w (decide (xs=ys)) (.returned (.bool false)) w':=fun w' k hb ht=>x0Q (by
    symm; rw [decide_eq_false_iff_not]; intro h; subst h; exact ht rfl) hb
   have HS:∀ wr,Bw w wr->Sk .i32 wr v xs/\Sk .i32 wr u ys:=fun wr hb=>⟨hv.below hb,hu.below hb⟩;obtain ⟨b,off,cap,rfl,bR,bS,hc⟩:=hv.place h0;obtain ⟨b',az,ag,rfl,ay,bw,ax⟩:=hu.place (by omega)
   have HC:∀ wr,Bw w wr->∀ i,i<xs.length->wr.cell? ⟨b,off+i,none⟩=some (.int .i32 (xs.getD i 0))/\wr.cell? ⟨b',az+i,none⟩=some (.int .i32 (ys.getD i 0)):=by
    intro wr hb i hi;constructor
    ·rw [hb.cell (x0a (hc i hi))]; exact hc i hi
    ·rw [hb.cell (x0a (ax i (by omega)))]; exact ax i (by omega)
   rw [<- hn] at ay ⊢;have cc:=O hv.1;have cd:=O hu.1;have bC:=O hn;clear hv hu HS hc ax hn;generalize decide (xs=ys)=bb at *;go_enter func51,ntmps51;go_wp2;go_loopw [5] (fun i wr=>∃ k:Nat,i=.int .i64 k/\k<=xs.length/\xs.take k=ys.take k/\∃ m,wr=w.drewN m) (fun i _=>xs.length - (intOf i).toNat)
   case atStart=>exact ⟨0,rfl,by omega,by simp,x4J w⟩
   case round =>
    obtain ⟨k,rfl,hk,al,aa⟩:=hrel;by_cases hlt:k<xs.length
    ·obtain ⟨c1,c2⟩:=HC _ (x0k aa) k hlt;have HT:=O al;clear al
     cases he:(xs.getD k 0 != ys.getD k 0) with
     | true =>
      have HR:=fun w' hb=>HN w' k hb (by simpa using he);clear HN HE HC;generalize xs.getD k 0=x at *;generalize ys.getD k 0=y at *;go_wp2;go_quiet (fail);go_wp2;go_ret;exact HR _ (x4K aa nq)
     | false =>
      have he':xs.getD k 0=ys.getD k 0:=(by simpa using he);have br:=O (x5t (V HT) hlt (by have:=V bC; omega) he');clear HN HE HC HT he';generalize xs.getD k 0=x at *;generalize ys.getD k 0=y at *;go_wp2;go_quiet (fail);go_wp2
      go_roundw
      case rel=>exact ⟨k+1,by go_num,by omega,V br,x4K aa nq⟩
      case measure=>simp [intOf]; omega
    ·obtain rfl:k=xs.length:=(by omega);have HR:=HE _ aa al;clear HN HE HC;go_wp2;go_ret;exact HR
 ·have HF:x3a w (decide (xs=ys)) (.returned (.bool false)) w:=x0Q (by
   symm; rw [decide_eq_false_iff_not]; intro h; subst h; exact hn rfl) (x4J w)
  have a8:((xs.length:Int) != (ys.length:Int))=true:=(by simp; omega);obtain ⟨ao,cap,rfl,_,_⟩:=hv.shape;obtain ⟨bt,ag,rfl,_,_⟩:=hu.shape;clear hv hu hn;generalize decide (xs=ys)=b at *;go_enter func51,ntmps51;go_wp2;go_ret;exact HF
theorem z1H (W:World) (zs:List Int) (n:Nat) (hn:zs.length=n) (h0:0<n) (hs:n<=100) (C:Array Value) (hC:C=(zs.map (Value.int .i32)).toArray) (hz:∀ z∈zs,-2147483648<=z/\z<=2147483647):Sk .i32 (W.alloc (.cells C 21)) (.slice (some ⟨W.heap.size,0,none⟩) n n) zs:=by
 have h:Ok .i32 21 (W.alloc (.cells C 21)) W.heap.size (.slice (some ⟨W.heap.size,0,none⟩) n n) zs:=by
  refine Ok.of (n:=n) (us:=zs.map (Value.int .i32)) (fun z h=>x1X (hz z h)) (by omega) ⟨by simp [hn],Or.inr ⟨W.heap.size,n,C,rfl,l0r _,World.alloc_heap_new W _,l0r _,by unfold maxLen; omega,by rw [hC]; simp [hn],by rw [hC]; exact List.take_of_length_le (by simp [hn])⟩⟩ hn.symm rfl
 exact h.sk
theorem x0s {K:IntKind} {e:TypeId} {w:World} {B:Nat} {v:Value} {zs:List Int} (h:Ok K e w B v zs) (o:Obj):Ok K e (w.alloc o) B v zs:=⟨h.1,h.2.1,h.2.2.alloc o⟩
theorem x0m (w:World) (o:Obj):(w.alloc o).heap.size=w.heap.size+1:=by show (w.heap.push o).size=_; rw [Array.size_push]
theorem x1f {w:World} {aQ:Array Oper} {rest:List Oper} {o:Oper} {a:Act} {Q:Exit->Act->World->Prop} (a7:o.guard=none) (s x:Operand)
  (ho:o.op=.call { callee:=.builtin .append,args:=#[s,x],argTypes:=#[23,23] }) (B:Nat) (v u:Value) (xs ys:List Int) (hs:a.eval s=v) (hx:a.eval x=u)
  (hv:Ok .i32 21 w B v xs) (hu:Sk .i32 w u ys) (hl:xs.length+ys.length<=1000000000) (hB:B<=w.heap.size)
  (h:∀ v' w',Ok .i32 21 w' B v' (xs++ys)->w.grownBy w' v.ownBlock->wpList prog aQ Q rest (a.put o.dst v') w'):wpList prog aQ Q (o :: rest) a w:=by
 obtain ⟨i0,hi,bE,bF,aB⟩:=info_parts y4h;rcases hu.2.src with ⟨h0,rfl⟩ | ⟨ad,cap,hve,hcells⟩
 ·obtain rfl:ys=[]:=(by simpa using h0);refine wpList_append_own_none a7 s x 23 ho B 21 i0 1 underlying23 hi v _ _ hs hv.row hx ?_;exact h v w (by rw [List.append_nil]; exact hv) (World.grownBy.refl w _)
 ·rw [List.length_map] at hve;subst hve;refine wpList_append_own w a7 s x 23 ho B 21 i0 (.int .i32 0) 1 4 underlying23 hi bE bF aB rfl (by decide) v _ _ hs hv.row ad ys.length cap (ys.map (Value.int .i32)) hx (by simp) hcells (x4q .i32 ys) (by unfold maxLen; omega) (by omega) hB ?_;intro v' w' h1 h2 _;exact h v' w' (Ok.of (hv.1.app hu.1) (by simp; omega) h1 (by simp) (by simp)) h2
theorem y0n (v u:Value) (xs ys:List Int) (w:World) (hv:Sk .i32 w v xs) (hu:Sk .i32 w u ys) :
  Calls prog 33 #[v,u] w (x3a w (decide (xs=ys))):=by
 have co:=hv.len;have cq:=hu.len;by_cases hn:xs.length=ys.length
 ·rcases Nat.eq_zero_or_pos xs.length with h0 | h0
  ·have HF:∀ w',(∃ m,w'=w.drewN m)->x3a w (decide (xs=ys)) (.returned (.bool true)) w':=fun w' hb=>x0Q (by
    have h1:=List.eq_nil_of_length_eq_zero h0;have h2:=List.eq_nil_of_length_eq_zero (hn ▸ h0)
    simp [h1,h2]) hb
   obtain ⟨ao,cap,rfl,_,_⟩:=hv.shape;obtain ⟨bt,ag,rfl,_,_⟩:=hu.shape;rw [<- hn,h0];clear hv hu;generalize decide (xs=ys)=b at *;go_enter func33,ntmps33;go_wp2;refine wp_loop_rounds 1 ?_;rw [rounds_succ];go_wp2;go_ret;exact HF _ (x4J w)
  ·have HE:∀ w',(∃ m,w'=w.drewN m)->xs.take xs.length=ys.take xs.length->x3a w (decide (xs=ys)) (.returned (.bool true)) w':=fun w' hb ht=>x0Q (by
    rw [List.take_length,hn,List.take_length] at ht
    simp [ht]) hb
   have HN:∀ w' k,(∃ m,w'=w.drewN m)->¬ xs.getD k 0=ys.getD k 0->x3a w (decide (xs=ys)) (.returned (.bool false)) w':=fun w' k hb ht=>x0Q (by
    symm; rw [decide_eq_false_iff_not]; intro h; subst h; exact ht rfl) hb
   have HS:∀ wr,Bw w wr->Sk .i32 wr v xs/\Sk .i32 wr u ys:=fun wr hb=>⟨hv.below hb,hu.below hb⟩;obtain ⟨b,off,cap,rfl,bR,bS,hc⟩:=hv.place h0;obtain ⟨b',az,ag,rfl,ay,bw,ax⟩:=hu.place (by omega)
   have HC:∀ wr,Bw w wr->∀ i,i<xs.length->wr.cell? ⟨b,off+i,none⟩=some (.int .i32 (xs.getD i 0))/\wr.cell? ⟨b',az+i,none⟩=some (.int .i32 (ys.getD i 0)):=by
    intro wr hb i hi;constructor
    ·rw [hb.cell (x0a (hc i hi))]; exact hc i hi
    ·rw [hb.cell (x0a (ax i (by omega)))]; exact ax i (by omega)
   rw [<- hn] at ay ⊢;have cc:=O hv.1;have cd:=O hu.1;have bC:=O hn;clear hv hu HS hc ax hn;generalize decide (xs=ys)=bb at *;go_enter func33,ntmps33;go_wp2;go_loopw [13] (fun i wr=>∃ k:Nat,i=.int .i64 k/\k<=xs.length/\xs.take k=ys.take k/\∃ m,wr=w.drewN m) (fun i _=>xs.length - (intOf i).toNat)
   case atStart=>exact ⟨0,rfl,by omega,by simp,x4J w⟩
   case round =>
    obtain ⟨k,rfl,hk,al,aa⟩:=hrel;by_cases hlt:k<xs.length
    ·obtain ⟨c1,c2⟩:=HC _ (x0k aa) k hlt;have HT:=O al;clear al
     cases he:(xs.getD k 0 != ys.getD k 0) with
     | true =>
      have HR:=fun w' hb=>HN w' k hb (by simpa using he);clear HN HE HC;generalize xs.getD k 0=x at *;generalize ys.getD k 0=y at *;go_wp2;go_quiet (fail);go_wp2;go_ret;exact HR _ (x4K aa nq)
     | false =>
      have he':xs.getD k 0=ys.getD k 0:=(by simpa using he);have br:=O (x5t (V HT) hlt (by have:=V bC; omega) he');clear HN HE HC HT he';generalize xs.getD k 0=x at *;generalize ys.getD k 0=y at *;go_wp2;go_quiet (fail);go_wp2
      go_roundw
      case rel=>exact ⟨k+1,by go_num,by omega,V br,x4K aa nq⟩
      case measure=>simp [intOf]; omega
    ·obtain rfl:k=xs.length:=(by omega);have HR:=HE _ aa al;clear HN HE HC;go_wp2;go_ret;exact HR
 ·have HF:x3a w (decide (xs=ys)) (.returned (.bool false)) w:=x0Q (by
   symm; rw [decide_eq_false_iff_not]; intro h; subst h; exact hn rfl) (x4J w)
  have a8:((xs.length:Int) != (ys.length:Int))=true:=(by simp; omega);obtain ⟨ao,cap,rfl,_,_⟩:=hv.shape;obtain ⟨bt,ag,rfl,_,_⟩:=hu.shape;clear hv hu hn;generalize decide (xs=ys)=b at *;go_enter func33,ntmps33;go_wp2;go_ret;exact HF
namespace Bd
def rtl (k:Int):Bool:=decide (k=1) || (decide (k=2) || decide (k=3))
def fst (l:List Int):Int:=match l with
 | []=>10
 | k :: l=>if k=10 then fst l else k
def lst (K:List Int):Int:=fst K.reverse
def r5 (K:List Int):Int:=if K.any rtl=true then 16 else 0
def r6 (K:List Int):Int:=if lst K=0\/lst K=4 then 0 else 32
def r2 (K:List Int):Int:=if K.any (fun k=>decide (k=0))=true then 2 else 0
def r3 (K:List Int):Int:=if lst K=1\/lst K=2\/lst K=4\/lst K=3 then 0 else 4
def r4 (K:List Int):Int:=if K.any (fun k=>decide (k=4))=true/\K.any (fun k=>decide (k=3))=true then 8 else 0
def rules (K:List Int):Int:=if K.length=0 then 0 else if ¬ (K.getD 0 0=0\/K.getD 0 0=1\/K.getD 0 0=2) then 1 else if K.getD 0 0=0 then r5 K+r6 K else r2 K+r3 K+r4 K
variable {K:List Int}
theorem x1E {i:Nat} (h:i<K.length):K.take (i+1)=K.take i++[K.getD i 0]:=by
 rw [List.take_add_one]; simp [List.getD,h]
theorem y0F (k:Int):lst (K++[k])=if k=10 then lst K else k:=by
 unfold lst; rw [List.reverse_append]; rfl
theorem y6X {i:Nat} (h:i<K.length):lst (K.take (i+1))=if K.getD i 0=10 then lst (K.take i) else K.getD i 0:=by
 rw [x1E h,y0F]
theorem y5X (f:Int->Bool) (k:Int):(K++[k]).any f=(K.any f || f k):=by
 rw [List.any_append]; simp
theorem y5Y {f:Int->Bool} {i:Nat} (h:i<K.length):(K.take (i+1)).any f=((K.take i).any f || f (K.getD i 0)):=by
 rw [x1E h,y5X]
theorem y2U {f:Int->Bool} (h:∀ i,i<K.length->f (K.getD i 0)=false):K.any f=false:=by
 rw [List.any_eq_false];intro x hx;obtain ⟨i,hi,rfl⟩:=List.getElem_of_mem hx;have:=h i hi;simp only [List.getD,List.getElem?_eq_getElem hi,Option.getD_some] at this;rw [this]; exact Bool.false_ne_true
theorem x8W {f:Int->Bool} {i:Nat} (hi:i<K.length) (h:f (K.getD i 0)=true):K.any f=true:=by
 rw [List.any_eq_true];exact ⟨K.getD i 0,by simp [List.getD,hi],h⟩
theorem y8p (h:0<K.length) (h0:K.getD 0 0≠10):lst K≠10:=by
 cases K with
 | nil=>simp at h
 | cons a l =>
  have ha:a≠10:=(by simpa [List.getD] using h0);unfold lst;rw [List.reverse_cons]
  have bG:∀ m:List Int,fst (m++[a])≠10:=by
   intro m
   induction m with
   | nil=>show (if a=10 then _ else a)≠10; rw [if_neg ha]; exact ha
   | cons b m ih =>
    show (if b=10 then fst (m++[a]) else b)≠10;by_cases hb:b=10
    ·rw [if_pos hb]; exact ih
    ·rw [if_neg hb]; exact hb
  exact bG _
end Bd
def x9Y (f:Nat) (w0:World) (tv:Value) (cl:Int->Int):Prop:=∀ c,Rune c->∀ W,Below w0.heap.size w0 W->Calls prog f #[tv,.int .i32 c] W (IntB W (cl c))
theorem x7Z {X:List Int} {bd:Int->Int} {i:Nat} (h:i<X.length):(X.map bd).getD i 0=bd (X.getD i 0):=by simp [List.getD,h]
theorem x4E (n:Int) (lv:Value) (K:List Int) (w:World) (hk:Sk .i64 w lv K):Calls prog 56 #[.int .i64 n,lv] w (fun e w'=>e=.returned (.bool (K.any fun k=>decide (k=n)))/\w'=w):=by
 have aM:=hk.len
 have HC:Hid (∀ (q:Nat),q<K.length->∃ b off cap,lv=.slice (some ⟨b,off,none⟩) K.length cap/\w.cell? ⟨b,off+q,none⟩=some (.int .i64 (K.getD q 0))):=fun q hq=>by
  obtain ⟨b,off,cap,he,_,_,hc⟩:=hk.place (by omega);exact ⟨b,off,cap,he,hc q hq⟩
 have bi:Hid ((∀ q,q<K.length->¬ K.getD q 0=n)->(K.any fun k=>decide (k=n))=false):=fun h=>Bd.y2U fun i hi=>d0f (h i hi);have aw:Hid (∀ q,q<K.length->K.getD q 0=n->(K.any fun k=>decide (k=n))=true):=fun q hq h=>Bd.x8W hq (d0t h);obtain ⟨ao,cap,rfl,_,_⟩:=hk.shape;clear hk;generalize (K.any fun k=>decide (k=n))=hb at *;go_enter func56,ntmps56;go_wp2;go_loopw [4,5] (fun rv iv wr=>∃ k:Nat,rv=.bool false/\iv=.int .i64 k/\k<=K.length/\(∀ q,q<k->¬ K.getD q 0=n)/\wr=w) (fun _ iv _=>K.length - (intOf iv).toNat)
 case atStart=>exact ⟨0,rfl,rfl,by omega,fun q h=>absurd h (by omega),rfl⟩
 case round =>
  obtain ⟨k,rfl,rfl,hk,hq,rfl⟩:=hrel;by_cases hlt:k<K.length
  ·have hL:(k:Int)<K.length:=(by omega);obtain ⟨b,off,cp,he,x4⟩:=V HC k hlt;simp only [Value.slice.injEq] at he;obtain ⟨rfl,-,rfl⟩:=he;have HQ:=O hq;have HY:=O (V aw k hlt);clear hq HC bi aw;by_cases hz:K.getD k 0=n
   ·have HT:=O (V HY hz);rw [hz] at x4;have nn:(n==n)=true:=beq_self_eq_true _;clear HY HQ hz;go_wp2;go_ret;exact ⟨by rw [V HT]; rfl,rfl⟩
   ·have ch:Hid (∀ q,q<k+1->¬ K.getD q 0=n):=fun q hq'=>by
     rcases Nat.lt_or_ge q k with h1 | h1
     ·exact V HQ q h1
     ·rw [show q=k by omega]; exact hz
    have nn:(K.getD k 0==n)=false:=(by rw [beq_eq_false_iff_ne]; exact hz);clear HY HQ hz;generalize K.getD k 0=z at *;go_wp2
    go_roundw
    case rel=>exact ⟨k+1,rfl,by go_num,by omega,V ch,by first | rfl | trivial⟩
    case measure=>simp [intOf]; omega
  ·have HT:=O (V bi fun q h=>hq q (by omega));have hL:¬ ((k:Int)<K.length):=(by omega);clear hq HC bi aw;go_wp2;go_ret;exact ⟨by rw [V HT]; rfl,rfl⟩
namespace Bd
def msk (K:List Int):Nat:=K.foldl (fun a k=>a ||| 2 ^ k.toNat) 0
def one (k:Int):Int:=((2 ^ k.toNat:Nat):Int)
def Fit (K:List Int):Prop:=∀ k∈K,0<=k/\k<=10
theorem y7b (K:List Int) (k:Int):msk (K++[k])=msk K ||| 2 ^ k.toNat:=by
 unfold msk; rw [List.foldl_append]; rfl
theorem cases11 {k:Int} (h:0<=k/\k<=10):k=0\/k=1\/k=2\/k=3\/k=4\/k=5\/k=6\/k=7\/k=8\/k=9\/k=10:=by omega
theorem y8y {k:Int} (h:0<=k/\k<=10):2 ^ k.toNat<2 ^ 11:=Nat.pow_lt_pow_right (by omega) (by omega)
theorem y7a (K:List Int):∀ (a:Nat),a<2 ^ 11->Fit K->K.foldl (fun a k=>a ||| 2 ^ k.toNat) a<2 ^ 11:=by
 induction K with
 | nil=>intro a h _; exact h
 | cons k l ih =>
  intro a h hf;exact ih _ (Nat.or_lt_two_pow h (y8y (hf k (by simp)))) (fun x hx=>hf x (List.mem_cons_of_mem _ hx))
theorem y8s {K:List Int} (h:Fit K):msk K<2048:=y7a K 0 (by decide) h
theorem y6c (K:List Int) (j:Nat):∀ (a:Nat),(K.foldl (fun a k=>a ||| 2 ^ k.toNat) a).testBit j=(a.testBit j || K.any (fun k=>decide (k.toNat=j))):=by
 induction K with
 | nil=>intro a; simp
 | cons k l ih =>
  intro a;rw [List.foldl_cons,ih,Nat.testBit_or,Nat.testBit_two_pow,List.any_cons,Bool.or_assoc]
theorem y9V (K:List Int) (j:Nat):(msk K).testBit j=K.any (fun k=>decide (k.toNat=j)):=by
 unfold msk; rw [y6c]; simp
theorem x5T {K:List Int} (h:Fit K) (j:Nat):(msk K).testBit j=K.any (fun k=>decide (k=(j:Int))):=by
 rw [y9V,Bool.eq_iff_iff,List.any_eq_true,List.any_eq_true];constructor
 ·rintro ⟨x,hx,e⟩;have:=h x hx;exact ⟨x,hx,by have:=o0d e; exact d0t (by omega)⟩
 ·rintro ⟨x,hx,e⟩;exact ⟨x,hx,by have:=o0d e; exact d0t (by omega)⟩
theorem or17 {a b:Nat} (ha:a<2048) (hb:b<2048):bits .or .i64 (a:Int) (b:Int)=((a ||| b:Nat):Int):=by
 have hab:a ||| b<2 ^ 11:=Nat.or_lt_two_pow ha hb;show IntKind.i64.wrap (((BitVec.ofInt 64 (a:Int) ||| BitVec.ofInt 64 (b:Int)).toNat:Nat):Int)=_;rw [BitVec.ofInt_natCast,BitVec.ofInt_natCast,BitVec.toNat_or,BitVec.toNat_ofNat,BitVec.toNat_ofNat,Nat.mod_eq_of_lt (by omega),Nat.mod_eq_of_lt (by omega)];simp only [IntKind.wrap,IntKind.bits,IntKind.signed];simp;omega
theorem inR17:∀ a:Fin 2048,(bits .andNot .i64 ((a.val:Nat):Int) 2046==0)=!(a.val.testBit 0):=by decide +kernel
theorem inL17:∀ a:Fin 2048,(bits .andNot .i64 ((a.val:Nat):Int) 2033==0)=!(a.val.testBit 1 || (a.val.testBit 2 || a.val.testBit 3)):=by decide +kernel
theorem dig17:∀ a:Fin 2048,(bits .andNot .i64 24 ((a.val:Nat):Int)==0)=(a.val.testBit 3 && a.val.testBit 4):=by decide +kernel
theorem y8T (K:List Int):K.any rtl=(K.any (fun k=>decide (k=((1:Nat):Int))) || (K.any (fun k=>decide (k=((2:Nat):Int))) || K.any (fun k=>decide (k=((3:Nat):Int))))):=by
 induction K with
 | nil=>rfl
 | cons k l ih =>
  simp only [List.any_cons];rw [ih];unfold rtl;cases decide (k=1) <;> cases decide (k=2) <;> cases decide (k=3) <;> simp <;> assumption
end Bd
def x8T (p:Nat) (bd:Int->Int) (w:World):Prop:=(∀ c,0<=bd c/\bd c<=10)/\∀ c,Rune c->∀ W,Below w.heap.size w W->Calls prog 199 #[.pointer (some ⟨p,0,none⟩),.int .i32 c] W (IntB W (bd c))
theorem x8T.on {p:Nat} {bd:Int->Int} {w W:World} (h:x8T p bd w) (hb:Bw w W):x8T p bd W:=⟨h.1,fun c hc W' hW=>h.2 c hc W' (x0b hb hW)⟩
theorem x2h (s t:Int) (w:World):Calls prog 201 #[.int .i64 s,.int .i64 t] w (fun e w'=>e=.returned (.bool (bits .andNot .i64 s t==0))/\w'=w):=by
 go_enter func201,ntmps201;go_wp2;go_ret;exact ⟨rfl,rfl⟩
theorem shl17 {k:Int} (h:0<=k/\k<=10):Op.shift .shl .i64 1 .i64 k=pure (.int .i64 (Bd.one k)):=by
 rcases Bd.cases11 h with rfl | rfl | rfl | rfl | rfl | rfl | rfl | rfl | rfl | rfl | rfl <;> rfl
theorem dir17 {p:Nat} {bd:Int->Int} {w:World} (hB:x8T p bd w) {c:Int} (hc:Rune c):Calls prog 164 #[.pointer (some ⟨p,0,none⟩),.int .i32 c] w (IntB w (Bd.one (bd c))):=by
 have K:=O (hB.2 c hc w (b0r));have hs:=shl17 (hB.1 c);clear hB;generalize Bd.one (bd c)=o at *;generalize bd c=k at *;go_enter func164,ntmps164;go_wp2_with fail;refine (V K).mono ?_;rintro e w1 ⟨rfl,b1⟩;clear K;go_wp2;go_ret;exact ⟨rfl,b1⟩
def IdxB (w:World) (b:Bool) (e:Ending) (w':World):Prop:=∃ n:Int,e=.returned (.int .i64 n)/\decide (0<=n)=b/\Below w.heap.size w w'
def LkH (w:World) (L:Nat) (f l a:Int) (sv:Value):Prop:=w.heap[L]?=some (.cells #[.int .i64 f,.int .i64 l,.int .i64 a,sv] 174 (0,0))
section
variable {w:World} {L:Nat} {f l a:Int} {sv:Value}
theorem LkH.c0 (h:LkH w L f l a sv):w.cell? ⟨L,0,none⟩=some (.int .i64 f):=cell_of (j:=0) h (by show 0<4; omega)
theorem LkH.c1 (h:LkH w L f l a sv):w.cell? ⟨L,1,none⟩=some (.int .i64 l):=cell_of (j:=1) h (by show 1<4; omega)
theorem LkH.c2 (h:LkH w L f l a sv):w.cell? ⟨L,2,none⟩=some (.int .i64 a):=cell_of (j:=2) h (by show 2<4; omega)
theorem LkH.c3 (h:LkH w L f l a sv):w.cell? ⟨L,3,none⟩=some sv:=cell_of (j:=3) h (by show 3<4; omega)
theorem LkH.fz (h:LkH w L f l a sv) (j:Nat):w.frozen? ⟨L,j,none⟩=false:=x0e h
theorem LkH.lt (h:LkH w L f l a sv):L<w.heap.size:=x0a h.c0
theorem LkH.below {w':World} (h:LkH w L f l a sv) (hb:Bw w w'):LkH w' L f l a sv:=by
 unfold LkH at *; rw [hb.block L (LkH.lt h)]; exact h
theorem LkH.set1 (h:LkH w L f l a sv) (x:Int):LkH (w.setCell ⟨L,1,none⟩ (.int .i64 x)) L f x a sv:=by unfold LkH at *; rw [x0f h]; rfl
theorem LkH.set2 (h:LkH w L f l a sv) (x:Int):LkH (w.setCell ⟨L,2,none⟩ (.int .i64 x)) L f l x sv:=by unfold LkH at *; rw [x0f h]; rfl
theorem LkH.set3 (h:LkH w L f l a sv) (x:Value):LkH (w.setCell ⟨L,3,none⟩ x) L f l a x:=by unfold LkH at *; rw [x0f h]; rfl
end
theorem y1X {w:World} {b j:Nat} {v:Value} (o:Obj) (h:w.cell? ⟨b,j,none⟩=some v):(w.alloc o).cell? ⟨b,j,none⟩=some v:=by
 rw [Below.cell ((Below.refl w.heap.size w).alloc (l0r _) o) (x0a h)]; exact h
theorem x3z (w:World) {cs:Array Value} {v:Value} (T:TypeId) {n j:Nat} (h:n=w.heap.size) (hv:cs[j]?=some v):(w.alloc (.cells cs T)).cell? ⟨n,j,none⟩=some v:=by
 subst h; simp [hv]
structure Cls17 (w:World) (L b r q s:Nat):Prop where
 hb:w.cell? ⟨b,0,none⟩=some (.pointer (some ⟨L,0,none⟩))
 hr:w.cell? ⟨r,0,none⟩=some (.func (.func 200) #[] #[.pointer (some ⟨b,0,none⟩)])
 hq:w.cell? ⟨q,0,none⟩=some (.func (.func 202) #[] #[.pointer (some ⟨b,0,none⟩)])
 s0:w.cell? ⟨s,0,none⟩=some (.func (.func 203) #[] #[.pointer (some ⟨r,0,none⟩),.pointer (some ⟨q,0,none⟩)])
 s1:w.cell? ⟨s,1,none⟩=some (.func (.func 204) #[] #[.pointer (some ⟨r,0,none⟩),.pointer (some ⟨b,0,none⟩)])
 s2:w.cell? ⟨s,2,none⟩=some (.func (.func 205) #[] #[.pointer (some ⟨r,0,none⟩),.pointer (some ⟨b,0,none⟩)])
 s3:w.cell? ⟨s,3,none⟩=some (.func (.func 206) #[] #[.pointer (some ⟨r,0,none⟩),.pointer (some ⟨b,0,none⟩)])
 s4:w.cell? ⟨s,4,none⟩=some (.func (.func 207) #[] #[.pointer (some ⟨q,0,none⟩),.pointer (some ⟨b,0,none⟩)])
 s5:w.cell? ⟨s,5,none⟩=some (.func (.func 208) #[] #[.pointer (some ⟨q,0,none⟩),.pointer (some ⟨b,0,none⟩)])
def RofB (w:World) (L:Nat) (e:Ending) (w':World):Prop:=∃ b r q s,e=.returned (.slice (some ⟨s,0,none⟩) 6 6)/\Cls17 w' L b r q s/\(w.heap.size<=b/\w.heap.size<=r/\w.heap.size<=q/\w.heap.size<=s)/\Below w.heap.size w w'
theorem y5l (L:Nat) (w:World):Calls prog 165 #[.pointer (some ⟨L,0,none⟩)] w (RofB w L):=by
 have hmf:∀ (fn:Fn) (first cap:Array Value) (w:World),(Instr.makeFunc fn first cap).run prog w=.ok (.func fn first cap) w:=fun _ _ _ _=>rfl;have hst:∀ W a m fn x y,(store a (.func fn x y) m).run prog W=stored prog W a (.func fn x y) m:=fun W a m fn x y=>run_store prog W a _ m rfl;go_enter func165,ntmps165;go_wp2;go_ret;refine ⟨w.heap.size,w.heap.size+1,w.heap.size+1+1,w.heap.size+1+1+1,rfl,?_,⟨by omega,by omega,by omega,by omega⟩,?_⟩
 ·constructor
  ·exact y1X _ (y1X _ (y1X _ (x3z _ _ rfl (by simp))))
  ·exact y1X _ (y1X _ (x3z _ _ (by simp) (by simp)))
  ·exact y1X _ (x3z _ _ (by simp) (by simp))
  all_goals exact x3z _ _ (by simp) (by simp)
 ·exact (((((b0r).alloc (l0r _) _).alloc (by simp) _).alloc (by simp; omega) _).alloc (by simp; omega) _)
theorem y9I:(prog.info? 3).map (fun i=>(i.zero,i.size,i.bytes))=some (some (.int .i64 0),1,8):=by kernel_rfl
theorem x3g (W:World) (zs:List Int) (n:Nat) (hn:zs.length=n) (h0:0<n) (hs:n<=100) (C:Array Value) (hC:C=(zs.map (Value.int .i64)).toArray) (hz:∀ z∈zs,-9223372036854775808<=z/\z<=9223372036854775807):Sk .i64 (W.alloc (.cells C 3)) (.slice (some ⟨W.heap.size,0,none⟩) n n) zs:=by
 have h:Ok .i64 3 (W.alloc (.cells C 3)) W.heap.size (.slice (some ⟨W.heap.size,0,none⟩) n n) zs:=by
  refine Ok.of (n:=n) (us:=zs.map (Value.int .i64)) (fun z h=>hz z h) (by omega) ⟨by simp [hn],Or.inr ⟨W.heap.size,n,C,rfl,l0r _,World.alloc_heap_new W _,l0r _,by unfold maxLen; omega,by rw [hC]; simp [hn],by rw [hC]; exact List.take_of_length_le (by simp [hn])⟩⟩ hn.symm rfl
 exact h.sk
theorem y8V {w:World} {aQ:Array Oper} {rest:List Oper} {o:Oper} {a:Act} {Q:Exit->Act->World->Prop} (a7:o.guard=none) (s x:Operand)
  (ho:o.op=.call { callee:=.builtin .append,args:=#[s,x],argTypes:=#[99,99] }) (B:Nat) (v u:Value) (xs ys:List Int) (hs:a.eval s=v) (hx:a.eval x=u)
  (hv:Ok .i64 3 w B v xs) (hu:Sk .i64 w u ys) (hy:0<ys.length) (hl:xs.length+ys.length<=1000000000) (hB:B<=w.heap.size)
  (h:∀ v' w',Ok .i64 3 w' B v' (xs++ys)->w.grownBy w' v.ownBlock->wpList prog aQ Q rest (a.put o.dst v') w'):wpList prog aQ Q (o :: rest) a w:=by
 obtain ⟨i0,hi,bE,bF,aB⟩:=info_parts y9I;rcases hu.2.src with ⟨h0,rfl⟩ | ⟨ad,cap,hve,hcells⟩
 ·rw [List.map_eq_nil_iff] at h0;rw [h0] at hy; cases hy
 ·rw [List.length_map] at hve;subst hve;refine wpList_append_own w a7 s x 99 ho B 3 i0 (.int .i64 0) 1 8 underlying99 hi bE bF aB rfl (by decide) v _ _ hs hv.row ad ys.length cap (ys.map (Value.int .i64)) hx (by simp) hcells (x4q .i64 ys) (by unfold maxLen; omega) (by omega) hB ?_;intro v' w' h1 h2 _;exact h v' w' (Ok.of (hv.1.app hu.1) (by simp; omega) h1 (by simp) (by simp)) h2
theorem z0W (n:Int):([1,2,3].any fun k:Int=>decide (k=n))=Bd.rtl n:=by
 show (decide (1=n) || (decide (2=n) || (decide (3=n) || false)))=_;unfold Bd.rtl;rw [Bool.or_false];congr 1
 ·exact decide_eq_decide.2 eq_comm
 ·congr 1 <;> exact decide_eq_decide.2 eq_comm
theorem z0V (n:Int):([0,1,2].any fun k:Int=>decide (k=n))=decide (n=0\/n=1\/n=2):=by
 by_cases h:n=0\/n=1\/n=2
 ·rw [d0t h]; rcases h with rfl | rfl | rfl <;> rfl
 ·rw [d0f h];show (decide (0=n) || (decide (1=n) || (decide (2=n) || false)))=false;rw [d0f (by omega),d0f (p:=1=n) (by omega),d0f (p:=2=n) (by omega)]; rfl
theorem z0X (n:Int):([1,2,4,3].any fun k:Int=>decide (k=n))=decide (n=1\/n=2\/n=4\/n=3):=by
 by_cases h:n=1\/n=2\/n=4\/n=3
 ·rw [d0t h]; rcases h with rfl | rfl | rfl | rfl <;> rfl
 ·rw [d0f h];show (decide (1=n) || (decide (2=n) || (decide (4=n) || (decide (3=n) || false))))=false;rw [d0f (by omega),d0f (p:=2=n) (by omega),d0f (p:=4=n) (by omega),d0f (p:=3=n) (by omega)]; rfl
theorem y2k (ta:Option Addr) (tl tc:Nat) {bd:Int->Int} {xv:Value} {X:List Int} (w:World) (hB:x9Y 55 w (.slice ta tl tc) bd) (hbd:∀ c,-9223372036854775808<=bd c/\bd c<=9223372036854775807) (hx:Sk .i32 w xv X) (hXl:X.length<=1000000):Calls prog 30 #[.slice ta tl tc,xv] w (IntB w (Bd.rules (X.map bd))):=by
 rcases Nat.eq_zero_or_pos X.length with h0 | h0
 ·have e:Bd.rules (X.map bd)=0:=(by unfold Bd.rules; rw [if_pos (by rw [List.length_map]; exact h0)]);rw [e];obtain ⟨ao,cap,rfl,_,_⟩:=hx.shape;rw [h0];clear hB hx;go_enter func30,ntmps30;go_wp2;go_ret;exact ⟨rfl,b0r⟩
 ·obtain ⟨b,off,cap,rfl,_,_,hc⟩:=hx.place h0;have KB:Hid (∀ (k:Nat),k<X.length->∀ W,Bw w W->Calls prog 55 #[.slice ta tl tc,.int .i32 (X.getD k 0)] W (IntB W (bd (X.getD k 0)))):=fun k hk W hW=>hB _ (x0x hx hk) W hW;have HC:Hid (∀ (k:Nat),k<X.length->∀ W,Bw w W->W.cell? ⟨b,off+k,none⟩=some (.int .i32 (X.getD k 0))):=fun k hk W hW=>by rw [hW.cell (x0a (hc k hk))]; exact hc k hk
  have bK:Hid (∀ k,k<X.length->(X.map bd).take (k+1)=(X.map bd).take k++[bd (X.getD k 0)]):=fun k hk=>by
   rw [Bd.x1E (by rw [List.length_map]; exact hk),x7Z hk]
  have aD:=O hbd;have bN:(X.map bd).length=X.length:=List.length_map _;have cj:¬ (X.length:Int)=0:=(by omega);have aZ:¬ X.length=0:=(by omega);have hX3:¬ X=[]:=fun h=>aZ (by rw [h]; rfl);have hX4:((X.length:Int)==0)=false:=(by rw [beq_eq_false_iff_ne]; exact cj);have ai:=O bN;clear hB hx hc hbd bN;generalize X.map bd=K at *;go_enter func30,ntmps30;go_wp2;go_loopw [5,6] (fun kv iv wr=>∃ k:Nat,iv=.int .i64 k/\k<=X.length/\Ok .i64 3 wr w.heap.size kv (K.take k)/\Bw w wr) (fun _ iv _=>X.length - (intOf iv).toNat)
  case atStart=>exact ⟨0,rfl,by omega,Ok.nil _ _ _ _,b0r⟩
  case round =>
   obtain ⟨k,rfl,hk,ar,af⟩:=hrel;obtain ⟨ka,kc,cn,aJ,hkc2⟩:=ar.sk.shape;subst cn;by_cases hlt:k<X.length
   ·have hL:(k:Int)<X.length:=(by omega);have x4:=V HC k hlt wr af;have KK:=O (V KB k hlt wr af);have al:(K.take k).length<=1000000:=(by rw [List.length_take]; omega);have HT:=O (V bK k hlt);have hz:=V aD (X.getD k 0);have bk:=O ar;have aj:=O af;clear ar af;obtain ⟨z,ca⟩:∃ z,bd (X.getD k 0)=z:=⟨_,rfl⟩;rw [ca] at KK HT hz;clear ca;obtain ⟨c,bT⟩:∃ c,X.getD k 0=c:=⟨_,rfl⟩;rw [bT] at KK x4;clear bT;obtain ⟨P,hP⟩:∃ P,K.take k=P:=⟨_,rfl⟩;rw [hP] at bk HT al ⊢;clear hP;go_wp2_with fail;refine (V KK).mono ?_;rintro e w1 ⟨rfl,b1⟩;have bj:=O ((V bk).below b1);have aA:=O (x0b (V aj) b1);have cr:=(V aA).size;clear KK b1 bk aj x4;go_wp2_with (at_builtin; refine y8V rfl (.tmp 20) (.tmp 27) rfl w.heap.size _ _ P [z] rfl rfl (x0s (V bj) _) (x3g w1 [z] 1 rfl (by omega) (by omega) _ rfl (fun y hy=>by simp at hy; subst hy; exact hz)) (Nat.succ_pos _) (by simp; omega) (by rw [x0m]; omega) ?_);intro v2 w2 ba g2;have b2:Bw w w2:=((V aA).alloc cr _).grown g2 (by rw [x0m]; omega) (fun q hq=>((V bj).2.2.lt q hq).1);rw [<- V HT] at ba;have cg:=O ba;have aR:=O b2;obtain ⟨ka2,kc2,bB,_,_⟩:=ba.sk.shape;subst bB;clear ba g2 b2 bj aA HT;go_wp2
    go_roundw
    case rel=>exact ⟨k+1,by go_num,by omega,V cg,V aR⟩
    case measure=>simp [intOf]; omega
   ·obtain rfl:k=X.length:=(by omega);rw [List.take_of_length_le (by rw [V ai]; exact l0r _)] at ar aJ ⊢;have bY:=ar.sk.place (by rw [V ai]; exact h0);rw [V ai] at ar aJ bY ⊢;obtain ⟨kb,ah,kcp,he,_,_,bA⟩:=bY;simp only [Value.slice.injEq] at he;obtain ⟨rfl,-,rfl⟩:=he;have bq:=O ar.sk;obtain ⟨wo,cu⟩:∃ wo,wo=wr:=⟨_,rfl⟩;subst cu;have ap:Hid (∀ q,q<X.length->∀ W,Bw wo W->W.cell? ⟨kb,ah+q,none⟩=some (.int .i64 (K.getD q 0))):=fun q hq W hW=>(by rw [hW.cell (x0a (bA q hq))]; exact bA q hq);have x0:=V ap 0 h0 wo (b0r);rw [Nat.add_zero] at x0;have bf:=O af;have K1:=O (x4E (K.getD 0 0) _ [0,1,2] _ (x3g wo [0,1,2] 3 rfl (by omega) (by omega) #[.int .i64 0,.int .i64 1,.int .i64 2] rfl (by simp)));rw [z0V] at K1;have aT:Hid (Bw wo (wo.alloc (.cells #[.int .i64 0,.int .i64 1,.int .i64 2] 3))):=(b0r).alloc (l0r _) _;have bm:Hid (¬ (K.getD 0 0=0\/K.getD 0 0=1\/K.getD 0 0=2)->Bd.rules K=1):=fun h=>(by unfold Bd.rules; rw [if_neg (by rw [V ai]; exact aZ),if_pos h]);have aG:Hid (K.getD 0 0=0->Bd.rules K=Bd.r5 K+Bd.r6 K):=fun h=>(by unfold Bd.rules; rw [if_neg (by rw [V ai]; exact aZ),if_neg (by rw [h]; simp),if_pos h]);have aH:Hid ((K.getD 0 0=1\/K.getD 0 0=2)->Bd.rules K=Bd.r2 K+Bd.r3 K+Bd.r4 K):=fun h=>(by unfold Bd.rules; rw [if_neg (by rw [V ai]; exact aZ),if_neg (fun h2=>h2 (.inr h)),if_neg (by omega)]);have aU:Hid (K.getD 0 0≠10->Bd.lst K≠10):=fun h=>Bd.y8p (by rw [V ai]; exact h0) h;have bh:Hid (∀ q,q<X.length->Bd.lst (K.take (q+1))=if K.getD q 0=10 then Bd.lst (K.take q) else K.getD q 0):=fun q hq=>Bd.y6X (by rw [V ai]; exact hq);have aX:Hid (K.take X.length=K):=List.take_of_length_le (by rw [V ai]; exact l0r _);have aC:Hid (∀ (f:Int->Bool) i,i<X.length->(K.take (i+1)).any f=((K.take i).any f || f (K.getD i 0))):=fun f i hi=>Bd.y5Y (by rw [V ai]; exact hi);clear ar af bA KB HC bK aD;obtain ⟨k0,bz⟩:∃ k0,K.getD 0 0=k0:=⟨_,rfl⟩;rw [bz] at x0 K1 bm aG aH aU;have ce:=O bz;clear bz;generalize Bd.rules K=R at *;by_cases h012:k0=0\/k0=1\/k0=2
    ·rw [d0t h012] at K1;go_wp2_with fail;refine (V K1).mono ?_;rintro e w3 ⟨rfl,b8⟩;have HW:Hid (Bw wo w3):=(by rw [b8]; exact V aT);have x1:=V ap 0 h0 w3 (V HW);rw [Nat.add_zero,V ce] at x1;clear K1 aT b8 bm x0;have aN:=V aU (by omega);have b9:IntKind.i64.wrap ((X.length:Int) - 1)=(X.length:Int) - 1:=(by rw [IntKind.wrap_i64]; omega);clear aU;go_wp2;go_loopw [7] (fun lv wr=>∃ q:Nat,lv=.int .i64 ((q:Int) - 1)/\q<=X.length/\Bd.lst K=Bd.lst (K.take q)/\wr=w3) (fun lv _=>(intOf lv+1).toNat)
     case atStart=>exact ⟨X.length,rfl,l0r _,by rw [V aX],rfl⟩
     case round =>
      obtain ⟨q,rfl,hq,aq,rfl⟩:=hrel
      cases q with
      | zero=>exact absurd (aq.trans rfl) aN
      | succ m =>
       rw [show (((m+1:Nat):Int) - 1)=(m:Int) by omega];have hm1:(m:Int)<X.length:=(by omega);have hm2:(0:Int)<=m:=(by omega);have x2:=V ap m (by omega) wr (V HW);rw [V bh m (by omega)] at aq;have hw7:IntKind.i64.wrap ((m:Int) - 1)=(m:Int) - 1:=(by rw [IntKind.wrap_i64]; omega);by_cases h10:K.getD m 0=10
       ·rw [if_pos h10] at aq;rw [h10] at x2;have cf:=O aq;clear aq h10;go_wp2
        go_roundw
        case rel=>exact ⟨m,rfl,by omega,V cf,by first | rfl | trivial⟩
        case measure=>simp [intOf] <;> omega
       ·rw [if_neg h10] at aq;have cv:(K.getD m 0==10)=false:=(by rw [beq_eq_false_iff_ne]; exact h10);have bg:=O aq;have bs:Hid (∀ W,Bw wo W->W.cell? ⟨kb,ah+m,none⟩=some (.int .i64 (K.getD m 0))):=fun W hW=>V ap m (by omega) W hW;clear aq h10 bh aN;obtain ⟨kl,bU⟩:∃ kl,K.getD m 0=kl:=⟨_,rfl⟩;rw [bU] at x2 cv bg bs;clear bU;by_cases hz:k0=0
        ·subst hz;have HT:=O (V aG rfl);clear aG aH h012;go_wp2;have ci:Hid (∀ W,Bw wo W->W.cell? ⟨kb,ah+m,none⟩=some (.int .i64 kl)):=bs;go_loopw [8,9] (fun ov iv wq=>∃ i:Nat,ov=.int .i64 (if (K.take i).any Bd.rtl=true then 16 else 0)/\iv=.int .i64 i/\i<=X.length/\Bw wo wq) (fun _ iv _=>X.length - (intOf iv).toNat)
         case atStart=>exact ⟨0,rfl,rfl,by omega,V HW⟩
         case round =>
          obtain ⟨i,rfl,rfl,hi,ab⟩:=hrel;by_cases hil:i<X.length
          ·have ck:(i:Int)<X.length:=(by omega);have x5:=V ap i hil wr ab;have HA:=O (V aC Bd.rtl i hil);have KA:=O (x4E (K.getD i 0) _ [1,2,3] _ (x3g wr [1,2,3] 3 rfl (by omega) (by omega) #[.int .i64 1,.int .i64 2,.int .i64 3] rfl (by simp)));rw [z0W] at KA;have an:Hid (Bw wo (wr.alloc (.cells #[.int .i64 1,.int .i64 2,.int .i64 3] 3))):=ab.alloc ab.size _;clear ab;obtain ⟨rb,b7⟩:∃ rb,Bd.rtl (K.getD i 0)=rb:=⟨_,rfl⟩;rw [b7] at KA HA;clear b7;obtain ⟨ki,aK⟩:∃ ki,K.getD i 0=ki:=⟨_,rfl⟩;rw [aK] at x5 KA;clear aK;obtain ⟨ob,aO⟩:∃ ob,(K.take i).any Bd.rtl=ob:=⟨_,rfl⟩;rw [aO] at HA ⊢;clear aO;have o1:bits BinOp.or IntKind.i64 0 16=16:=(by decide);have o2:bits BinOp.or IntKind.i64 16 16=16:=(by decide);have ae:Hid (∀ W,Bw wo W->∃ i':Nat,Value.int .i64 (if (ob || rb)=true then 16 else 0)=.int .i64 (if (K.take i').any Bd.rtl=true then 16 else 0)/\Value.int .i64 ((i:Int)+1)=.int .i64 i'/\i'<=X.length/\Bw wo W):=fun W hW=>⟨i+1,by rw [V HA],by congr 1,by omega,hW⟩;cases ob <;> cases rb
           all_goals
            go_wp2_with fail;refine (V KA).mono ?_;rintro e w4 ⟨rfl,aP⟩;have au:Hid (Bw wo w4):=(by rw [aP]; exact V an);clear KA aP an x5;go_wp2
            go_roundw
            case rel=>exact V ae _ (V au)
            case measure=>simp [intOf]; omega
          ·obtain rfl:i=X.length:=(by omega);have x6:=V ci wr ab;have aS:=O (x0b (V bf) ab)
           have bJ:Hid ((if (K.take X.length).any Bd.rtl=true then 16 else 0)=Bd.r5 K):=by
            show (if (K.take X.length).any Bd.rtl=true then (16:Int) else 0)=Bd.r5 K;rw [V aX]; rfl
           rw [V bJ];have hr5:Bd.r5 K=0\/Bd.r5 K=16:=by unfold Bd.r5; split <;> simp
           have aW:Hid (Bd.r6 K=if kl=0\/kl=4 then 0 else 32):=by
            show Bd.r6 K=_;unfold Bd.r6; rw [V bg]
           clear ab aC ap bJ;obtain ⟨p5,bX⟩:∃ p5,Bd.r5 K=p5:=⟨_,rfl⟩;rw [bX] at hr5 HT ⊢;clear bX;have o3:bits BinOp.or IntKind.i64 0 32=32:=(by decide);have o4:bits BinOp.or IntKind.i64 16 32=48:=(by decide);by_cases hk4:kl=0\/kl=4
           ·have HF:Hid (R=p5):=by
             show R=p5;rw [V HT,V aW,if_pos hk4]; omega
            clear HT aW;rcases hk4 with rfl | rfl
            all_goals
             go_wp2;go_ret;exact ⟨by rw [V HF]; rfl,V aS⟩
           ·have HF:Hid (R=p5+32):=by
             show R=p5+32;rw [V HT,V aW,if_neg hk4]
            have m0:(kl != 0)=true:=(by simp; omega);have m4:(kl != 4)=true:=(by simp; omega);clear HT aW hk4;rcases hr5 with rfl | rfl
            all_goals
             go_wp2;go_ret;exact ⟨by rw [V HF]; rfl,V aS⟩
        ·have aB:k0=1\/k0=2:=(by omega);have nz:(k0==0)=false:=(by rw [beq_eq_false_iff_ne]; exact hz);have HT:=O (V aH aB);clear aG aH h012 hz aB;go_wp2;go_loopw [8,10] (fun ov iv wq=>∃ i:Nat,ov=.int .i64 (if (K.take i).any (fun k=>decide (k=0))=true then 2 else 0)/\iv=.int .i64 i/\i<=X.length/\Bw wo wq) (fun _ iv _=>X.length - (intOf iv).toNat)
         case atStart=>exact ⟨0,rfl,rfl,by omega,V HW⟩
         case round =>
          obtain ⟨i,rfl,rfl,hi,ab⟩:=hrel;by_cases hil:i<X.length
          ·have ck:(i:Int)<X.length:=(by omega);have x5:=V ap i hil wr ab;have HA:=O (V aC (fun k=>decide (k=0)) i hil);have an:=O ab;clear ab;obtain ⟨ki,aK⟩:∃ ki,K.getD i 0=ki:=⟨_,rfl⟩;rw [aK] at x5 HA;clear aK;obtain ⟨ob,aO⟩:∃ ob,(K.take i).any (fun k=>decide (k=0))=ob:=⟨_,rfl⟩;rw [aO] at HA ⊢;clear aO;have o1:bits BinOp.or IntKind.i64 0 2=2:=(by decide);have o2:bits BinOp.or IntKind.i64 2 2=2:=(by decide);have ae:Hid (∀ W,Bw wo W->∃ i':Nat,Value.int .i64 (if (ob || decide (ki=0))=true then 2 else 0)=.int .i64 (if (K.take i').any (fun k=>decide (k=0))=true then 2 else 0)/\Value.int .i64 ((i:Int)+1)=.int .i64 i'/\i'<=X.length/\Bw wo W):=fun W hW=>⟨i+1,by rw [V HA],by congr 1,by omega,hW⟩;by_cases hk:ki=0
           ·subst hk;rw [d0t rfl] at ae;clear HA;cases ob
            all_goals
             go_wp2
             go_roundw
             case rel=>exact V ae _ (V an)
             case measure=>simp [intOf]; omega
           ·rw [d0f hk] at ae;have nk:(ki==0)=false:=(by rw [beq_eq_false_iff_ne]; exact hk);clear HA hk;cases ob
            all_goals
             go_wp2
             go_roundw
             case rel=>exact V ae _ (V an)
             case measure=>simp [intOf]; omega
          ·obtain rfl:i=X.length:=(by omega);have x6:=V bs wr ab;have aS:=O ab
           have bI:Hid ((if (K.take X.length).any (fun k=>decide (k=0))=true then 2 else 0)=Bd.r2 K):=by
            show (if (K.take X.length).any (fun k=>decide (k=0))=true then (2:Int) else 0)=Bd.r2 K;rw [V aX]; rfl
           rw [V bI];have hr2:Bd.r2 K=0\/Bd.r2 K=2:=by unfold Bd.r2; split <;> simp
           have bn:Hid (Bd.r3 K=if kl=1\/kl=2\/kl=4\/kl=3 then 0 else 4):=by
            show Bd.r3 K=_;unfold Bd.r3; rw [V bg]
           have aE:Hid (Bd.r4 K=if (K.any fun k=>decide (k=4))=true/\(K.any fun k=>decide (k=3))=true then 8 else 0):=rfl;have KA:=O (x4E kl _ [1,2,4,3] _ (x3g wr [1,2,4,3] 4 rfl (by omega) (by omega) #[.int .i64 1,.int .i64 2,.int .i64 4,.int .i64 3] rfl (by simp)));rw [z0X] at KA;have an:Hid (Bw wo (wr.alloc (.cells #[.int .i64 1,.int .i64 2,.int .i64 4,.int .i64 3] 3))):=ab.alloc ab.size _;have KE:Hid (∀ W,Bw wo W->Calls prog 56 #[.int .i64 4,.slice (some ⟨kb,ah,none⟩) X.length kc] W (fun e w'=>e=.returned (.bool (K.any fun k=>decide (k=4)))/\w'=W)):=fun W hW=>x4E 4 _ K W ((V bq).below hW);have KN:Hid (∀ W,Bw wo W->Calls prog 56 #[.int .i64 3,.slice (some ⟨kb,ah,none⟩) X.length kc] W (fun e w'=>e=.returned (.bool (K.any fun k=>decide (k=3)))/\w'=W)):=fun W hW=>x4E 3 _ K W ((V bq).below hW);clear ab aC ap bI aS bq;obtain ⟨p2,bW⟩:∃ p2,Bd.r2 K=p2:=⟨_,rfl⟩;rw [bW] at hr2 HT ⊢;clear bW;obtain ⟨b4,bP⟩:∃ b4,(K.any fun k=>decide (k=4))=b4:=⟨_,rfl⟩;obtain ⟨b3,bO⟩:∃ b3,(K.any fun k=>decide (k=3))=b3:=⟨_,rfl⟩;rw [bP] at aE KE;rw [bO] at aE KN;clear bP bO;obtain ⟨q4,b6⟩:∃ q4,Bd.r4 K=q4:=⟨_,rfl⟩;rw [b6] at aE HT;obtain ⟨q3,bZ⟩:∃ q3,Bd.r3 K=q3:=⟨_,rfl⟩;rw [bZ] at bn HT;clear b6 bZ;have a1:bits BinOp.or IntKind.i64 0 4=4:=(by decide);have a2:bits BinOp.or IntKind.i64 2 4=6:=(by decide);have a3:bits BinOp.or IntKind.i64 0 8=8:=(by decide);have a4:bits BinOp.or IntKind.i64 2 8=10:=(by decide);have a5:bits BinOp.or IntKind.i64 4 8=12:=(by decide);have a6:bits BinOp.or IntKind.i64 6 8=14:=(by decide);obtain ⟨db,bx⟩:∃ db,decide (kl=1\/kl=2\/kl=4\/kl=3)=db:=⟨_,rfl⟩
           have H3:Hid (q3=if db=true then 0 else 4):=by
            show q3=_;rw [V bn,<- bx];by_cases h:kl=1\/kl=2\/kl=4\/kl=3
            ·rw [if_pos h,d0t h]; rfl
            ·rw [if_neg h,d0f h]; rfl
           rw [bx] at KA;clear bx bn
           have bo:Hid (R=p2+(if db=true then 0 else 4)+(if b4=true/\b3=true then 8 else 0)):=by
            show R=_;rw [V HT,V H3,V aE]
           clear HT H3 aE;rcases hr2 with rfl | rfl <;> cases db <;> cases b4 <;> cases b3
           all_goals
            have bp:=bo;go_wp2_with fail;refine (V KA).mono ?_;rintro e w4 ⟨rfl,aP⟩;have au:Hid (Bw wo w4):=(by rw [aP]; exact V an);have bL:=O (V KE w4 (V au));have bM:=O (V KN w4 (V au));clear KA aP an x6 KE KN;go_wp2_with (first | (refine (V bL).mono ?_; rintro e5 w5 ⟨rfl,ct⟩; subst ct; clear bL) | (refine (V bM).mono ?_; rintro e6 w6 ⟨rfl,b9⟩; subst b9; clear bM));go_ret;exact ⟨by rw [V bp]; rfl,x0b (V bf) (V au)⟩
    ·rw [d0f h012] at K1;have HT:=O (V bm h012);clear aG aH aU bh aX aC h012;go_wp2_with fail;refine (V K1).mono ?_;rintro e w3 ⟨rfl,rfl⟩;have cb:=O (x0b (V bf) (V aT));clear K1 aT;go_wp2;go_ret;exact ⟨by rw [V HT]; rfl,V cb⟩
def Sm17 (w:World) (b:Bool) (e:Ending) (w':World):Prop:=e=.returned (.bool b)/\w'=w
theorem x3d:∀ args w,(callFunc 200 args).run prog w=.ok (.enter 200 args) w:=enters_of func200 (by kernel_rfl) rfl
theorem enters_r2:∀ args w,(callFunc 202 args).run prog w=.ok (.enter 202 args) w:=enters_of func202 (by kernel_rfl) rfl
theorem enters_r3:∀ args w,(callFunc 203 args).run prog w=.ok (.enter 203 args) w:=enters_of func203 (by kernel_rfl) rfl
theorem enters_r4:∀ args w,(callFunc 204 args).run prog w=.ok (.enter 204 args) w:=enters_of func204 (by kernel_rfl) rfl
theorem enters_r5:∀ args w,(callFunc 205 args).run prog w=.ok (.enter 205 args) w:=enters_of func205 (by kernel_rfl) rfl
theorem enters_r6:∀ args w,(callFunc 206 args).run prog w=.ok (.enter 206 args) w:=enters_of func206 (by kernel_rfl) rfl
theorem enters_r7:∀ args w,(callFunc 207 args).run prog w=.ok (.enter 207 args) w:=enters_of func207 (by kernel_rfl) rfl
theorem enters_r8:∀ args w,(callFunc 208 args).run prog w=.ok (.enter 208 args) w:=enters_of func208 (by kernel_rfl) rfl
theorem fr17 {w:World} {L b r q s:Nat} {f l a:Int} {sv:Value} (C:Cls17 w L b r q s) (H:LkH w L f l a sv):Calls prog 200 #[.pointer (some ⟨b,0,none⟩)] w (Sm17 w (bits .andNot .i64 f 6==0)):=by
 have x0:=C.hb;have x1:=H.c0;have K:=O (x2h f 6 w);clear C H;generalize (bits .andNot .i64 f 6==0)=R at *;go_enter func200,ntmps200;go_wp2_with fail;refine (V K).mono ?_;rintro e w1 ⟨rfl,rfl⟩;clear K;go_wp2;go_ret;exact ⟨rfl,rfl⟩
theorem fl17 {w:World} {L b r q s:Nat} {f l a:Int} {sv:Value} (C:Cls17 w L b r q s) (H:LkH w L f l a sv):Calls prog 202 #[.pointer (some ⟨b,0,none⟩)] w (Sm17 w (bits .andNot .i64 f 1==0)):=by
 have x0:=C.hb;have x1:=H.c0;have K:=O (x2h f 1 w);clear C H;generalize (bits .andNot .i64 f 1==0)=R at *;go_enter func202,ntmps202;go_wp2_with fail;refine (V K).mono ?_;rintro e w1 ⟨rfl,rfl⟩;clear K;go_wp2;go_ret;exact ⟨rfl,rfl⟩
theorem z1c {w:World} {L b r q s:Nat} {f l a:Int} {sv:Value} (C:Cls17 w L b r q s) (H:LkH w L f l a sv):Calls prog 203 #[.pointer (some ⟨r,0,none⟩),.pointer (some ⟨q,0,none⟩)] w (Sm17 w ((bits .andNot .i64 f 6==0) || (bits .andNot .i64 f 1==0))):=by
 have x0:=C.hr;have x1:=C.hq;have e1:=x3d;have e2:=enters_r2;have K:=O (fr17 C H);have K2:=O (fl17 C H);clear C H;generalize (bits .andNot .i64 f 6==0)=R at *;generalize (bits .andNot .i64 f 1==0)=Q at *;go_enter func203,ntmps203
 cases R with
 | true =>
  go_wp2_with (go_at_fn 200; refine (V K).mono ?_; rintro e w1 ⟨rfl,rfl⟩);go_ret;exact ⟨rfl,rfl⟩
 | false =>
  go_wp2_with (first | (go_at_fn 200; refine (V K).mono ?_; rintro e w1 ⟨rfl,rfl⟩) | (go_at_fn 202; refine (V K2).mono ?_; rintro e w1 ⟨rfl,rfl⟩));go_ret;exact ⟨rfl,rfl⟩
theorem z1d {w:World} {L b r q s:Nat} {f l a:Int} {sv:Value} (C:Cls17 w L b r q s) (H:LkH w L f l a sv):Calls prog 204 #[.pointer (some ⟨r,0,none⟩),.pointer (some ⟨b,0,none⟩)] w (Sm17 w (!(bits .andNot .i64 f 6==0) || (bits .andNot .i64 a 2046==0))):=by
 have x0:=C.hr;have x1:=C.hb;have x2:=H.c2;have e1:=x3d;have K:=O (fr17 C H);have K2:=O (x2h a 2046 w);clear C H;generalize (bits .andNot .i64 f 6==0)=R at *;generalize (bits .andNot .i64 a 2046==0)=Q at *;go_enter func204,ntmps204
 cases R with
 | false =>
  go_wp2_with (go_at_fn 200; refine (V K).mono ?_; rintro e w1 ⟨rfl,rfl⟩);go_ret;exact ⟨rfl,rfl⟩
 | true =>
  go_wp2_with (first | (go_at_fn 200; refine (V K).mono ?_; rintro e w1 ⟨rfl,rfl⟩) | (refine (V K2).mono ?_; rintro e w1 ⟨rfl,rfl⟩));go_ret;exact ⟨rfl,rfl⟩
theorem z1e {w:World} {L b r q s:Nat} {f l a:Int} {sv:Value} (C:Cls17 w L b r q s) (H:LkH w L f l a sv):Calls prog 205 #[.pointer (some ⟨r,0,none⟩),.pointer (some ⟨b,0,none⟩)] w (Sm17 w (!(bits .andNot .i64 f 6==0) || (bits .andNot .i64 l 30==0))):=by
 have x0:=C.hr;have x1:=C.hb;have x2:=H.c1;have e1:=x3d;have K:=O (fr17 C H);have K2:=O (x2h l 30 w);clear C H;generalize (bits .andNot .i64 f 6==0)=R at *;generalize (bits .andNot .i64 l 30==0)=Q at *;go_enter func205,ntmps205
 cases R with
 | false =>
  go_wp2_with (go_at_fn 200; refine (V K).mono ?_; rintro e w1 ⟨rfl,rfl⟩);go_ret;exact ⟨rfl,rfl⟩
 | true =>
  go_wp2_with (first | (go_at_fn 200; refine (V K).mono ?_; rintro e w1 ⟨rfl,rfl⟩) | (refine (V K2).mono ?_; rintro e w1 ⟨rfl,rfl⟩));go_ret;exact ⟨rfl,rfl⟩
theorem z1f {w:World} {L b r q s:Nat} {f l a:Int} {sv:Value} (C:Cls17 w L b r q s) (H:LkH w L f l a sv):Calls prog 206 #[.pointer (some ⟨r,0,none⟩),.pointer (some ⟨b,0,none⟩)] w (Sm17 w (!(bits .andNot .i64 f 6==0) || !(bits .andNot .i64 24 a==0))):=by
 have x0:=C.hr;have x1:=C.hb;have x2:=H.c2;have e1:=x3d;have K:=O (fr17 C H);have K2:=O (x2h 24 a w);clear C H;generalize (bits .andNot .i64 f 6==0)=R at *;generalize (bits .andNot .i64 24 a==0)=Q at *;go_enter func206,ntmps206
 cases R with
 | false =>
  go_wp2_with (go_at_fn 200; refine (V K).mono ?_; rintro e w1 ⟨rfl,rfl⟩);go_ret;exact ⟨rfl,rfl⟩
 | true =>
  go_wp2_with (first | (go_at_fn 200; refine (V K).mono ?_; rintro e w1 ⟨rfl,rfl⟩) | (refine (V K2).mono ?_; rintro e w1 ⟨rfl,rfl⟩));go_ret;exact ⟨rfl,rfl⟩
theorem z1g {w:World} {L b r q s:Nat} {f l a:Int} {sv:Value} (C:Cls17 w L b r q s) (H:LkH w L f l a sv):Calls prog 207 #[.pointer (some ⟨q,0,none⟩),.pointer (some ⟨b,0,none⟩)] w (Sm17 w (!(bits .andNot .i64 f 1==0) || (bits .andNot .i64 a 2033==0))):=by
 have x0:=C.hq;have x1:=C.hb;have x2:=H.c2;have e1:=enters_r2;have K:=O (fl17 C H);have K2:=O (x2h a 2033 w);clear C H;generalize (bits .andNot .i64 f 1==0)=R at *;generalize (bits .andNot .i64 a 2033==0)=Q at *;go_enter func207,ntmps207
 cases R with
 | false =>
  go_wp2_with (go_at_fn 202; refine (V K).mono ?_; rintro e w1 ⟨rfl,rfl⟩);go_ret;exact ⟨rfl,rfl⟩
 | true =>
  go_wp2_with (first | (go_at_fn 202; refine (V K).mono ?_; rintro e w1 ⟨rfl,rfl⟩) | (refine (V K2).mono ?_; rintro e w1 ⟨rfl,rfl⟩));go_ret;exact ⟨rfl,rfl⟩
theorem z1h {w:World} {L b r q s:Nat} {f l a:Int} {sv:Value} (C:Cls17 w L b r q s) (H:LkH w L f l a sv):Calls prog 208 #[.pointer (some ⟨q,0,none⟩),.pointer (some ⟨b,0,none⟩)] w (Sm17 w (!(bits .andNot .i64 f 1==0) || (bits .andNot .i64 l 17==0))):=by
 have x0:=C.hq;have x1:=C.hb;have x2:=H.c1;have e1:=enters_r2;have K:=O (fl17 C H);have K2:=O (x2h l 17 w);clear C H;generalize (bits .andNot .i64 f 1==0)=R at *;generalize (bits .andNot .i64 l 17==0)=Q at *;go_enter func208,ntmps208
 cases R with
 | false =>
  go_wp2_with (go_at_fn 202; refine (V K).mono ?_; rintro e w1 ⟨rfl,rfl⟩);go_ret;exact ⟨rfl,rfl⟩
 | true =>
  go_wp2_with (first | (go_at_fn 202; refine (V K).mono ?_; rintro e w1 ⟨rfl,rfl⟩) | (refine (V K2).mono ?_; rintro e w1 ⟨rfl,rfl⟩));go_ret;exact ⟨rfl,rfl⟩
namespace Bd
def lm (K:List Int):Int:=K.foldl (fun l k=>if k=10 then l else one k) 0
theorem y4s (K:List Int) (k:Int):lm (K++[k])=if k=10 then lm K else one k:=by
 unfold lm; rw [List.foldl_append]; rfl
theorem y0I {X:List Int} {bd:Int->Int} {k:Nat} (h:k<X.length):(X.take (k+1)).map bd=(X.take k).map bd++[bd (X.getD k 0)]:=by
 rw [x1E h,List.map_append]; rfl
theorem y3K {bd:Int->Int} (h:∀ c,0<=bd c/\bd c<=10) (X:List Int):Fit (X.map bd):=by
 intro k hk;obtain ⟨c,_,rfl⟩:=List.mem_map.1 hk;exact h c
theorem z1U {k:Int} (h:0<=k/\k<=10):2 ^ k.toNat<2048:=y8y h
end Bd
theorem Cls17.set {w:World} {L b r q s B j:Nat} (h:Cls17 w L b r q s) (hB:L<B) (hs:B<=b/\B<=r/\B<=q/\B<=s) (v:Value):Cls17 (w.setCell ⟨L,j,none⟩ v) L b r q s:=by
 have k:∀ {b j':Nat} {u:Value},B<=b->w.cell? ⟨b,j',none⟩=some u->(w.setCell ⟨L,j,none⟩ v).cell? ⟨b,j',none⟩=some u:=fun {b j' u} hl h=>by
  rw [World.cell?_of_block (a:=⟨b,j',none⟩) (Below.heap_setCell _ _ _ _ (fun e=>by have:b=L:=e; omega))]; exact h
 obtain ⟨h1,h2,h3,h4⟩:=hs;exact ⟨k h1 h.hb,k h2 h.hr,k h3 h.hq,k h4 h.s0,k h4 h.s1,k h4 h.s2,k h4 h.s3,k h4 h.s4,k h4 h.s5⟩
def z0P (w:World) (f l a:Int) (e:Ending) (w':World):Prop:=∃ L b r q s,e=.returned (.pointer (some ⟨L,0,none⟩))/\LkH w' L f l a (.slice (some ⟨s,0,none⟩) 6 6)/\Cls17 w' L b r q s/\Below w.heap.size w w'
theorem y6W {p:Nat} {bd:Int->Int} {w:World} (hB:x8T p bd w) {xv:Value} {X:List Int} (hx:Sk .i32 w xv X) (h0:0<X.length):Calls prog 128 #[.pointer (some ⟨p,0,none⟩),xv] w (z0P w (Bd.one (bd (X.getD 0 0))) (Bd.lm (X.map bd)) ((Bd.msk (X.map bd):Nat):Int)):=by
 have aM:=hx.len;have KD:Hid (∀ (k:Nat),k<X.length->∀ W,Bw w W->Calls prog 164 #[.pointer (some ⟨p,0,none⟩),.int .i32 (X.getD k 0)] W (IntB W (Bd.one (bd (X.getD k 0))))):=fun k hk W hW=>dir17 (hB.on hW) (x0x hx hk);have aD:=O hB.1;obtain ⟨b,off,cap,rfl,bR,bS,hc⟩:=hx.place (by omega)
 have HC:Hid (∀ (k:Nat),k<X.length->∀ W,Bw w W->W.cell? ⟨b,off+k,none⟩=some (.int .i32 (X.getD k 0))):=fun k hk W hW=>by
  rw [hW.cell (x0a (hc k hk))]; exact hc k hk
 have x0:=V HC 0 h0 w (b0r);have K:=O (V KD 0 h0 w (b0r));have HE:Hid (X.take X.length=X):=List.take_length
 have HM:Hid (∀ k:Nat,k<X.length->bits .or .i64 ((Bd.msk ((X.take k).map bd):Nat):Int) (Bd.one (bd (X.getD k 0)))=((Bd.msk ((X.take (k+1)).map bd):Nat):Int)):=fun k hk=>by
  rw [Bd.y0I hk,Bd.y7b];exact Bd.or17 (Bd.y8s (Bd.y3K hB.1 _)) (Bd.z1U (hB.1 _))
 have HL:Hid (∀ k:Nat,k<X.length->Bd.lm ((X.take (k+1)).map bd)=if bd (X.getD k 0)=10 then Bd.lm ((X.take k).map bd) else Bd.one (bd (X.getD k 0))):=fun k hk=>by
  rw [Bd.y0I hk,Bd.y4s]
 have HZ:Hid (∀ k:Nat,(bd (X.getD k 0)=10->Bd.one (bd (X.getD k 0))=1024)/\(bd (X.getD k 0)≠10->(Bd.one (bd (X.getD k 0)) != 1024)=true)):=fun k=>by
  have h:=hB.1 (X.getD k 0);generalize bd (X.getD k 0)=z at *;refine ⟨fun e=>by subst e; rfl,fun hz=>?_⟩
  rcases Bd.cases11 h with rfl | rfl | rfl | rfl | rfl | rfl | rfl | rfl | rfl | rfl | rfl <;> first | rfl | exact absurd rfl hz
 have KR:=O (fun L W=>y5l L W);clear hB hx hc;rw [Nat.add_zero] at x0;generalize Bd.one (bd (X.getD 0 0))=f at *;generalize X.getD 0 0=c0 at *;go_enter func128,ntmps128;go_wp2_with fail;refine (V K).mono ?_;rintro e w1 ⟨rfl,b1⟩;have aA:=O b1;have a9:=b1.size;clear K b1 x0
 have HS:Hid (LkH (w1.alloc (.cells #[.int .i64 f,.int .i64 0,.int .i64 0,.slice none 0 0] 174)) w1.heap.size f 0 0 (.slice none 0 0)):=by
  show (w1.heap.push _)[w1.heap.size]?=_;simp
 have aR:Hid (Bw w (w1.alloc (.cells #[.int .i64 f,.int .i64 0,.int .i64 0,.slice none 0 0] 174))):=(V aA).alloc a9 _;go_wp2;generalize hLe:w1.heap.size=L at *;clear hLe aA;go_loopw [7,8,18] (fun _ _ iv wr=>∃ k:Nat,iv=.int .i64 k/\k<=X.length/\LkH wr L f (Bd.lm ((X.take k).map bd)) ((Bd.msk ((X.take k).map bd):Nat):Int) (.slice none 0 0)/\Bw w wr) (fun _ _ iv _=>X.length - (intOf iv).toNat)
 case atStart=>exact ⟨0,rfl,by omega,V HS,V aR⟩
 case round =>
  obtain ⟨k,rfl,hk,ak,af⟩:=hrel;clear HS aR;by_cases hlt:k<X.length
  ·have hL:(k:Int)<X.length:=(by omega);have x4:=V HC k hlt wr af;have K:=O (V KD k hlt wr af);have hm:=V HM k hlt;have aV:=O (V HL k hlt);have aY:=O (V HZ k);have aj:=O af;have av:=O ak;clear ak af KD HC HM HL HZ HE KR aD;have aF:Hid (∀ W,LkH W L f (Bd.lm ((X.take (k+1)).map bd)) ((Bd.msk ((X.take (k+1)).map bd):Nat):Int) (.slice none 0 0)->Bw w W->∃ n:Nat,Value.int .i64 ((k:Int)+1)=.int .i64 (n:Int)/\n<=X.length/\LkH W L f (Bd.lm ((X.take n).map bd)) ((Bd.msk ((X.take n).map bd):Nat):Int) (.slice none 0 0)/\Bw w W):=fun W h1 h2=>⟨k+1,by go_num,by omega,h1,h2⟩;generalize Bd.lm ((X.take (k+1)).map bd)=l2 at *;generalize Bd.lm ((X.take k).map bd)=l1 at *;generalize ((Bd.msk ((X.take (k+1)).map bd):Nat):Int)=a2 at *;generalize ((Bd.msk ((X.take k).map bd):Nat):Int)=a1 at *;generalize Bd.one (bd (X.getD k 0))=o at *;generalize bd (X.getD k 0)=z at *;generalize X.getD k 0=c at *;go_wp2_with fail;refine (V K).mono ?_;rintro e w2 ⟨rfl,b2⟩;have H2:=(V av).below b2;have y2:=H2.c2;have y3:=H2.fz 2;have y4:=(H2.set2 a2).c1;have y5:=(H2.set2 a2).fz 1;have bH:=O (x0c (x0b (V aj) b2) a9 (j:=2) (.int .i64 a2));by_cases hz:z=10
   ·obtain rfl:=(V aY).1 hz;have aL:=V aV;rw [if_pos hz] at aL;subst aL;have HF:=O (H2.set2 a2);clear K x4 aY aV aj av b2 H2 y4 y5;go_wp2
    go_roundw
    case rel=>exact V aF _ (V HF) (V bH)
    case measure=>simp [intOf]; omega
   ·have ho:=(V aY).2 hz;have aL:=V aV;rw [if_neg hz] at aL;subst aL;have HF:=O ((H2.set2 a2).set1 l2);have au:=O (x0c (V bH) a9 (j:=1) (.int .i64 l2));clear K x4 aY aV aj av b2 H2;go_wp2
    go_roundw
    case rel=>exact V aF _ (V HF) (V au)
    case measure=>simp [intOf]; omega
  ·have cm:k=X.length:=(by omega);subst cm;rw [V HE] at ak;have aj:=O af;have K:=O (V KR L wr);have av:=O ak;clear af ak KD HC HM HL HZ HE KR aD;generalize Bd.lm (X.map bd)=l1 at *;generalize ((Bd.msk (X.map bd):Nat):Int)=a1 at *;go_wp2_with fail;refine (V K).mono ?_;rintro e w2 ⟨b2,r2,q2,s2,rfl,aI,bQ,bu⟩;have H2:=(V av).below bu;have y2:=H2.c3;have y3:=H2.fz 3;have HF:Hid (z0P w f l1 a1 (.returned (.pointer (some ⟨L,0,none⟩))) (w2.setCell ⟨L,3,none⟩ (.slice (some ⟨s2,0,none⟩) 6 6))):=⟨L,b2,r2,q2,s2,rfl,H2.set3 _,aI.set (V av).lt bQ _,x0c (x0b (V aj) bu) a9 _⟩;clear K aj av H2 aI bQ bu;go_wp2;go_ret;exact V HF
namespace Bd
def hold (f l a:Int):Nat->Bool
 | 0=>(bits .andNot .i64 f 6==0) || (bits .andNot .i64 f 1==0)
 | 1=>!(bits .andNot .i64 f 6==0) || (bits .andNot .i64 a 2046==0)
 | 2=>!(bits .andNot .i64 f 6==0) || (bits .andNot .i64 l 30==0)
 | 3=>!(bits .andNot .i64 f 6==0) || !(bits .andNot .i64 24 a==0)
 | 4=>!(bits .andNot .i64 f 1==0) || (bits .andNot .i64 a 2033==0)
 | _=>!(bits .andNot .i64 f 1==0) || (bits .andNot .i64 l 17==0)
def acc (h:Nat->Bool):Nat->Nat
 | 0=>0
 | k+1=>if h k=true then acc h k else acc h k ||| 2 ^ k
theorem x7t (h:Nat->Bool):∀ k,k<=6->acc h k<2 ^ 11
 | 0,_=>by show 0<2 ^ 11; decide
 | k+1,hk=>by
  have ih:=x7t h k (by omega);rw [acc];split
  ·exact ih
  ·exact Nat.or_lt_two_pow ih (Nat.pow_lt_pow_right (by omega) (by omega))
theorem acc6 (h:Nat->Bool):((acc h 6:Nat):Int)=(if h 0=true then 0 else 1)+(if h 1=true then 0 else 2)+(if h 2=true then 0 else 4)+(if h 3=true then 0 else 8)+(if h 4=true then 0 else 16)+(if h 5=true then 0 else 32):=by
 simp only [acc];generalize h 0=b0;generalize h 1=b1;generalize h 2=b2;generalize h 3=b3;generalize h 4=b4;generalize h 5=b5;cases b0 <;> cases b1 <;> cases b2 <;> cases b3 <;> cases b4 <;> cases b5 <;> rfl
theorem y9S {K:List Int} (h:Fit K):0<=lst K/\lst K<=10:=by
 unfold lst
 have bG:∀ m:List Int,Fit m->0<=fst m/\fst m<=10:=by
  intro m
  induction m with
  | nil=>intro _; exact ⟨by decide,by decide⟩
  | cons k l ih =>
   intro hm;show 0<=(if k=10 then fst l else k)/\(if k=10 then fst l else k)<=10;split
   ·exact ih fun x hx=>hm x (List.mem_cons_of_mem _ hx)
   ·exact hm k (by simp)
 exact bG _ fun x hx=>h x (List.mem_reverse.1 hx)
theorem z1I (K:List Int) (h:lst K≠10):lm K=one (lst K):=by
 obtain ⟨M,rfl⟩:∃ M:List Int,K=M.reverse:=⟨K.reverse,by rw [List.reverse_reverse]⟩
 induction M with
 | nil=>exact absurd rfl h
 | cons k l ih =>
  rw [List.reverse_cons] at *;rw [y0F] at *;rw [y4s];by_cases hk:k=10
  ·rw [if_pos hk] at *;rw [if_pos hk];exact ih h
  ·rw [if_neg hk,if_neg hk]
theorem or_one {z:Int} (h:0<=z/\z<=10):(bits .andNot .i64 (one z) 6==0)=decide (z=1\/z=2)/\(bits .andNot .i64 (one z) 1==0)=decide (z=0)/\(bits .andNot .i64 (one z) 30==0)=decide (z=1\/z=2\/z=4\/z=3)/\(bits .andNot .i64 (one z) 17==0)=decide (z=0\/z=4):=by
 rcases cases11 h with rfl | rfl | rfl | rfl | rfl | rfl | rfl | rfl | rfl | rfl | rfl <;> decide +kernel
theorem y2S {K:List Int} (hK:Fit K) (h0:0<K.length):((acc (hold (one (K.getD 0 0)) (lm K) ((msk K:Nat):Int)) 6:Nat):Int)=rules K:=by
 have hz:0<=K.getD 0 0/\K.getD 0 0<=10:=hK _ (by simp [List.getD,h0]);have hl:=y8s hK;have e1:=inR17 ⟨msk K,hl⟩;have e2:=inL17 ⟨msk K,hl⟩;have e3:=dig17 ⟨msk K,hl⟩;simp only at e1 e2 e3;rw [x5T hK] at e1;rw [x5T hK,x5T hK,x5T hK,<- y8T] at e2;rw [x5T hK,x5T hK] at e3;rw [acc6];simp only [hold];rw [e1,e2,e3];obtain ⟨f1,f2,-,-⟩:=or_one hz;rw [f1,f2]
 have hr:rules K=if ¬ (K.getD 0 0=0\/K.getD 0 0=1\/K.getD 0 0=2) then 1 else if K.getD 0 0=0 then r5 K+r6 K else r2 K+r3 K+r4 K:=by
  unfold rules; rw [if_neg (by omega)]
 rw [hr];clear hr;have a8:=y8p h0;have bV:=z1I K;obtain ⟨-,-,g3,g4⟩:=or_one (y9S hK);unfold r2 r3 r4 r5 r6;generalize K.getD 0 0=z at *;generalize hA:K.any rtl=A at *;generalize hB:(K.any fun k=>decide (k=((0:Nat):Int)))=B at *;generalize hC:(K.any fun k=>decide (k=((3:Nat):Int)))=C at *;generalize hD:(K.any fun k=>decide (k=((4:Nat):Int)))=D at *;by_cases k0:z=0
 ·subst k0;rw [bV (a8 (by decide)),g4];generalize lst K=y at *;simp;cases A <;> simp
 ·by_cases k1:z=1\/z=2
  ·rw [bV (a8 (by omega)),g3];generalize lst K=y at *;simp only [k0,k1,decide_true,decide_false];simp;cases B <;> cases C <;> cases D <;> by_cases hy:y=1\/y=2\/y=4\/y=3 <;> simp [hy]
  ·simp [k0,k1]
end Bd
theorem y2G {k:Nat} (h:k<6):wrap64 ((2:Int) ^ k)=((2 ^ k:Nat):Int):=by
 have:k=0\/k=1\/k=2\/k=3\/k=4\/k=5:=(by omega);rcases this with rfl | rfl | rfl | rfl | rfl | rfl <;> decide +kernel
theorem y1v {w:World} {L b r q s:Nat} {f l a:Int} {sv:Value} (C:Cls17 w L b r q s) (H:LkH w L f l a sv) {k:Nat} (hk:k<6):∃ g c1 c2,w.cell? ⟨s,k,none⟩=some (.func (.func g) #[] #[.pointer (some ⟨c1,0,none⟩),.pointer (some ⟨c2,0,none⟩)])/\Calls prog g #[.pointer (some ⟨c1,0,none⟩),.pointer (some ⟨c2,0,none⟩)] w (Sm17 w (Bd.hold f l a k))/\(∀ args w,(callFunc g args).run prog w=.ok (.enter g args) w):=by
 match k,hk with
 | 0,_=>exact ⟨_,_,_,C.s0,z1c C H,enters_r3⟩
 | 1,_=>exact ⟨_,_,_,C.s1,z1d C H,enters_r4⟩
 | 2,_=>exact ⟨_,_,_,C.s2,z1e C H,enters_r5⟩
 | 3,_=>exact ⟨_,_,_,C.s3,z1f C H,enters_r6⟩
 | 4,_=>exact ⟨_,_,_,C.s4,z1g C H,enters_r7⟩
 | 5,_=>exact ⟨_,_,_,C.s5,z1h C H,enters_r8⟩
 | n+6,h=>exact absurd h (by omega)
theorem z2j {p:Nat} {bd:Int->Int} {w:World} (hB:x8T p bd w) {xv:Value} {X:List Int} (hx:Sk .i32 w xv X):Calls prog 87 #[.pointer (some ⟨p,0,none⟩),xv] w (IntB w (Bd.rules (X.map bd))):=by
 rcases Nat.eq_zero_or_pos X.length with h0 | h0
 ·obtain rfl:X=[]:=List.eq_nil_of_length_eq_zero h0;obtain ⟨ao,cap,rfl,_,_⟩:=hx.shape;have HF:Hid (IntB w (Bd.rules (List.map bd [])) (.returned (.int .i64 0)) w):=⟨rfl,b0r⟩;clear hB hx h0;generalize Bd.rules (List.map bd [])=rr at *;go_enter func87,ntmps87;go_wp2;go_ret;exact V HF
 ·have E:=Bd.y2S (Bd.y3K hB.1 X) (by rw [List.length_map]; exact h0);rw [x7Z h0] at E;have K:=O (y6W hB hx h0);have aM:=hx.len;obtain ⟨ao,cap,rfl,_,_⟩:=hx.shape;rw [<- E];clear hB hx E;generalize Bd.one (bd (X.getD 0 0))=f at *;generalize Bd.lm (X.map bd)=l at *;generalize ((Bd.msk (X.map bd):Nat):Int)=a at *;go_enter func87,ntmps87;go_wp2_with fail;refine (V K).mono ?_;rintro e w1 ⟨L,b,r,q,s,rfl,ak,aI,b1⟩;have y3:=ak.c3;have HK:Hid (∀ k,k<6->∃ g c1 c2,w1.cell? ⟨s,k,none⟩=some (.func (.func g) #[] #[.pointer (some ⟨c1,0,none⟩),.pointer (some ⟨c2,0,none⟩)])/\Calls prog g #[.pointer (some ⟨c1,0,none⟩),.pointer (some ⟨c2,0,none⟩)] w1 (Sm17 w1 (Bd.hold f l a k))/\(∀ args w,(callFunc g args).run prog w=.ok (.enter g args) w)):=fun k hk=>y1v aI ak hk;have HB:=O b1;clear K ak aI b1;generalize Bd.hold f l a=hd at *;have bl:Hid (∀ k,k<6->bits .or .i64 ((Bd.acc hd k:Nat):Int) ((2 ^ k:Nat):Int)=((Bd.acc hd k ||| 2 ^ k:Nat):Int)):=fun k hk=>Bd.or17 (Bd.x7t hd k (by omega)) (show 2 ^ k<2 ^ 11 from Nat.pow_lt_pow_right (by omega) (by omega));have bc:Hid (∀ k,Bd.acc hd (k+1)=if hd k=true then Bd.acc hd k else Bd.acc hd k ||| 2 ^ k):=fun k=>rfl;have HZ:Hid (Bd.acc hd 0=0):=rfl;generalize Bd.acc hd=ac at *;go_wp2;go_loopw [5,6,7,22] (fun bv _ _ iv wr=>∃ k:Nat,bv=.int .i64 ((ac k:Nat):Int)/\iv=.int .i64 k/\k<=6/\wr=w1) (fun _ _ _ iv _=>6 - (intOf iv).toNat)
  case atStart=>exact ⟨0,by rw [V HZ]; rfl,rfl,by omega,rfl⟩
  case round =>
   obtain ⟨k,rfl,rfl,hk,rfl⟩:=hrel;by_cases hlt:k<6
   ·have hL:(k:Int)<6:=(by omega);obtain ⟨g,c1,c2,x1,hc,eg⟩:=V HK k hlt;have KC:=O hc;have am:=V bc k;have bD:=V bl k hlt;have HW:=O (y2G hlt);clear hc HK bc bl HZ y3
    cases hh:hd k with
    | true =>
     rw [hh] at KC am;rw [if_pos rfl] at am;clear bD hh HW;have be:=O am;clear am;go_wp2_with (go_at_fn g; refine (V KC).mono ?_; rintro e w2 ⟨rfl,rfl⟩)
     go_roundw
     case rel=>exact ⟨k+1,by rw [V be],by go_num,by omega,trivial⟩
     case measure=>simp [intOf]; omega
    | false =>
     rw [hh] at KC am;rw [if_neg (by decide)] at am;have be:=O am;have HO:=O bD;clear am hh bD;go_wp2_with (go_at_fn g; refine (V KC).mono ?_; rintro e w2 ⟨rfl,rfl⟩)
     go_roundw
     case rel=>exact ⟨k+1,by rw [V be,V HW,V HO],by go_num,by omega,trivial⟩
     case measure=>simp [intOf]; omega
   ·obtain rfl:k=6:=(by omega);clear HK bc bl HZ y3;go_wp2;go_ret;exact ⟨rfl,V HB⟩
