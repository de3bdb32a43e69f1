/- Sq15 Ba17 Bb17 Bp17 Br17 Bq17 Bu17 Bc17 Bv17 Bw17 Bx17 By17 -/
import Derived.Test.YtkglkajjofidoaaGreatDoorU2
import Derived.Laws.AppendOwnNone
import Derived.RangeFuncRecord
import Derived.Shelf.Abstract
import Derived.Lib.Walk
set_option maxHeartbeats 2000000
set_option maxRecDepth 20000
namespace Go.Proofs.YtkglkajjofidoaaGreatDoor
open Go.RowKit
theorem y3m:(Tryz.prog.info? 21).map (fun i=>(i.zero,i.size,i.bytes))=some (some (.int .i32 0),1,4):=by kernel_rfl
theorem x5g {xs ys:List Int} {k:Nat} (h:xs.take k=ys.take k) (hx:k<xs.length) (hy:k<ys.length) (he:xs.getD k 0=ys.getD k 0):xs.take (k+1)=ys.take (k+1):=by
 rw [List.take_add_one,List.take_add_one,h];simp only [List.getD,List.getElem?_eq_getElem hx,List.getElem?_eq_getElem hy,Option.getD_some] at he;rw [List.getElem?_eq_getElem hx,List.getElem?_eq_getElem hy,he]
theorem x0N {w w':World} {b c:Bool} (h:b=c) (hb:∃ m,w'=w.drewN m):x2N w c (.returned (.bool b)) w':=by subst h; exact ⟨rfl,hb⟩
theorem same_q15 (v u:Value) (xs ys:List Int) (w:World) (hv:Sk .i32 w v xs) (hu:Sk .i32 w u ys) :
  Calls Tryz.prog 51 #[v,u] w (x2N w (decide (xs=ys))):=by
 have aW:=hv.len;have aX:=hu.len;by_cases hn:xs.length=ys.length
 ·rcases Nat.eq_zero_or_pos xs.length with h0 | h0
  ·have HF:∀ w',(∃ m,w'=w.drewN m)→x2N w (decide (xs=ys)) (.returned (.bool true)) w':=fun w' hb=>x0N (by
    have h1:=List.eq_nil_of_length_eq_zero h0;have h2:=List.eq_nil_of_length_eq_zero (hn ▸ h0)
    simp [h1,h2]) hb
   obtain ⟨ao,cap,rfl,_,_⟩:=hv.shape;obtain ⟨aB,ab,rfl,_,_⟩:=hu.shape;rw [← hn,h0];clear hv hu;generalize decide (xs=ys)=b at *;go_enter Tryz.func51,Tryz.ntmps51;go_wp2;refine wp_loop_rounds 1 ?_;rw [rounds_succ];go_wp2;go_ret;exact HF _ (x4x w)
  ·have HE:∀ w',(∃ m,w'=w.drewN m)→xs.take xs.length=ys.take xs.length→x2N w (decide (xs=ys)) (.returned (.bool true)) w':=fun w' hb ht=>x0N (by
    rw [List.take_length,hn,List.take_length] at ht
    simp [ht]) hb
   have HN:∀ w' k,(∃ m,w'=w.drewN m)→¬ xs.getD k 0=ys.getD k 0→x2N w (decide (xs=ys)) (.returned (.bool false)) w':=fun w' k hb ht=>x0N (by
    symm; rw [decide_eq_false_iff_not]; intro h; subst h; exact ht rfl) hb
   have HS:∀ wr,Below w.heap.size w wr→Sk .i32 wr v xs∧Sk .i32 wr u ys:=fun wr hb=>⟨hv.below hb,hu.below hb⟩;obtain ⟨b,off,cap,rfl,aN,aO,hc⟩:=hv.place h0;obtain ⟨b',ak,ab,rfl,ai,aD,ah⟩:=hu.place (by omega)
   have HC:∀ wr,Below w.heap.size w wr→∀ i,i<xs.length→wr.cell? ⟨b,off+i,none⟩=some (.int .i32 (xs.getD i 0))∧wr.cell? ⟨b',ak+i,none⟩=some (.int .i32 (ys.getD i 0)):=by
    intro wr hb i hi;constructor
    ·rw [hb.cell (x0a (hc i hi))]; exact hc i hi
    ·rw [hb.cell (x0a (ah i (by omega)))]; exact ah i (by omega)
   rw [← hn] at ai ⊢;have aT:=Hd hv.1;have aU:=Hd hu.1;have aF:=Hd hn;clear hv hu HS hc ah hn;generalize decide (xs=ys)=bb at *;go_enter Tryz.func51,Tryz.ntmps51;go_wp2;go_loopw [5] (fun i wr=>∃ k:Nat,i=.int .i64 k∧k≤xs.length∧xs.take k=ys.take k∧∃ m,wr=w.drewN m) (fun i _=>xs.length - (intOf i).toNat)
   case atStart=>exact ⟨0,rfl,by omega,by simp,x4x w⟩
   case round =>
    obtain ⟨k,rfl,hk,aj,aa⟩:=hrel;by_cases hlt:k<xs.length
    ·obtain ⟨c1,c2⟩:=HC _ (x0l aa) k hlt
     have HT:=Hd aj;clear aj
     cases he:(xs.getD k 0 != ys.getD k 0) with
     | true =>
      have HR:=fun w' hb=>HN w' k hb (by simpa using he);clear HN HE HC;generalize xs.getD k 0=x at *;generalize ys.getD k 0=y at *;go_wp2;go_quiet (fail);go_wp2;go_ret;exact HR _ (x4y aa nq)
     | false =>
      have he':xs.getD k 0=ys.getD k 0:=(by simpa using he);have aA:=Hd (x5g (Uh HT) hlt (by have:=Uh aF; omega) he');clear HN HE HC HT he';generalize xs.getD k 0=x at *;generalize ys.getD k 0=y at *;go_wp2;go_quiet (fail);go_wp2
      go_roundw
      case rel=>exact ⟨k+1,by go_num,by omega,Uh aA,x4y aa nq⟩
      case measure=>simp [intOf]; omega
    ·obtain rfl:k=xs.length:=by omega
     have HR:=HE _ aa aj;clear HN HE HC;go_wp2;go_ret;exact HR
 ·have HF:x2N w (decide (xs=ys)) (.returned (.bool false)) w:=x0N (by
   symm; rw [decide_eq_false_iff_not]; intro h; subst h; exact hn rfl) (x4x w)
  have av:((xs.length:Int) != (ys.length:Int))=true:=(by simp; omega);obtain ⟨ao,cap,rfl,_,_⟩:=hv.shape;obtain ⟨aB,ab,rfl,_,_⟩:=hu.shape;clear hv hu hn;generalize decide (xs=ys)=b at *;go_enter Tryz.func51,Tryz.ntmps51;go_wp2;go_ret;exact HF
theorem z0r (W:World) (zs:List Int) (n:Nat) (hn:zs.length=n) (h0:0<n) (hs:n≤100) (C:Array Value) (hC:C=(zs.map (Value.int .i32)).toArray) (hz:∀ z∈zs,-2147483648≤z∧z≤2147483647):Sk .i32 (W.alloc (.cells C 21)) (.slice (some ⟨W.heap.size,0,none⟩) n n) zs:=by
 have h:Ok .i32 21 (W.alloc (.cells C 21)) W.heap.size (.slice (some ⟨W.heap.size,0,none⟩) n n) zs:=by
  refine Ok.of (n:=n) (us:=zs.map (Value.int .i32)) (fun z h=>x2c (hz z h)) (by omega) ⟨by simp [hn],Or.inr ⟨W.heap.size,n,C,rfl,Nat.le_refl _,World.alloc_heap_new W _,Nat.le_refl _,by unfold maxLen; omega,by rw [hC]; simp [hn],by rw [hC]; exact List.take_of_length_le (by simp [hn])⟩⟩ hn.symm rfl
 exact h.sk
theorem x1p {K:IntKind} {e:TypeId} {w:World} {B:Nat} {v:Value} {zs:List Int} (h:Ok K e w B v zs) (o:Obj):Ok K e (w.alloc o) B v zs:=⟨h.1,h.2.1,h.2.2.alloc o⟩
theorem x0M (w:World) (o:Obj):(w.alloc o).heap.size=w.heap.size+1:=by show (w.heap.push o).size=_; rw [Array.size_push]
theorem x4b {w:World} {aR:Array Oper} {rest:List Oper} {o:Oper} {a:Act} {Q:Exit→Act→World→Prop} (aP:o.guard=none) (s x:Operand)
  (ho:o.op=.call { callee:=.builtin .append,args:=#[s,x],argTypes:=#[23,23] }) (B:Nat) (v u:Value) (xs ys:List Int) (hs:a.eval s=v) (hx:a.eval x=u)
  (hv:Ok .i32 21 w B v xs) (hu:Sk .i32 w u ys) (hl:xs.length+ys.length≤1000000000) (hB:B≤w.heap.size)
  (h:∀ v' w',Ok .i32 21 w' B v' (xs++ys)→w.grownBy w' v.ownBlock→wpList Tryz.prog aR Q rest (a.put o.dst v') w'):wpList Tryz.prog aR Q (o :: rest) a w:=by
 obtain ⟨i0,hi,aY,aZ,a5⟩:=info_parts y3m;rcases hu.2.src with ⟨h0,rfl⟩ | ⟨ad,cap,hve,hcells⟩
 ·obtain rfl:ys=[]:=by simpa using h0
  refine wpList_append_own_none aP s x 23 ho B 21 i0 1 Tryz.underlying23 hi v _ _ hs hv.row hx ?_;exact h v w (by rw [List.append_nil]; exact hv) (World.grownBy.refl w _)
 ·rw [List.length_map] at hve
  subst hve;refine wpList_append_own w aP s x 23 ho B 21 i0 (.int .i32 0) 1 4 Tryz.underlying23 hi aY aZ a5 rfl (by decide) v _ _ hs hv.row ad ys.length cap (ys.map (Value.int .i32)) hx (by simp) hcells (x6s .i32 ys) (by unfold maxLen; omega) (by omega) hB ?_;intro v' w' h1 h2 _;exact h v' w' (Ok.of (hv.1.app hu.1) (by simp; omega) h1 (by simp) (by simp)) h2
theorem x9C (v u:Value) (xs ys:List Int) (w:World) (hv:Sk .i32 w v xs) (hu:Sk .i32 w u ys) :
  Calls Tryz.prog 33 #[v,u] w (x2N w (decide (xs=ys))):=by
 have aW:=hv.len;have aX:=hu.len;by_cases hn:xs.length=ys.length
 ·rcases Nat.eq_zero_or_pos xs.length with h0 | h0
  ·have HF:∀ w',(∃ m,w'=w.drewN m)→x2N w (decide (xs=ys)) (.returned (.bool true)) w':=fun w' hb=>x0N (by
    have h1:=List.eq_nil_of_length_eq_zero h0;have h2:=List.eq_nil_of_length_eq_zero (hn ▸ h0)
    simp [h1,h2]) hb
   obtain ⟨ao,cap,rfl,_,_⟩:=hv.shape;obtain ⟨aB,ab,rfl,_,_⟩:=hu.shape;rw [← hn,h0];clear hv hu;generalize decide (xs=ys)=b at *;go_enter Tryz.func33,Tryz.ntmps33;go_wp2;refine wp_loop_rounds 1 ?_;rw [rounds_succ];go_wp2;go_ret;exact HF _ (x4x w)
  ·have HE:∀ w',(∃ m,w'=w.drewN m)→xs.take xs.length=ys.take xs.length→x2N w (decide (xs=ys)) (.returned (.bool true)) w':=fun w' hb ht=>x0N (by
    rw [List.take_length,hn,List.take_length] at ht
    simp [ht]) hb
   have HN:∀ w' k,(∃ m,w'=w.drewN m)→¬ xs.getD k 0=ys.getD k 0→x2N w (decide (xs=ys)) (.returned (.bool false)) w':=fun w' k hb ht=>x0N (by
    symm; rw [decide_eq_false_iff_not]; intro h; subst h; exact ht rfl) hb
   have HS:∀ wr,Below w.heap.size w wr→Sk .i32 wr v xs∧Sk .i32 wr u ys:=fun wr hb=>⟨hv.below hb,hu.below hb⟩;obtain ⟨b,off,cap,rfl,aN,aO,hc⟩:=hv.place h0;obtain ⟨b',ak,ab,rfl,ai,aD,ah⟩:=hu.place (by omega)
   have HC:∀ wr,Below w.heap.size w wr→∀ i,i<xs.length→wr.cell? ⟨b,off+i,none⟩=some (.int .i32 (xs.getD i 0))∧wr.cell? ⟨b',ak+i,none⟩=some (.int .i32 (ys.getD i 0)):=by
    intro wr hb i hi;constructor
    ·rw [hb.cell (x0a (hc i hi))]; exact hc i hi
    ·rw [hb.cell (x0a (ah i (by omega)))]; exact ah i (by omega)
   rw [← hn] at ai ⊢;have aT:=Hd hv.1;have aU:=Hd hu.1;have aF:=Hd hn;clear hv hu HS hc ah hn;generalize decide (xs=ys)=bb at *;go_enter Tryz.func33,Tryz.ntmps33;go_wp2;go_loopw [13] (fun i wr=>∃ k:Nat,i=.int .i64 k∧k≤xs.length∧xs.take k=ys.take k∧∃ m,wr=w.drewN m) (fun i _=>xs.length - (intOf i).toNat)
   case atStart=>exact ⟨0,rfl,by omega,by simp,x4x w⟩
   case round =>
    obtain ⟨k,rfl,hk,aj,aa⟩:=hrel;by_cases hlt:k<xs.length
    ·obtain ⟨c1,c2⟩:=HC _ (x0l aa) k hlt
     have HT:=Hd aj;clear aj
     cases he:(xs.getD k 0 != ys.getD k 0) with
     | true =>
      have HR:=fun w' hb=>HN w' k hb (by simpa using he);clear HN HE HC;generalize xs.getD k 0=x at *;generalize ys.getD k 0=y at *;go_wp2;go_quiet (fail);go_wp2;go_ret;exact HR _ (x4y aa nq)
     | false =>
      have he':xs.getD k 0=ys.getD k 0:=(by simpa using he);have aA:=Hd (x5g (Uh HT) hlt (by have:=Uh aF; omega) he');clear HN HE HC HT he';generalize xs.getD k 0=x at *;generalize ys.getD k 0=y at *;go_wp2;go_quiet (fail);go_wp2
      go_roundw
      case rel=>exact ⟨k+1,by go_num,by omega,Uh aA,x4y aa nq⟩
      case measure=>simp [intOf]; omega
    ·obtain rfl:k=xs.length:=by omega
     have HR:=HE _ aa aj;clear HN HE HC;go_wp2;go_ret;exact HR
 ·have HF:x2N w (decide (xs=ys)) (.returned (.bool false)) w:=x0N (by
   symm; rw [decide_eq_false_iff_not]; intro h; subst h; exact hn rfl) (x4x w)
  have av:((xs.length:Int) != (ys.length:Int))=true:=(by simp; omega);obtain ⟨ao,cap,rfl,_,_⟩:=hv.shape;obtain ⟨aB,ab,rfl,_,_⟩:=hu.shape;clear hv hu hn;generalize decide (xs=ys)=b at *;go_enter Tryz.func33,Tryz.ntmps33;go_wp2;go_ret;exact HF
namespace Bd
def rtl (k:Int):Bool:=decide (k=1) || (decide (k=2) || decide (k=3))
def fst (l:List Int):Int:=match l with
 | []=>10
 | k :: l=>if k=10 then fst l else k
def lst (K:List Int):Int:=fst K.reverse
def r5 (K:List Int):Int:=if K.any rtl=true then 16 else 0
def r6 (K:List Int):Int:=if lst K=0∨lst K=4 then 0 else 32
def r2 (K:List Int):Int:=if K.any (fun k=>decide (k=0))=true then 2 else 0
def r3 (K:List Int):Int:=if lst K=1∨lst K=2∨lst K=4∨lst K=3 then 0 else 4
def r4 (K:List Int):Int:=if K.any (fun k=>decide (k=4))=true∧K.any (fun k=>decide (k=3))=true then 8 else 0
def rules (K:List Int):Int:=if K.length=0 then 0 else if ¬ (K.getD 0 0=0∨K.getD 0 0=1∨K.getD 0 0=2) then 1 else if K.getD 0 0=0 then r5 K+r6 K else r2 K+r3 K+r4 K
variable {K:List Int}
theorem x3d {i:Nat} (h:i<K.length):K.take (i+1)=K.take i++[K.getD i 0]:=by
 rw [List.take_add_one]; simp [List.getD,h]
theorem y6a (k:Int):lst (K++[k])=if k=10 then lst K else k:=by
 unfold lst; rw [List.reverse_append]; rfl
theorem y6T {f:Int→Bool} (h:∀ i,i<K.length→f (K.getD i 0)=false):K.any f=false:=by
 rw [List.any_eq_false];intro x hx;obtain ⟨i,hi,rfl⟩:=List.getElem_of_mem hx;have:=h i hi;simp only [List.getD,List.getElem?_eq_getElem hi,Option.getD_some] at this;rw [this]; exact Bool.false_ne_true
theorem y1X {f:Int→Bool} {i:Nat} (hi:i<K.length) (h:f (K.getD i 0)=true):K.any f=true:=by
 rw [List.any_eq_true];exact ⟨K.getD i 0,by simp [List.getD,hi],h⟩
theorem z0u (h:0<K.length) (h0:K.getD 0 0≠10):lst K≠10:=by
 cases K with
 | nil=>simp at h
 | cons a l =>
  have ha:a≠10:=(by simpa [List.getD] using h0);unfold lst;rw [List.reverse_cons]
  have aH:∀ m:List Int,fst (m++[a])≠10:=by
   intro m
   induction m with
   | nil=>show (if a=10 then _ else a)≠10; rw [if_neg ha]; exact ha
   | cons b m ih =>
    show (if b=10 then fst (m++[a]) else b)≠10;by_cases hb:b=10
    ·rw [if_pos hb]; exact ih
    ·rw [if_neg hb]; exact hb
  exact aH _
end Bd
theorem y3B {X:List Int} {bd:Int→Int} {i:Nat} (h:i<X.length):(X.map bd).getD i 0=bd (X.getD i 0):=by simp [List.getD,h]
namespace Bd
def msk (K:List Int):Nat:=K.foldl (fun a k=>a ||| 2 ^ k.toNat) 0
def one (k:Int):Int:=((2 ^ k.toNat:Nat):Int)
def Fit (K:List Int):Prop:=∀ k∈K,0≤k∧k≤10
theorem y6e (K:List Int) (k:Int):msk (K++[k])=msk K ||| 2 ^ k.toNat:=by
 unfold msk; rw [List.foldl_append]; rfl
theorem cases11 {k:Int} (h:0≤k∧k≤10):k=0∨k=1∨k=2∨k=3∨k=4∨k=5∨k=6∨k=7∨k=8∨k=9∨k=10:=by omega
theorem y7o {k:Int} (h:0≤k∧k≤10):2 ^ k.toNat<2 ^ 11:=Nat.pow_lt_pow_right (by omega) (by omega)
theorem y6d (K:List Int):∀ (a:Nat),a<2 ^ 11→Fit K→K.foldl (fun a k=>a ||| 2 ^ k.toNat) a<2 ^ 11:=by
 induction K with
 | nil=>intro a h _; exact h
 | cons k l ih =>
  intro a h hf;exact ih _ (Nat.or_lt_two_pow h (y7o (hf k (by simp)))) (fun x hx=>hf x (List.mem_cons_of_mem _ hx))
theorem y7j {K:List Int} (h:Fit K):msk K<2048:=y6d K 0 (by decide) h
theorem y5e (K:List Int) (j:Nat):∀ (a:Nat),(K.foldl (fun a k=>a ||| 2 ^ k.toNat) a).testBit j=(a.testBit j || K.any (fun k=>decide (k.toNat=j))):=by
 induction K with
 | nil=>intro a; simp
 | cons k l ih =>
  intro a;rw [List.foldl_cons,ih,Nat.testBit_or,Nat.testBit_two_pow,List.any_cons,Bool.or_assoc]
theorem y8J (K:List Int) (j:Nat):(msk K).testBit j=K.any (fun k=>decide (k.toNat=j)):=by
 unfold msk; rw [y5e]; simp
theorem x5E {K:List Int} (h:Fit K) (j:Nat):(msk K).testBit j=K.any (fun k=>decide (k=(j:Int))):=by
 rw [y8J,Bool.eq_iff_iff,List.any_eq_true,List.any_eq_true];constructor
 ·rintro ⟨x,hx,e⟩
  have:=h x hx;exact ⟨x,hx,by have:=of_decide_eq_true e; exact decide_eq_true (by omega)⟩
 ·rintro ⟨x,hx,e⟩
  exact ⟨x,hx,by have:=of_decide_eq_true e; exact decide_eq_true (by omega)⟩
theorem or17 {a b:Nat} (ha:a<2048) (hb:b<2048):bits .or .i64 (a:Int) (b:Int)=((a ||| b:Nat):Int):=by
 have hab:a ||| b<2 ^ 11:=Nat.or_lt_two_pow ha hb;show IntKind.i64.wrap (((BitVec.ofInt 64 (a:Int) ||| BitVec.ofInt 64 (b:Int)).toNat:Nat):Int)=_;rw [BitVec.ofInt_natCast,BitVec.ofInt_natCast,BitVec.toNat_or,BitVec.toNat_ofNat,BitVec.toNat_ofNat,Nat.mod_eq_of_lt (by omega),Nat.mod_eq_of_lt (by omega)];simp only [IntKind.wrap,IntKind.bits,IntKind.signed];simp;omega
theorem inR17:∀ a:Fin 2048,(bits .andNot .i64 ((a.val:Nat):Int) 2046==0)=!(a.val.testBit 0):=by decide +kernel
theorem inL17:∀ a:Fin 2048,(bits .andNot .i64 ((a.val:Nat):Int) 2033==0)=!(a.val.testBit 1 || (a.val.testBit 2 || a.val.testBit 3)):=by decide +kernel
theorem dig17:∀ a:Fin 2048,(bits .andNot .i64 24 ((a.val:Nat):Int)==0)=(a.val.testBit 3 && a.val.testBit 4):=by decide +kernel
theorem y7G (K:List Int):K.any rtl=(K.any (fun k=>decide (k=((1:Nat):Int))) || (K.any (fun k=>decide (k=((2:Nat):Int))) || K.any (fun k=>decide (k=((3:Nat):Int))))):=by
 induction K with
 | nil=>rfl
 | cons k l ih =>
  simp only [List.any_cons];rw [ih];unfold rtl;cases decide (k=1) <;> cases decide (k=2) <;> cases decide (k=3) <;> simp <;> assumption
end Bd
def x8r (p:Nat) (bd:Int→Int) (w:World):Prop:=(∀ c,0≤bd c∧bd c≤10)∧∀ c,Rune c→∀ W,Below w.heap.size w W→Calls Tryz.prog 199 #[.pointer (some ⟨p,0,none⟩),.int .i32 c] W (IntB W (bd c))
theorem x8r.on {p:Nat} {bd:Int→Int} {w W:World} (h:x8r p bd w) (hb:Below w.heap.size w W):x8r p bd W:=⟨h.1,fun c hc W' hW=>h.2 c hc W' (x0b hb hW)⟩
theorem x1W (s t:Int) (w:World):Calls Tryz.prog 201 #[.int .i64 s,.int .i64 t] w (fun e w'=>e=.returned (.bool (bits .andNot .i64 s t==0))∧w'=w):=by
 go_enter Tryz.func201,Tryz.ntmps201;go_wp2;go_ret;exact ⟨rfl,rfl⟩
theorem shl17 {k:Int} (h:0≤k∧k≤10):Op.shift .shl .i64 1 .i64 k=pure (.int .i64 (Bd.one k)):=by
 rcases Bd.cases11 h with rfl | rfl | rfl | rfl | rfl | rfl | rfl | rfl | rfl | rfl | rfl <;> rfl
theorem dir17 {p:Nat} {bd:Int→Int} {w:World} (hB:x8r p bd w) {c:Int} (hc:Rune c):Calls Tryz.prog 164 #[.pointer (some ⟨p,0,none⟩),.int .i32 c] w (IntB w (Bd.one (bd c))):=by
 have K:=Hd (hB.2 c hc w (Below.refl _ _));have hs:=shl17 (hB.1 c);clear hB;generalize Bd.one (bd c)=o at *;generalize bd c=k at *;go_enter Tryz.func164,Tryz.ntmps164;go_wp2_with fail;refine (Uh K).mono ?_;rintro e w1 ⟨rfl,b1⟩;clear K;go_wp2;go_ret;exact ⟨rfl,b1⟩
def IdxB (w:World) (b:Bool) (e:Ending) (w':World):Prop:=∃ n:Int,e=.returned (.int .i64 n)∧decide (0≤n)=b∧Below w.heap.size w w'
def LkH (w:World) (L:Nat) (f l a:Int) (sv:Value):Prop:=w.heap[L]?=some (.cells #[.int .i64 f,.int .i64 l,.int .i64 a,sv] 174 (0,0))
section
variable {w:World} {L:Nat} {f l a:Int} {sv:Value}
theorem LkH.c0 (h:LkH w L f l a sv):w.cell? ⟨L,0,none⟩=some (.int .i64 f):=cell_of (j:=0) h (by show 0<4; omega)
theorem LkH.c1 (h:LkH w L f l a sv):w.cell? ⟨L,1,none⟩=some (.int .i64 l):=cell_of (j:=1) h (by show 1<4; omega)
theorem LkH.c2 (h:LkH w L f l a sv):w.cell? ⟨L,2,none⟩=some (.int .i64 a):=cell_of (j:=2) h (by show 2<4; omega)
theorem LkH.c3 (h:LkH w L f l a sv):w.cell? ⟨L,3,none⟩=some sv:=cell_of (j:=3) h (by show 3<4; omega)
theorem LkH.fz (h:LkH w L f l a sv) (j:Nat):w.frozen? ⟨L,j,none⟩=false:=x0e h
theorem LkH.lt (h:LkH w L f l a sv):L<w.heap.size:=x0a h.c0
theorem LkH.below {w':World} (h:LkH w L f l a sv) (hb:Below w.heap.size w w'):LkH w' L f l a sv:=by
 unfold LkH at *; rw [hb.block L (LkH.lt h)]; exact h
theorem LkH.set1 (h:LkH w L f l a sv) (x:Int):LkH (w.setCell ⟨L,1,none⟩ (.int .i64 x)) L f x a sv:=by unfold LkH at *; rw [x0f h]; rfl
theorem LkH.set2 (h:LkH w L f l a sv) (x:Int):LkH (w.setCell ⟨L,2,none⟩ (.int .i64 x)) L f l x sv:=by unfold LkH at *; rw [x0f h]; rfl
theorem LkH.set3 (h:LkH w L f l a sv) (x:Value):LkH (w.setCell ⟨L,3,none⟩ x) L f l a x:=by unfold LkH at *; rw [x0f h]; rfl
end
theorem y1d {w:World} {b j:Nat} {v:Value} (o:Obj) (h:w.cell? ⟨b,j,none⟩=some v):(w.alloc o).cell? ⟨b,j,none⟩=some v:=by
 rw [Below.cell ((Below.refl w.heap.size w).alloc (Nat.le_refl _) o) (x0a h)]; exact h
theorem x3o (w:World) {cs:Array Value} {v:Value} (T:TypeId) {n j:Nat} (h:n=w.heap.size) (hv:cs[j]?=some v):(w.alloc (.cells cs T)).cell? ⟨n,j,none⟩=some v:=by
 subst h; simp [hv]
structure Cls17 (w:World) (L b r q s:Nat):Prop where
 hb:w.cell? ⟨b,0,none⟩=some (.pointer (some ⟨L,0,none⟩))
 hr:w.cell? ⟨r,0,none⟩=some (.func (.func 200) #[] #[.pointer (some ⟨b,0,none⟩)])
 hq:w.cell? ⟨q,0,none⟩=some (.func (.func 202) #[] #[.pointer (some ⟨b,0,none⟩)])
 s0:w.cell? ⟨s,0,none⟩=some (.func (.func 203) #[] #[.pointer (some ⟨r,0,none⟩),.pointer (some ⟨q,0,none⟩)])
 s1:w.cell? ⟨s,1,none⟩=some (.func (.func 204) #[] #[.pointer (some ⟨r,0,none⟩),.pointer (some ⟨b,0,none⟩)])
 s2:w.cell? ⟨s,2,none⟩=some (.func (.func 205) #[] #[.pointer (some ⟨r,0,none⟩),.pointer (some ⟨b,0,none⟩)])
 s3:w.cell? ⟨s,3,none⟩=some (.func (.func 206) #[] #[.pointer (some ⟨r,0,none⟩),.pointer (some ⟨b,0,none⟩)])
 s4:w.cell? ⟨s,4,none⟩=some (.func (.func 207) #[] #[.pointer (some ⟨q,0,none⟩),.pointer (some ⟨b,0,none⟩)])
 s5:w.cell? ⟨s,5,none⟩=some (.func (.func 208) #[] #[.pointer (some ⟨q,0,none⟩),.pointer (some ⟨b,0,none⟩)])
def RofB (w:World) (L:Nat) (e:Ending) (w':World):Prop:=∃ b r q s,e=.returned (.slice (some ⟨s,0,none⟩) 6 6)∧Cls17 w' L b r q s∧(w.heap.size≤b∧w.heap.size≤r∧w.heap.size≤q∧w.heap.size≤s)∧Below w.heap.size w w'
theorem y4q (L:Nat) (w:World):Calls Tryz.prog 165 #[.pointer (some ⟨L,0,none⟩)] w (RofB w L):=by
 have hmf:∀ (fn:Fn) (first cap:Array Value) (w:World),(Instr.makeFunc fn first cap).run Tryz.prog w=.ok (.func fn first cap) w:=fun _ _ _ _=>rfl;have hst:∀ W a m fn x y,(store a (.func fn x y) m).run Tryz.prog W=stored Tryz.prog W a (.func fn x y) m:=fun W a m fn x y=>run_store Tryz.prog W a _ m rfl;go_enter Tryz.func165,Tryz.ntmps165;go_wp2;go_ret;refine ⟨w.heap.size,w.heap.size+1,w.heap.size+1+1,w.heap.size+1+1+1,rfl,?_,⟨by omega,by omega,by omega,by omega⟩,?_⟩
 ·constructor
  ·exact y1d _ (y1d _ (y1d _ (x3o _ _ rfl (by simp))))
  ·exact y1d _ (y1d _ (x3o _ _ (by simp) (by simp)))
  ·exact y1d _ (x3o _ _ (by simp) (by simp))
  all_goals exact x3o _ _ (by simp) (by simp)
 ·exact (((((Below.refl _ _).alloc (Nat.le_refl _) _).alloc (by simp) _).alloc (by simp; omega) _).alloc (by simp; omega) _)
def Sm17 (w:World) (b:Bool) (e:Ending) (w':World):Prop:=e=.returned (.bool b)∧w'=w
theorem x2R:∀ args w,(callFunc 200 args).run Tryz.prog w=.ok (.enter 200 args) w:=enters_of Tryz.func200 (by kernel_rfl) rfl
theorem enters_r2:∀ args w,(callFunc 202 args).run Tryz.prog w=.ok (.enter 202 args) w:=enters_of Tryz.func202 (by kernel_rfl) rfl
theorem enters_r3:∀ args w,(callFunc 203 args).run Tryz.prog w=.ok (.enter 203 args) w:=enters_of Tryz.func203 (by kernel_rfl) rfl
theorem enters_r4:∀ args w,(callFunc 204 args).run Tryz.prog w=.ok (.enter 204 args) w:=enters_of Tryz.func204 (by kernel_rfl) rfl
theorem enters_r5:∀ args w,(callFunc 205 args).run Tryz.prog w=.ok (.enter 205 args) w:=enters_of Tryz.func205 (by kernel_rfl) rfl
theorem enters_r6:∀ args w,(callFunc 206 args).run Tryz.prog w=.ok (.enter 206 args) w:=enters_of Tryz.func206 (by kernel_rfl) rfl
theorem enters_r7:∀ args w,(callFunc 207 args).run Tryz.prog w=.ok (.enter 207 args) w:=enters_of Tryz.func207 (by kernel_rfl) rfl
theorem enters_r8:∀ args w,(callFunc 208 args).run Tryz.prog w=.ok (.enter 208 args) w:=enters_of Tryz.func208 (by kernel_rfl) rfl
theorem fr17 {w:World} {L b r q s:Nat} {f l a:Int} {sv:Value} (C:Cls17 w L b r q s) (H:LkH w L f l a sv):Calls Tryz.prog 200 #[.pointer (some ⟨b,0,none⟩)] w (Sm17 w (bits .andNot .i64 f 6==0)):=by
 have x0:=C.hb;have x1:=H.c0;have K:=Hd (x1W f 6 w);clear C H;generalize (bits .andNot .i64 f 6==0)=R at *;go_enter Tryz.func200,Tryz.ntmps200;go_wp2_with fail;refine (Uh K).mono ?_;rintro e w1 ⟨rfl,rfl⟩;clear K;go_wp2;go_ret;exact ⟨rfl,rfl⟩
theorem fl17 {w:World} {L b r q s:Nat} {f l a:Int} {sv:Value} (C:Cls17 w L b r q s) (H:LkH w L f l a sv):Calls Tryz.prog 202 #[.pointer (some ⟨b,0,none⟩)] w (Sm17 w (bits .andNot .i64 f 1==0)):=by
 have x0:=C.hb;have x1:=H.c0;have K:=Hd (x1W f 1 w);clear C H;generalize (bits .andNot .i64 f 1==0)=R at *;go_enter Tryz.func202,Tryz.ntmps202;go_wp2_with fail;refine (Uh K).mono ?_;rintro e w1 ⟨rfl,rfl⟩;clear K;go_wp2;go_ret;exact ⟨rfl,rfl⟩
theorem y9I {w:World} {L b r q s:Nat} {f l a:Int} {sv:Value} (C:Cls17 w L b r q s) (H:LkH w L f l a sv):Calls Tryz.prog 203 #[.pointer (some ⟨r,0,none⟩),.pointer (some ⟨q,0,none⟩)] w (Sm17 w ((bits .andNot .i64 f 6==0) || (bits .andNot .i64 f 1==0))):=by
 have x0:=C.hr;have x1:=C.hq;have e1:=x2R;have e2:=enters_r2;have K:=Hd (fr17 C H);have K2:=Hd (fl17 C H);clear C H;generalize (bits .andNot .i64 f 6==0)=R at *;generalize (bits .andNot .i64 f 1==0)=Q at *;go_enter Tryz.func203,Tryz.ntmps203
 cases R with
 | true =>
  go_wp2_with (go_at_fn 200; refine (Uh K).mono ?_; rintro e w1 ⟨rfl,rfl⟩);go_ret;exact ⟨rfl,rfl⟩
 | false =>
  go_wp2_with (first | (go_at_fn 200; refine (Uh K).mono ?_; rintro e w1 ⟨rfl,rfl⟩) | (go_at_fn 202; refine (Uh K2).mono ?_; rintro e w1 ⟨rfl,rfl⟩));go_ret;exact ⟨rfl,rfl⟩
theorem y9J {w:World} {L b r q s:Nat} {f l a:Int} {sv:Value} (C:Cls17 w L b r q s) (H:LkH w L f l a sv):Calls Tryz.prog 204 #[.pointer (some ⟨r,0,none⟩),.pointer (some ⟨b,0,none⟩)] w (Sm17 w (!(bits .andNot .i64 f 6==0) || (bits .andNot .i64 a 2046==0))):=by
 have x0:=C.hr;have x1:=C.hb;have x2:=H.c2;have e1:=x2R;have K:=Hd (fr17 C H);have K2:=Hd (x1W a 2046 w);clear C H;generalize (bits .andNot .i64 f 6==0)=R at *;generalize (bits .andNot .i64 a 2046==0)=Q at *;go_enter Tryz.func204,Tryz.ntmps204
 cases R with
 | false =>
  go_wp2_with (go_at_fn 200; refine (Uh K).mono ?_; rintro e w1 ⟨rfl,rfl⟩);go_ret;exact ⟨rfl,rfl⟩
 | true =>
  go_wp2_with (first | (go_at_fn 200; refine (Uh K).mono ?_; rintro e w1 ⟨rfl,rfl⟩) | (refine (Uh K2).mono ?_; rintro e w1 ⟨rfl,rfl⟩));go_ret;exact ⟨rfl,rfl⟩
theorem y9K {w:World} {L b r q s:Nat} {f l a:Int} {sv:Value} (C:Cls17 w L b r q s) (H:LkH w L f l a sv):Calls Tryz.prog 205 #[.pointer (some ⟨r,0,none⟩),.pointer (some ⟨b,0,none⟩)] w (Sm17 w (!(bits .andNot .i64 f 6==0) || (bits .andNot .i64 l 30==0))):=by
 have x0:=C.hr;have x1:=C.hb;have x2:=H.c1;have e1:=x2R;have K:=Hd (fr17 C H);have K2:=Hd (x1W l 30 w);clear C H;generalize (bits .andNot .i64 f 6==0)=R at *;generalize (bits .andNot .i64 l 30==0)=Q at *;go_enter Tryz.func205,Tryz.ntmps205
 cases R with
 | false =>
  go_wp2_with (go_at_fn 200; refine (Uh K).mono ?_; rintro e w1 ⟨rfl,rfl⟩);go_ret;exact ⟨rfl,rfl⟩
 | true =>
  go_wp2_with (first | (go_at_fn 200; refine (Uh K).mono ?_; rintro e w1 ⟨rfl,rfl⟩) | (refine (Uh K2).mono ?_; rintro e w1 ⟨rfl,rfl⟩));go_ret;exact ⟨rfl,rfl⟩
theorem y9L {w:World} {L b r q s:Nat} {f l a:Int} {sv:Value} (C:Cls17 w L b r q s) (H:LkH w L f l a sv):Calls Tryz.prog 206 #[.pointer (some ⟨r,0,none⟩),.pointer (some ⟨b,0,none⟩)] w (Sm17 w (!(bits .andNot .i64 f 6==0) || !(bits .andNot .i64 24 a==0))):=by
 have x0:=C.hr;have x1:=C.hb;have x2:=H.c2;have e1:=x2R;have K:=Hd (fr17 C H);have K2:=Hd (x1W 24 a w);clear C H;generalize (bits .andNot .i64 f 6==0)=R at *;generalize (bits .andNot .i64 24 a==0)=Q at *;go_enter Tryz.func206,Tryz.ntmps206
 cases R with
 | false =>
  go_wp2_with (go_at_fn 200; refine (Uh K).mono ?_; rintro e w1 ⟨rfl,rfl⟩);go_ret;exact ⟨rfl,rfl⟩
 | true =>
  go_wp2_with (first | (go_at_fn 200; refine (Uh K).mono ?_; rintro e w1 ⟨rfl,rfl⟩) | (refine (Uh K2).mono ?_; rintro e w1 ⟨rfl,rfl⟩));go_ret;exact ⟨rfl,rfl⟩
theorem y9M {w:World} {L b r q s:Nat} {f l a:Int} {sv:Value} (C:Cls17 w L b r q s) (H:LkH w L f l a sv):Calls Tryz.prog 207 #[.pointer (some ⟨q,0,none⟩),.pointer (some ⟨b,0,none⟩)] w (Sm17 w (!(bits .andNot .i64 f 1==0) || (bits .andNot .i64 a 2033==0))):=by
 have x0:=C.hq;have x1:=C.hb;have x2:=H.c2;have e1:=enters_r2;have K:=Hd (fl17 C H);have K2:=Hd (x1W a 2033 w);clear C H;generalize (bits .andNot .i64 f 1==0)=R at *;generalize (bits .andNot .i64 a 2033==0)=Q at *;go_enter Tryz.func207,Tryz.ntmps207
 cases R with
 | false =>
  go_wp2_with (go_at_fn 202; refine (Uh K).mono ?_; rintro e w1 ⟨rfl,rfl⟩);go_ret;exact ⟨rfl,rfl⟩
 | true =>
  go_wp2_with (first | (go_at_fn 202; refine (Uh K).mono ?_; rintro e w1 ⟨rfl,rfl⟩) | (refine (Uh K2).mono ?_; rintro e w1 ⟨rfl,rfl⟩));go_ret;exact ⟨rfl,rfl⟩
theorem y9N {w:World} {L b r q s:Nat} {f l a:Int} {sv:Value} (C:Cls17 w L b r q s) (H:LkH w L f l a sv):Calls Tryz.prog 208 #[.pointer (some ⟨q,0,none⟩),.pointer (some ⟨b,0,none⟩)] w (Sm17 w (!(bits .andNot .i64 f 1==0) || (bits .andNot .i64 l 17==0))):=by
 have x0:=C.hq;have x1:=C.hb;have x2:=H.c1;have e1:=enters_r2;have K:=Hd (fl17 C H);have K2:=Hd (x1W l 17 w);clear C H;generalize (bits .andNot .i64 f 1==0)=R at *;generalize (bits .andNot .i64 l 17==0)=Q at *;go_enter Tryz.func208,Tryz.ntmps208
 cases R with
 | false =>
  go_wp2_with (go_at_fn 202; refine (Uh K).mono ?_; rintro e w1 ⟨rfl,rfl⟩);go_ret;exact ⟨rfl,rfl⟩
 | true =>
  go_wp2_with (first | (go_at_fn 202; refine (Uh K).mono ?_; rintro e w1 ⟨rfl,rfl⟩) | (refine (Uh K2).mono ?_; rintro e w1 ⟨rfl,rfl⟩));go_ret;exact ⟨rfl,rfl⟩
namespace Bd
def lm (K:List Int):Int:=K.foldl (fun l k=>if k=10 then l else one k) 0
theorem y3y (K:List Int) (k:Int):lm (K++[k])=if k=10 then lm K else one k:=by
 unfold lm; rw [List.foldl_append]; rfl
theorem x9U {X:List Int} {bd:Int→Int} {k:Nat} (h:k<X.length):(X.take (k+1)).map bd=(X.take k).map bd++[bd (X.getD k 0)]:=by
 rw [x3d h,List.map_append]; rfl
theorem y2P {bd:Int→Int} (h:∀ c,0≤bd c∧bd c≤10) (X:List Int):Fit (X.map bd):=by
 intro k hk;obtain ⟨c,_,rfl⟩:=List.mem_map.1 hk;exact h c
theorem z0I {k:Int} (h:0≤k∧k≤10):2 ^ k.toNat<2048:=y7o h
end Bd
theorem Cls17.set {w:World} {L b r q s B j:Nat} (h:Cls17 w L b r q s) (hB:L<B) (hs:B≤b∧B≤r∧B≤q∧B≤s) (v:Value):Cls17 (w.setCell ⟨L,j,none⟩ v) L b r q s:=by
 have k:∀ {b j':Nat} {u:Value},B≤b→w.cell? ⟨b,j',none⟩=some u→(w.setCell ⟨L,j,none⟩ v).cell? ⟨b,j',none⟩=some u:=fun {b j' u} hl h=>by
  rw [World.cell?_of_block (a:=⟨b,j',none⟩) (Below.heap_setCell _ _ _ _ (fun e=>by have:b=L:=e; omega))]; exact h
 obtain ⟨h1,h2,h3,h4⟩:=hs;exact ⟨k h1 h.hb,k h2 h.hr,k h3 h.hq,k h4 h.s0,k h4 h.s1,k h4 h.s2,k h4 h.s3,k h4 h.s4,k h4 h.s5⟩
def y9x (w:World) (f l a:Int) (e:Ending) (w':World):Prop:=∃ L b r q s,e=.returned (.pointer (some ⟨L,0,none⟩))∧LkH w' L f l a (.slice (some ⟨s,0,none⟩) 6 6)∧Cls17 w' L b r q s∧Below w.heap.size w w'
theorem y5Z {p:Nat} {bd:Int→Int} {w:World} (hB:x8r p bd w) {xv:Value} {X:List Int} (hx:Sk .i32 w xv X) (h0:0<X.length):Calls Tryz.prog 128 #[.pointer (some ⟨p,0,none⟩),xv] w (y9x w (Bd.one (bd (X.getD 0 0))) (Bd.lm (X.map bd)) ((Bd.msk (X.map bd):Nat):Int)):=by
 have aE:=hx.len;have KD:Hid (∀ (k:Nat),k<X.length→∀ W,Below w.heap.size w W→Calls Tryz.prog 164 #[.pointer (some ⟨p,0,none⟩),.int .i32 (X.getD k 0)] W (IntB W (Bd.one (bd (X.getD k 0))))):=fun k hk W hW=>dir17 (hB.on hW) (x0G hx hk);have aL:=Hd hB.1;obtain ⟨b,off,cap,rfl,aN,aO,hc⟩:=hx.place (by omega)
 have HC:Hid (∀ (k:Nat),k<X.length→∀ W,Below w.heap.size w W→W.cell? ⟨b,off+k,none⟩=some (.int .i32 (X.getD k 0))):=fun k hk W hW=>by
  rw [hW.cell (x0a (hc k hk))]; exact hc k hk
 have x0:=(Uh HC) 0 h0 w (Below.refl _ _);have K:=Hd ((Uh KD) 0 h0 w (Below.refl _ _));have HE:Hid (X.take X.length=X):=List.take_length
 have HM:Hid (∀ k:Nat,k<X.length→bits .or .i64 ((Bd.msk ((X.take k).map bd):Nat):Int) (Bd.one (bd (X.getD k 0)))=((Bd.msk ((X.take (k+1)).map bd):Nat):Int)):=fun k hk=>by
  rw [Bd.x9U hk,Bd.y6e];exact Bd.or17 (Bd.y7j (Bd.y2P hB.1 _)) (Bd.z0I (hB.1 _))
 have HL:Hid (∀ k:Nat,k<X.length→Bd.lm ((X.take (k+1)).map bd)=if bd (X.getD k 0)=10 then Bd.lm ((X.take k).map bd) else Bd.one (bd (X.getD k 0))):=fun k hk=>by
  rw [Bd.x9U hk,Bd.y3y]
 have HZ:Hid (∀ k:Nat,(bd (X.getD k 0)=10→Bd.one (bd (X.getD k 0))=1024)∧(bd (X.getD k 0)≠10→(Bd.one (bd (X.getD k 0)) != 1024)=true)):=fun k=>by
  have h:=hB.1 (X.getD k 0);generalize bd (X.getD k 0)=z at *;refine ⟨fun e=>by subst e; rfl,fun hz=>?_⟩
  rcases Bd.cases11 h with rfl | rfl | rfl | rfl | rfl | rfl | rfl | rfl | rfl | rfl | rfl <;> first | rfl | exact absurd rfl hz
 have KR:=Hd (fun L W=>y4q L W);clear hB hx hc;rw [Nat.add_zero] at x0;generalize Bd.one (bd (X.getD 0 0))=f at *;generalize X.getD 0 0=c0 at *;go_enter Tryz.func128,Tryz.ntmps128;go_wp2_with fail;refine (Uh K).mono ?_;rintro e w1 ⟨rfl,b1⟩;have aI:=Hd b1;have aw:=b1.size;clear K b1 x0
 have HS:Hid (LkH (w1.alloc (.cells #[.int .i64 f,.int .i64 0,.int .i64 0,.slice none 0 0] 174)) w1.heap.size f 0 0 (.slice none 0 0)):=by
  show (w1.heap.push _)[w1.heap.size]?=_;simp
 have aJ:Hid (Below w.heap.size w (w1.alloc (.cells #[.int .i64 f,.int .i64 0,.int .i64 0,.slice none 0 0] 174))):=(Uh aI).alloc aw _;go_wp2;generalize hLe:w1.heap.size=L at *;clear hLe aI;go_loopw [7,8,18] (fun _ _ iv wr=>∃ k:Nat,iv=.int .i64 k∧k≤X.length∧LkH wr L f (Bd.lm ((X.take k).map bd)) ((Bd.msk ((X.take k).map bd):Nat):Int) (.slice none 0 0)∧Below w.heap.size w wr) (fun _ _ iv _=>X.length - (intOf iv).toNat)
 case atStart=>exact ⟨0,rfl,by omega,Uh HS,Uh aJ⟩
 case round =>
  obtain ⟨k,rfl,hk,ae,am⟩:=hrel;clear HS aJ;by_cases hlt:k<X.length
  ·have hL:(k:Int)<X.length:=by omega
   have x4:=(Uh HC) k hlt wr am;have K:=Hd ((Uh KD) k hlt wr am);have hm:=(Uh HM) k hlt;have ar:=Hd ((Uh HL) k hlt);have au:=Hd ((Uh HZ) k);have al:=Hd am;have ag:=Hd ae;clear ae am KD HC HM HL HZ HE KR aL;have an:Hid (∀ W,LkH W L f (Bd.lm ((X.take (k+1)).map bd)) ((Bd.msk ((X.take (k+1)).map bd):Nat):Int) (.slice none 0 0)→Below w.heap.size w W→∃ n:Nat,Value.int .i64 ((k:Int)+1)=.int .i64 (n:Int)∧n≤X.length∧LkH W L f (Bd.lm ((X.take n).map bd)) ((Bd.msk ((X.take n).map bd):Nat):Int) (.slice none 0 0)∧Below w.heap.size w W):=fun W h1 h2=>⟨k+1,by go_num,by omega,h1,h2⟩;generalize Bd.lm ((X.take (k+1)).map bd)=l2 at *;generalize Bd.lm ((X.take k).map bd)=l1 at *;generalize ((Bd.msk ((X.take (k+1)).map bd):Nat):Int)=a2 at *;generalize ((Bd.msk ((X.take k).map bd):Nat):Int)=a1 at *;generalize Bd.one (bd (X.getD k 0))=o at *;generalize bd (X.getD k 0)=z at *;generalize X.getD k 0=c at *;go_wp2_with fail;refine (Uh K).mono ?_;rintro e w2 ⟨rfl,b2⟩;have H2:=(Uh ag).below b2;have y2:=H2.c2;have y3:=H2.fz 2;have y4:=(H2.set2 a2).c1;have y5:=(H2.set2 a2).fz 1;have aK:=Hd (x0c (x0b (Uh al) b2) aw (j:=2) (.int .i64 a2));by_cases hz:z=10
   ·obtain rfl:=(Uh au).1 hz
    have aq:=Uh ar;rw [if_pos hz] at aq;subst aq;have HF:=Hd (H2.set2 a2);clear K x4 au ar al ag b2 H2 y4 y5;go_wp2
    go_roundw
    case rel=>exact (Uh an) _ (Uh HF) (Uh aK)
    case measure=>simp [intOf]; omega
   ·have ho:=(Uh au).2 hz
    have aq:=Uh ar;rw [if_neg hz] at aq;subst aq;have HF:=Hd ((H2.set2 a2).set1 l2);have aS:=Hd (x0c (Uh aK) aw (j:=1) (.int .i64 l2));clear K x4 au ar al ag b2 H2;go_wp2
    go_roundw
    case rel=>exact (Uh an) _ (Uh HF) (Uh aS)
    case measure=>simp [intOf]; omega
  ·have aV:k=X.length:=by omega
   subst aV;rw [Uh HE] at ae;have al:=Hd am;have K:=Hd ((Uh KR) L wr);have ag:=Hd ae;clear am ae KD HC HM HL HZ HE KR aL;generalize Bd.lm (X.map bd)=l1 at *;generalize ((Bd.msk (X.map bd):Nat):Int)=a1 at *;go_wp2_with fail;refine (Uh K).mono ?_;rintro e w2 ⟨b2,r2,q2,s2,rfl,ap,aM,aC⟩;have H2:=(Uh ag).below aC;have y2:=H2.c3;have y3:=H2.fz 3;have HF:Hid (y9x w f l1 a1 (.returned (.pointer (some ⟨L,0,none⟩))) (w2.setCell ⟨L,3,none⟩ (.slice (some ⟨s2,0,none⟩) 6 6))):=⟨L,b2,r2,q2,s2,rfl,H2.set3 _,ap.set (Uh ag).lt aM _,x0c (x0b (Uh al) aC) aw _⟩;clear K al ag H2 ap aM aC;go_wp2;go_ret;exact Uh HF
namespace Bd
def hold (f l a:Int):Nat→Bool
 | 0=>(bits .andNot .i64 f 6==0) || (bits .andNot .i64 f 1==0)
 | 1=>!(bits .andNot .i64 f 6==0) || (bits .andNot .i64 a 2046==0)
 | 2=>!(bits .andNot .i64 f 6==0) || (bits .andNot .i64 l 30==0)
 | 3=>!(bits .andNot .i64 f 6==0) || !(bits .andNot .i64 24 a==0)
 | 4=>!(bits .andNot .i64 f 1==0) || (bits .andNot .i64 a 2033==0)
 | _=>!(bits .andNot .i64 f 1==0) || (bits .andNot .i64 l 17==0)
def acc (h:Nat→Bool):Nat→Nat
 | 0=>0
 | k+1=>if h k=true then acc h k else acc h k ||| 2 ^ k
theorem x6Z (h:Nat→Bool):∀ k,k≤6→acc h k<2 ^ 11
 | 0,_=>by show 0<2 ^ 11; decide
 | k+1,hk=>by
  have ih:=x6Z h k (by omega);rw [acc];split
  ·exact ih
  ·exact Nat.or_lt_two_pow ih (Nat.pow_lt_pow_right (by omega) (by omega))
theorem acc6 (h:Nat→Bool):((acc h 6:Nat):Int)=(if h 0=true then 0 else 1)+(if h 1=true then 0 else 2)+(if h 2=true then 0 else 4)+(if h 3=true then 0 else 8)+(if h 4=true then 0 else 16)+(if h 5=true then 0 else 32):=by
 simp only [acc];generalize h 0=b0;generalize h 1=b1;generalize h 2=b2;generalize h 3=b3;generalize h 4=b4;generalize h 5=b5;cases b0 <;> cases b1 <;> cases b2 <;> cases b3 <;> cases b4 <;> cases b5 <;> rfl
theorem y8G {K:List Int} (h:Fit K):0≤lst K∧lst K≤10:=by
 unfold lst
 have aH:∀ m:List Int,Fit m→0≤fst m∧fst m≤10:=by
  intro m
  induction m with
  | nil=>intro _; exact ⟨by decide,by decide⟩
  | cons k l ih =>
   intro hm;show 0≤(if k=10 then fst l else k)∧(if k=10 then fst l else k)≤10;split
   ·exact ih fun x hx=>hm x (List.mem_cons_of_mem _ hx)
   ·exact hm k (by simp)
 exact aH _ fun x hx=>h x (List.mem_reverse.1 hx)
theorem z0s (K:List Int) (h:lst K≠10):lm K=one (lst K):=by
 obtain ⟨M,rfl⟩:∃ M:List Int,K=M.reverse:=⟨K.reverse,by rw [List.reverse_reverse]⟩
 induction M with
 | nil=>exact absurd rfl h
 | cons k l ih =>
  rw [List.reverse_cons] at *;rw [y6a] at *;rw [y3y];by_cases hk:k=10
  ·rw [if_pos hk] at *
   rw [if_pos hk];exact ih h
  ·rw [if_neg hk,if_neg hk]
theorem or_one {z:Int} (h:0≤z∧z≤10):(bits .andNot .i64 (one z) 6==0)=decide (z=1∨z=2)∧(bits .andNot .i64 (one z) 1==0)=decide (z=0)∧(bits .andNot .i64 (one z) 30==0)=decide (z=1∨z=2∨z=4∨z=3)∧(bits .andNot .i64 (one z) 17==0)=decide (z=0∨z=4):=by
 rcases cases11 h with rfl | rfl | rfl | rfl | rfl | rfl | rfl | rfl | rfl | rfl | rfl <;> decide +kernel
theorem y1V {K:List Int} (hK:Fit K) (h0:0<K.length):((acc (hold (one (K.getD 0 0)) (lm K) ((msk K:Nat):Int)) 6:Nat):Int)=rules K:=by
 have hz:0≤K.getD 0 0∧K.getD 0 0≤10:=hK _ (by simp [List.getD,h0]);have hl:=y7j hK;have e1:=inR17 ⟨msk K,hl⟩;have e2:=inL17 ⟨msk K,hl⟩;have e3:=dig17 ⟨msk K,hl⟩;simp only at e1 e2 e3;rw [x5E hK] at e1;rw [x5E hK,x5E hK,x5E hK,← y7G] at e2;rw [x5E hK,x5E hK] at e3;rw [acc6];simp only [hold];rw [e1,e2,e3];obtain ⟨f1,f2,-,-⟩:=or_one hz;rw [f1,f2]
 have hr:rules K=if ¬ (K.getD 0 0=0∨K.getD 0 0=1∨K.getD 0 0=2) then 1 else if K.getD 0 0=0 then r5 K+r6 K else r2 K+r3 K+r4 K:=by
  unfold rules; rw [if_neg (by omega)]
 rw [hr];clear hr;have av:=z0u h0;have aQ:=z0s K;obtain ⟨-,-,g3,g4⟩:=or_one (y8G hK);unfold r2 r3 r4 r5 r6;generalize K.getD 0 0=z at *;generalize hA:K.any rtl=A at *;generalize hB:(K.any fun k=>decide (k=((0:Nat):Int)))=B at *;generalize hC:(K.any fun k=>decide (k=((3:Nat):Int)))=C at *;generalize hD:(K.any fun k=>decide (k=((4:Nat):Int)))=D at *;by_cases k0:z=0
 ·subst k0
  rw [aQ (av (by decide)),g4];generalize lst K=y at *;simp;cases A <;> simp
 ·by_cases k1:z=1∨z=2
  ·rw [aQ (av (by omega)),g3]
   generalize lst K=y at *;simp only [k0,k1,decide_true,decide_false];simp;cases B <;> cases C <;> cases D <;> by_cases hy:y=1∨y=2∨y=4∨y=3 <;> simp [hy]
  ·simp [k0,k1]
end Bd
theorem y1I {k:Nat} (h:k<6):wrap64 ((2:Int) ^ k)=((2 ^ k:Nat):Int):=by
 have:k=0∨k=1∨k=2∨k=3∨k=4∨k=5:=(by omega);rcases this with rfl | rfl | rfl | rfl | rfl | rfl <;> decide +kernel
theorem y0B {w:World} {L b r q s:Nat} {f l a:Int} {sv:Value} (C:Cls17 w L b r q s) (H:LkH w L f l a sv) {k:Nat} (hk:k<6):∃ g c1 c2,w.cell? ⟨s,k,none⟩=some (.func (.func g) #[] #[.pointer (some ⟨c1,0,none⟩),.pointer (some ⟨c2,0,none⟩)])∧Calls Tryz.prog g #[.pointer (some ⟨c1,0,none⟩),.pointer (some ⟨c2,0,none⟩)] w (Sm17 w (Bd.hold f l a k))∧(∀ args w,(callFunc g args).run Tryz.prog w=.ok (.enter g args) w):=by
 match k,hk with
 | 0,_=>exact ⟨_,_,_,C.s0,y9I C H,enters_r3⟩
 | 1,_=>exact ⟨_,_,_,C.s1,y9J C H,enters_r4⟩
 | 2,_=>exact ⟨_,_,_,C.s2,y9K C H,enters_r5⟩
 | 3,_=>exact ⟨_,_,_,C.s3,y9L C H,enters_r6⟩
 | 4,_=>exact ⟨_,_,_,C.s4,y9M C H,enters_r7⟩
 | 5,_=>exact ⟨_,_,_,C.s5,y9N C H,enters_r8⟩
 | n+6,h=>exact absurd h (by omega)
theorem z0X {p:Nat} {bd:Int→Int} {w:World} (hB:x8r p bd w) {xv:Value} {X:List Int} (hx:Sk .i32 w xv X):Calls Tryz.prog 87 #[.pointer (some ⟨p,0,none⟩),xv] w (IntB w (Bd.rules (X.map bd))):=by
 rcases Nat.eq_zero_or_pos X.length with h0 | h0
 ·obtain rfl:X=[]:=List.eq_nil_of_length_eq_zero h0
  obtain ⟨ao,cap,rfl,_,_⟩:=hx.shape;have HF:Hid (IntB w (Bd.rules (List.map bd [])) (.returned (.int .i64 0)) w):=⟨rfl,Below.refl _ _⟩;clear hB hx h0;generalize Bd.rules (List.map bd [])=rr at *;go_enter Tryz.func87,Tryz.ntmps87;go_wp2;go_ret;exact Uh HF
 ·have E:=Bd.y1V (Bd.y2P hB.1 X) (by rw [List.length_map]; exact h0)
  rw [y3B h0] at E;have K:=Hd (y5Z hB hx h0);have aE:=hx.len;obtain ⟨ao,cap,rfl,_,_⟩:=hx.shape;rw [← E];clear hB hx E;generalize Bd.one (bd (X.getD 0 0))=f at *;generalize Bd.lm (X.map bd)=l at *;generalize ((Bd.msk (X.map bd):Nat):Int)=a at *;go_enter Tryz.func87,Tryz.ntmps87;go_wp2_with fail;refine (Uh K).mono ?_;rintro e w1 ⟨L,b,r,q,s,rfl,ae,ap,b1⟩;have y3:=ae.c3;have HK:Hid (∀ k,k<6→∃ g c1 c2,w1.cell? ⟨s,k,none⟩=some (.func (.func g) #[] #[.pointer (some ⟨c1,0,none⟩),.pointer (some ⟨c2,0,none⟩)])∧Calls Tryz.prog g #[.pointer (some ⟨c1,0,none⟩),.pointer (some ⟨c2,0,none⟩)] w1 (Sm17 w1 (Bd.hold f l a k))∧(∀ args w,(callFunc g args).run Tryz.prog w=.ok (.enter g args) w)):=fun k hk=>y0B ap ae hk;have HB:=Hd b1;clear K ae ap b1;generalize Bd.hold f l a=hd at *;have az:Hid (∀ k,k<6→bits .or .i64 ((Bd.acc hd k:Nat):Int) ((2 ^ k:Nat):Int)=((Bd.acc hd k ||| 2 ^ k:Nat):Int)):=fun k hk=>Bd.or17 (Bd.x6Z hd k (by omega)) (show 2 ^ k<2 ^ 11 from Nat.pow_lt_pow_right (by omega) (by omega));have ax:Hid (∀ k,Bd.acc hd (k+1)=if hd k=true then Bd.acc hd k else Bd.acc hd k ||| 2 ^ k):=fun k=>rfl;have HZ:Hid (Bd.acc hd 0=0):=rfl;generalize Bd.acc hd=ac at *;go_wp2;go_loopw [5,6,7,22] (fun bv _ _ iv wr=>∃ k:Nat,bv=.int .i64 ((ac k:Nat):Int)∧iv=.int .i64 k∧k≤6∧wr=w1) (fun _ _ _ iv _=>6 - (intOf iv).toNat)
  case atStart=>exact ⟨0,by rw [Uh HZ]; rfl,rfl,by omega,rfl⟩
  case round =>
   obtain ⟨k,rfl,rfl,hk,rfl⟩:=hrel;by_cases hlt:k<6
   ·have hL:(k:Int)<6:=by omega
    obtain ⟨g,c1,c2,x1,hc,eg⟩:=(Uh HK) k hlt;have KC:=Hd hc;have af:=(Uh ax) k;have aG:=(Uh az) k hlt;have HW:=Hd (y1I hlt);clear hc HK ax az HZ y3
    cases hh:hd k with
    | true =>
     rw [hh] at KC af;rw [if_pos rfl] at af;clear aG hh HW;have ay:=Hd af;clear af;go_wp2_with (go_at_fn g; refine (Uh KC).mono ?_; rintro e w2 ⟨rfl,rfl⟩)
     go_roundw
     case rel=>exact ⟨k+1,by rw [Uh ay],by go_num,by omega,trivial⟩
     case measure=>simp [intOf]; omega
    | false =>
     rw [hh] at KC af;rw [if_neg (by decide)] at af;have ay:=Hd af;have HO:=Hd aG;clear af hh aG;go_wp2_with (go_at_fn g; refine (Uh KC).mono ?_; rintro e w2 ⟨rfl,rfl⟩)
     go_roundw
     case rel=>exact ⟨k+1,by rw [Uh ay,Uh HW,Uh HO],by go_num,by omega,trivial⟩
     case measure=>simp [intOf]; omega
   ·obtain rfl:k=6:=by omega
    clear HK ax az HZ y3;go_wp2;go_ret;exact ⟨rfl,Uh HB⟩
end Go.Proofs.YtkglkajjofidoaaGreatDoor
