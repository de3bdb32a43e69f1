/- Sq15 Ba17 Bb17 Br17 Bg17 Bp17 Bq17 Bu17 Bv17 Bw17 Bx17 By17 Bt17 -/
import Derived.Test.YtdjpjgjhiibpkaaGreatDoorW2
import Derived.Laws.AppendOwnNone
import Derived.RangeFuncRecord
import Derived.Shelf.Abstract
import Derived.Lib.Walk
namespace Go.Proofs.YtdjpjgjhiibpkaaGreatDoor
open Go.RowKit
theorem infoR15:(Tryz.prog.info? 21).map (fun i=>(i.zero,i.size,i.bytes))=some (some (.int .i32 0),1,4):=by kernel_rfl
theorem lit15 (W:World) (zs:List Int) (n:Nat) (hn:zs.length=n) (h0:0<n) (hs:n≤100) (C:Array Value) (hC:C=(zs.map (Value.int .i32)).toArray) (hz:∀ z∈zs,-2147483648≤z∧z≤2147483647):Sk .i32 (W.alloc (.cells C 21)) (.slice (some ⟨W.heap.size,0,none⟩) n n) zs:=by
 have h:Ok .i32 21 (W.alloc (.cells C 21)) W.heap.size (.slice (some ⟨W.heap.size,0,none⟩) n n) zs:=by
  refine Ok.of (n:=n) (us:=zs.map (Value.int .i32)) (fun z h=>i32_fit (hz z h)) (by omega) ⟨by simp [hn],Or.inr ⟨W.heap.size,n,C,rfl,Nat.le_refl _,World.alloc_heap_new W _,Nat.le_refl _,by unfold maxLen; omega,by rw [hC]; simp [hn],by rw [hC]; exact List.take_of_length_le (by simp [hn])⟩⟩ hn.symm rfl
 exact h.sk
theorem ok_alloc15 {K:IntKind} {e:TypeId} {w:World} {B:Nat} {v:Value} {zs:List Int} (h:Ok K e w B v zs) (o:Obj):Ok K e (w.alloc o) B v zs:=⟨h.1,h.2.1,h.2.2.alloc o⟩
theorem alloc_size15 (w:World) (o:Obj):(w.alloc o).heap.size=w.heap.size+1:=by show (w.heap.push o).size=_; rw [Array.size_push]
theorem app_sk15 {w:World} {ops:Array Oper} {rest:List Oper} {o:Oper} {a:Act} {Q:Exit→Act→World→Prop} (hgd:o.guard=none) (s x:Operand)
  (ho:o.op=.call { callee:=.builtin .append,args:=#[s,x],argTypes:=#[29,29] }) (B:Nat) (v u:Value) (xs ys:List Int) (hs:a.eval s=v) (hx:a.eval x=u)
  (hv:Ok .i32 21 w B v xs) (hu:Sk .i32 w u ys) (hl:xs.length+ys.length≤1000000000) (hB:B≤w.heap.size)
  (h:∀ v' w',Ok .i32 21 w' B v' (xs++ys)→w.grownBy w' v.ownBlock→wpList Tryz.prog ops Q rest (a.put o.dst v') w'):wpList Tryz.prog ops Q (o :: rest) a w:=by
 obtain ⟨i0,hi,hz0,hz1,hz2⟩:=info_parts infoR15
 rcases hu.2.src with ⟨h0,rfl⟩ | ⟨ad,cap,hve,hcells⟩
 ·obtain rfl:ys=[]:=by simpa using h0
  refine wpList_append_own_none hgd s x 29 ho B 21 i0 1 Tryz.underlying29 hi v _ _ hs hv.row hx ?_
  exact h v w (by rw [List.append_nil]; exact hv) (World.grownBy.refl w _)
 ·rw [List.length_map] at hve
  subst hve
  refine wpList_append_own w hgd s x 29 ho B 21 i0 (.int .i32 0) 1 4 Tryz.underlying29 hi hz0 hz1 hz2 rfl (by decide) v _ _ hs hv.row ad ys.length cap (ys.map (Value.int .i32)) hx (by simp) hcells (ints_one .i32 ys) (by unfold maxLen; omega) (by omega) hB ?_
  intro v' w' h1 h2 _
  exact h v' w' (Ok.of (hv.1.app hu.1) (by simp; omega) h1 (by simp) (by simp)) h2
namespace Bd
def rtl (k:Int):Bool:=decide (k=1) || (decide (k=2) || decide (k=3))
def has (K:List Int):Bool:=K.any rtl
def fst (l:List Int):Int:=match l with
 | []=>10
 | k :: l=>if k=10 then fst l else k
def lst (K:List Int):Int:=fst K.reverse
def r5 (K:List Int):Int:=if K.any rtl=true then 16 else 0
def r6 (K:List Int):Int:=if lst K=0∨lst K=4 then 0 else 32
def r2 (K:List Int):Int:=if K.any (fun k=>decide (k=0))=true then 2 else 0
def r3 (K:List Int):Int:=if lst K=1∨lst K=2∨lst K=4∨lst K=3 then 0 else 4
def r4 (K:List Int):Int:=if K.any (fun k=>decide (k=4))=true∧K.any (fun k=>decide (k=3))=true then 8 else 0
def rules (K:List Int):Int:=if K.length=0 then 0 else if ¬ (K.getD 0 0=0∨K.getD 0 0=1∨K.getD 0 0=2) then 1 else if K.getD 0 0=0 then r5 K+r6 K else r2 K+r3 K+r4 K
variable {K:List Int}
theorem take_snoc {i:Nat} (h:i<K.length):K.take (i+1)=K.take i++[K.getD i 0]:=by
 rw [List.take_add_one]; simp [List.getD,h]
theorem lst_snoc (k:Int):lst (K++[k])=if k=10 then lst K else k:=by
 unfold lst; rw [List.reverse_append]; rfl
theorem lst_take {i:Nat} (h:i<K.length):lst (K.take (i+1))=if K.getD i 0=10 then lst (K.take i) else K.getD i 0:=by
 rw [take_snoc h,lst_snoc]
theorem any_snoc (f:Int→Bool) (k:Int):(K++[k]).any f=(K.any f || f k):=by
 rw [List.any_append]; simp
theorem any_take {f:Int→Bool} {i:Nat} (h:i<K.length):(K.take (i+1)).any f=((K.take i).any f || f (K.getD i 0)):=by
 rw [take_snoc h,any_snoc]
theorem any_no {f:Int→Bool} (h:∀ i,i<K.length→f (K.getD i 0)=false):K.any f=false:=by
 rw [List.any_eq_false]
 intro x hx
 obtain ⟨i,hi,rfl⟩:=List.getElem_of_mem hx
 have:=h i hi
 simp only [List.getD,List.getElem?_eq_getElem hi,Option.getD_some] at this
 rw [this]; exact Bool.false_ne_true
theorem any_yes {f:Int→Bool} {i:Nat} (hi:i<K.length) (h:f (K.getD i 0)=true):K.any f=true:=by
 rw [List.any_eq_true]
 exact ⟨K.getD i 0,by simp [List.getD,hi],h⟩
theorem lst_ne (h:0<K.length) (h0:K.getD 0 0≠10):lst K≠10:=by
 cases K with
 | nil=>simp at h
 | cons a l =>
  have ha:a≠10:=by simpa [List.getD] using h0
  unfold lst
  rw [List.reverse_cons]
  have key:∀ m:List Int,fst (m++[a])≠10:=by
   intro m
   induction m with
   | nil=>show (if a=10 then _ else a)≠10; rw [if_neg ha]; exact ha
   | cons b m ih =>
    show (if b=10 then fst (m++[a]) else b)≠10
    by_cases hb:b=10
    ·rw [if_pos hb]; exact ih
    ·rw [if_neg hb]; exact hb
  exact key _
theorem rules_bits (K:List Int):rules K=0∨rules K=1∨(∃ a b,(a=0∨a=16)∧(b=0∨b=32)∧rules K=a+b)∨(∃ a b c,(a=0∨a=2)∧(b=0∨b=4)∧(c=0∨c=8)∧rules K=a+b+c):=by
 unfold rules
 split
 ·exact .inl rfl
 ·split
  ·exact .inr (.inl rfl)
  ·split
   ·refine .inr (.inr (.inl ⟨_,_,?_,?_,rfl⟩))
    ·unfold r5; split <;> simp
    ·unfold r6; split <;> simp
   ·refine .inr (.inr (.inr ⟨_,_,_,?_,?_,?_,rfl⟩))
    ·unfold r2; split <;> simp
    ·unfold r3; split <;> simp
    ·unfold r4; split <;> simp
theorem rules_plain (h:has K=false):rules K=0∨rules K=1∨rules K=32:=by
 unfold rules
 split
 ·exact .inl rfl
 ·rename_i hl
  split
  ·exact .inr (.inl rfl)
  ·rename_i h1
   have hz:rtl (K.getD 0 0)=false:=by
    have h':=List.any_eq_false.1 h (K.getD 0 0) (by simp [List.getD,show 0<K.length by omega])
    simpa using h'
   have h0:K.getD 0 0=0:=by
    rcases Decidable.not_not.1 h1 with h2 | h2 | h2
    ·exact h2
    ·rw [h2] at hz; cases hz
    ·rw [h2] at hz; cases hz
   rw [if_pos h0]
   have e5:r5 K=0:=by unfold r5; unfold has at h; rw [h]; rfl
   rw [e5]
   unfold r6
   split
   ·exact .inl rfl
   ·exact .inr (.inr rfl)
theorem fst_marks (l m:List Int) (hm:∀ k∈m,k=10):fst (m++l)=fst l:=by
 induction m with
 | nil=>rfl
 | cons a m ih =>
  show (if a=10 then fst (m++l) else a)=fst l
  rw [if_pos (hm a (List.mem_cons_self))]
  exact ih fun k hk=>hm k (List.mem_cons_of_mem _ hk)
theorem lst_marks (m:List Int) (hm:∀ k∈m,k=10):lst (K++m)=lst K:=by
 unfold lst; rw [List.reverse_append]
 exact fst_marks _ _ fun k hk=>hm k (List.mem_reverse.1 hk)
theorem any_marks (f:Int→Bool) (hf:f 10=false) (m:List Int) (hm:∀ k∈m,k=10):(K++m).any f=K.any f:=by
 rw [List.any_append]
 have:m.any f=false:=List.any_eq_false.2 fun x hx=>by rw [hm x hx,hf]; exact Bool.false_ne_true
 rw [this,Bool.or_false]
theorem rules_marks (h:0<K.length) (m:List Int) (hm:∀ k∈m,k=10):rules (K++m)=rules K:=by
 have e0:(K++m).getD 0 0=K.getD 0 0:=by simp [List.getD,List.getElem?_append_left h]
 unfold rules r5 r6 r2 r3 r4
 rw [e0,lst_marks m hm,any_marks rtl rfl m hm,any_marks _ (by rfl) m hm,any_marks _ (by rfl) m hm,any_marks _ (by rfl) m hm,List.length_append,if_neg (by omega),if_neg (by omega:¬ K.length=0)]
theorem rules_ltr (h0:K.length=0∨K.getD 0 0=0) (h:∀ k∈K,k=0∨k=4):rules K=0∧has K=false:=by
 have hh:has K=false:=List.any_eq_false.2 fun x hx=>by
  rcases h x hx with e | e <;> rw [e] <;> decide
 refine ⟨?_,hh⟩
 unfold rules
 split
 ·rfl
 ·rename_i hl
  have hz:K.getD 0 0=0:=h0.resolve_left hl
  rw [if_neg (by rw [hz]; simp),if_pos hz]
  have e5:r5 K=0:=by unfold r5; unfold has at hh; rw [hh]; rfl
  have hl2:lst K=0∨lst K=4:=by
   have hne:=lst_ne (K:=K) (by omega) (by rw [hz]; decide)
   have key:∀ l:List Int,(∀ k∈l,k=0∨k=4)→fst l=10∨fst l=0∨fst l=4:=by
    intro l
    induction l with
    | nil=>intro _; exact .inl rfl
    | cons a l ih =>
     intro hl
     have ha:=hl a (List.mem_cons_self)
     have e:fst (a :: l)=a:=by show (if a=10 then fst l else a)=a; rw [if_neg (by omega)]
     rw [e]; exact .inr ha
   rcases key K.reverse (fun k hk=>h k (List.mem_reverse.1 hk)) with e | e
   ·exact absurd e hne
   ·exact e
  rw [e5]
  unfold r6
  rw [if_pos hl2]; rfl
end Bd
def RPropC17 (f:Nat) (w0:World) (tv:Value) (cl:Int→Int):Prop:=∀ c,Rune c→∀ W,Below w0.heap.size w0 W→Calls Tryz.prog f #[tv,.int .i32 c] W (IntB W (cl c))
theorem map_get17 {X:List Int} {bd:Int→Int} {i:Nat} (h:i<X.length):(X.map bd).getD i 0=bd (X.getD i 0):=by simp [List.getD,h]
set_option maxRecDepth 8000 in
set_option maxHeartbeats 1000000 in
theorem refHas17 (ta:Option Addr) (tl tc:Nat) {bd:Int→Int} {xv:Value} {X:List Int} (w:World) (hB:RPropC17 25 w (.slice ta tl tc) bd) (hx:Sk .i32 w xv X):Calls Tryz.prog 10 #[.slice ta tl tc,xv] w (BoolB w (Bd.has (X.map bd))):=by
 have hlen:=hx.len
 have KB:Hid (∀ (k:Nat),k<X.length→∀ W,Below w.heap.size w W→Calls Tryz.prog 25 #[.slice ta tl tc,.int .i32 (X.getD k 0)] W (IntB W (bd (X.getD k 0)))):=fun k hk W hW=>hB _ (rune_of hx hk) W hW
 have HC:Hid (∀ (k:Nat),k<X.length→∃ b off cap,xv=.slice (some ⟨b,off,none⟩) X.length cap∧∀ W,Below w.heap.size w W→W.cell? ⟨b,off+k,none⟩=some (.int .i32 (X.getD k 0))):=fun k hk=>by
  obtain ⟨b,off,cap,he,_,_,hc⟩:=hx.place (by omega)
  exact ⟨b,off,cap,he,fun W hW=>by rw [hW.cell (lt_of_cell? (hc k hk))]; exact hc k hk⟩
 have HNO:Hid ((∀ q,q<X.length→Bd.rtl (bd (X.getD q 0))=false)→Bd.has (X.map bd)=false):=fun h=>Bd.any_no fun i hi=>by
  rw [List.length_map] at hi
  rw [map_get17 hi]; exact h i hi
 have HYES:Hid (∀ q,q<X.length→Bd.rtl (bd (X.getD q 0))=true→Bd.has (X.map bd)=true):=fun q hq h=>Bd.any_yes (i:=q) (by rw [List.length_map]; exact hq) (by rw [map_get17 hq]; exact h)
 obtain ⟨ao,cap,rfl,_,_⟩:=hx.shape
 clear hB hx
 generalize Bd.has (X.map bd)=hb at *
 go_enter Tryz.func10,Tryz.ntmps10
 go_wp2
 go_loopw [4,5,6] (fun rv iv _ wr=>∃ k:Nat,rv=.bool false∧iv=.int .i64 k∧k≤X.length∧(∀ q,q<k→Bd.rtl (bd (X.getD q 0))=false)∧Below w.heap.size w wr) (fun _ iv _ _=>X.length - (intOf iv).toNat)
 case atStart=>exact ⟨0,rfl,rfl,by omega,fun q h=>absurd h (by omega),Below.refl _ _⟩
 case round =>
  obtain ⟨k,rfl,rfl,hk,hq,hbr⟩:=hrel
  by_cases hlt:k<X.length
  ·have hL:(k:Int)<X.length:=by omega
   obtain ⟨b,off,cp,he,hcx⟩:=(Uh HC) k hlt
   simp only [Value.slice.injEq] at he
   obtain ⟨rfl,-,rfl⟩:=he
   have x4:=hcx wr hbr
   have K:=Hd ((Uh KB) k hlt wr hbr)
   have HY:=Hd ((Uh HYES) k hlt)
   have HQ:Hid (Bd.rtl (bd (X.getD k 0))=false→∀ q,q<k+1→Bd.rtl (bd (X.getD q 0))=false):=fun h q hq'=>by
    rcases Nat.lt_or_ge q k with h1 | h1
    ·exact hq q h1
    ·rw [show q=k by omega]; exact h
   have HBR:=Hd hbr
   clear hcx hq hbr
   generalize bd (X.getD k 0)=z at *
   generalize X.getD k 0=c at *
   by_cases hz:z=1∨z=2∨z=3
   ·have HT:Hid (hb=true):=(Uh HY) (by rcases hz with rfl | rfl | rfl <;> rfl)
    clear HY HQ
    rcases hz with rfl | rfl | rfl
    all_goals
     go_wp2_with fail
     refine (Uh K).mono ?_
     rintro e w1 ⟨rfl,b1⟩
     have HB1:=Hd (bthen (Uh HBR) b1)
     clear K b1 HBR x4
     go_wp2
     go_ret
     exact ⟨by rw [Uh HT]; rfl,Uh HB1⟩
   ·have HQ2:=Hd ((Uh HQ) (by unfold Bd.rtl; rw [decide_eq_false (by omega),decide_eq_false (p:=z=2) (by omega),decide_eq_false (p:=z=3) (by omega)]; rfl))
    have n1:(z==1)=false:=by rw [beq_eq_false_iff_ne]; omega
    have n2:(z==2)=false:=by rw [beq_eq_false_iff_ne]; omega
    have n3:(z==3)=false:=by rw [beq_eq_false_iff_ne]; omega
    clear HY HQ hz
    go_wp2_with fail
    refine (Uh K).mono ?_
    rintro e w1 ⟨rfl,b1⟩
    have HB1:=Hd (bthen (Uh HBR) b1)
    clear K b1 HBR x4
    go_wp2
    go_roundw
    case rel=>exact ⟨k+1,rfl,by go_num,by omega,Uh HQ2,Uh HB1⟩
    case measure=>simp [intOf]; omega
  ·have HT:=Hd ((Uh HNO) fun q h=>hq q (by omega))
   have hL:¬ ((k:Int)<X.length):=by omega
   have HBR:=Hd hbr
   clear hq hbr KB HC HNO HYES
   go_wp2
   go_ret
   exact ⟨by rw [Uh HT]; rfl,Uh HBR⟩
set_option maxRecDepth 8000 in
set_option maxHeartbeats 1000000 in
theorem among17 (n:Int) (lv:Value) (K:List Int) (w:World) (hk:Sk .i64 w lv K):Calls Tryz.prog 27 #[.int .i64 n,lv] w (fun e w'=>e=.returned (.bool (K.any fun k=>decide (k=n)))∧w'=w):=by
 have hlen:=hk.len
 have HC:Hid (∀ (q:Nat),q<K.length→∃ b off cap,lv=.slice (some ⟨b,off,none⟩) K.length cap∧w.cell? ⟨b,off+q,none⟩=some (.int .i64 (K.getD q 0))):=fun q hq=>by
  obtain ⟨b,off,cap,he,_,_,hc⟩:=hk.place (by omega)
  exact ⟨b,off,cap,he,hc q hq⟩
 have HNO:Hid ((∀ q,q<K.length→¬ K.getD q 0=n)→(K.any fun k=>decide (k=n))=false):=fun h=>Bd.any_no fun i hi=>decide_eq_false (h i hi)
 have HYES:Hid (∀ q,q<K.length→K.getD q 0=n→(K.any fun k=>decide (k=n))=true):=fun q hq h=>Bd.any_yes hq (decide_eq_true h)
 obtain ⟨ao,cap,rfl,_,_⟩:=hk.shape
 clear hk
 generalize (K.any fun k=>decide (k=n))=hb at *
 go_enter Tryz.func27,Tryz.ntmps27
 go_wp2
 go_loopw [4,5] (fun rv iv wr=>∃ k:Nat,rv=.bool false∧iv=.int .i64 k∧k≤K.length∧(∀ q,q<k→¬ K.getD q 0=n)∧wr=w) (fun _ iv _=>K.length - (intOf iv).toNat)
 case atStart=>exact ⟨0,rfl,rfl,by omega,fun q h=>absurd h (by omega),rfl⟩
 case round =>
  obtain ⟨k,rfl,rfl,hk,hq,rfl⟩:=hrel
  by_cases hlt:k<K.length
  ·have hL:(k:Int)<K.length:=by omega
   obtain ⟨b,off,cp,he,x4⟩:=(Uh HC) k hlt
   simp only [Value.slice.injEq] at he
   obtain ⟨rfl,-,rfl⟩:=he
   have HQ:=Hd hq
   have HY:=Hd ((Uh HYES) k hlt)
   clear hq HC HNO HYES
   by_cases hz:K.getD k 0=n
   ·have HT:=Hd ((Uh HY) hz)
    rw [hz] at x4
    have nn:(n==n)=true:=beq_self_eq_true _
    clear HY HQ hz
    go_wp2
    go_ret
    exact ⟨by rw [Uh HT]; rfl,rfl⟩
   ·have HQ2:Hid (∀ q,q<k+1→¬ K.getD q 0=n):=fun q hq'=>by
     rcases Nat.lt_or_ge q k with h1 | h1
     ·exact (Uh HQ) q h1
     ·rw [show q=k by omega]; exact hz
    have nn:(K.getD k 0==n)=false:=by rw [beq_eq_false_iff_ne]; exact hz
    clear HY HQ hz
    generalize K.getD k 0=z at *
    go_wp2
    go_roundw
    case rel=>exact ⟨k+1,rfl,by go_num,by omega,Uh HQ2,by first | rfl | trivial⟩
    case measure=>simp [intOf]; omega
  ·have HT:=Hd ((Uh HNO) fun q h=>hq q (by omega))
   have hL:¬ ((k:Int)<K.length):=by omega
   clear hq HC HNO HYES
   go_wp2
   go_ret
   exact ⟨by rw [Uh HT]; rfl,rfl⟩
def Rws17 (w:World) (lv:Value) (Xs:List (List Int)):Prop:=Xs.length≤1000000000∧((Xs.length=0∧∃ ao cap,lv=.slice ao 0 cap∧cap≤9223372036854775807)∨∃ b off cap,lv=.slice (some ⟨b,off,none⟩) Xs.length cap∧Xs.length≤cap∧cap≤9223372036854775807∧∀ i,i<Xs.length→∃ xv,w.cell? ⟨b,off+i,none⟩=some xv∧Sk .i32 w xv (Xs.getD i []))
theorem Rws17.below {w w':World} {lv:Value} {Xs:List (List Int)} (h:Rws17 w lv Xs) (hb:Below w.heap.size w w'):Rws17 w' lv Xs:=by
 refine ⟨h.1,?_⟩
 rcases h.2 with h1 | ⟨b,off,cap,e,h1,h2,h3⟩
 ·exact .inl h1
 ·refine .inr ⟨b,off,cap,e,h1,h2,fun i hi=>?_⟩
  obtain ⟨xv,hc,hs⟩:=h3 i hi
  exact ⟨xv,by rw [hb.cell (lt_of_cell? hc)]; exact hc,hs.below hb⟩
theorem Rws17.shape {w:World} {lv:Value} {Xs:List (List Int)} (h:Rws17 w lv Xs):∃ ao cap,lv=.slice ao Xs.length cap∧Xs.length≤cap∧cap≤9223372036854775807:=by
 rcases h.2 with ⟨h0,ao,cap,e,h2⟩ | ⟨b,off,cap,e,h1,h2,_⟩
 ·exact ⟨ao,cap,by rw [e,h0],by omega,h2⟩
 ·exact ⟨_,cap,e,h1,h2⟩
theorem Rws17.at {w:World} {ao:Option Addr} {n cap:Nat} {Xs:List (List Int)} (h:Rws17 w (.slice ao n cap) Xs) {i:Nat} (hi:i<Xs.length):∃ b off xv,ao=some ⟨b,off,none⟩∧w.cell? ⟨b,off+i,none⟩=some xv∧Sk .i32 w xv (Xs.getD i []):=by
 rcases h.2 with ⟨h0,_⟩ | ⟨b,off,cap',e,_,_,h3⟩
 ·omega
 ·obtain ⟨xv,hc,hs⟩:=h3 i hi
  exact ⟨b,off,xv,(Value.slice.inj e).1,hc,hs⟩
namespace Bd
def dom (bd:Int→Int) (Xs:List (List Int)):Bool:=Xs.any fun X=>has (X.map bd)
theorem dom_no {bd:Int→Int} {Xs:List (List Int)} (h:∀ i,i<Xs.length→has ((Xs.getD i []).map bd)=false):dom bd Xs=false:=by
 unfold dom
 rw [List.any_eq_false]
 intro x hx
 obtain ⟨i,hi,rfl⟩:=List.getElem_of_mem hx
 have:=h i hi
 simp only [List.getD,List.getElem?_eq_getElem hi,Option.getD_some] at this
 rw [this]; exact Bool.false_ne_true
theorem dom_yes {bd:Int→Int} {Xs:List (List Int)} {i:Nat} (hi:i<Xs.length) (h:has ((Xs.getD i []).map bd)=true):dom bd Xs=true:=by
 unfold dom
 rw [List.any_eq_true]
 exact ⟨Xs.getD i [],by simp [List.getD,hi],h⟩
end Bd
set_option maxRecDepth 8000 in
set_option maxHeartbeats 1000000 in
theorem refDomain17 (ta:Option Addr) (tl tc:Nat) {bd:Int→Int} {lv:Value} {Xs:List (List Int)} (w:World) (hB:RPropC17 25 w (.slice ta tl tc) bd) (hx:Rws17 w lv Xs):Calls Tryz.prog 14 #[.slice ta tl tc,lv] w (BoolB w (Bd.dom bd Xs)):=by
 have hlen:=hx.1
 obtain ⟨ao,cap,rfl,_,_⟩:=hx.shape
 have HAT:Hid (∀ i,i<Xs.length→∀ W,Below w.heap.size w W→∃ b off xv,ao=some ⟨b,off,none⟩∧W.cell? ⟨b,off+i,none⟩=some xv∧Sk .i32 W xv (Xs.getD i [])):=fun i hi W hW=>(hx.below hW).at hi
 have KH:Hid (∀ W,Below w.heap.size w W→∀ xv X,Sk .i32 W xv X→Calls Tryz.prog 10 #[.slice ta tl tc,xv] W (BoolB W (Bd.has (X.map bd)))):=fun W hW xv X hX=>refHas17 ta tl tc W (fun c hc W' hW'=>hB c hc W' (bthen hW hW')) hX
 have HNO:=Hd (Bd.dom_no (bd:=bd) (Xs:=Xs))
 have HYES:=Hd (fun i=>Bd.dom_yes (bd:=bd) (Xs:=Xs) (i:=i))
 clear hB hx
 generalize Bd.dom bd Xs=db at *
 go_enter Tryz.func14,Tryz.ntmps14
 go_wp2
 go_loopw [4,5] (fun rv iv wr=>∃ k:Nat,rv=.bool false∧iv=.int .i64 k∧k≤Xs.length∧(∀ q,q<k→Bd.has ((Xs.getD q []).map bd)=false)∧Below w.heap.size w wr) (fun _ iv _=>Xs.length - (intOf iv).toNat)
 case atStart=>exact ⟨0,rfl,rfl,by omega,fun q h=>absurd h (by omega),Below.refl _ _⟩
 case round =>
  obtain ⟨k,rfl,rfl,hk,hq,hbr⟩:=hrel
  by_cases hlt:k<Xs.length
  ·have hL:(k:Int)<Xs.length:=by omega
   obtain ⟨b,off,xv,rfl,x4,hsk⟩:=(Uh HAT) k hlt wr hbr
   have K:=Hd ((Uh KH) wr hbr xv _ hsk)
   obtain ⟨xa,xc,hxv,_,_⟩:=hsk.shape
   subst hxv
   have HY:=Hd ((Uh HYES) k hlt)
   have HQ:Hid (Bd.has ((Xs.getD k []).map bd)=false→∀ q,q<k+1→Bd.has ((Xs.getD q []).map bd)=false):=fun h q hq'=>by
    rcases Nat.lt_or_ge q k with h1 | h1
    ·exact hq q h1
    ·rw [show q=k by omega]; exact h
   have HBR:=Hd hbr
   clear hq hbr hsk HAT KH HNO HYES
   obtain ⟨hb,hhb⟩:∃ hb,Bd.has ((Xs.getD k []).map bd)=hb:=⟨_,rfl⟩
   rw [hhb] at K HY HQ
   clear hhb
   generalize (Xs.getD k []).length=xl at *
   cases hb with
   | true =>
    have HT:=Hd ((Uh HY) rfl)
    clear HY HQ
    go_wp2_with fail
    refine (Uh K).mono ?_
    rintro e w1 ⟨rfl,b1⟩
    have HB1:=Hd (bthen (Uh HBR) b1)
    clear K b1 HBR x4
    go_wp2
    go_ret
    exact ⟨by rw [Uh HT]; rfl,Uh HB1⟩
   | false =>
    have HQ2:=Hd ((Uh HQ) rfl)
    clear HY HQ
    go_wp2_with fail
    refine (Uh K).mono ?_
    rintro e w1 ⟨rfl,b1⟩
    have HB1:=Hd (bthen (Uh HBR) b1)
    clear K b1 HBR x4
    go_wp2
    go_roundw
    case rel=>exact ⟨k+1,rfl,by go_num,by omega,Uh HQ2,Uh HB1⟩
    case measure=>simp [intOf]; omega
  ·have HT:=Hd ((Uh HNO) fun i hi=>hq i (by omega))
   have hL:¬ ((k:Int)<Xs.length):=by omega
   have HBR:=Hd hbr
   clear hq hbr HAT KH HNO HYES
   go_wp2
   go_ret
   exact ⟨by rw [Uh HT]; rfl,Uh HBR⟩
namespace Bd
def msk (K:List Int):Nat:=K.foldl (fun a k=>a ||| 2 ^ k.toNat) 0
def one (k:Int):Int:=((2 ^ k.toNat:Nat):Int)
def Fit (K:List Int):Prop:=∀ k∈K,0≤k∧k≤10
theorem msk_snoc (K:List Int) (k:Int):msk (K++[k])=msk K ||| 2 ^ k.toNat:=by
 unfold msk; rw [List.foldl_append]; rfl
theorem cases11 {k:Int} (h:0≤k∧k≤10):k=0∨k=1∨k=2∨k=3∨k=4∨k=5∨k=6∨k=7∨k=8∨k=9∨k=10:=by omega
theorem pow_lt {k:Int} (h:0≤k∧k≤10):2 ^ k.toNat<2 ^ 11:=Nat.pow_lt_pow_right (by omega) (by omega)
theorem msk_grow (K:List Int):∀ (a:Nat),a<2 ^ 11→Fit K→K.foldl (fun a k=>a ||| 2 ^ k.toNat) a<2 ^ 11:=by
 induction K with
 | nil=>intro a h _; exact h
 | cons k l ih =>
  intro a h hf
  exact ih _ (Nat.or_lt_two_pow h (pow_lt (hf k (by simp)))) (fun x hx=>hf x (List.mem_cons_of_mem _ hx))
theorem msk_lt {K:List Int} (h:Fit K):msk K<2048:=msk_grow K 0 (by decide) h
theorem bit_grow (K:List Int) (j:Nat):∀ (a:Nat),(K.foldl (fun a k=>a ||| 2 ^ k.toNat) a).testBit j=(a.testBit j || K.any (fun k=>decide (k.toNat=j))):=by
 induction K with
 | nil=>intro a; simp
 | cons k l ih =>
  intro a
  rw [List.foldl_cons,ih,Nat.testBit_or,Nat.testBit_two_pow,List.any_cons,Bool.or_assoc]
theorem msk_bit (K:List Int) (j:Nat):(msk K).testBit j=K.any (fun k=>decide (k.toNat=j)):=by
 unfold msk; rw [bit_grow]; simp
theorem bit_eq {K:List Int} (h:Fit K) (j:Nat):(msk K).testBit j=K.any (fun k=>decide (k=(j:Int))):=by
 rw [msk_bit,Bool.eq_iff_iff,List.any_eq_true,List.any_eq_true]
 constructor
 ·rintro ⟨x,hx,e⟩
  have:=h x hx
  exact ⟨x,hx,by have:=of_decide_eq_true e; exact decide_eq_true (by omega)⟩
 ·rintro ⟨x,hx,e⟩
  exact ⟨x,hx,by have:=of_decide_eq_true e; exact decide_eq_true (by omega)⟩
theorem or17 {a b:Nat} (ha:a<2048) (hb:b<2048):bits .or .i64 (a:Int) (b:Int)=((a ||| b:Nat):Int):=by
 have hab:a ||| b<2 ^ 11:=Nat.or_lt_two_pow ha hb
 show IntKind.i64.wrap (((BitVec.ofInt 64 (a:Int) ||| BitVec.ofInt 64 (b:Int)).toNat:Nat):Int)=_
 rw [BitVec.ofInt_natCast,BitVec.ofInt_natCast,BitVec.toNat_or,BitVec.toNat_ofNat,BitVec.toNat_ofNat,Nat.mod_eq_of_lt (by omega),Nat.mod_eq_of_lt (by omega)]
 simp only [IntKind.wrap,IntKind.bits,IntKind.signed]
 simp
 omega
set_option maxRecDepth 20000 in
theorem inR17:∀ a:Fin 2048,(bits .andNot .i64 ((a.val:Nat):Int) 2046==0)=!(a.val.testBit 0):=by decide +kernel
set_option maxRecDepth 20000 in
theorem inL17:∀ a:Fin 2048,(bits .andNot .i64 ((a.val:Nat):Int) 2033==0)=!(a.val.testBit 1 || (a.val.testBit 2 || a.val.testBit 3)):=by decide +kernel
set_option maxRecDepth 20000 in
theorem dig17:∀ a:Fin 2048,(bits .andNot .i64 24 ((a.val:Nat):Int)==0)=(a.val.testBit 3 && a.val.testBit 4):=by decide +kernel
theorem any_rtl (K:List Int):K.any rtl=(K.any (fun k=>decide (k=((1:Nat):Int))) || (K.any (fun k=>decide (k=((2:Nat):Int))) || K.any (fun k=>decide (k=((3:Nat):Int))))):=by
 induction K with
 | nil=>rfl
 | cons k l ih =>
  simp only [List.any_cons]
  rw [ih]
  unfold rtl
  cases decide (k=1) <;> cases decide (k=2) <;> cases decide (k=3) <;> simp <;> assumption
end Bd
def PBd17 (p:Nat) (bd:Int→Int) (w:World):Prop:=(∀ c,0≤bd c∧bd c≤10)∧∀ c,Rune c→∀ W,Below w.heap.size w W→Calls Tryz.prog 15 #[.pointer (some ⟨p,0,none⟩),.int .i32 c] W (IntB W (bd c))
theorem PBd17.on {p:Nat} {bd:Int→Int} {w W:World} (h:PBd17 p bd w) (hb:Below w.heap.size w W):PBd17 p bd W:=⟨h.1,fun c hc W' hW=>h.2 c hc W' (bthen hb hW)⟩
theorem within17 (s t:Int) (w:World):Calls Tryz.prog 24 #[.int .i64 s,.int .i64 t] w (fun e w'=>e=.returned (.bool (bits .andNot .i64 s t==0))∧w'=w):=by
 go_enter Tryz.func24,Tryz.ntmps24
 go_wp2
 go_ret
 exact ⟨rfl,rfl⟩
theorem shl17 {k:Int} (h:0≤k∧k≤10):Op.shift .shl .i64 1 .i64 k=pure (.int .i64 (Bd.one k)):=by
 rcases Bd.cases11 h with rfl | rfl | rfl | rfl | rfl | rfl | rfl | rfl | rfl | rfl | rfl <;> rfl
theorem dir17 {p:Nat} {bd:Int→Int} {w:World} (hB:PBd17 p bd w) {c:Int} (hc:Rune c):Calls Tryz.prog 23 #[.pointer (some ⟨p,0,none⟩),.int .i32 c] w (IntB w (Bd.one (bd c))):=by
 have K:=Hd (hB.2 c hc w (Below.refl _ _))
 have hs:=shl17 (hB.1 c)
 clear hB
 generalize Bd.one (bd c)=o at *
 generalize bd c=k at *
 go_enter Tryz.func23,Tryz.ntmps23
 go_wp2_with fail
 refine (Uh K).mono ?_
 rintro e w1 ⟨rfl,b1⟩
 clear K
 go_wp2
 go_ret
 exact ⟨rfl,b1⟩
theorem rtl17 {k:Int} (h:0≤k∧k≤10):(bits .andNot .i64 (Bd.one k) 14==0)=Bd.rtl k:=by
 rcases Bd.cases11 h with rfl | rfl | rfl | rfl | rfl | rfl | rfl | rfl | rfl | rfl | rfl <;> decide +kernel
theorem has1_17 {p b:Nat} {bd:Int→Int} {w:World} (hB:PBd17 p bd w) (hb:w.cell? ⟨b,0,none⟩=some (.pointer (some ⟨p,0,none⟩))) {c:Int} (hc:Rune c):Calls Tryz.prog 22 #[.int .i32 c,.pointer (some ⟨b,0,none⟩)] w (BoolB w (Bd.rtl (bd c))):=by
 have K:=Hd (dir17 hB hc)
 have K2:=Hd (fun W=>within17 (Bd.one (bd c)) 14 W)
 rw [rtl17 (hB.1 c)] at K2
 clear hB
 generalize Bd.one (bd c)=o at *
 generalize Bd.rtl (bd c)=r at *
 go_enter Tryz.func22,Tryz.ntmps22
 go_wp2_with fail
 refine (Uh K).mono ?_
 rintro e w1 ⟨rfl,b1⟩
 clear K
 go_wp2_with fail
 refine ((Uh K2) _).mono ?_
 rintro e w2 ⟨rfl,rfl⟩
 clear K2
 go_wp2
 go_ret
 exact ⟨rfl,b1⟩
def IdxB (w:World) (b:Bool) (e:Ending) (w':World):Prop:=∃ n:Int,e=.returned (.int .i64 n)∧decide (0≤n)=b∧Below w.heap.size w w'
set_option maxRecDepth 8000 in
set_option maxHeartbeats 1000000 in
theorem idx17 (g b:Nat) (eg:∀ args w,(callFunc g args).run Tryz.prog w=.ok (.enter g args) w) (p:Int→Bool) (xv:Value) (X:List Int) (w:World) (hx:Sk .i32 w xv X) (hp:∀ k,k<X.length→∀ W,Below w.heap.size w W→Calls Tryz.prog g #[.int .i32 (X.getD k 0),.pointer (some ⟨b,0,none⟩)] W (BoolB W (p (X.getD k 0)))) :
  Calls Tryz.prog 38 #[xv,.func (.func g) #[] #[.pointer (some ⟨b,0,none⟩)]] w (IdxB w (X.any p)):=by
 have hlen:=hx.len
 have KP:=Hd hp
 have HC:Hid (∀ (k:Nat),k<X.length→∃ b off cap,xv=.slice (some ⟨b,off,none⟩) X.length cap∧∀ W,Below w.heap.size w W→W.cell? ⟨b,off+k,none⟩=some (.int .i32 (X.getD k 0))):=fun k hk=>by
  obtain ⟨b,off,cap,he,_,_,hc⟩:=hx.place (by omega)
  exact ⟨b,off,cap,he,fun W hW=>by rw [hW.cell (lt_of_cell? (hc k hk))]; exact hc k hk⟩
 have HNO:Hid ((∀ q,q<X.length→p (X.getD q 0)=false)→X.any p=false):=fun h=>Bd.any_no h
 have HYES:Hid (∀ q,q<X.length→p (X.getD q 0)=true→X.any p=true):=fun q hq h=>Bd.any_yes hq h
 obtain ⟨ao,cap,rfl,_,_⟩:=hx.shape
 clear hp hx
 generalize X.any p=hb at *
 go_enter Tryz.func38,Tryz.ntmps38
 go_wp2
 go_loopw [5,8] (fun _ iv wr=>∃ k:Nat,iv=.int .i64 k∧k≤X.length∧(∀ q,q<k→p (X.getD q 0)=false)∧Below w.heap.size w wr) (fun _ iv _=>X.length - (intOf iv).toNat)
 case atStart=>exact ⟨0,rfl,by omega,fun q h=>absurd h (by omega),Below.refl _ _⟩
 case round =>
  obtain ⟨k,rfl,hk,hq,hbr⟩:=hrel
  by_cases hlt:k<X.length
  ·have hL:(k:Int)<X.length:=by omega
   obtain ⟨b1,off,cp,he,hcx⟩:=(Uh HC) k hlt
   simp only [Value.slice.injEq] at he
   obtain ⟨rfl,-,rfl⟩:=he
   have x4:=hcx wr hbr
   have K:=Hd ((Uh KP) k hlt wr hbr)
   have HY:=Hd ((Uh HYES) k hlt)
   have HQ:Hid (p (X.getD k 0)=false→∀ q,q<k+1→p (X.getD q 0)=false):=fun h q hq'=>by
    rcases Nat.lt_or_ge q k with h1 | h1
    ·exact hq q h1
    ·rw [show q=k by omega]; exact h
   have HBR:=Hd hbr
   clear hcx hq hbr KP HC HNO HYES
   generalize p (X.getD k 0)=z at *
   generalize X.getD k 0=c at *
   cases z with
   | true =>
    have HT:=Hd ((Uh HY) rfl)
    clear HY HQ
    go_wp2_with (go_at_fn g; refine (Uh K).mono ?_; rintro e w1 ⟨rfl,b1⟩)
    have HB1:=Hd (bthen (Uh HBR) b1)
    clear K HBR
    go_ret
    exact ⟨_,rfl,by rw [Uh HT]; exact decide_eq_true (by omega),Uh HB1⟩
   | false =>
    have HQ2:=Hd ((Uh HQ) rfl)
    clear HY HQ
    go_wp2_with (go_at_fn g; refine (Uh K).mono ?_; rintro e w1 ⟨rfl,b1⟩)
    have HB1:=Hd (bthen (Uh HBR) b1)
    clear K HBR
    go_roundw
    case rel=>exact ⟨k+1,by go_num,by omega,Uh HQ2,Uh HB1⟩
    case measure=>simp [intOf]; omega
  ·have HT:=Hd ((Uh HNO) fun q h=>hq q (by omega))
   have hL:¬ ((k:Int)<X.length):=by omega
   have HBR:=Hd hbr
   clear hq hbr KP HC HNO HYES
   go_wp2
   go_ret
   exact ⟨_,rfl,by rw [Uh HT]; rfl,Uh HBR⟩
theorem con17 (g b:Nat) (eg:∀ args w,(callFunc g args).run Tryz.prog w=.ok (.enter g args) w) (p:Int→Bool) (xv:Value) (X:List Int) (w:World) (hx:Sk .i32 w xv X) (hp:∀ k,k<X.length→∀ W,Below w.heap.size w W→Calls Tryz.prog g #[.int .i32 (X.getD k 0),.pointer (some ⟨b,0,none⟩)] W (BoolB W (p (X.getD k 0)))) :
  Calls Tryz.prog 21 #[xv,.func (.func g) #[] #[.pointer (some ⟨b,0,none⟩)]] w (BoolB w (X.any p)):=by
 have K:=Hd (idx17 g b eg p xv X w hx hp)
 obtain ⟨ao,cap,rfl,_,_⟩:=hx.shape
 clear hp hx
 generalize X.any p=hb at *
 go_enter Tryz.func21,Tryz.ntmps21
 go_wp2_with fail
 refine (Uh K).mono ?_
 rintro e w1 ⟨n,rfl,hn,b1⟩
 subst hn
 clear K
 go_wp2
 go_ret
 exact ⟨rfl,b1⟩
theorem enters_has1:∀ args w,(callFunc 22 args).run Tryz.prog w=.ok (.enter 22 args) w:=enters_of Tryz.func22 (by kernel_rfl) rfl
set_option maxHeartbeats 1000000 in
theorem hasP17 {p:Nat} {bd:Int→Int} {w:World} (hB:PBd17 p bd w) {xv:Value} {X:List Int} (hx:Sk .i32 w xv X):Calls Tryz.prog 9 #[.pointer (some ⟨p,0,none⟩),xv] w (BoolB w (Bd.has (X.map bd))):=by
 have hmf:∀ (fn:Fn) (first cap:Array Value) (w:World),(Instr.makeFunc fn first cap).run Tryz.prog w=.ok (.func fn first cap) w:=fun _ _ _ _=>rfl
 have hb0:∀ o,Below w.heap.size w (w.alloc o):=fun o=>(Below.refl _ _).alloc (Nat.le_refl _) o
 have E:Bd.has (X.map bd)=X.any (fun c=>Bd.rtl (bd c)):=by unfold Bd.has; rw [List.any_map]; rfl
 have K:Hid (Calls Tryz.prog 21 #[xv,.func (.func 22) #[] #[.pointer (some ⟨w.heap.size,0,none⟩)]] (w.alloc (.cells #[.pointer (some ⟨p,0,none⟩)] 24)) (BoolB (w.alloc (.cells #[.pointer (some ⟨p,0,none⟩)] 24)) (Bd.has (X.map bd)))):=by
  rw [E]
  refine con17 _ _ enters_has1 _ xv X _ (hx.below (hb0 _)) fun k hk W hW=>has1_17 ((hB.on (hb0 _)).on hW) ?_ (rune_of hx hk)
  rw [hW.cell (by simp)]
  simp
 obtain ⟨ao,cap,rfl,_,_⟩:=hx.shape
 clear hB hx E
 generalize Bd.has (X.map bd)=hb at *
 go_enter Tryz.func9,Tryz.ntmps9
 go_wp2_with fail
 refine (Uh K).mono ?_
 rintro e w1 ⟨rfl,b1⟩
 have HB:=Hd (bthen (hb0 _) b1)
 clear K b1 hb0
 go_wp2
 go_ret
 exact ⟨rfl,Uh HB⟩
theorem hasN17 (w:World) (xv:Value) (X:List Int) (hx:Sk .i32 w xv X):Calls Tryz.prog 9 #[.pointer none,xv] w (BoolB w false):=by
 have hb0:∀ o,Below w.heap.size w (w.alloc o):=fun o=>(Below.refl _ _).alloc (Nat.le_refl _) o
 obtain ⟨ao,cap,rfl,_,_⟩:=hx.shape
 clear hx
 go_enter Tryz.func9,Tryz.ntmps9
 go_wp2
 go_ret
 exact ⟨rfl,hb0 _⟩
def LkH (w:World) (L:Nat) (f l a:Int) (sv:Value):Prop:=w.heap[L]?=some (.cells #[.int .i64 f,.int .i64 l,.int .i64 a,sv] 59 (0,0))
section
variable {w:World} {L:Nat} {f l a:Int} {sv:Value}
theorem LkH.c0 (h:LkH w L f l a sv):w.cell? ⟨L,0,none⟩=some (.int .i64 f):=cell_of (j:=0) h (by show 0<4; omega)
theorem LkH.c1 (h:LkH w L f l a sv):w.cell? ⟨L,1,none⟩=some (.int .i64 l):=cell_of (j:=1) h (by show 1<4; omega)
theorem LkH.c2 (h:LkH w L f l a sv):w.cell? ⟨L,2,none⟩=some (.int .i64 a):=cell_of (j:=2) h (by show 2<4; omega)
theorem LkH.c3 (h:LkH w L f l a sv):w.cell? ⟨L,3,none⟩=some sv:=cell_of (j:=3) h (by show 3<4; omega)
theorem LkH.fz (h:LkH w L f l a sv) (j:Nat):w.frozen? ⟨L,j,none⟩=false:=frozen_of h
theorem LkH.lt (h:LkH w L f l a sv):L<w.heap.size:=lt_of_cell? h.c0
theorem LkH.below {w':World} (h:LkH w L f l a sv) (hb:Below w.heap.size w w'):LkH w' L f l a sv:=by
 unfold LkH at *; rw [hb.block L (LkH.lt h)]; exact h
theorem LkH.set1 (h:LkH w L f l a sv) (x:Int):LkH (w.setCell ⟨L,1,none⟩ (.int .i64 x)) L f x a sv:=by unfold LkH at *; rw [set_block h]; rfl
theorem LkH.set2 (h:LkH w L f l a sv) (x:Int):LkH (w.setCell ⟨L,2,none⟩ (.int .i64 x)) L f l x sv:=by unfold LkH at *; rw [set_block h]; rfl
theorem LkH.set3 (h:LkH w L f l a sv) (x:Value):LkH (w.setCell ⟨L,3,none⟩ x) L f l a x:=by unfold LkH at *; rw [set_block h]; rfl
end
theorem old17 {w:World} {b j:Nat} {v:Value} (o:Obj) (h:w.cell? ⟨b,j,none⟩=some v):(w.alloc o).cell? ⟨b,j,none⟩=some v:=by
 rw [Below.cell ((Below.refl w.heap.size w).alloc (Nat.le_refl _) o) (lt_of_cell? h)]; exact h
theorem new17 (w:World) {cs:Array Value} {v:Value} (T:TypeId) {n j:Nat} (h:n=w.heap.size) (hv:cs[j]?=some v):(w.alloc (.cells cs T)).cell? ⟨n,j,none⟩=some v:=by
 subst h; simp [hv]
structure Cls17 (w:World) (L b r q s:Nat):Prop where
 hb:w.cell? ⟨b,0,none⟩=some (.pointer (some ⟨L,0,none⟩))
 hr:w.cell? ⟨r,0,none⟩=some (.func (.func 64) #[] #[.pointer (some ⟨b,0,none⟩)])
 hq:w.cell? ⟨q,0,none⟩=some (.func (.func 65) #[] #[.pointer (some ⟨b,0,none⟩)])
 s0:w.cell? ⟨s,0,none⟩=some (.func (.func 66) #[] #[.pointer (some ⟨r,0,none⟩),.pointer (some ⟨q,0,none⟩)])
 s1:w.cell? ⟨s,1,none⟩=some (.func (.func 67) #[] #[.pointer (some ⟨r,0,none⟩),.pointer (some ⟨b,0,none⟩)])
 s2:w.cell? ⟨s,2,none⟩=some (.func (.func 68) #[] #[.pointer (some ⟨r,0,none⟩),.pointer (some ⟨b,0,none⟩)])
 s3:w.cell? ⟨s,3,none⟩=some (.func (.func 69) #[] #[.pointer (some ⟨r,0,none⟩),.pointer (some ⟨b,0,none⟩)])
 s4:w.cell? ⟨s,4,none⟩=some (.func (.func 70) #[] #[.pointer (some ⟨q,0,none⟩),.pointer (some ⟨b,0,none⟩)])
 s5:w.cell? ⟨s,5,none⟩=some (.func (.func 71) #[] #[.pointer (some ⟨q,0,none⟩),.pointer (some ⟨b,0,none⟩)])
def RofB (w:World) (L:Nat) (e:Ending) (w':World):Prop:=∃ b r q s,e=.returned (.slice (some ⟨s,0,none⟩) 6 6)∧Cls17 w' L b r q s∧(w.heap.size≤b∧w.heap.size≤r∧w.heap.size≤q∧w.heap.size≤s)∧Below w.heap.size w w'
set_option maxRecDepth 8000 in
set_option maxHeartbeats 1000000 in
theorem rulesOf17 (L:Nat) (w:World):Calls Tryz.prog 40 #[.pointer (some ⟨L,0,none⟩)] w (RofB w L):=by
 have hmf:∀ (fn:Fn) (first cap:Array Value) (w:World),(Instr.makeFunc fn first cap).run Tryz.prog w=.ok (.func fn first cap) w:=fun _ _ _ _=>rfl
 have hst:∀ W a m fn x y,(store a (.func fn x y) m).run Tryz.prog W=stored Tryz.prog W a (.func fn x y) m:=fun W a m fn x y=>run_store Tryz.prog W a _ m rfl
 go_enter Tryz.func40,Tryz.ntmps40
 go_wp2
 go_ret
 refine ⟨w.heap.size,w.heap.size+1,w.heap.size+1+1,w.heap.size+1+1+1,rfl,?_,⟨by omega,by omega,by omega,by omega⟩,?_⟩
 ·constructor
  ·exact old17 _ (old17 _ (old17 _ (new17 _ _ rfl (by simp))))
  ·exact old17 _ (old17 _ (new17 _ _ (by simp) (by simp)))
  ·exact old17 _ (new17 _ _ (by simp) (by simp))
  all_goals exact new17 _ _ (by simp) (by simp)
 ·exact (((((Below.refl _ _).alloc (Nat.le_refl _) _).alloc (by simp) _).alloc (by simp; omega) _).alloc (by simp; omega) _)
def Sm17 (w:World) (b:Bool) (e:Ending) (w':World):Prop:=e=.returned (.bool b)∧w'=w
theorem enters_r1:∀ args w,(callFunc 64 args).run Tryz.prog w=.ok (.enter 64 args) w:=enters_of Tryz.func64 (by kernel_rfl) rfl
theorem enters_r2:∀ args w,(callFunc 65 args).run Tryz.prog w=.ok (.enter 65 args) w:=enters_of Tryz.func65 (by kernel_rfl) rfl
theorem enters_r3:∀ args w,(callFunc 66 args).run Tryz.prog w=.ok (.enter 66 args) w:=enters_of Tryz.func66 (by kernel_rfl) rfl
theorem enters_r4:∀ args w,(callFunc 67 args).run Tryz.prog w=.ok (.enter 67 args) w:=enters_of Tryz.func67 (by kernel_rfl) rfl
theorem enters_r5:∀ args w,(callFunc 68 args).run Tryz.prog w=.ok (.enter 68 args) w:=enters_of Tryz.func68 (by kernel_rfl) rfl
theorem enters_r6:∀ args w,(callFunc 69 args).run Tryz.prog w=.ok (.enter 69 args) w:=enters_of Tryz.func69 (by kernel_rfl) rfl
theorem enters_r7:∀ args w,(callFunc 70 args).run Tryz.prog w=.ok (.enter 70 args) w:=enters_of Tryz.func70 (by kernel_rfl) rfl
theorem enters_r8:∀ args w,(callFunc 71 args).run Tryz.prog w=.ok (.enter 71 args) w:=enters_of Tryz.func71 (by kernel_rfl) rfl
theorem fr17 {w:World} {L b r q s:Nat} {f l a:Int} {sv:Value} (C:Cls17 w L b r q s) (H:LkH w L f l a sv):Calls Tryz.prog 64 #[.pointer (some ⟨b,0,none⟩)] w (Sm17 w (bits .andNot .i64 f 6==0)):=by
 have x0:=C.hb
 have x1:=H.c0
 have K:=Hd (within17 f 6 w)
 clear C H
 generalize (bits .andNot .i64 f 6==0)=R at *
 go_enter Tryz.func64,Tryz.ntmps64
 go_wp2_with fail
 refine (Uh K).mono ?_
 rintro e w1 ⟨rfl,rfl⟩
 clear K
 go_wp2
 go_ret
 exact ⟨rfl,rfl⟩
theorem fl17 {w:World} {L b r q s:Nat} {f l a:Int} {sv:Value} (C:Cls17 w L b r q s) (H:LkH w L f l a sv):Calls Tryz.prog 65 #[.pointer (some ⟨b,0,none⟩)] w (Sm17 w (bits .andNot .i64 f 1==0)):=by
 have x0:=C.hb
 have x1:=H.c0
 have K:=Hd (within17 f 1 w)
 clear C H
 generalize (bits .andNot .i64 f 1==0)=R at *
 go_enter Tryz.func65,Tryz.ntmps65
 go_wp2_with fail
 refine (Uh K).mono ?_
 rintro e w1 ⟨rfl,rfl⟩
 clear K
 go_wp2
 go_ret
 exact ⟨rfl,rfl⟩
theorem cl0_17 {w:World} {L b r q s:Nat} {f l a:Int} {sv:Value} (C:Cls17 w L b r q s) (H:LkH w L f l a sv):Calls Tryz.prog 66 #[.pointer (some ⟨r,0,none⟩),.pointer (some ⟨q,0,none⟩)] w (Sm17 w ((bits .andNot .i64 f 6==0) || (bits .andNot .i64 f 1==0))):=by
 have x0:=C.hr
 have x1:=C.hq
 have e1:=enters_r1
 have e2:=enters_r2
 have K:=Hd (fr17 C H)
 have K2:=Hd (fl17 C H)
 clear C H
 generalize (bits .andNot .i64 f 6==0)=R at *
 generalize (bits .andNot .i64 f 1==0)=Q at *
 go_enter Tryz.func66,Tryz.ntmps66
 cases R with
 | true =>
  go_wp2_with (go_at_fn 64; refine (Uh K).mono ?_; rintro e w1 ⟨rfl,rfl⟩)
  go_ret
  exact ⟨rfl,rfl⟩
 | false =>
  go_wp2_with (first | (go_at_fn 64; refine (Uh K).mono ?_; rintro e w1 ⟨rfl,rfl⟩) | (go_at_fn 65; refine (Uh K2).mono ?_; rintro e w1 ⟨rfl,rfl⟩))
  go_ret
  exact ⟨rfl,rfl⟩
theorem cl1_17 {w:World} {L b r q s:Nat} {f l a:Int} {sv:Value} (C:Cls17 w L b r q s) (H:LkH w L f l a sv):Calls Tryz.prog 67 #[.pointer (some ⟨r,0,none⟩),.pointer (some ⟨b,0,none⟩)] w (Sm17 w (!(bits .andNot .i64 f 6==0) || (bits .andNot .i64 a 2046==0))):=by
 have x0:=C.hr
 have x1:=C.hb
 have x2:=H.c2
 have e1:=enters_r1
 have K:=Hd (fr17 C H)
 have K2:=Hd (within17 a 2046 w)
 clear C H
 generalize (bits .andNot .i64 f 6==0)=R at *
 generalize (bits .andNot .i64 a 2046==0)=Q at *
 go_enter Tryz.func67,Tryz.ntmps67
 cases R with
 | false =>
  go_wp2_with (go_at_fn 64; refine (Uh K).mono ?_; rintro e w1 ⟨rfl,rfl⟩)
  go_ret
  exact ⟨rfl,rfl⟩
 | true =>
  go_wp2_with (first | (go_at_fn 64; refine (Uh K).mono ?_; rintro e w1 ⟨rfl,rfl⟩) | (refine (Uh K2).mono ?_; rintro e w1 ⟨rfl,rfl⟩))
  go_ret
  exact ⟨rfl,rfl⟩
theorem cl2_17 {w:World} {L b r q s:Nat} {f l a:Int} {sv:Value} (C:Cls17 w L b r q s) (H:LkH w L f l a sv):Calls Tryz.prog 68 #[.pointer (some ⟨r,0,none⟩),.pointer (some ⟨b,0,none⟩)] w (Sm17 w (!(bits .andNot .i64 f 6==0) || (bits .andNot .i64 l 30==0))):=by
 have x0:=C.hr
 have x1:=C.hb
 have x2:=H.c1
 have e1:=enters_r1
 have K:=Hd (fr17 C H)
 have K2:=Hd (within17 l 30 w)
 clear C H
 generalize (bits .andNot .i64 f 6==0)=R at *
 generalize (bits .andNot .i64 l 30==0)=Q at *
 go_enter Tryz.func68,Tryz.ntmps68
 cases R with
 | false =>
  go_wp2_with (go_at_fn 64; refine (Uh K).mono ?_; rintro e w1 ⟨rfl,rfl⟩)
  go_ret
  exact ⟨rfl,rfl⟩
 | true =>
  go_wp2_with (first | (go_at_fn 64; refine (Uh K).mono ?_; rintro e w1 ⟨rfl,rfl⟩) | (refine (Uh K2).mono ?_; rintro e w1 ⟨rfl,rfl⟩))
  go_ret
  exact ⟨rfl,rfl⟩
theorem cl3_17 {w:World} {L b r q s:Nat} {f l a:Int} {sv:Value} (C:Cls17 w L b r q s) (H:LkH w L f l a sv):Calls Tryz.prog 69 #[.pointer (some ⟨r,0,none⟩),.pointer (some ⟨b,0,none⟩)] w (Sm17 w (!(bits .andNot .i64 f 6==0) || !(bits .andNot .i64 24 a==0))):=by
 have x0:=C.hr
 have x1:=C.hb
 have x2:=H.c2
 have e1:=enters_r1
 have K:=Hd (fr17 C H)
 have K2:=Hd (within17 24 a w)
 clear C H
 generalize (bits .andNot .i64 f 6==0)=R at *
 generalize (bits .andNot .i64 24 a==0)=Q at *
 go_enter Tryz.func69,Tryz.ntmps69
 cases R with
 | false =>
  go_wp2_with (go_at_fn 64; refine (Uh K).mono ?_; rintro e w1 ⟨rfl,rfl⟩)
  go_ret
  exact ⟨rfl,rfl⟩
 | true =>
  go_wp2_with (first | (go_at_fn 64; refine (Uh K).mono ?_; rintro e w1 ⟨rfl,rfl⟩) | (refine (Uh K2).mono ?_; rintro e w1 ⟨rfl,rfl⟩))
  go_ret
  exact ⟨rfl,rfl⟩
theorem cl4_17 {w:World} {L b r q s:Nat} {f l a:Int} {sv:Value} (C:Cls17 w L b r q s) (H:LkH w L f l a sv):Calls Tryz.prog 70 #[.pointer (some ⟨q,0,none⟩),.pointer (some ⟨b,0,none⟩)] w (Sm17 w (!(bits .andNot .i64 f 1==0) || (bits .andNot .i64 a 2033==0))):=by
 have x0:=C.hq
 have x1:=C.hb
 have x2:=H.c2
 have e1:=enters_r2
 have K:=Hd (fl17 C H)
 have K2:=Hd (within17 a 2033 w)
 clear C H
 generalize (bits .andNot .i64 f 1==0)=R at *
 generalize (bits .andNot .i64 a 2033==0)=Q at *
 go_enter Tryz.func70,Tryz.ntmps70
 cases R with
 | false =>
  go_wp2_with (go_at_fn 65; refine (Uh K).mono ?_; rintro e w1 ⟨rfl,rfl⟩)
  go_ret
  exact ⟨rfl,rfl⟩
 | true =>
  go_wp2_with (first | (go_at_fn 65; refine (Uh K).mono ?_; rintro e w1 ⟨rfl,rfl⟩) | (refine (Uh K2).mono ?_; rintro e w1 ⟨rfl,rfl⟩))
  go_ret
  exact ⟨rfl,rfl⟩
theorem cl5_17 {w:World} {L b r q s:Nat} {f l a:Int} {sv:Value} (C:Cls17 w L b r q s) (H:LkH w L f l a sv):Calls Tryz.prog 71 #[.pointer (some ⟨q,0,none⟩),.pointer (some ⟨b,0,none⟩)] w (Sm17 w (!(bits .andNot .i64 f 1==0) || (bits .andNot .i64 l 17==0))):=by
 have x0:=C.hq
 have x1:=C.hb
 have x2:=H.c1
 have e1:=enters_r2
 have K:=Hd (fl17 C H)
 have K2:=Hd (within17 l 17 w)
 clear C H
 generalize (bits .andNot .i64 f 1==0)=R at *
 generalize (bits .andNot .i64 l 17==0)=Q at *
 go_enter Tryz.func71,Tryz.ntmps71
 cases R with
 | false =>
  go_wp2_with (go_at_fn 65; refine (Uh K).mono ?_; rintro e w1 ⟨rfl,rfl⟩)
  go_ret
  exact ⟨rfl,rfl⟩
 | true =>
  go_wp2_with (first | (go_at_fn 65; refine (Uh K).mono ?_; rintro e w1 ⟨rfl,rfl⟩) | (refine (Uh K2).mono ?_; rintro e w1 ⟨rfl,rfl⟩))
  go_ret
  exact ⟨rfl,rfl⟩
namespace Bd
def lm (K:List Int):Int:=K.foldl (fun l k=>if k=10 then l else one k) 0
theorem lm_snoc (K:List Int) (k:Int):lm (K++[k])=if k=10 then lm K else one k:=by
 unfold lm; rw [List.foldl_append]; rfl
theorem map_snoc {X:List Int} {bd:Int→Int} {k:Nat} (h:k<X.length):(X.take (k+1)).map bd=(X.take k).map bd++[bd (X.getD k 0)]:=by
 rw [take_snoc h,List.map_append]; rfl
theorem fit_map {bd:Int→Int} (h:∀ c,0≤bd c∧bd c≤10) (X:List Int):Fit (X.map bd):=by
 intro k hk
 obtain ⟨c,_,rfl⟩:=List.mem_map.1 hk
 exact h c
theorem one_lt {k:Int} (h:0≤k∧k≤10):2 ^ k.toNat<2048:=pow_lt h
end Bd
theorem Cls17.set {w:World} {L b r q s B j:Nat} (h:Cls17 w L b r q s) (hB:L<B) (hs:B≤b∧B≤r∧B≤q∧B≤s) (v:Value):Cls17 (w.setCell ⟨L,j,none⟩ v) L b r q s:=by
 have k:∀ {b j':Nat} {u:Value},B≤b→w.cell? ⟨b,j',none⟩=some u→(w.setCell ⟨L,j,none⟩ v).cell? ⟨b,j',none⟩=some u:=fun {b j' u} hl h=>by
  rw [World.cell?_of_block (a:=⟨b,j',none⟩) (Below.heap_setCell _ _ _ _ (fun e=>by have:b=L:=e; omega))]; exact h
 obtain ⟨h1,h2,h3,h4⟩:=hs
 exact ⟨k h1 h.hb,k h2 h.hr,k h3 h.hq,k h4 h.s0,k h4 h.s1,k h4 h.s2,k h4 h.s3,k h4 h.s4,k h4 h.s5⟩
def LookB (w:World) (f l a:Int) (e:Ending) (w':World):Prop:=∃ L b r q s,e=.returned (.pointer (some ⟨L,0,none⟩))∧LkH w' L f l a (.slice (some ⟨s,0,none⟩) 6 6)∧Cls17 w' L b r q s∧Below w.heap.size w w'
set_option maxRecDepth 8000 in
set_option maxHeartbeats 2000000 in
theorem lookAt17 {p:Nat} {bd:Int→Int} {w:World} (hB:PBd17 p bd w) {xv:Value} {X:List Int} (hx:Sk .i32 w xv X) (h0:0<X.length):Calls Tryz.prog 26 #[.pointer (some ⟨p,0,none⟩),xv] w (LookB w (Bd.one (bd (X.getD 0 0))) (Bd.lm (X.map bd)) ((Bd.msk (X.map bd):Nat):Int)):=by
 have hlen:=hx.len
 have KD:Hid (∀ (k:Nat),k<X.length→∀ W,Below w.heap.size w W→Calls Tryz.prog 23 #[.pointer (some ⟨p,0,none⟩),.int .i32 (X.getD k 0)] W (IntB W (Bd.one (bd (X.getD k 0))))):=fun k hk W hW=>dir17 (hB.on hW) (rune_of hx hk)
 have HBD:=Hd hB.1
 obtain ⟨b,off,cap,rfl,hc1,hc2,hc⟩:=hx.place (by omega)
 have HC:Hid (∀ (k:Nat),k<X.length→∀ W,Below w.heap.size w W→W.cell? ⟨b,off+k,none⟩=some (.int .i32 (X.getD k 0))):=fun k hk W hW=>by
  rw [hW.cell (lt_of_cell? (hc k hk))]; exact hc k hk
 have x0:=(Uh HC) 0 h0 w (Below.refl _ _)
 have K:=Hd ((Uh KD) 0 h0 w (Below.refl _ _))
 have HE:Hid (X.take X.length=X):=List.take_length
 have HM:Hid (∀ k:Nat,k<X.length→bits .or .i64 ((Bd.msk ((X.take k).map bd):Nat):Int) (Bd.one (bd (X.getD k 0)))=((Bd.msk ((X.take (k+1)).map bd):Nat):Int)):=fun k hk=>by
  rw [Bd.map_snoc hk,Bd.msk_snoc]
  exact Bd.or17 (Bd.msk_lt (Bd.fit_map hB.1 _)) (Bd.one_lt (hB.1 _))
 have HL:Hid (∀ k:Nat,k<X.length→Bd.lm ((X.take (k+1)).map bd)=if bd (X.getD k 0)=10 then Bd.lm ((X.take k).map bd) else Bd.one (bd (X.getD k 0))):=fun k hk=>by
  rw [Bd.map_snoc hk,Bd.lm_snoc]
 have HZ:Hid (∀ k:Nat,(bd (X.getD k 0)=10→Bd.one (bd (X.getD k 0))=1024)∧(bd (X.getD k 0)≠10→(Bd.one (bd (X.getD k 0)) != 1024)=true)):=fun k=>by
  have h:=hB.1 (X.getD k 0)
  generalize bd (X.getD k 0)=z at *
  refine ⟨fun e=>by subst e; rfl,fun hz=>?_⟩
  rcases Bd.cases11 h with rfl | rfl | rfl | rfl | rfl | rfl | rfl | rfl | rfl | rfl | rfl <;> first | rfl | exact absurd rfl hz
 have KR:=Hd (fun L W=>rulesOf17 L W)
 clear hB hx hc
 rw [Nat.add_zero] at x0
 generalize Bd.one (bd (X.getD 0 0))=f at *
 generalize X.getD 0 0=c0 at *
 go_enter Tryz.func26,Tryz.ntmps26
 go_wp2_with fail
 refine (Uh K).mono ?_
 rintro e w1 ⟨rfl,b1⟩
 have HB1:=Hd b1
 have hs1:=b1.size
 clear K b1 x0
 have HS:Hid (LkH (w1.alloc (.cells #[.int .i64 f,.int .i64 0,.int .i64 0,.slice none 0 0] 59)) w1.heap.size f 0 0 (.slice none 0 0)):=by
  show (w1.heap.push _)[w1.heap.size]?=_
  simp
 have HB2:Hid (Below w.heap.size w (w1.alloc (.cells #[.int .i64 f,.int .i64 0,.int .i64 0,.slice none 0 0] 59))):=(Uh HB1).alloc hs1 _
 go_wp2
 generalize hLe:w1.heap.size=L at *
 clear hLe HB1
 go_loopw [7,8,18] (fun _ _ iv wr=>∃ k:Nat,iv=.int .i64 k∧k≤X.length∧LkH wr L f (Bd.lm ((X.take k).map bd)) ((Bd.msk ((X.take k).map bd):Nat):Int) (.slice none 0 0)∧Below w.heap.size w wr) (fun _ _ iv _=>X.length - (intOf iv).toNat)
 case atStart=>exact ⟨0,rfl,by omega,Uh HS,Uh HB2⟩
 case round =>
  obtain ⟨k,rfl,hk,hlk,hbr⟩:=hrel
  clear HS HB2
  by_cases hlt:k<X.length
  ·have hL:(k:Int)<X.length:=by omega
   have x4:=(Uh HC) k hlt wr hbr
   have K:=Hd ((Uh KD) k hlt wr hbr)
   have hm:=(Uh HM) k hlt
   have HLk:=Hd ((Uh HL) k hlt)
   have HZk:=Hd ((Uh HZ) k)
   have HBR:=Hd hbr
   have HLK:=Hd hlk
   clear hlk hbr KD HC HM HL HZ HE KR HBD
   have HREL:Hid (∀ W,LkH W L f (Bd.lm ((X.take (k+1)).map bd)) ((Bd.msk ((X.take (k+1)).map bd):Nat):Int) (.slice none 0 0)→Below w.heap.size w W→∃ n:Nat,Value.int .i64 ((k:Int)+1)=.int .i64 (n:Int)∧n≤X.length∧LkH W L f (Bd.lm ((X.take n).map bd)) ((Bd.msk ((X.take n).map bd):Nat):Int) (.slice none 0 0)∧Below w.heap.size w W):=fun W h1 h2=>⟨k+1,by go_num,by omega,h1,h2⟩
   generalize Bd.lm ((X.take (k+1)).map bd)=l2 at *
   generalize Bd.lm ((X.take k).map bd)=l1 at *
   generalize ((Bd.msk ((X.take (k+1)).map bd):Nat):Int)=a2 at *
   generalize ((Bd.msk ((X.take k).map bd):Nat):Int)=a1 at *
   generalize Bd.one (bd (X.getD k 0))=o at *
   generalize bd (X.getD k 0)=z at *
   generalize X.getD k 0=c at *
   go_wp2_with fail
   refine (Uh K).mono ?_
   rintro e w2 ⟨rfl,b2⟩
   have H2:=(Uh HLK).below b2
   have y2:=H2.c2
   have y3:=H2.fz 2
   have y4:=(H2.set2 a2).c1
   have y5:=(H2.set2 a2).fz 1
   have HB3:=Hd (below_set (bthen (Uh HBR) b2) hs1 (j:=2) (.int .i64 a2))
   by_cases hz:z=10
   ·obtain rfl:=(Uh HZk).1 hz
    have hl2:=Uh HLk
    rw [if_pos hz] at hl2
    subst hl2
    have HF:=Hd (H2.set2 a2)
    clear K x4 HZk HLk HBR HLK b2 H2 y4 y5
    go_wp2
    go_roundw
    case rel=>exact (Uh HREL) _ (Uh HF) (Uh HB3)
    case measure=>simp [intOf]; omega
   ·have ho:=(Uh HZk).2 hz
    have hl2:=Uh HLk
    rw [if_neg hz] at hl2
    subst hl2
    have HF:=Hd ((H2.set2 a2).set1 l2)
    have HB4:=Hd (below_set (Uh HB3) hs1 (j:=1) (.int .i64 l2))
    clear K x4 HZk HLk HBR HLK b2 H2
    go_wp2
    go_roundw
    case rel=>exact (Uh HREL) _ (Uh HF) (Uh HB4)
    case measure=>simp [intOf]; omega
  ·have hk2:k=X.length:=by omega
   subst hk2
   rw [Uh HE] at hlk
   have HBR:=Hd hbr
   have K:=Hd ((Uh KR) L wr)
   have HLK:=Hd hlk
   clear hbr hlk KD HC HM HL HZ HE KR HBD
   generalize Bd.lm (X.map bd)=l1 at *
   generalize ((Bd.msk (X.map bd):Nat):Int)=a1 at *
   go_wp2_with fail
   refine (Uh K).mono ?_
   rintro e w2 ⟨b2,r2,q2,s2,rfl,hcl,hbs,hb2⟩
   have H2:=(Uh HLK).below hb2
   have y2:=H2.c3
   have y3:=H2.fz 3
   have HF:Hid (LookB w f l1 a1 (.returned (.pointer (some ⟨L,0,none⟩))) (w2.setCell ⟨L,3,none⟩ (.slice (some ⟨s2,0,none⟩) 6 6))):=⟨L,b2,r2,q2,s2,rfl,H2.set3 _,hcl.set (Uh HLK).lt hbs _,below_set (bthen (Uh HBR) hb2) hs1 _⟩
   clear K HBR HLK H2 hcl hbs hb2
   go_wp2
   go_ret
   exact Uh HF
namespace Bd
def hold (f l a:Int):Nat→Bool
 | 0=>(bits .andNot .i64 f 6==0) || (bits .andNot .i64 f 1==0)
 | 1=>!(bits .andNot .i64 f 6==0) || (bits .andNot .i64 a 2046==0)
 | 2=>!(bits .andNot .i64 f 6==0) || (bits .andNot .i64 l 30==0)
 | 3=>!(bits .andNot .i64 f 6==0) || !(bits .andNot .i64 24 a==0)
 | 4=>!(bits .andNot .i64 f 1==0) || (bits .andNot .i64 a 2033==0)
 | _=>!(bits .andNot .i64 f 1==0) || (bits .andNot .i64 l 17==0)
def acc (h:Nat→Bool):Nat→Nat
 | 0=>0
 | k+1=>if h k=true then acc h k else acc h k ||| 2 ^ k
theorem acc_lt (h:Nat→Bool):∀ k,k≤6→acc h k<2 ^ 11
 | 0,_=>by show 0<2 ^ 11; decide
 | k+1,hk=>by
  have ih:=acc_lt h k (by omega)
  rw [acc]
  split
  ·exact ih
  ·exact Nat.or_lt_two_pow ih (Nat.pow_lt_pow_right (by omega) (by omega))
theorem acc6 (h:Nat→Bool):((acc h 6:Nat):Int)=(if h 0=true then 0 else 1)+(if h 1=true then 0 else 2)+(if h 2=true then 0 else 4)+(if h 3=true then 0 else 8)+(if h 4=true then 0 else 16)+(if h 5=true then 0 else 32):=by
 simp only [acc]
 generalize h 0=b0
 generalize h 1=b1
 generalize h 2=b2
 generalize h 3=b3
 generalize h 4=b4
 generalize h 5=b5
 cases b0 <;> cases b1 <;> cases b2 <;> cases b3 <;> cases b4 <;> cases b5 <;> rfl
theorem lst_fit {K:List Int} (h:Fit K):0≤lst K∧lst K≤10:=by
 unfold lst
 have key:∀ m:List Int,Fit m→0≤fst m∧fst m≤10:=by
  intro m
  induction m with
  | nil=>intro _; exact ⟨by decide,by decide⟩
  | cons k l ih =>
   intro hm
   show 0≤(if k=10 then fst l else k)∧(if k=10 then fst l else k)≤10
   split
   ·exact ih fun x hx=>hm x (List.mem_cons_of_mem _ hx)
   ·exact hm k (by simp)
 exact key _ fun x hx=>h x (List.mem_reverse.1 hx)
theorem lm_lst (K:List Int) (h:lst K≠10):lm K=one (lst K):=by
 obtain ⟨M,rfl⟩:∃ M:List Int,K=M.reverse:=⟨K.reverse,by rw [List.reverse_reverse]⟩
 induction M with
 | nil=>exact absurd rfl h
 | cons k l ih =>
  rw [List.reverse_cons] at *
  rw [lst_snoc] at *
  rw [lm_snoc]
  by_cases hk:k=10
  ·rw [if_pos hk] at *
   rw [if_pos hk]
   exact ih h
  ·rw [if_neg hk,if_neg hk]
theorem or_one {z:Int} (h:0≤z∧z≤10):(bits .andNot .i64 (one z) 6==0)=decide (z=1∨z=2)∧(bits .andNot .i64 (one z) 1==0)=decide (z=0)∧(bits .andNot .i64 (one z) 30==0)=decide (z=1∨z=2∨z=4∨z=3)∧(bits .andNot .i64 (one z) 17==0)=decide (z=0∨z=4):=by
 rcases cases11 h with rfl | rfl | rfl | rfl | rfl | rfl | rfl | rfl | rfl | rfl | rfl <;> decide +kernel
theorem acc_rules {K:List Int} (hK:Fit K) (h0:0<K.length):((acc (hold (one (K.getD 0 0)) (lm K) ((msk K:Nat):Int)) 6:Nat):Int)=rules K:=by
 have hz:0≤K.getD 0 0∧K.getD 0 0≤10:=hK _ (by simp [List.getD,h0])
 have hl:=msk_lt hK
 have e1:=inR17 ⟨msk K,hl⟩
 have e2:=inL17 ⟨msk K,hl⟩
 have e3:=dig17 ⟨msk K,hl⟩
 simp only at e1 e2 e3
 rw [bit_eq hK] at e1
 rw [bit_eq hK,bit_eq hK,bit_eq hK,← any_rtl] at e2
 rw [bit_eq hK,bit_eq hK] at e3
 rw [acc6]
 simp only [hold]
 rw [e1,e2,e3]
 obtain ⟨f1,f2,-,-⟩:=or_one hz
 rw [f1,f2]
 have hr:rules K=if ¬ (K.getD 0 0=0∨K.getD 0 0=1∨K.getD 0 0=2) then 1 else if K.getD 0 0=0 then r5 K+r6 K else r2 K+r3 K+r4 K:=by
  unfold rules; rw [if_neg (by omega)]
 rw [hr]
 clear hr
 have hne:=lst_ne h0
 have hlm:=lm_lst K
 obtain ⟨-,-,g3,g4⟩:=or_one (lst_fit hK)
 unfold r2 r3 r4 r5 r6
 generalize K.getD 0 0=z at *
 generalize hA:K.any rtl=A at *
 generalize hB:(K.any fun k=>decide (k=((0:Nat):Int)))=B at *
 generalize hC:(K.any fun k=>decide (k=((3:Nat):Int)))=C at *
 generalize hD:(K.any fun k=>decide (k=((4:Nat):Int)))=D at *
 by_cases k0:z=0
 ·subst k0
  rw [hlm (hne (by decide)),g4]
  generalize lst K=y at *
  simp
  cases A <;> simp
 ·by_cases k1:z=1∨z=2
  ·rw [hlm (hne (by omega)),g3]
   generalize lst K=y at *
   simp only [k0,k1,decide_true,decide_false]
   simp
   cases B <;> cases C <;> cases D <;> by_cases hy:y=1∨y=2∨y=4∨y=3 <;> simp [hy]
  ·simp [k0,k1]
end Bd
theorem wrap_pow17 {k:Nat} (h:k<6):wrap64 ((2:Int) ^ k)=((2 ^ k:Nat):Int):=by
 have:k=0∨k=1∨k=2∨k=3∨k=4∨k=5:=by omega
 rcases this with rfl | rfl | rfl | rfl | rfl | rfl <;> decide +kernel
theorem closures17 {w:World} {L b r q s:Nat} {f l a:Int} {sv:Value} (C:Cls17 w L b r q s) (H:LkH w L f l a sv) {k:Nat} (hk:k<6):∃ g c1 c2,w.cell? ⟨s,k,none⟩=some (.func (.func g) #[] #[.pointer (some ⟨c1,0,none⟩),.pointer (some ⟨c2,0,none⟩)])∧Calls Tryz.prog g #[.pointer (some ⟨c1,0,none⟩),.pointer (some ⟨c2,0,none⟩)] w (Sm17 w (Bd.hold f l a k))∧(∀ args w,(callFunc g args).run Tryz.prog w=.ok (.enter g args) w):=by
 match k,hk with
 | 0,_=>exact ⟨_,_,_,C.s0,cl0_17 C H,enters_r3⟩
 | 1,_=>exact ⟨_,_,_,C.s1,cl1_17 C H,enters_r4⟩
 | 2,_=>exact ⟨_,_,_,C.s2,cl2_17 C H,enters_r5⟩
 | 3,_=>exact ⟨_,_,_,C.s3,cl3_17 C H,enters_r6⟩
 | 4,_=>exact ⟨_,_,_,C.s4,cl4_17 C H,enters_r7⟩
 | 5,_=>exact ⟨_,_,_,C.s5,cl5_17 C H,enters_r8⟩
 | n+6,h=>exact absurd h (by omega)
set_option maxRecDepth 8000 in
set_option maxHeartbeats 2000000 in
theorem rulP17 {p:Nat} {bd:Int→Int} {w:World} (hB:PBd17 p bd w) {xv:Value} {X:List Int} (hx:Sk .i32 w xv X):Calls Tryz.prog 11 #[.pointer (some ⟨p,0,none⟩),xv] w (IntB w (Bd.rules (X.map bd))):=by
 rcases Nat.eq_zero_or_pos X.length with h0 | h0
 ·obtain rfl:X=[]:=List.eq_nil_of_length_eq_zero h0
  obtain ⟨ao,cap,rfl,_,_⟩:=hx.shape
  have HF:Hid (IntB w (Bd.rules (List.map bd [])) (.returned (.int .i64 0)) w):=⟨rfl,Below.refl _ _⟩
  clear hB hx h0
  generalize Bd.rules (List.map bd [])=rr at *
  go_enter Tryz.func11,Tryz.ntmps11
  go_wp2
  go_ret
  exact Uh HF
 ·have E:=Bd.acc_rules (Bd.fit_map hB.1 X) (by rw [List.length_map]; exact h0)
  rw [map_get17 h0] at E
  have K:=Hd (lookAt17 hB hx h0)
  have hlen:=hx.len
  obtain ⟨ao,cap,rfl,_,_⟩:=hx.shape
  rw [← E]
  clear hB hx E
  generalize Bd.one (bd (X.getD 0 0))=f at *
  generalize Bd.lm (X.map bd)=l at *
  generalize ((Bd.msk (X.map bd):Nat):Int)=a at *
  go_enter Tryz.func11,Tryz.ntmps11
  go_wp2_with fail
  refine (Uh K).mono ?_
  rintro e w1 ⟨L,b,r,q,s,rfl,hlk,hcl,b1⟩
  have y3:=hlk.c3
  have HK:Hid (∀ k,k<6→∃ g c1 c2,w1.cell? ⟨s,k,none⟩=some (.func (.func g) #[] #[.pointer (some ⟨c1,0,none⟩),.pointer (some ⟨c2,0,none⟩)])∧Calls Tryz.prog g #[.pointer (some ⟨c1,0,none⟩),.pointer (some ⟨c2,0,none⟩)] w1 (Sm17 w1 (Bd.hold f l a k))∧(∀ args w,(callFunc g args).run Tryz.prog w=.ok (.enter g args) w)):=fun k hk=>closures17 hcl hlk hk
  have HB:=Hd b1
  clear K hlk hcl b1
  generalize Bd.hold f l a=hd at *
  have HOR:Hid (∀ k,k<6→bits .or .i64 ((Bd.acc hd k:Nat):Int) ((2 ^ k:Nat):Int)=((Bd.acc hd k ||| 2 ^ k:Nat):Int)):=fun k hk=>Bd.or17 (Bd.acc_lt hd k (by omega)) (show 2 ^ k<2 ^ 11 from Nat.pow_lt_pow_right (by omega) (by omega))
  have HAC:Hid (∀ k,Bd.acc hd (k+1)=if hd k=true then Bd.acc hd k else Bd.acc hd k ||| 2 ^ k):=fun k=>rfl
  have HZ:Hid (Bd.acc hd 0=0):=rfl
  generalize Bd.acc hd=ac at *
  go_wp2
  go_loopw [5,6,7,22] (fun bv _ _ iv wr=>∃ k:Nat,bv=.int .i64 ((ac k:Nat):Int)∧iv=.int .i64 k∧k≤6∧wr=w1) (fun _ _ _ iv _=>6 - (intOf iv).toNat)
  case atStart=>exact ⟨0,by rw [Uh HZ]; rfl,rfl,by omega,rfl⟩
  case round =>
   obtain ⟨k,rfl,rfl,hk,rfl⟩:=hrel
   by_cases hlt:k<6
   ·have hL:(k:Int)<6:=by omega
    obtain ⟨g,c1,c2,x1,hc,eg⟩:=(Uh HK) k hlt
    have KC:=Hd hc
    have HAk:=(Uh HAC) k
    have hor:=(Uh HOR) k hlt
    have HW:=Hd (wrap_pow17 hlt)
    clear hc HK HAC HOR HZ y3
    cases hh:hd k with
    | true =>
     rw [hh] at KC HAk
     rw [if_pos rfl] at HAk
     clear hor hh HW
     have HAE:=Hd HAk
     clear HAk
     go_wp2_with (go_at_fn g; refine (Uh KC).mono ?_; rintro e w2 ⟨rfl,rfl⟩)
     go_roundw
     case rel=>exact ⟨k+1,by rw [Uh HAE],by go_num,by omega,trivial⟩
     case measure=>simp [intOf]; omega
    | false =>
     rw [hh] at KC HAk
     rw [if_neg (by decide)] at HAk
     have HAE:=Hd HAk
     have HO:=Hd hor
     clear HAk hh hor
     go_wp2_with (go_at_fn g; refine (Uh KC).mono ?_; rintro e w2 ⟨rfl,rfl⟩)
     go_roundw
     case rel=>exact ⟨k+1,by rw [Uh HAE,Uh HW,Uh HO],by go_num,by omega,trivial⟩
     case measure=>simp [intOf]; omega
   ·obtain rfl:k=6:=by omega
    clear HK HAC HOR HZ y3
    go_wp2
    go_ret
    exact ⟨rfl,Uh HB⟩
theorem rulN17 (w:World) (xv:Value) (X:List Int) (hx:Sk .i32 w xv X):Calls Tryz.prog 11 #[.pointer none,xv] w (IntB w 0):=by
 obtain ⟨ao,cap,rfl,_,_⟩:=hx.shape
 clear hx
 go_enter Tryz.func11,Tryz.ntmps11
 go_wp2
 go_ret
 exact ⟨rfl,Below.refl _ _⟩
theorem no_any17 {Xs:List (List Int)} {p:List Int→Bool} (h:∀ i,i<Xs.length→p (Xs.getD i [])=false):Xs.any p=false:=by
 rw [List.any_eq_false]
 intro x hx
 obtain ⟨i,hi,rfl⟩:=List.getElem_of_mem hx
 have:=h i hi
 simp only [List.getD,List.getElem?_eq_getElem hi,Option.getD_some] at this
 rw [this]; exact Bool.false_ne_true
theorem yes_any17 {Xs:List (List Int)} {p:List Int→Bool} {i:Nat} (hi:i<Xs.length) (h:p (Xs.getD i [])=true):Xs.any p=true:=by
 rw [List.any_eq_true]
 exact ⟨Xs.getD i [],by simp [List.getD,hi],h⟩
set_option maxRecDepth 8000 in
set_option maxHeartbeats 1000000 in
theorem idxD17 (g b:Nat) (eg:∀ args w,(callFunc g args).run Tryz.prog w=.ok (.enter g args) w) (p:List Int→Bool) (lv:Value) (Xs:List (List Int)) (w:World) (hx:Rws17 w lv Xs) (hp:∀ k,k<Xs.length→∀ W xv,Below w.heap.size w W→Sk .i32 W xv (Xs.getD k [])→Calls Tryz.prog g #[xv,.pointer (some ⟨b,0,none⟩)] W (BoolB W (p (Xs.getD k [])))) :
  Calls Tryz.prog 41 #[lv,.func (.func g) #[] #[.pointer (some ⟨b,0,none⟩)]] w (IdxB w (Xs.any p)):=by
 have hlen:=hx.1
 obtain ⟨ao,cap,rfl,_,_⟩:=hx.shape
 have HAT:Hid (∀ i,i<Xs.length→∀ W,Below w.heap.size w W→∃ b off xv,ao=some ⟨b,off,none⟩∧W.cell? ⟨b,off+i,none⟩=some xv∧Sk .i32 W xv (Xs.getD i [])):=fun i hi W hW=>(hx.below hW).at hi
 have KP:=Hd hp
 have HNO:Hid ((∀ q,q<Xs.length→p (Xs.getD q [])=false)→Xs.any p=false):=fun h=>no_any17 h
 have HYES:Hid (∀ q,q<Xs.length→p (Xs.getD q [])=true→Xs.any p=true):=fun q hq h=>yes_any17 hq h
 clear hp hx
 generalize Xs.any p=hb at *
 go_enter Tryz.func41,Tryz.ntmps41
 go_wp2
 go_loopw [5,8] (fun _ iv wr=>∃ k:Nat,iv=.int .i64 k∧k≤Xs.length∧(∀ q,q<k→p (Xs.getD q [])=false)∧Below w.heap.size w wr) (fun _ iv _=>Xs.length - (intOf iv).toNat)
 case atStart=>exact ⟨0,rfl,by omega,fun q h=>absurd h (by omega),Below.refl _ _⟩
 case round =>
  obtain ⟨k,rfl,hk,hq,hbr⟩:=hrel
  by_cases hlt:k<Xs.length
  ·have hL:(k:Int)<Xs.length:=by omega
   obtain ⟨b1,off,xv,rfl,x4,hsk⟩:=(Uh HAT) k hlt wr hbr
   have K:=Hd ((Uh KP) k hlt wr xv hbr hsk)
   obtain ⟨xa,xc,hxv,_,_⟩:=hsk.shape
   subst hxv
   have HY:=Hd ((Uh HYES) k hlt)
   have HQ:Hid (p (Xs.getD k [])=false→∀ q,q<k+1→p (Xs.getD q [])=false):=fun h q hq'=>by
    rcases Nat.lt_or_ge q k with h1 | h1
    ·exact hq q h1
    ·rw [show q=k by omega]; exact h
   have HBR:=Hd hbr
   clear hq hbr hsk HAT KP HNO HYES
   generalize p (Xs.getD k [])=z at *
   generalize (Xs.getD k []).length=xl at *
   cases z with
   | true =>
    have HT:=Hd ((Uh HY) rfl)
    clear HY HQ
    go_wp2_with (go_at_fn g; refine (Uh K).mono ?_; rintro e w1 ⟨rfl,b1⟩)
    have HB1:=Hd (bthen (Uh HBR) b1)
    clear K HBR
    go_ret
    exact ⟨_,rfl,by rw [Uh HT]; exact decide_eq_true (by omega),Uh HB1⟩
   | false =>
    have HQ2:=Hd ((Uh HQ) rfl)
    clear HY HQ
    go_wp2_with (go_at_fn g; refine (Uh K).mono ?_; rintro e w1 ⟨rfl,b1⟩)
    have HB1:=Hd (bthen (Uh HBR) b1)
    clear K HBR
    go_roundw
    case rel=>exact ⟨k+1,by go_num,by omega,Uh HQ2,Uh HB1⟩
    case measure=>simp [intOf]; omega
  ·have HT:=Hd ((Uh HNO) fun q h=>hq q (by omega))
   have hL:¬ ((k:Int)<Xs.length):=by omega
   have HBR:=Hd hbr
   clear hq hbr KP HAT HNO HYES
   go_wp2
   go_ret
   exact ⟨_,rfl,by rw [Uh HT]; rfl,Uh HBR⟩
theorem conD17 (g b:Nat) (eg:∀ args w,(callFunc g args).run Tryz.prog w=.ok (.enter g args) w) (p:List Int→Bool) (lv:Value) (Xs:List (List Int)) (w:World) (hx:Rws17 w lv Xs) (hp:∀ k,k<Xs.length→∀ W xv,Below w.heap.size w W→Sk .i32 W xv (Xs.getD k [])→Calls Tryz.prog g #[xv,.pointer (some ⟨b,0,none⟩)] W (BoolB W (p (Xs.getD k [])))) :
  Calls Tryz.prog 28 #[lv,.func (.func g) #[] #[.pointer (some ⟨b,0,none⟩)]] w (BoolB w (Xs.any p)):=by
 have K:=Hd (idxD17 g b eg p lv Xs w hx hp)
 obtain ⟨ao,cap,rfl,_,_⟩:=hx.shape
 clear hp hx
 generalize Xs.any p=hb at *
 go_enter Tryz.func28,Tryz.ntmps28
 go_wp2_with fail
 refine (Uh K).mono ?_
 rintro e w1 ⟨n,rfl,hn,b1⟩
 subst hn
 clear K
 go_wp2
 go_ret
 exact ⟨rfl,b1⟩
theorem enters_dom1:∀ args w,(callFunc 29 args).run Tryz.prog w=.ok (.enter 29 args) w:=enters_of Tryz.func29 (by kernel_rfl) rfl
theorem dom1_17 {pv:Option Addr} {b:Nat} {r:Bool} {w:World} {xv:Value} {X:List Int} (hx:Sk .i32 w xv X) (hH:Calls Tryz.prog 9 #[.pointer pv,xv] w (BoolB w r)) (hb:w.cell? ⟨b,0,none⟩=some (.pointer pv)):Calls Tryz.prog 29 #[xv,.pointer (some ⟨b,0,none⟩)] w (BoolB w r):=by
 have K:=Hd hH
 obtain ⟨ao,cap,rfl,_,_⟩:=hx.shape
 clear hH hx
 go_enter Tryz.func29,Tryz.ntmps29
 go_wp2_with fail
 refine (Uh K).mono ?_
 rintro e w1 ⟨rfl,b1⟩
 clear K
 go_wp2
 go_ret
 exact ⟨rfl,b1⟩
set_option maxHeartbeats 1000000 in
theorem domP17 {pv:Option Addr} {p:List Int→Bool} {w:World} {lv:Value} {Xs:List (List Int)} (hx:Rws17 w lv Xs) (hH:∀ W xv X,Below w.heap.size w W→Sk .i32 W xv X→Calls Tryz.prog 9 #[.pointer pv,xv] W (BoolB W (p X))):Calls Tryz.prog 13 #[.pointer pv,lv] w (BoolB w (Xs.any p)):=by
 have hmf:∀ (fn:Fn) (first cap:Array Value) (w:World),(Instr.makeFunc fn first cap).run Tryz.prog w=.ok (.func fn first cap) w:=fun _ _ _ _=>rfl
 have hb0:∀ o,Below w.heap.size w (w.alloc o):=fun o=>(Below.refl _ _).alloc (Nat.le_refl _) o
 have K:Hid (Calls Tryz.prog 28 #[lv,.func (.func 29) #[] #[.pointer (some ⟨w.heap.size,0,none⟩)]] (w.alloc (.cells #[.pointer pv] 24)) (BoolB (w.alloc (.cells #[.pointer pv] 24)) (Xs.any p))):=by
  refine conD17 _ _ enters_dom1 _ lv Xs _ (hx.below (hb0 _)) fun k hk W xv hW hs=>dom1_17 hs (hH W xv _ (bthen (hb0 _) hW) hs) ?_
  rw [hW.cell (by simp)]
  simp
 obtain ⟨ao,cap,rfl,_,_⟩:=hx.shape
 clear hH hx
 generalize Xs.any p=hb at *
 go_enter Tryz.func13,Tryz.ntmps13
 go_wp2_with fail
 refine (Uh K).mono ?_
 rintro e w1 ⟨rfl,b1⟩
 have HB:=Hd (bthen (hb0 _) b1)
 clear K b1 hb0
 go_wp2
 go_ret
 exact ⟨rfl,Uh HB⟩
end Go.Proofs.YtdjpjgjhiibpkaaGreatDoor
