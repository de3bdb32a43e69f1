/- Sq15 Ja16 Jb16 Jc16 Jd16 Je16 -/
import Derived.Test.YthhekhkbbkemjaaGreatDoorW2
import Derived.Laws.AppendOwnNone
import Derived.RangeFuncRecord
namespace Go.Proofs.YthhekhkbbkemjaaGreatDoor
open Go.RowKit
theorem infoR15:(Tryz.prog.info? 21).map (fun i=>(i.zero,i.size,i.bytes))=some (some (.int .i32 0),1,4):=by kernel_rfl
theorem lit15 (W:World) (zs:List Int) (n:Nat) (hn:zs.length=n) (h0:0<n) (hs:n≤100) (C:Array Value) (hC:C=(zs.map (Value.int .i32)).toArray) (hz:∀ z∈zs,-2147483648≤z∧z≤2147483647):Sk .i32 (W.alloc (.cells C 21)) (.slice (some ⟨W.heap.size,0,none⟩) n n) zs:=by
 have h:Ok .i32 21 (W.alloc (.cells C 21)) W.heap.size (.slice (some ⟨W.heap.size,0,none⟩) n n) zs:=by
  refine Ok.of (n:=n) (us:=zs.map (Value.int .i32)) (fun z h=>i32_fit (hz z h)) (by omega) ⟨by simp [hn],Or.inr ⟨W.heap.size,n,C,rfl,Nat.le_refl _,World.alloc_heap_new W _,Nat.le_refl _,by unfold maxLen; omega,by rw [hC]; simp [hn],by rw [hC]; exact List.take_of_length_le (by simp [hn])⟩⟩ hn.symm rfl
 exact h.sk
theorem ok_alloc15 {K:IntKind} {e:TypeId} {w:World} {B:Nat} {v:Value} {zs:List Int} (h:Ok K e w B v zs) (o:Obj):Ok K e (w.alloc o) B v zs:=⟨h.1,h.2.1,h.2.2.alloc o⟩
theorem alloc_size15 (w:World) (o:Obj):(w.alloc o).heap.size=w.heap.size+1:=by show (w.heap.push o).size=_; rw [Array.size_push]
theorem app_sk15 {w:World} {ops:Array Oper} {rest:List Oper} {o:Oper} {a:Act} {Q:Exit→Act→World→Prop} (hgd:o.guard=none) (s x:Operand)
  (ho:o.op=.call { callee:=.builtin .append,args:=#[s,x],argTypes:=#[23,23] }) (B:Nat) (v u:Value) (xs ys:List Int) (hs:a.eval s=v) (hx:a.eval x=u)
  (hv:Ok .i32 21 w B v xs) (hu:Sk .i32 w u ys) (hl:xs.length+ys.length≤1000000000) (hB:B≤w.heap.size)
  (h:∀ v' w',Ok .i32 21 w' B v' (xs++ys)→w.grownBy w' v.ownBlock→wpList Tryz.prog ops Q rest (a.put o.dst v') w'):wpList Tryz.prog ops Q (o :: rest) a w:=by
 obtain ⟨i0,hi,hz0,hz1,hz2⟩:=info_parts infoR15
 rcases hu.2.src with ⟨h0,rfl⟩ | ⟨ad,cap,hve,hcells⟩
 ·obtain rfl:ys=[]:=by simpa using h0
  refine wpList_append_own_none hgd s x 23 ho B 21 i0 1 Tryz.underlying23 hi v _ _ hs hv.row hx ?_
  exact h v w (by rw [List.append_nil]; exact hv) (World.grownBy.refl w _)
 ·rw [List.length_map] at hve
  subst hve
  refine wpList_append_own w hgd s x 23 ho B 21 i0 (.int .i32 0) 1 4 Tryz.underlying23 hi hz0 hz1 hz2 rfl (by decide) v _ _ hs hv.row ad ys.length cap (ys.map (Value.int .i32)) hx (by simp) hcells (ints_one .i32 ys) (by unfold maxLen; omega) (by omega) hB ?_
  intro v' w' h1 h2 _
  exact h v' w' (Ok.of (hv.1.app hu.1) (by simp; omega) h1 (by simp) (by simp)) h2
namespace Jn
def near (j:Int→Int):List Int→Int
 | []=>0
 | c :: l=>if j c=5 then near j l else j c
def lok (a:Int):Bool:=decide (a=2) || decide (a=3)
def rok (a:Int):Bool:=decide (a=1) || decide (a=3)
def vrl (cl:Int→Int):List Int→Bool
 | []=>false
 | v :: _=>decide (cl v=9)
def fx (cl j:Int→Int) (l:List Int) (c:Int) (r:List Int):Bool:=if c=8204 then vrl cl l || (lok (near j l) && rok (near j r)) else if c=8205 then vrl cl l else true
def lf (j:Int→Int) (X:List Int) (i:Nat):Int:=near j (X.take i).reverse
def rt (j:Int→Int) (X:List Int) (i:Nat):Int:=near j (X.drop i)
def vir (cl:Int→Int) (X:List Int) (i:Nat):Bool:=vrl cl (X.take i).reverse
def btw (j:Int→Int) (X:List Int) (i:Nat):Bool:=lok (lf j X i) && rok (rt j X (i+1))
def fit (cl j:Int→Int) (X:List Int) (i:Nat):Bool:=fx cl j (X.take i).reverse (X.getD i 0) (X.drop (i+1))
def fiti (cl j:Int→Int) (X:List Int) (i:Int):Bool:=decide (0≤i) && (decide (i<X.length) && fit cl j X i.toNat)
def chk (cl j:Int→Int) (X:List Int):Int:=match (List.range X.length).find? (fun i=>!fit cl j X i) with
 | some i=>i
 | none=>-1
variable {cl j:Int→Int} {X:List Int}
theorem fit_zw {i:Nat} (h:X.getD i 0=8204):fit cl j X i=(vir cl X i || btw j X i):=by
 unfold fit fx; rw [if_pos h]; rfl
theorem fit_zj {i:Nat} (h:X.getD i 0=8205):fit cl j X i=vir cl X i:=by
 unfold fit fx; rw [if_neg (by omega),if_pos h]; rfl
theorem fit_no {i:Nat} (h:X.getD i 0≠8204) (h2:X.getD i 0≠8205):fit cl j X i=true:=by
 unfold fit fx; rw [if_neg h,if_neg h2]
theorem take_snoc {i:Nat} (h:i<X.length):X.take (i+1)=X.take i++[X.getD i 0]:=by
 rw [List.take_add_one]; simp [List.getD,h]
theorem drop_cons {i:Nat} (h:i<X.length):X.drop i=X.getD i 0 :: X.drop (i+1):=by
 rw [List.drop_eq_getElem_cons h]; simp [List.getD,h]
theorem vir_zero:vir cl X 0=false:=rfl
theorem vir_succ {i:Nat} (h:i<X.length):vir cl X (i+1)=decide (cl (X.getD i 0)=9):=by
 unfold vir; rw [take_snoc h,List.reverse_append]; rfl
theorem lf_succ {i:Nat} (h:i<X.length):lf j X (i+1)=if j (X.getD i 0)=5 then lf j X i else j (X.getD i 0):=by
 unfold lf; rw [take_snoc h,List.reverse_append]; rfl
theorem lf_t {i:Nat} (h:i<X.length) (ht:j (X.getD i 0)=5):lf j X (i+1)=lf j X i:=by rw [lf_succ h,if_pos ht]
theorem lf_n {i:Nat} (h:i<X.length) (ht:j (X.getD i 0)≠5):lf j X (i+1)=j (X.getD i 0):=by rw [lf_succ h,if_neg ht]
theorem rt_end {i:Nat} (h:X.length≤i):rt j X i=0:=by unfold rt; rw [List.drop_eq_nil_of_le h]; rfl
theorem rt_at {i:Nat} (h:i<X.length):rt j X i=if j (X.getD i 0)=5 then rt j X (i+1) else j (X.getD i 0):=by
 unfold rt; rw [drop_cons h]; rfl
theorem rt_t {i:Nat} (h:i<X.length) (ht:j (X.getD i 0)=5):rt j X i=rt j X (i+1):=by rw [rt_at h,if_pos ht]
theorem rt_n {i:Nat} (h:i<X.length) (ht:j (X.getD i 0)≠5):rt j X i=j (X.getD i 0):=by rw [rt_at h,if_neg ht]
theorem lf_skip {a:Nat}:∀ k,a≤k→k≤X.length→(∀ m,a≤m→m<k→j (X.getD m 0)=5)→lf j X k=lf j X a
 | 0,h,_,_=>by rw [Nat.le_zero.1 h]
 | k+1,h,hk,ht=>by
  rcases Nat.lt_or_ge a (k+1) with h1 | h1
  ·rw [lf_t (by omega) (ht k (by omega) (by omega))]
   exact lf_skip k (by omega) (by omega) fun m h1 h2=>ht m h1 (by omega)
  ·rw [Nat.le_antisymm h h1]
theorem rt_skip {a:Nat}:∀ k,a≤k→k≤X.length→(∀ m,a≤m→m<k→j (X.getD m 0)=5)→rt j X a=rt j X k
 | 0,h,_,_=>by rw [Nat.le_zero.1 h]
 | k+1,h,hk,ht=>by
  rcases Nat.lt_or_ge a (k+1) with h1 | h1
  ·rw [← rt_t (by omega) (ht k (by omega) (by omega))]
   exact rt_skip k (by omega) (by omega) fun m h1 h2=>ht m h1 (by omega)
  ·rw [Nat.le_antisymm h h1]
theorem btw_row {i k e:Nat} (hb:btw j X i=true) (hi:X.getD i 0=8204) (hik:i<k) (hke:k<e) (he:e≤X.length) (ht:∀ m,i<m→m<e→j (X.getD m 0)=5) (hk:X.getD k 0=8204):btw j X k=true:=by
 have h5:j (X.getD i 0)=5:=by rw [hi,← hk]; exact ht k hik hke
 unfold btw at hb ⊢
 rw [lf_skip (a:=i) k (by omega) (by omega) (fun m h1 h2=>by
  rcases Nat.lt_or_ge i m with h | h
  ·exact ht m h (by omega)
  ·rw [show m=i by omega]; exact h5)]
 rw [← rt_skip (a:=i+1) (k+1) (by omega) (by omega) (fun m h1 h2=>ht m (by omega) (by omega))]
 exact hb
theorem chk_none (h:∀ i,i<X.length→fit cl j X i=true):chk cl j X=-1:=by
 unfold chk
 have:(List.range X.length).find? (fun i=>!fit cl j X i)=none:=by
  rw [List.find?_eq_none]
  intro i hi
  rw [h i (List.mem_range.1 hi)]; simp
 rw [this]
theorem chk_some {k:Nat} (hk:k<X.length) (h:∀ i,i<k→fit cl j X i=true) (hn:fit cl j X k=false):chk cl j X=k:=by
 unfold chk
 have:(List.range X.length).find? (fun i=>!fit cl j X i)=some k:=by
  rw [List.find?_eq_some_iff_append]
  refine ⟨by rw [hn]; rfl,List.range k,(List.range (X.length - k - 1)).map (k+1+·),?_,fun i hi=>?_⟩
  ·have e:X.length=k+(1+(X.length - k - 1)):=by omega
   conv=>lhs; rw [e]
   rw [List.range_add,List.range_add]
   simp [List.range_succ,Function.comp_def,Nat.add_assoc]
  ·rw [h i (List.mem_range.1 hi)]; rfl
 rw [this]
theorem chk_plain (h:∀ c∈X,c≠8204∧c≠8205):chk cl j X=-1:=by
 refine chk_none fun i hi=>?_
 have:=h (X.getD i 0) (by simp [List.getD,hi])
 exact fit_no this.1 this.2
def Led (cl:Int→Int) (X:List Int):Prop:=∀ i,i<X.length→(X.getD i 0=8204∨X.getD i 0=8205)→vir cl X i=true
theorem chk_led (h:Led cl X):chk cl j X=-1:=by
 refine chk_none fun i hi=>?_
 by_cases h1:X.getD i 0=8204
 ·rw [fit_zw h1,h i hi (.inl h1)]; rfl
 ·by_cases h2:X.getD i 0=8205
  ·rw [fit_zj h2,h i hi (.inr h2)]
  ·exact fit_no h1 h2
theorem Led.nil:Led cl []:=fun i hi=>by simp at hi
theorem getD_left {A B:List Int} {i:Nat} (h:i<A.length):(A++B).getD i 0=A.getD i 0:=by
 simp [List.getD,List.getElem?_append_left h]
theorem Led.snoc (h:Led cl X) (c:Int) (hc:(c=8204∨c=8205)→vir cl X X.length=true):Led cl (X++[c]):=by
 intro i hi hj
 rw [List.length_append] at hi
 simp at hi
 have e:vir cl (X++[c]) i=vir cl X i:=by unfold vir; rw [List.take_append_of_le_length (by omega)]
 rw [e]
 rcases Nat.lt_or_ge i X.length with h1 | h1
 ·rw [getD_left h1] at hj
  exact h i h1 hj
 ·have e2:i=X.length:=by omega
  subst e2
  apply hc
  simpa [List.getD] using hj
theorem vir_snoc (v:Int) (hv:cl v=9):vir cl (X++[v]) (X++[v]).length=true:=by
 unfold vir; rw [List.take_length,List.reverse_append]
 show decide (cl v=9)=true
 exact decide_eq_true hv
theorem Led.pair (h:Led cl X) (v c:Int) (hv:cl v=9) (hn:v≠8204∧v≠8205):Led cl (X++[v]++[c]):=(h.snoc v fun e=>(by omega)).snoc c fun _=>vir_snoc v hv
theorem near_stop {A B:List Int}:(∃ c∈A,j c≠5)→near j (A++B)=near j A:=by
 induction A with
 | nil=>intro ⟨c,hc,_⟩; cases hc
 | cons a A ih =>
  intro ⟨c,hc,hn⟩
  show (if j a=5 then near j (A++B) else j a)=if j a=5 then near j A else j a
  by_cases h:j a=5
  ·rw [if_pos h,if_pos h]
   refine ih ⟨c,?_,hn⟩
   rcases List.mem_cons.1 hc with rfl | hc
   ·exact absurd h hn
   ·exact hc
  ·rw [if_neg h,if_neg h]
theorem fx_near {P A M1 M2 Q B:List Int} {c:Int} (h1:(P=[]∧A=[])∨∃ x∈M1,j x≠5) (h2:(Q=[]∧B=[])∨∃ x∈M2,j x≠5):fx cl j (M1++P) c (M2++Q)=fx cl j (M1++A) c (M2++B):=by
 have e1:vrl cl (M1++P)=vrl cl (M1++A):=by
  rcases h1 with ⟨rfl,rfl⟩ | ⟨x,hx,_⟩
  ·rfl
  ·cases M1 with
   | nil=>cases hx
   | cons a M1=>rfl
 have e2:near j (M1++P)=near j (M1++A):=by
  rcases h1 with ⟨rfl,rfl⟩ | h
  ·rfl
  ·rw [near_stop h,near_stop h]
 have e3:near j (M2++Q)=near j (M2++B):=by
  rcases h2 with ⟨rfl,rfl⟩ | h
  ·rfl
  ·rw [near_stop h,near_stop h]
 unfold fx
 rw [e1,e2,e3]
theorem fit_parts (L R:List Int) (c:Int):fit cl j (L++c :: R) L.length=fx cl j L.reverse c R:=by
 unfold fit
 have e1:(L++c :: R).take L.length=L:=by simp
 have e2:(L++c :: R).getD L.length 0=c:=by simp [List.getD]
 have e3:(L++c :: R).drop (L.length+1)=R:=by rw [List.drop_append]; simp
 rw [e1,e2,e3]
theorem parts_of {lo i hi:Nat} (h1:lo≤i) (h2:i<hi) (h3:hi≤X.length):∃ P M1 c M2 Q,X=P++(M1++c :: (M2++Q))∧P.length=lo∧M1.length=i - lo∧M2.length=hi - i - 1∧c=X.getD i 0∧(∀ m,lo≤m→m<i→X.getD m 0∈M1)∧(∀ m,i<m→m<hi→X.getD m 0∈M2)∧Q.length=X.length - hi:=by
 refine ⟨X.take lo,(X.drop lo).take (i - lo),X.getD i 0,(X.drop (i+1)).take (hi - i - 1),X.drop hi,?_,by simp; omega,by simp; omega,by simp; omega,rfl,?_,?_,by simp⟩
 ·have a1:X.drop (i+1)=(X.drop (i+1)).take (hi - i - 1)++X.drop hi:=by
   have:=(List.take_append_drop (hi - i - 1) (X.drop (i+1))).symm
   rw [List.drop_drop,show i+1+(hi - i - 1)=hi by omega] at this
   exact this
  have a2:X.drop lo=(X.drop lo).take (i - lo)++X.drop i:=by
   have:=(List.take_append_drop (i - lo) (X.drop lo)).symm
   rw [List.drop_drop,show lo+(i - lo)=i by omega] at this
   exact this
  rw [← a1,← drop_cons (by omega),← a2,List.take_append_drop]
 ·intro m hm1 hm2
  rw [List.mem_iff_getElem?]
  refine ⟨m - lo,?_⟩
  rw [List.getElem?_take,if_pos (by omega),List.getElem?_drop,show lo+(m - lo)=m by omega]
  simp [List.getD,show m<X.length by omega]
 ·intro m hm1 hm2
  rw [List.mem_iff_getElem?]
  refine ⟨m - i - 1,?_⟩
  rw [List.getElem?_take,if_pos (by omega),List.getElem?_drop,show i+1+(m - i - 1)=m by omega]
  simp [List.getD,show m<X.length by omega]
theorem fit_near {A B:List Int} {lo i hi:Nat} (h1:lo≤i) (h2:i<hi) (h3:hi≤X.length) (hA:(A=[]∧lo=0)∨(lo<i∧j (X.getD lo 0)≠5)) (hB:(B=[]∧hi=X.length)∨∃ h,i<h∧h<hi∧j (X.getD h 0)≠5) :
  fit cl j (A++(X.drop lo).take (hi - lo)++B) (A.length+(i - lo))=fit cl j X i∧A.length+(i - lo)<(A++(X.drop lo).take (hi - lo)++B).length:=by
 obtain ⟨P,M1,c,M2,Q,hX,hP,hM1,hM2,hc,m1,m2,hQ⟩:=parts_of (X:=X) h1 h2 h3
 have hA':(P.reverse=[]∧A.reverse=[])∨∃ x∈M1.reverse,j x≠5:=by
  rcases hA with ⟨rfl,h0⟩ | ⟨hl,hn⟩
  ·exact .inl ⟨by rw [List.reverse_eq_nil_iff]; exact List.eq_nil_of_length_eq_zero (by omega),rfl⟩
  ·exact .inr ⟨_,List.mem_reverse.2 (m1 lo (Nat.le_refl _) hl),hn⟩
 have hB':(Q=[]∧B=[])∨∃ x∈M2,j x≠5:=by
  rcases hB with ⟨rfl,h0⟩ | ⟨h,ha,hb,hn⟩
  ·exact .inl ⟨List.eq_nil_of_length_eq_zero (by omega),rfl⟩
  ·exact .inr ⟨_,m2 h ha hb,hn⟩
 have hmid:(X.drop lo).take (hi - lo)=M1++c :: M2:=by
  rw [hX,← hP,List.drop_left]
  rw [show hi - P.length=(M1++c :: M2).length by simp; omega,show M1++c :: (M2++Q)=(M1++c :: M2)++Q by simp,List.take_left]
 have hi1:i=(P++M1).length:=by simp; omega
 have hat:A.length+(i - lo)=(A++M1).length:=by simp; omega
 have e1:fit cl j X i=fx cl j (M1.reverse++P.reverse) c (M2++Q):=by
  rw [hX,hi1,show P++(M1++c :: (M2++Q))=(P++M1)++c :: (M2++Q) by simp,fit_parts,List.reverse_append]
 have e2:fit cl j (A++(X.drop lo).take (hi - lo)++B) (A.length+(i - lo))=fx cl j (M1.reverse++A.reverse) c (M2++B):=by
  rw [hmid,hat,show A++(M1++c :: M2)++B=(A++M1)++c :: (M2++B) by simp,fit_parts,List.reverse_append]
 refine ⟨by rw [e1,e2,fx_near hA' hB'],?_⟩
 rw [hmid,hat]; simp
end Jn
def IntDr16 (w:World) (n:Int) (e:Ending) (w':World):Prop:=e=.returned (.int .i64 n)∧∃ m,w'=w.drewN m
def PropC16 (f:Nat) (w0:World) (p:Nat) (cl:Int→Int):Prop:=∀ c,Rune c→∀ W,Below w0.heap.size w0 W→Calls Tryz.prog f #[.pointer (some ⟨p,0,none⟩),.int .i32 c] W (IntDr16 W (cl c))
def LnAt (w:World) (b p:Nat) (xv:Value) (row:Nat):Prop:=w.heap[b]?=some (.cells #[.pointer (some ⟨p,0,none⟩),xv,.int .i64 row] 50 (0,0))
theorem LnAt.c0 {w:World} {b p:Nat} {xv:Value} {row:Nat} (h:LnAt w b p xv row):w.cell? ⟨b,0,none⟩=some (.pointer (some ⟨p,0,none⟩)):=cell_of (j:=0) h (by show 0<3; omega)
theorem LnAt.c1 {w:World} {b p:Nat} {xv:Value} {row:Nat} (h:LnAt w b p xv row):w.cell? ⟨b,1,none⟩=some xv:=cell_of (j:=1) h (by show 1<3; omega)
theorem LnAt.c2 {w:World} {b p:Nat} {xv:Value} {row:Nat} (h:LnAt w b p xv row):w.cell? ⟨b,2,none⟩=some (.int .i64 row):=cell_of (j:=2) h (by show 2<3; omega)
theorem LnAt.drewN {w:World} {b p:Nat} {xv:Value} {row:Nat} (h:LnAt w b p xv row) (m:Nat):LnAt (w.drewN m) b p xv row:=by
 unfold LnAt at *
 have hlt:b<w.heap.size:=by
  rcases Nat.lt_or_ge b w.heap.size with h1 | h1
  ·exact h1
  ·rw [Array.getElem?_eq_none h1] at h; cases h
 rw [(drewB (w:=w) ⟨m,rfl⟩:Below w.heap.size w (w.drewN m)).block b hlt]; exact h
namespace Jn
def jat (j:Int→Int) (X:List Int) (k:Int):Int:=if 0≤k∧k<X.length then j (X.getD k.toNat 0) else 0
end Jn
set_option maxRecDepth 8000 in
set_option maxHeartbeats 1000000 in
theorem ljoin_any16 {w0:World} {p:Nat} {j:Int→Int} {xv:Value} {X:List Int} {row:Nat} (hJ:PropC16 86 w0 p j) (hx:Sk .i32 w0 xv X) (k:Int) (hk:-10≤k∧k≤1000000000000000000) (w:World) (hb:Below w0.heap.size w0 w) (hl:LnAt w w0.heap.size p xv row):Calls Tryz.prog 56 #[.pointer (some ⟨w0.heap.size,0,none⟩),.int .i64 k] w (IntDr16 w (Jn.jat j X k)):=by
 have x0:=hl.c0
 have x1:=hl.c1
 obtain ⟨hk1,hk2⟩:=hk
 unfold Jn.jat
 have hlen:=hx.len
 by_cases h0:0≤k
 ·by_cases h1:k<X.length
  ·rw [if_pos ⟨h0,h1⟩]
   have hxw:=hx.below hb
   obtain ⟨g,off,cap,rfl,_,_,hcl⟩:=hxw.place (by omega)
   obtain ⟨n,rfl⟩:∃ n:Nat,k=n:=⟨k.toNat,by omega⟩
   have hn:n<X.length:=by omega
   have x4:=hcl n hn
   have hrn:Rune (X.getD n 0):=by
    have:=hxw.1 (X.getD n 0) (by simp [List.getD,hn])
    exact ⟨this.1,this.2⟩
   have HG:=fun m:Nat=>Hd (hJ (X.getD n 0) hrn (w.drewN m) (bthen hb (drewB ⟨m,rfl⟩)))
   rw [Int.toNat_natCast]
   clear hJ hx hb hl hxw hcl hrn
   generalize w0.heap.size=b at *
   generalize j (X.getD n 0)=z at *
   generalize X.getD n 0=c at *
   go_enter Tryz.func56,Tryz.ntmps56
   go_wp2
   go_quiet (first | (go_at_call 86; exact Calls.quiet_of (Uh (HG _))))
   go_wp2
   go_ret
   exact ⟨rfl,nq,rfl⟩
  ·rw [if_neg (by omega)]
   obtain ⟨ao,cap,rfl,_,_⟩:=hx.shape
   have h2:(X.length:Int)≤k:=by omega
   clear hJ hx hb hl
   generalize w0.heap.size=b at *
   go_enter Tryz.func56,Tryz.ntmps56
   go_wp2
   go_ret
   exact ⟨rfl,drew0 w⟩
 ·rw [if_neg (by omega)]
  have h2:k<0:=by omega
  clear hJ hx hb hl
  generalize w0.heap.size=b at *
  go_enter Tryz.func56,Tryz.ntmps56
  go_wp2
  go_ret
  exact ⟨rfl,drew0 w⟩
set_option maxRecDepth 8000 in
set_option maxHeartbeats 1000000 in
theorem lvir_any16 {w0:World} {p:Nat} {cl:Int→Int} {xv:Value} {X:List Int} {row:Nat} (hC:PropC16 14 w0 p cl) (hx:Sk .i32 w0 xv X) (i:Nat) (hi:i<X.length) (w:World) (hb:Below w0.heap.size w0 w) (hl:LnAt w w0.heap.size p xv row):Calls Tryz.prog 31 #[.pointer (some ⟨w0.heap.size,0,none⟩),.int .i64 i] w (Draws w (Jn.vir cl X i)):=by
 have x0:=hl.c0
 have x1:=hl.c1
 have hlen:=hx.len
 cases i with
 | zero =>
  rw [Jn.vir_zero]
  clear hC hx hb hl
  generalize w0.heap.size=b at *
  go_enter Tryz.func31,Tryz.ntmps31
  go_wp2
  go_quiet (fail)
  go_wp2
  go_ret
  exact ⟨rfl,nq,rfl⟩
 | succ n =>
  have hxw:=hx.below hb
  obtain ⟨g,off,cap,rfl,_,_,hcl⟩:=hxw.place (by omega)
  have hn:n<X.length:=by omega
  have x4:=hcl n hn
  have hrn:Rune (X.getD n 0):=by
   have:=hxw.1 (X.getD n 0) (by simp [List.getD,hn])
   exact ⟨this.1,this.2⟩
  rw [Jn.vir_succ hn]
  have HG:=fun m:Nat=>Hd (hC (X.getD n 0) hrn (w.drewN m) (bthen hb (drewB ⟨m,rfl⟩)))
  have hL:(n:Int)<X.length:=by omega
  have hw1:IntKind.i64.wrap ((n:Int)+1 - 1)=n:=by rw [IntKind.wrap_i64]; omega
  have hp:(0:Int)<(n:Int)+1:=by omega
  rw [Int.natCast_add]
  clear hC hx hb hl hxw hcl hrn
  generalize w0.heap.size=b at *
  generalize cl (X.getD n 0)=z at *
  generalize X.getD n 0=c at *
  obtain ⟨bz,hbz⟩:∃ bz,decide (z=9)=bz:=⟨_,rfl⟩
  have hbz2:(z==9)=bz:=by rw [← hbz]; rfl
  rw [hbz]
  clear hbz
  go_enter Tryz.func31,Tryz.ntmps31
  go_wp2
  go_quiet (first | (go_at_call 14; exact Calls.quiet_of (Uh (HG _))))
  go_wp2
  go_ret
  exact ⟨rfl,nq,rfl⟩
def BtwB (w0:World) (p:Nat) (xv:Value) (j:Int→Int) (X:List Int) (row i:Nat) (e:Ending) (w':World):Prop:=e=.returned (.bool (Jn.btw j X i))∧Below w0.heap.size w0 w'∧∃ row',LnAt w' w0.heap.size p xv row'∧(row'=row∨(Jn.btw j X i=true∧i<row'∧row'≤X.length∧∀ m,i<m→m<row'→j (X.getD m 0)=5))
theorem LnAt.set {w:World} {b p:Nat} {xv:Value} {row:Nat} (h:LnAt w b p xv row) (e:Nat):LnAt (w.setCell ⟨b,2,none⟩ (.int .i64 e)) b p xv e:=by
 unfold LnAt at *
 rw [set_block h]; rfl
theorem jat_nat {j:Int→Int} {X:List Int} (e:Nat):Jn.jat j X e=if e<X.length then j (X.getD e 0) else 0:=by
 unfold Jn.jat
 rw [Int.toNat_natCast]
 by_cases h:e<X.length
 ·rw [if_pos h,if_pos ⟨by omega,by omega⟩]
 ·rw [if_neg h,if_neg (by omega)]
theorem jat_pred {j:Int→Int} {X:List Int} (k:Nat) (hk:k≤X.length):(Jn.jat j X ((k:Int) - 1)=5→0<k∧Jn.lf j X k=Jn.lf j X (k - 1))∧(Jn.jat j X ((k:Int) - 1)≠5→Jn.lf j X k=Jn.jat j X ((k:Int) - 1)):=by
 cases k with
 | zero =>
  have:Jn.jat j X (((0:Nat):Int) - 1)=0:=by unfold Jn.jat; rw [if_neg (by omega)]
  rw [this]
  exact ⟨fun h=>absurd h (by decide),fun _=>rfl⟩
 | succ n =>
  have e:(((n+1:Nat):Int) - 1)=(n:Int):=by omega
  rw [e,jat_nat,if_pos (by omega)]
  exact ⟨fun h=>⟨by omega,Jn.lf_t (by omega) h⟩,fun h=>Jn.lf_n (by omega) h⟩
theorem jat_next {j:Int→Int} {X:List Int} (e:Nat) (he:e≤X.length):(Jn.jat j X e=5→e<X.length∧j (X.getD e 0)=5∧Jn.rt j X e=Jn.rt j X (e+1))∧(Jn.jat j X e≠5→Jn.rt j X e=Jn.jat j X e):=by
 rw [jat_nat]
 by_cases h:e<X.length
 ·rw [if_pos h]
  exact ⟨fun h5=>⟨h,h5,Jn.rt_t h h5⟩,fun h5=>Jn.rt_n h h5⟩
 ·rw [if_neg h]
  exact ⟨fun h=>absurd h (by decide),fun _=>Jn.rt_end (by omega)⟩
set_option maxRecDepth 8000 in
set_option maxHeartbeats 4000000 in
theorem lbtw_any16 {w0:World} {p:Nat} {j:Int→Int} {xv:Value} {X:List Int} {row:Nat} (hJ:PropC16 86 w0 p j) (hx:Sk .i32 w0 xv X) (i:Nat) (hi:i<X.length) (hr:i<row→Jn.btw j X i=true) (w:World) (hb:Below w0.heap.size w0 w) (hl:LnAt w w0.heap.size p xv row):Calls Tryz.prog 32 #[.pointer (some ⟨w0.heap.size,0,none⟩),.int .i64 i] w (BtwB w0 p xv j X row i):=by
 have x2:=hl.c2
 have hlen:=hx.len
 have HJ:Hid (∀ (k:Int),(-10≤k∧k≤1000000000000000000)→∀ m:Nat,Calls Tryz.prog 56 #[.pointer (some ⟨w0.heap.size,0,none⟩),.int .i64 k] (w.drewN m) (IntDr16 (w.drewN m) (Jn.jat j X k))):=fun k hk m=>ljoin_any16 hJ hx k hk (w.drewN m) (bthen hb (drewB ⟨m,rfl⟩)) (hl.drewN m)
 have HB:=Hd hb
 have HL:=Hd hl
 have HLF:=Hd (fun k=>jat_pred (j:=j) (X:=X) k)
 have HRT:=Hd (fun k=>jat_next (j:=j) (X:=X) k)
 have HBT:Hid (Jn.btw j X i=(Jn.lok (Jn.lf j X i) && Jn.rok (Jn.rt j X (i+1)))):=rfl
 have HSAME:Hid (∀ m:Nat,∀ bb,bb=Jn.btw j X i→BtwB w0 p xv j X row i (.returned (.bool bb)) (w.drewN m)):=fun m bb e=>⟨by rw [e],bthen hb (drewB ⟨m,rfl⟩),row,hl.drewN m,.inl rfl⟩
 have HNEW:Hid (∀ m e:Nat,Jn.btw j X i=true→i<e→e≤X.length→(∀ m,i<m→m<e→j (X.getD m 0)=5)→BtwB w0 p xv j X row i (.returned (.bool true)) ((w.drewN m).setCell ⟨w0.heap.size,2,none⟩ (.int .i64 e))):=fun m e h1 h2 h3 h4=>⟨by rw [h1],below_set (bthen hb (drewB ⟨m,rfl⟩)) (Nat.le_refl _) _,e,(hl.drewN m).set e,.inr ⟨h1,h2,h3,h4⟩⟩
 have HX2:Hid (∀ m:Nat,(w.drewN m).cell? ⟨w0.heap.size,2,none⟩=some (.int .i64 row)):=fun m=>(hl.drewN m).c2
 have HR:=Hd hr
 clear hJ hx hb hl hr
 generalize w0.heap.size=b at *
 go_enter Tryz.func32,Tryz.ntmps32
 by_cases hir:(i:Int)<row
 ·have HF:=Hd ((Uh HSAME) 0 true ((Uh HR) (by omega)).symm)
  clear HJ HLF HRT HBT HSAME HNEW HX2 HR HB HL
  go_wp2
  go_step3
  go_wp2
  try rw [Exit.noGoto_ret]
  go_ret
  exact Uh HF
 ·have hnr:(row:Int)≤i:=by omega
  have hw1:IntKind.i64.wrap ((i:Int) - 1)=(i:Int) - 1:=by rw [IntKind.wrap_i64]; omega
  have hdd:decide (i<row)=false:=decide_eq_false (by omega)
  clear hir
  go_wp2
  go_step3
  go_wp2
  go_step3
  go_wp2
  go_loopw [4,5] (fun rv av wr=>∃ k:Nat,rv=.bool false∧av=.int .i64 ((k:Int) - 1)∧k≤i∧Jn.lf j X i=Jn.lf j X k∧∃ m,wr=w.drewN m) (fun _ av _=>(intOf av+1).toNat)
  case atStart=>exact ⟨i,rfl,rfl,Nat.le_refl _,rfl,drew0 w⟩
  case round =>
   obtain ⟨k,rfl,rfl,hk,hlf,m,rfl⟩:=hrel
   have K:=Hd ((Uh HJ) ((k:Int) - 1) ⟨by omega,by omega⟩ m)
   have HLK:=Hd ((Uh HLF) k (by omega))
   generalize Jn.jat j X ((k:Int) - 1)=z at *
   have HLE:=Hd hlf
   clear hlf
   by_cases z5:z=5
   ·subst z5
    obtain ⟨hk0,hk1⟩:=(Uh HLK).1 rfl
    have HL2:=Hd ((Uh HLE).trans hk1)
    clear HLK HLE hk1
    have hw2:IntKind.i64.wrap ((k:Int) - 1 - 1)=(k:Int) - 1 - 1:=by rw [IntKind.wrap_i64]; omega
    go_wp2_with fail
    refine (Uh K).mono ?_
    rintro e w1 ⟨rfl,m1,rfl⟩
    have hd:∃ m',(w.drewN m).drewN m1=w.drewN m':=drews ⟨m,rfl⟩ m1
    obtain ⟨m',hm'⟩:=hd
    rw [hm']
    clear K hm'
    go_wp2
    go_roundw
    case rel=>exact ⟨k - 1,rfl,by congr 1; omega,by omega,Uh HL2,⟨m',rfl⟩⟩
    case measure=>simp [intOf]; omega
   ·have hlz:=(Uh HLE).trans ((Uh HLK).2 z5)
    clear HLK HLE
    have n5:(z==5)=false:=by rw [beq_eq_false_iff_ne]; exact z5
    by_cases hz:z=2∨z=3
    ·have HLOK:Hid (Jn.lok (Jn.lf j X i)=true):=by
      show Jn.lok (Jn.lf j X i)=true
      rw [hlz]; rcases hz with rfl | rfl <;> rfl
     clear hlz z5
     rcases hz with rfl | rfl
     all_goals
      clear n5
      go_wp2_with fail
      refine (Uh K).mono ?_
      rintro e w1 ⟨rfl,m1,rfl⟩
      have hd:∃ m',(w.drewN m).drewN m1=w.drewN m':=drews ⟨m,rfl⟩ m1
      obtain ⟨m',hm'⟩:=hd
      rw [hm']
      clear K hm'
      have hw3:IntKind.i64.wrap ((i:Int)+1)=(i:Int)+1:=by rw [IntKind.wrap_i64]; omega
      go_wp2
      go_step3
      go_wp2
      go_loopw [4,6] (fun rv av wr=>∃ k:Nat,rv=.bool false∧av=.int .i64 (k:Int)∧i<k∧k≤X.length∧(∀ q,i<q→q<k→j (X.getD q 0)=5)∧Jn.rt j X (i+1)=Jn.rt j X k∧∃ m,wr=w.drewN m) (fun _ av _=>(X.length+1 - (intOf av).toNat))
      case atStart=>exact ⟨i+1,rfl,rfl,by omega,by omega,fun q h1 h2=>(by omega),rfl,⟨m',rfl⟩⟩
      case round =>
       obtain ⟨k2,rfl,rfl,hk2,hk3,hts,hrt,m2,rfl⟩:=hrel
       have K:=Hd ((Uh HJ) (k2:Int) ⟨by omega,by omega⟩ m2)
       have HRK:=Hd ((Uh HRT) k2 hk3)
       have HTS:=Hd hts
       have HRE:=Hd hrt
       have hx2:=(Uh HX2)
       clear hrt hts
       generalize Jn.jat j X (k2:Int)=z at *
       by_cases z5:z=5
       ·subst z5
        obtain ⟨hk0,hk1,hk4⟩:=(Uh HRK).1 rfl
        have HR2:=Hd ((Uh HRE).trans hk4)
        have HTS2:Hid (∀ q,i<q→q<k2+1→j (X.getD q 0)=5):=fun q h1 h2=>by
         rcases Nat.lt_or_ge q k2 with h | h
         ·exact (Uh HTS) q h1 h
         ·rw [show q=k2 by omega]; exact hk1
        have hw4:IntKind.i64.wrap ((k2:Int)+1)=(k2:Int)+1:=by rw [IntKind.wrap_i64]; omega
        clear HRK HRE HTS hk1 hk4 hx2
        go_wp2_with fail
        refine (Uh K).mono ?_
        rintro e w1 ⟨rfl,m1,rfl⟩
        obtain ⟨m3,hm3⟩:∃ m',(w.drewN m2).drewN m1=w.drewN m':=drews ⟨m2,rfl⟩ m1
        rw [hm3]
        clear K hm3
        go_wp2
        go_roundw
        case rel=>exact ⟨k2+1,rfl,by first | rfl | (congr 1),by omega,by omega,Uh HTS2,Uh HR2,⟨m3,rfl⟩⟩
        case measure=>simp [intOf]; omega
       ·have hrz:=(Uh HRE).trans ((Uh HRK).2 z5)
        clear HRK HRE
        have n5:(z==5)=false:=by rw [beq_eq_false_iff_ne]; exact z5
        by_cases hz:z=1∨z=3
        ·have HBTW:Hid (Jn.btw j X i=true):=by
          show Jn.btw j X i=true
          rw [Uh HBT,Uh HLOK,hrz]; rcases hz with rfl | rfl <;> rfl
         clear hrz z5
         rcases hz with rfl | rfl
         all_goals
          clear n5
          go_wp2_with fail
          refine (Uh K).mono ?_
          rintro e w1 ⟨rfl,m1,rfl⟩
          obtain ⟨m3,hm3⟩:∃ m',(w.drewN m2).drewN m1=w.drewN m':=drews ⟨m2,rfl⟩ m1
          rw [hm3]
          have x3:=hx2 m3
          have hfr:=frozen_of (j:=2) ((Uh HL).drewN m3)
          have HF:=Hd ((Uh HNEW) m3 k2 (Uh HBTW) hk2 hk3 (Uh HTS))
          clear K hm3 hx2 HNEW HBTW HTS
          go_wp2
          try rw [Exit.noGoto_ret]
          go_ret
          exact Uh HF
        ·have HF:Hid (∀ m:Nat,BtwB w0 p xv j X row i (.returned (.bool false)) (w.drewN m)):=fun m=>(Uh HSAME) m false (by
          rw [Uh HBT,hrz]
          have:Jn.rok z=false:=by unfold Jn.rok; rw [decide_eq_false (fun h=>hz (.inl h)),decide_eq_false (fun h=>hz (.inr h))]; rfl
          rw [this,Bool.and_false])
         have n1:(z==1)=false:=by rw [beq_eq_false_iff_ne]; exact fun h=>hz (.inl h)
         have n3:(z==3)=false:=by rw [beq_eq_false_iff_ne]; exact fun h=>hz (.inr h)
         clear hrz z5 hz hx2
         go_wp2_with fail
         refine (Uh K).mono ?_
         rintro e w1 ⟨rfl,m1,rfl⟩
         obtain ⟨m3,hm3⟩:∃ m',(w.drewN m2).drewN m1=w.drewN m':=drews ⟨m2,rfl⟩ m1
         rw [hm3]
         clear K hm3
         go_wp2
         try rw [Exit.noGoto_ret]
         go_ret
         exact Uh (HF) _
    ·have HF:Hid (∀ m:Nat,BtwB w0 p xv j X row i (.returned (.bool false)) (w.drewN m)):=fun m=>(Uh HSAME) m false (by
      rw [Uh HBT,hlz]
      have:Jn.lok z=false:=by unfold Jn.lok; rw [decide_eq_false (fun h=>hz (.inl h)),decide_eq_false (fun h=>hz (.inr h))]; rfl
      rw [this]; rfl)
     have n2:(z==2)=false:=by rw [beq_eq_false_iff_ne]; exact fun h=>hz (.inl h)
     have n3:(z==3)=false:=by rw [beq_eq_false_iff_ne]; exact fun h=>hz (.inr h)
     clear hlz z5 hz
     go_wp2_with fail
     refine (Uh K).mono ?_
     rintro e w1 ⟨rfl,m1,rfl⟩
     have hd:∃ m',(w.drewN m).drewN m1=w.drewN m':=drews ⟨m,rfl⟩ m1
     obtain ⟨m',hm'⟩:=hd
     rw [hm']
     clear K hm'
     go_wp2
     try rw [Exit.noGoto_ret]
     go_ret
     exact Uh (HF) _
def RowOk (j:Int→Int) (X:List Int) (row i:Nat):Prop:=∀ k,i≤k→k<row→k<X.length→X.getD k 0=8204→Jn.btw j X k=true
theorem RowOk.next {j:Int→Int} {X:List Int} {row i:Nat} (h:RowOk j X row i):RowOk j X row (i+1):=fun k h1=>h k (by omega)
theorem RowOk.row {j:Int→Int} {X:List Int} {row i:Nat} (hb:Jn.btw j X i=true) (hi:X.getD i 0=8204) (he:row≤X.length) (ht:∀ m,i<m→m<row→j (X.getD m 0)=5):RowOk j X row (i+1):=fun _ h1 h2 _ h3=>Jn.btw_row hb hi (by omega) h2 he ht h3
def FitB (w0:World) (p:Nat) (xv:Value) (j:Int→Int) (X:List Int) (i:Nat) (bb:Bool) (e:Ending) (w':World):Prop:=e=.returned (.bool bb)∧Below w0.heap.size w0 w'∧∃ row',LnAt w' w0.heap.size p xv row'∧RowOk j X row' (i+1)
set_option maxRecDepth 8000 in
set_option maxHeartbeats 2000000 in
theorem lfits_any16 {w0:World} {p:Nat} {cl j:Int→Int} {xv:Value} {X:List Int} {row:Nat} (hC:PropC16 14 w0 p cl) (hJ:PropC16 86 w0 p j) (hx:Sk .i32 w0 xv X) (i:Nat) (hi:i<X.length) (hr:RowOk j X row i) (w:World) (hb:Below w0.heap.size w0 w) (hl:LnAt w w0.heap.size p xv row):Calls Tryz.prog 20 #[.pointer (some ⟨w0.heap.size,0,none⟩),.int .i64 i] w (FitB w0 p xv j X i (Jn.fit cl j X i)):=by
 have x1:=hl.c1
 have hlen:=hx.len
 have KV:=Hd (lvir_any16 hC hx i hi w hb hl)
 have hxw:=hx.below hb
 obtain ⟨g,off,cap,rfl,_,_,hcl⟩:=hxw.place (by omega)
 have x4:=hcl i hi
 have hL:(i:Int)<X.length:=by omega
 by_cases h1:X.getD i 0=8204
 ·rw [Jn.fit_zw h1]
  have KB:Hid (∀ m:Nat,Calls Tryz.prog 32 #[.pointer (some ⟨w0.heap.size,0,none⟩),.int .i64 i] (w.drewN m) (BtwB w0 p (.slice (some ⟨g,off,none⟩) X.length cap) j X row i)):=fun m=>lbtw_any16 hJ hx i hi (fun h=>hr i (Nat.le_refl _) h hi h1) (w.drewN m) (bthen hb (drewB ⟨m,rfl⟩)) (hl.drewN m)
  have HS:Hid (∀ m:Nat,FitB w0 p (.slice (some ⟨g,off,none⟩) X.length cap) j X i true (.returned (.bool true)) (w.drewN m)):=fun m=>⟨rfl,bthen hb (drewB ⟨m,rfl⟩),row,hl.drewN m,hr.next⟩
  have HN:Hid (∀ bb w',BtwB w0 p (.slice (some ⟨g,off,none⟩) X.length cap) j X row i (.returned (.bool bb)) w'→FitB w0 p (.slice (some ⟨g,off,none⟩) X.length cap) j X i (Jn.btw j X i) (.returned (.bool (Jn.btw j X i))) w'):=fun bb w' h=>by
   obtain ⟨_,h2,row',h3,h4⟩:=h
   refine ⟨rfl,h2,row',h3,?_⟩
   rcases h4 with rfl | ⟨h5,_,h7,h8⟩
   ·exact hr.next
   ·exact RowOk.row h5 h1 h7 h8
  rw [h1] at x4
  clear hC hJ hx hr hb hl hxw hcl
  generalize w0.heap.size=b at *
  generalize Jn.vir cl X i=vb at *
  cases vb with
  | true =>
   rw [Bool.true_or]
   go_enter Tryz.func20,Tryz.ntmps20
   go_wp2_with fail
   refine (Uh KV).mono ?_
   rintro e w1 ⟨rfl,m1,rfl⟩
   have HF:=Hd ((Uh HS) m1)
   clear KV KB HS HN
   go_wp2
   go_ret
   exact Uh HF
  | false =>
   rw [Bool.false_or]
   go_enter Tryz.func20,Tryz.ntmps20
   go_wp2_with fail
   refine (Uh KV).mono ?_
   rintro e w1 ⟨rfl,m1,rfl⟩
   have KB1:=Hd ((Uh KB) m1)
   clear KV KB HS
   go_wp2_with fail
   refine (Uh KB1).mono ?_
   rintro e w2 h2
   have he:=h2.1
   subst he
   have HF:=Hd ((Uh HN) _ w2 h2)
   clear KB1 HN h2
   generalize Jn.btw j X i=bb at *
   go_wp2
   go_ret
   exact Uh HF
 ·have n1:(X.getD i 0==8204)=false:=by rw [beq_eq_false_iff_ne]; exact h1
  by_cases h2:X.getD i 0=8205
  ·rw [Jn.fit_zj h2]
   rw [h2] at x4
   have HS:Hid (∀ m:Nat,∀ vb,FitB w0 p (.slice (some ⟨g,off,none⟩) X.length cap) j X i vb (.returned (.bool vb)) (w.drewN m)):=fun m vb=>⟨rfl,bthen hb (drewB ⟨m,rfl⟩),row,hl.drewN m,hr.next⟩
   clear hC hJ hx hr hb hl hxw hcl n1
   generalize w0.heap.size=b at *
   generalize Jn.vir cl X i=vb at *
   go_enter Tryz.func20,Tryz.ntmps20
   go_wp2_with fail
   refine (Uh KV).mono ?_
   rintro e w1 ⟨rfl,m1,rfl⟩
   have HF:=Hd ((Uh HS) m1 vb)
   clear KV HS
   go_wp2
   go_ret
   exact Uh HF
  ·rw [Jn.fit_no h1 h2]
   have n2:(X.getD i 0==8205)=false:=by rw [beq_eq_false_iff_ne]; exact h2
   have HF:Hid (FitB w0 p (.slice (some ⟨g,off,none⟩) X.length cap) j X i true (.returned (.bool true)) w):=⟨rfl,hb,row,hl,hr.next⟩
   clear hC hJ hx hr hb hl hxw hcl KV h1 h2
   generalize w0.heap.size=b at *
   generalize X.getD i 0=c at *
   go_enter Tryz.func20,Tryz.ntmps20
   go_wp2
   go_ret
   exact Uh HF
theorem LnAt.new (w:World) (p:Nat) (xv:Value):LnAt (w.alloc (.cells #[.pointer (some ⟨p,0,none⟩),xv,.int .i64 0] 50)) w.heap.size p xv 0:=by
 unfold LnAt
 show (w.heap.push _)[w.heap.size]?=_
 simp
set_option maxRecDepth 8000 in
set_option maxHeartbeats 2000000 in
theorem fits_any16 {w:World} {p:Nat} {cl j:Int→Int} {xv:Value} {X:List Int} (hC:PropC16 14 w p cl) (hJ:PropC16 86 w p j) (hx:Sk .i32 w xv X) (i:Int) (hi:-9223372036854775808≤i∧i≤9223372036854775807):Calls Tryz.prog 9 #[.pointer (some ⟨p,0,none⟩),xv,.int .i64 i] w (Tells w (Jn.fiti cl j X i)):=by
 have hlen:=hx.len
 have h9:=hi.1
 have h10:=hi.2
 clear hi
 by_cases h0:0≤i
 ·by_cases h1:i<X.length
  ·obtain ⟨n,rfl⟩:∃ n:Nat,i=n:=⟨i.toNat,by omega⟩
   have hn:n<X.length:=by omega
   have e:Jn.fiti cl j X n=Jn.fit cl j X n:=by unfold Jn.fiti; rw [decide_eq_true h0,decide_eq_true h1,Int.toNat_natCast]; rfl
   rw [e]
   have hb:Below w.heap.size w (w.alloc (.cells #[.pointer (some ⟨p,0,none⟩),xv,.int .i64 0] 50)):=(Below.refl _ _).alloc (Nat.le_refl _) _
   have K:=Hd (lfits_any16 (row:=0) hC hJ hx n hn (fun k _ h=>absurd h (by omega)) _ hb (LnAt.new w p xv))
   obtain ⟨ao,cap,rfl,_,_⟩:=hx.shape
   clear hC hJ hx hb e
   generalize Jn.fit cl j X n=bb at *
   go_enter Tryz.func9,Tryz.ntmps9
   go_wp2_with fail
   refine (Uh K).mono ?_
   rintro e w1 ⟨rfl,b1,_⟩
   have HB:=Hd b1
   clear K b1
   go_wp2
   go_ret
   exact ⟨rfl,Uh HB⟩
  ·have e:Jn.fiti cl j X i=false:=by unfold Jn.fiti; rw [decide_eq_false h1,Bool.false_and,Bool.and_false]
   rw [e]
   obtain ⟨ao,cap,rfl,_,_⟩:=hx.shape
   have h2:(X.length:Int)≤i:=by omega
   clear hC hJ hx e
   go_enter Tryz.func9,Tryz.ntmps9
   go_wp2
   go_ret
   exact ⟨rfl,Below.refl _ _⟩
 ·have e:Jn.fiti cl j X i=false:=by unfold Jn.fiti; rw [decide_eq_false h0,Bool.false_and]
  rw [e]
  obtain ⟨ao,cap,rfl,_,_⟩:=hx.shape
  have h2:i<0:=by omega
  clear hC hJ hx e
  go_enter Tryz.func9,Tryz.ntmps9
  go_wp2
  go_ret
  exact ⟨rfl,Below.refl _ _⟩
def IntT16 (w:World) (n:Int) (e:Ending) (w':World):Prop:=e=.returned (.int .i64 n)∧Below w.heap.size w w'
set_option maxRecDepth 8000 in
set_option maxHeartbeats 2000000 in
theorem check_any16 {w:World} {p:Nat} {cl j:Int→Int} {xv:Value} {X:List Int} (hC:PropC16 14 w p cl) (hJ:PropC16 86 w p j) (hx:Sk .i32 w xv X):Calls Tryz.prog 11 #[.pointer (some ⟨p,0,none⟩),xv] w (IntT16 w (Jn.chk cl j X)):=by
 have hlen:=hx.len
 have hb:Below w.heap.size w (w.alloc (.cells #[.pointer (some ⟨p,0,none⟩),xv,.int .i64 0] 50)):=(Below.refl _ _).alloc (Nat.le_refl _) _
 have hl:=LnAt.new w p xv
 have KF:Hid (∀ (i:Nat),i<X.length→∀ (row:Nat),RowOk j X row i→∀ W,Below w.heap.size w W→LnAt W w.heap.size p xv row→Calls Tryz.prog 20 #[.pointer (some ⟨w.heap.size,0,none⟩),.int .i64 i] W (FitB w p xv j X i (Jn.fit cl j X i))):=fun i hi row hr W hW hL=>lfits_any16 hC hJ hx i hi hr W hW hL
 have HEND:Hid ((∀ q,q<X.length→Jn.fit cl j X q=true)→∀ W,Below w.heap.size w W→IntT16 w (Jn.chk cl j X) (.returned (.int .i64 (-1))) W):=fun h W hW=>⟨by rw [Jn.chk_none h],hW⟩
 have HNO:Hid (∀ k,k<X.length→(∀ q,q<k→Jn.fit cl j X q=true)→Jn.fit cl j X k=false→∀ W,Below w.heap.size w W→IntT16 w (Jn.chk cl j X) (.returned (.int .i64 k)) W):=fun k hk h hn W hW=>⟨by rw [Jn.chk_some hk h hn],hW⟩
 obtain ⟨ao,cap,rfl,_,_⟩:=hx.shape
 have HB1:=Hd hb
 have HL1:=Hd hl
 clear hC hJ hx hb hl
 generalize Jn.chk cl j X=ck at *
 go_enter Tryz.func11,Tryz.ntmps11
 go_wp2
 go_loopw [4,6,12] (fun rv _ iv wr=>∃ k row:Nat,rv=.int .i64 0∧iv=.int .i64 (k:Int)∧k≤X.length∧(∀ q,q<k→Jn.fit cl j X q=true)∧RowOk j X row k∧LnAt wr w.heap.size p (.slice ao X.length cap) row∧Below w.heap.size w wr) (fun _ _ iv _=>X.length - (intOf iv).toNat)
 case atStart=>exact ⟨0,0,rfl,rfl,Nat.zero_le _,fun q h=>absurd h (by omega),fun k _ h=>absurd h (by omega),Uh HL1,Uh HB1⟩
 case round =>
  clear HB1 HL1
  obtain ⟨k,row,rfl,rfl,hk,hq,hr,hl,hb⟩:=hrel
  by_cases hlt:k<X.length
  ·have hL:(k:Int)<X.length:=by omega
   have K:=Hd ((Uh KF) k hlt row hr wr hb hl)
   have HQ:=Hd hq
   clear hq hr hl hb
   cases hf:Jn.fit cl j X k with
   | true =>
    rw [hf] at K
    have HQ2:Hid (∀ q,q<k+1→Jn.fit cl j X q=true):=fun q h=>by
     rcases Nat.lt_or_ge q k with h1 | h1
     ·exact (Uh HQ) q h1
     ·rw [show q=k by omega]; exact hf
    clear hf HQ
    go_wp2_with fail
    refine (Uh K).mono ?_
    rintro e w1 ⟨rfl,b1,row',l1,r1⟩
    have HB:=Hd b1
    have HL:=Hd l1
    have HR:=Hd r1
    clear K b1 l1 r1
    go_wp2
    go_roundw
    case rel=>exact ⟨k+1,row',rfl,by go_num,by omega,Uh HQ2,Uh HR,Uh HL,Uh HB⟩
    case measure=>simp [intOf]; omega
   | false =>
    rw [hf] at K
    have HN:=Hd ((Uh HNO) k hlt (Uh HQ) hf)
    clear hf HQ
    go_wp2_with fail
    refine (Uh K).mono ?_
    rintro e w1 ⟨rfl,b1,_⟩
    have HF:=Hd ((Uh HN) w1 b1)
    clear K b1 HN
    go_wp2
    go_ret
    exact Uh HF
  ·have HF:=Hd ((Uh HEND) (fun q h=>hq q (by omega)) wr hb)
   have hL:¬ ((k:Int)<X.length):=by omega
   clear hq hr hl hb HEND HNO KF
   go_wp2
   go_ret
   exact Uh HF
set_option maxRecDepth 8000 in
set_option maxHeartbeats 1000000 in
theorem fits_nil16 (xv:Value) (X:List Int) (w:World) (hx:Sk .i32 w xv X):Calls Tryz.prog 9 #[.pointer none,xv,.int .i64 0] w (Tells w false):=by
 obtain ⟨ao,cap,rfl,_,_⟩:=hx.shape
 clear hx
 go_enter Tryz.func9,Tryz.ntmps9
 go_wp2
 go_ret
 exact ⟨rfl,Below.refl _ _⟩
set_option maxRecDepth 8000 in
set_option maxHeartbeats 1000000 in
theorem check_none16 (w:World):Calls Tryz.prog 11 #[.pointer none,.slice none 0 0] w (IntT16 w (-1)):=by
 have HB:Hid (Below w.heap.size w (w.alloc (.cells #[.pointer none,.slice none 0 0,.int .i64 0] 50))):=(Below.refl _ _).alloc (Nat.le_refl _) _
 go_enter Tryz.func11,Tryz.ntmps11
 go_wp2
 refine wp_loop_rounds 1 ?_
 rw [rounds_succ]
 go_wp2
 go_ret
 exact ⟨rfl,Uh HB⟩
set_option maxRecDepth 8000 in
set_option maxHeartbeats 1000000 in
theorem check_nil16 (xv:Value) (X:List Int) (w:World) (hx:Sk .i32 w xv X) (h0:0<X.length):Calls Tryz.prog 11 #[.pointer none,xv] w (IntT16 w 0):=by
 have hlen:=hx.len
 obtain ⟨ao,cap,rfl,_,_⟩:=hx.shape
 have HB:Hid (Below w.heap.size w (w.alloc (.cells #[.pointer none,.slice ao X.length cap,.int .i64 0] 50))):=(Below.refl _ _).alloc (Nat.le_refl _) _
 have hL:(0:Int)<X.length:=by omega
 clear hx
 go_enter Tryz.func11,Tryz.ntmps11
 go_wp2
 refine wp_loop_rounds 1 ?_
 rw [rounds_succ]
 go_wp2
 go_ret
 exact ⟨rfl,Uh HB⟩
end Go.Proofs.YthhekhkbbkemjaaGreatDoor
