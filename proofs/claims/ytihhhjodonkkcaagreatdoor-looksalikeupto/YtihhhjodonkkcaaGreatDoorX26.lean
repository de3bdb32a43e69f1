/- Va9 Rw7 Vb9 Vd9 -/
import Derived.Test.YtihhhjodonkkcaaGreatDoorX21
import Derived.Test.YtihhhjodonkkcaaGreatDoorX27
import Derived.Test.YtihhhjodonkkcaaGreatDoorX28
import Derived.Test.YtihhhjodonkkcaaGreatDoorX29
import Derived.Test.YtihhhjodonkkcaaGreatDoorX30
import Derived.Test.YtihhhjodonkkcaaGreatDoorX31
import Derived.Test.YtihhhjodonkkcaaGreatDoorX32
import Derived.Test.YtihhhjodonkkcaaGreatDoorX33
import Derived.Test.YtihhhjodonkkcaaGreatDoorX35
namespace Go.Proofs.YtihhhjodonkkcaaGreatDoor
open Go.RowKit
structure Ovr (w w1 w4 W:World) (ao:Option Addr) (ps:List (Rec × Value)) (k:Nat):Prop where
 sz:W.heap.size=w4.heap.size
 bel:Below w.heap.size w W
 far:∀ b,w1.heap.size≤b→W.heap[b]?=w4.heap[b]?
 rcd:ps.length=0∨∃ g cur,ao=some ⟨g,0,none⟩∧w.heap.size≤g∧g<w1.heap.size∧W.heap[g]?=some (.cells cur 59 (0,0))∧ps.length * 8≤cur.size∧∀ i,k≤i→i<ps.length→cur.getD (i * 8+4) undef=(ps.getD i (Cn.none,undef)).2
 lst:∀ q∈ps,q.1.to≠[]→∃ gi capi cur,q.2=.slice (some ⟨gi,0,none⟩) q.1.to.length capi∧w.heap.size≤gi∧gi<w1.heap.size∧W.heap[gi]?=some (.cells cur 21 (0,0))∧q.1.to.length≤cur.size
section
variable {w w1 w4 W:World} {ao:Option Addr} {ps:List (Rec × Value)} {cap k:Nat}
theorem Ovr.start (h:Rown w1 w.heap.size (.slice ao ps.length cap) ps) (hb:Below w.heap.size w w4) (hb4:Below w1.heap.size w1 w4):Ovr w w1 w4 w4 ao ps 0:=by
 refine ⟨rfl,hb,fun k _=>rfl,?_,fun q hq hne=>?_⟩
 ·rcases h.1.2 with ⟨_,h0⟩ | ⟨g,cap',cur,hve,hg,hh,hn,hc,hs,ht⟩
  ·exact .inl h0
  ·obtain ⟨e1,_,e3⟩:=Value.slice.inj hve
   have hlt:g<w1.heap.size:=heap_in hh
   refine .inr ⟨g,cur,e1,hg,hlt,by rw [hb4.block g hlt]; exact hh,by omega,fun i _ hi=>?_⟩
   have e:=rcells_at ps i 4 hi (by omega)
   have hl:(rcell (ps.getD i (Cn.none,undef)))[4]?=some (ps.getD i (Cn.none,undef)).2:=rfl
   rw [hl,← ht,List.getElem?_take,if_pos (by omega),Array.getElem?_toList] at e
   rw [Array.getD_eq_getD_getElem?,e]
   rfl
 ·have hok:=h.2 q hq
  rcases hok.row.2 with ⟨_,h0⟩ | ⟨g,cap',cur,hve,hg,hh,hn,hc,hs,ht⟩
  ·grind
  ·have hlt:=(hok.2.2.lt g (by rw [hve]; rfl)).2
   exact ⟨g,cap',cur,hve,hg,hlt,by rw [hb4.block g hlt]; exact hh,by omega⟩
theorem set_size9 (W:World) a v:(W.setCell a v).heap.size=W.heap.size:=by
 unfold World.setCell
 split <;> simp
theorem Ovr.item (h:Ovr w w1 w4 W ao ps k) {gi cur} (g1:w.heap.size≤gi) (g2:gi<w1.heap.size) (hh:W.heap[gi]?=some (.cells cur 21 (0,0))) j v:Ovr w w1 w4 (W.setCell ⟨gi,j,none⟩ v) ao ps k:=by
 refine ⟨by rw [set_size9]; exact h.sz,below_set h.bel g1 v,fun b hb=>by rw [set_other v (by omega)]; exact h.far b hb,?_,fun q hq hne=>?_⟩
 ·rcases h.rcd with h0 | ⟨g',cur',e,k1,k2,hh',hc⟩
  ·exact .inl h0
  ·refine .inr ⟨g',cur',e,k1,k2,?_,hc⟩
   rw [set_other v (fun e=>by subst e; rw [hh] at hh'; simp at hh')]
   exact hh'
 ·obtain ⟨g',capi,cur',e1,e2,e3,e4,e5⟩:=h.lst q hq hne
  by_cases hg:g'=gi
  ·subst hg
   rw [hh] at e4
   simp only [Option.some.injEq,Obj.cells.injEq,and_true] at e4
   subst e4
   exact ⟨g',capi,_,e1,e2,e3,set_block hh v,by rw [Array.size_setIfInBounds]; exact e5⟩
  ·exact ⟨g',capi,cur',e1,e2,e3,by rw [set_other v hg]; exact e4,e5⟩
theorem putR_size W g off (q:Rec × Value):(putR W g off q).heap.size=W.heap.size:=by
 unfold putR
 simp only [set_size9]
theorem Ovr.wipe (h:Ovr w w1 w4 W ao ps k) {g} (hg:ao=some ⟨g,0,none⟩) (hk:k<ps.length) (q:Rec × Value):Ovr w w1 w4 (putR W g (k * 8) q) ao ps (k+1):=by
 rcases h.rcd with h0 | ⟨g',cur,e,g1,g2,hh,hs,hc⟩
 ·omega
 ·rw [hg] at e
  simp only [Option.some.injEq,Addr.mk.injEq,and_true] at e
  subst e
  refine ⟨by rw [putR_size]; exact h.sz,putR_below h.bel g1 q,fun b hb=>by rw [putR_far q (by omega)]; exact h.far b hb,.inr ⟨g,_,hg,g1,g2,putR_at hh q,by rw [set8_size]; exact hs,fun j hj hjl=>?_⟩,fun p hp hne=>?_⟩
  ·rw [← hc j (by omega) hjl]
   simp only [Array.getD_eq_getD_getElem?]
   rw [set8_at cur (k * 8) q (by omega),if_neg (by omega)]
  ·obtain ⟨gi,capi,cur',e1,e2,e3,e4,e5⟩:=h.lst p hp hne
   refine ⟨gi,capi,cur',e1,e2,e3,?_,e5⟩
   rw [putR_far q (fun e=>by subst e; rw [hh] at e4; simp at e4)]
   exact e4
end
namespace Cn
def tailK (r:Rec):Bool :=
  if r.kind=1∨r.kind=2∨r.kind=11 then bare r false false false false false
  else if r.kind=3 then bare r false true false false false && list r.to 1 24
  else if r.kind=4 then bare r true true false false false && decide (1≤r.n∧r.n≤64) && list r.to 1 1 && decide (r.to.getD 0 0+r.hi - r.lo≤1114111∧(r.to.getD 0 0+r.hi - r.lo<55296∨57343<r.to.getD 0 0))
  else if r.kind=5 then decide (r.lo=r.hi) && scalar r.lo && bare r false true false false false && list r.to 0 24
  else if r.kind=13 then decide (r.lo=r.hi) && scalar r.lo && bare r false true false false false && list r.to 1 24
  else if r.kind=6 then bare r true false false false false && decide (1≤r.n∧r.n≤254)
  else if r.kind=7 then decide (r.lo=r.hi) && scalar r.lo && bare r false true false false false && list r.to 2 2
  else if r.kind=8 then decide (r.lo=r.hi) && scalar r.lo && bare r false true false false false && list r.to 1 2
  else if r.kind=9 then bare r true false false false false && decide (0≤r.n∧r.n≤10)
  else if r.kind=10 then bare r true false false false false && decide (0≤r.n∧r.n≤5)
  else if r.kind=12 then bare r false false true false false && nameL r.name
  else bare r false false false false true && weight r.wt
theorem right_none {r} (h:fam r.kind=0):right r=60:=by unfold right; rw [if_pos h]
theorem right_15 {r} (h:r.kind=15):right r=ansG (decide (r.lo=0) && decide (r.hi=0) && bare r false false true true true && nameL r.name && nameL r.other && decide (r.name≠r.other) && weight r.wt):=by
 unfold right ansG
 rw [if_neg (by rw [h]; decide),if_pos h]
 simp [and_assoc]
theorem right_body {r} (h0:fam r.kind≠0) (h15:r.kind≠15):right r=ansG (decide (0≤r.lo∧r.lo≤r.hi∧r.hi≤1114111) && tailK r):=by
 unfold right
 rw [if_neg h0,if_neg h15]
 rfl
theorem fam_kinds {k} (h:fam k≠0):1≤k∧k≤15:=by
 unfold fam at h
 split at h
 ·exact absurd rfl h
 ·omega
end Cn
theorem tail_1 {r} (h:r.kind=1):Cn.tailK r=(Cn.bare r false false false false false):=by
 unfold Cn.tailK
 rw [h]
 rfl
theorem tail_2 {r} (h:r.kind=2):Cn.tailK r=(Cn.bare r false false false false false):=by
 unfold Cn.tailK
 rw [h]
 rfl
theorem tail_3 {r} (h:r.kind=3):Cn.tailK r=(Cn.bare r false true false false false && Cn.list r.to 1 24):=by
 unfold Cn.tailK
 rw [h]
 rfl
theorem tail_4 {r} (h:r.kind=4):Cn.tailK r=(Cn.bare r true true false false false && decide (1≤r.n∧r.n≤64) && Cn.list r.to 1 1 && decide (r.to.getD 0 0+r.hi - r.lo≤1114111∧(r.to.getD 0 0+r.hi - r.lo<55296∨57343<r.to.getD 0 0))):=by
 unfold Cn.tailK
 rw [h]
 rfl
theorem tail_5 {r} (h:r.kind=5):Cn.tailK r=((decide (r.lo=r.hi) && Cn.scalar r.lo) && Cn.bare r false true false false false && Cn.list r.to 0 24):=by
 unfold Cn.tailK
 rw [h]
 rfl
theorem tail_6 {r} (h:r.kind=6):Cn.tailK r=(Cn.bare r true false false false false && decide (1≤r.n∧r.n≤254)):=by
 unfold Cn.tailK
 rw [h]
 rfl
theorem tail_7 {r} (h:r.kind=7):Cn.tailK r=((decide (r.lo=r.hi) && Cn.scalar r.lo) && Cn.bare r false true false false false && Cn.list r.to 2 2):=by
 unfold Cn.tailK
 rw [h]
 rfl
theorem tail_8 {r} (h:r.kind=8):Cn.tailK r=((decide (r.lo=r.hi) && Cn.scalar r.lo) && Cn.bare r false true false false false && Cn.list r.to 1 2):=by
 unfold Cn.tailK
 rw [h]
 rfl
theorem tail_9 {r} (h:r.kind=9):Cn.tailK r=(Cn.bare r true false false false false && decide (0≤r.n∧r.n≤10)):=by
 unfold Cn.tailK
 rw [h]
 rfl
theorem tail_10 {r} (h:r.kind=10):Cn.tailK r=(Cn.bare r true false false false false && decide (0≤r.n∧r.n≤5)):=by
 unfold Cn.tailK
 rw [h]
 rfl
theorem tail_11 {r} (h:r.kind=11):Cn.tailK r=(Cn.bare r false false false false false):=by
 unfold Cn.tailK
 rw [h]
 rfl
theorem tail_12 {r} (h:r.kind=12):Cn.tailK r=(Cn.bare r false false true false false && Cn.nameL r.name):=by
 unfold Cn.tailK
 rw [h]
 rfl
theorem tail_13 {r} (h:r.kind=13):Cn.tailK r=((decide (r.lo=r.hi) && Cn.scalar r.lo) && Cn.bare r false true false false false && Cn.list r.to 1 24):=by
 unfold Cn.tailK
 rw [h]
 rfl
theorem tail_14 {r} (h:r.kind=14):Cn.tailK r=(Cn.bare r false false false false true && Cn.weight r.wt):=by
 unfold Cn.tailK
 rw [h]
 rfl
theorem refRight_any:RightR:=by
 intro r vt w hf hs
 obtain ⟨ao,tc,rfl,htc,_⟩:=hs.shape
 unfold recV
 by_cases h0:Cn.fam r.kind=0
 ·rw [Cn.right_none h0]
  exact rw_none r.kind r.lo r.hi r.n ao r.to.length tc r.name r.other r.wt w hf.kind h0
 ·have KB:Hid (∀ W f1 f2 f3 f4 f5,Below w.heap.size w W→Calls Tryz.prog 102 #[recV r (.slice ao r.to.length tc),.bool f1,.bool f2,.bool f3,.bool f4,.bool f5] W (BoolB W (Cn.bare r f1 f2 f3 f4 f5))):=fun W f1 f2 f3 f4 f5 h=>refBare_any r _ f1 f2 f3 f4 f5 W (hs.below h)
  unfold recV at KB
  have KN:Hid (∀ W,Calls Tryz.prog 103 #[.string r.name] W fun e w'=>e=.returned (.bool (Cn.nameL r.name))∧w'=W):=fun W=>refNameL_any r.name W
  have KW:Hid (∀ W,Calls Tryz.prog 104 #[.float .f64 r.wt] W fun e w'=>e=.returned (.bool (Cn.weight r.wt))∧w'=W):=fun W=>refWeight_any r.wt W hf.wt
  by_cases h15:r.kind=15
  ·rw [Cn.right_15 h15]
   have KO:Hid (∀ W,Calls Tryz.prog 103 #[.string r.other] W fun e w'=>e=.returned (.bool (Cn.nameL r.other))∧w'=W):=fun W=>refNameL_any r.other W
   rw [h15] at KB ⊢
   exact rw_15 r.lo r.hi r.n ao r.to.length tc r.name r.other r.wt w hf.lo hf.hi _ _ _ _ (fun W h=>(Uh KB) W false false true true true h) KN KO KW
  ·have KL:∀ a b:Nat,Hid (∀ W,Below w.heap.size w W→Calls Tryz.prog 106 #[.slice ao r.to.length tc,.int .i64 a,.int .i64 b] W fun e w'=>e=.returned (.bool (Cn.list r.to a b))∧w'=W):=fun a b W h=>refList_any _ r.to a b W (hs.below h) hf.len
   have hk:=Cn.fam_kinds h0
   rw [Cn.right_body h0 h15]
   have hone:Hid (decide (0≤r.lo∧r.lo≤r.hi∧r.hi≤1114111)=true→(decide (r.lo=r.hi) && Cn.scalar r.lo)=(decide (r.lo=r.hi) && Cn.scalar r.lo)):=fun _=>rfl
   have hk14:r.kind=1∨r.kind=2∨r.kind=3∨r.kind=4∨r.kind=5∨r.kind=6∨r.kind=7∨r.kind=8∨r.kind=9∨r.kind=10∨r.kind=11∨r.kind=12∨r.kind=13∨r.kind=14:=by omega
   rcases hk14 with hk1 | hk1 | hk1 | hk1 | hk1 | hk1 | hk1 | hk1 | hk1 | hk1 | hk1 | hk1 | hk1 | hk1
   ·exact rwg_a r.kind r.lo r.hi r.n (.inl hk1) ao r.to.length tc r.name r.other r.wt w hf.lo hf.hi _ _ _ (rfl:_=decide (0≤r.lo∧r.lo≤r.hi∧r.hi≤1114111)) hone (Cn.bare r) KB (fun e=>congrArg (fun x=>ansG (decide (0≤r.lo∧r.lo≤r.hi∧r.hi≤1114111) && x)) (tail_1 e)) (fun e=>congrArg (fun x=>ansG (decide (0≤r.lo∧r.lo≤r.hi∧r.hi≤1114111) && x)) (tail_2 e))
   ·exact rwg_a r.kind r.lo r.hi r.n (.inr hk1) ao r.to.length tc r.name r.other r.wt w hf.lo hf.hi _ _ _ (rfl:_=decide (0≤r.lo∧r.lo≤r.hi∧r.hi≤1114111)) hone (Cn.bare r) KB (fun e=>congrArg (fun x=>ansG (decide (0≤r.lo∧r.lo≤r.hi∧r.hi≤1114111) && x)) (tail_1 e)) (fun e=>congrArg (fun x=>ansG (decide (0≤r.lo∧r.lo≤r.hi∧r.hi≤1114111) && x)) (tail_2 e))
   ·exact rwg_b r.kind r.lo r.hi r.n (.inr hk1) ao r.to.length tc r.name r.other r.wt w hf.lo hf.hi _ _ _ (rfl:_=decide (0≤r.lo∧r.lo≤r.hi∧r.hi≤1114111)) hone (Cn.bare r) KB _ (KL 1 24) (fun e=>congrArg (fun x=>ansG (decide (0≤r.lo∧r.lo≤r.hi∧r.hi≤1114111) && x)) (tail_11 e)) (fun e=>congrArg (fun x=>ansG (decide (0≤r.lo∧r.lo≤r.hi∧r.hi≤1114111) && x)) (tail_3 e))
   ·have HA:Hid (Cn.list r.to 1 1=true→Rune (r.to.getD 0 0)∧∃ b off,ao=some ⟨b,off,none⟩∧r.to.length=1∧r.to.length≤tc∧∀ W,Below w.heap.size w W→W.cell? ⟨b,off,none⟩=some (.int .i32 (r.to.getD 0 0))):=fun h=>by
     unfold Cn.list at h
     rw [Bool.and_eq_true] at h
     have h1:=of_decide_eq_true h.1
     have hl:r.to.length=1:=by omega
     obtain ⟨b,off,cap,he,c1,c2,hc⟩:=hs.place (by omega)
     simp only [Value.slice.injEq,true_and] at he
     obtain ⟨rfl,rfl⟩:=he
     refine ⟨rune_of hs (by omega),b,off,rfl,hl,htc,fun W hW=>?_⟩
     have hz:=hc 0 (by omega)
     rw [Nat.add_zero] at hz
     rw [hW.cell (lt_of_cell? hz)]
     exact hz
    exact rwg_e r.kind r.lo r.hi r.n (hk1) ao r.to.length tc r.name r.other r.wt w hf.lo hf.hi hf.n _ _ _ (rfl:_=decide (0≤r.lo∧r.lo≤r.hi∧r.hi≤1114111)) hone (Cn.bare r) KB _ (KL 1 1) (r.to.getD 0 0) HA (decide (r.to.getD 0 0+r.hi - r.lo≤1114111∧(r.to.getD 0 0+r.hi - r.lo<55296∨57343<r.to.getD 0 0))) (fun h=>of_decide_eq_true h) (fun h=>by have:=of_decide_eq_false h; omega) (decide (1≤r.n∧r.n≤64)) (fun h=>of_decide_eq_true h) (fun h=>by have:=of_decide_eq_false h; omega) (fun e=>congrArg (fun x=>ansG (decide (0≤r.lo∧r.lo≤r.hi∧r.hi≤1114111) && x)) (tail_4 e))
   ·exact rwg_c r.kind r.lo r.hi r.n (.inl hk1) ao r.to.length tc r.name r.other r.wt w hf.lo hf.hi _ _ _ (rfl:_=decide (0≤r.lo∧r.lo≤r.hi∧r.hi≤1114111)) hone (Cn.bare r) KB _ (KL 0 24) _ (KL 1 24) (fun e=>congrArg (fun x=>ansG (decide (0≤r.lo∧r.lo≤r.hi∧r.hi≤1114111) && x)) (tail_5 e)) (fun e=>congrArg (fun x=>ansG (decide (0≤r.lo∧r.lo≤r.hi∧r.hi≤1114111) && x)) (tail_13 e))
   ·exact rwg_f r.kind r.lo r.hi r.n (.inl hk1) ao r.to.length tc r.name r.other r.wt w hf.lo hf.hi hf.n _ _ _ (rfl:_=decide (0≤r.lo∧r.lo≤r.hi∧r.hi≤1114111)) hone (Cn.bare r) KB (decide (1≤r.n∧r.n≤254)) (fun h=>of_decide_eq_true h) (fun h=>by have:=of_decide_eq_false h; omega) (decide (0≤r.n∧r.n≤10)) (fun h=>of_decide_eq_true h) (fun h=>by have:=of_decide_eq_false h; omega) (fun e=>congrArg (fun x=>ansG (decide (0≤r.lo∧r.lo≤r.hi∧r.hi≤1114111) && x)) (tail_6 e)) (fun e=>congrArg (fun x=>ansG (decide (0≤r.lo∧r.lo≤r.hi∧r.hi≤1114111) && x)) (tail_9 e))
   ·exact rwg_d r.kind r.lo r.hi r.n (.inl hk1) ao r.to.length tc r.name r.other r.wt w hf.lo hf.hi _ _ _ (rfl:_=decide (0≤r.lo∧r.lo≤r.hi∧r.hi≤1114111)) hone (Cn.bare r) KB _ (KL 2 2) _ (KL 1 2) (fun e=>congrArg (fun x=>ansG (decide (0≤r.lo∧r.lo≤r.hi∧r.hi≤1114111) && x)) (tail_7 e)) (fun e=>congrArg (fun x=>ansG (decide (0≤r.lo∧r.lo≤r.hi∧r.hi≤1114111) && x)) (tail_8 e))
   ·exact rwg_d r.kind r.lo r.hi r.n (.inr hk1) ao r.to.length tc r.name r.other r.wt w hf.lo hf.hi _ _ _ (rfl:_=decide (0≤r.lo∧r.lo≤r.hi∧r.hi≤1114111)) hone (Cn.bare r) KB _ (KL 2 2) _ (KL 1 2) (fun e=>congrArg (fun x=>ansG (decide (0≤r.lo∧r.lo≤r.hi∧r.hi≤1114111) && x)) (tail_7 e)) (fun e=>congrArg (fun x=>ansG (decide (0≤r.lo∧r.lo≤r.hi∧r.hi≤1114111) && x)) (tail_8 e))
   ·exact rwg_f r.kind r.lo r.hi r.n (.inr hk1) ao r.to.length tc r.name r.other r.wt w hf.lo hf.hi hf.n _ _ _ (rfl:_=decide (0≤r.lo∧r.lo≤r.hi∧r.hi≤1114111)) hone (Cn.bare r) KB (decide (1≤r.n∧r.n≤254)) (fun h=>of_decide_eq_true h) (fun h=>by have:=of_decide_eq_false h; omega) (decide (0≤r.n∧r.n≤10)) (fun h=>of_decide_eq_true h) (fun h=>by have:=of_decide_eq_false h; omega) (fun e=>congrArg (fun x=>ansG (decide (0≤r.lo∧r.lo≤r.hi∧r.hi≤1114111) && x)) (tail_6 e)) (fun e=>congrArg (fun x=>ansG (decide (0≤r.lo∧r.lo≤r.hi∧r.hi≤1114111) && x)) (tail_9 e))
   ·exact rwg_g r.kind r.lo r.hi r.n (hk1) ao r.to.length tc r.name r.other r.wt w hf.lo hf.hi hf.n _ _ _ (rfl:_=decide (0≤r.lo∧r.lo≤r.hi∧r.hi≤1114111)) hone (Cn.bare r) KB (decide (0≤r.n∧r.n≤5)) (fun h=>of_decide_eq_true h) (fun h=>by have:=of_decide_eq_false h; omega) (fun e=>congrArg (fun x=>ansG (decide (0≤r.lo∧r.lo≤r.hi∧r.hi≤1114111) && x)) (tail_10 e))
   ·exact rwg_b r.kind r.lo r.hi r.n (.inl hk1) ao r.to.length tc r.name r.other r.wt w hf.lo hf.hi _ _ _ (rfl:_=decide (0≤r.lo∧r.lo≤r.hi∧r.hi≤1114111)) hone (Cn.bare r) KB _ (KL 1 24) (fun e=>congrArg (fun x=>ansG (decide (0≤r.lo∧r.lo≤r.hi∧r.hi≤1114111) && x)) (tail_11 e)) (fun e=>congrArg (fun x=>ansG (decide (0≤r.lo∧r.lo≤r.hi∧r.hi≤1114111) && x)) (tail_3 e))
   ·exact rwg_h r.kind r.lo r.hi r.n (.inl hk1) ao r.to.length tc r.name r.other r.wt w hf.lo hf.hi _ _ _ (rfl:_=decide (0≤r.lo∧r.lo≤r.hi∧r.hi≤1114111)) hone (Cn.bare r) KB _ KN _ KW (fun e=>congrArg (fun x=>ansG (decide (0≤r.lo∧r.lo≤r.hi∧r.hi≤1114111) && x)) (tail_12 e)) (fun e=>congrArg (fun x=>ansG (decide (0≤r.lo∧r.lo≤r.hi∧r.hi≤1114111) && x)) (tail_14 e))
   ·exact rwg_c r.kind r.lo r.hi r.n (.inr hk1) ao r.to.length tc r.name r.other r.wt w hf.lo hf.hi _ _ _ (rfl:_=decide (0≤r.lo∧r.lo≤r.hi∧r.hi≤1114111)) hone (Cn.bare r) KB _ (KL 0 24) _ (KL 1 24) (fun e=>congrArg (fun x=>ansG (decide (0≤r.lo∧r.lo≤r.hi∧r.hi≤1114111) && x)) (tail_5 e)) (fun e=>congrArg (fun x=>ansG (decide (0≤r.lo∧r.lo≤r.hi∧r.hi≤1114111) && x)) (tail_13 e))
   ·exact rwg_h r.kind r.lo r.hi r.n (.inr hk1) ao r.to.length tc r.name r.other r.wt w hf.lo hf.hi _ _ _ (rfl:_=decide (0≤r.lo∧r.lo≤r.hi∧r.hi≤1114111)) hone (Cn.bare r) KB _ KN _ KW (fun e=>congrArg (fun x=>ansG (decide (0≤r.lo∧r.lo≤r.hi∧r.hi≤1114111) && x)) (tail_12 e)) (fun e=>congrArg (fun x=>ansG (decide (0≤r.lo∧r.lo≤r.hi∧r.hi≤1114111) && x)) (tail_14 e))
theorem refCheck6:Check6R:=refCheck6_any refRight_any refClash_any
theorem refCheck7:RCheckC:=refCheck_any refCheck6 refRecord_any
namespace Cn
theorem check_zero {l} (h:(check l).2=0):(check l).1=0:=by
 unfold check at h ⊢
 by_cases h1:(check6 l).2≠0
 ·grind
 ·rw [if_neg h1] at h ⊢
  cases hx:recordA l 0 l with
  | some x=>rw [hx] at h; exact absurd h (recordA_err _ _ _ hx)
  | none=>grind
end Cn
theorem rcs_new {w1 B v} {ps:List (Rec × Value)} {rs} (hr:Rown w1 B v ps) (hp:ps.map (·.1)=rs) (hl:rs.length≤1000000000) (hf:∀ r∈rs,RecFit r):Rcs w1 v rs:=by
 subst hp
 exact hr.rcs (by simpa using hl) fun p hp'=>hf _ (List.mem_map.2 ⟨p,hp',rfl⟩)
theorem Rown.lower9 {w B B' v} {ps:List (Rec × Value)} (h:Rown w B v ps) (hb:B'≤B):Rown w B' v ps:=⟨row_low h.1 hb,fun p hp=>(h.2 p hp).lower hb⟩
def MadeB (w:World) (rs:List Rec) (e:Ending) (w':World):Prop:=Below w.heap.size w w'∧((¬ (Cn.check rs).2=0∧e=.returned (.tuple #[.pointer none,.slice none 0 0,.int .i64 0]))∨((Cn.check rs).2=0∧∃ p v ps,e=.returned (.tuple #[.pointer (some ⟨p,0,none⟩),v,.int .i64 1])∧DataAt w' w.heap.size p rs∧Rown w' w.heap.size v ps∧ps.map (·.1)=rs))
set_option maxRecDepth 8000 in
set_option maxHeartbeats 8000000 in
theorem made_any v rs0 w (hg:Glob w) (hv:Rcs w v rs0):Calls Tryz.prog 7 #[v] w (MadeB w (rs0.take 150)):=by
 have hlen:=hv.1
 obtain ⟨ao,cap,rfl,hc1,hc2⟩:=hv.shape
 obtain ⟨n,hn⟩:∃ n,n=min rs0.length 150:=⟨_,rfl⟩
 have hmin:min (rs0.length:Int) 150=(n:Int):=by omega
 have hn1:n≤rs0.length:=by omega
 have hn2:n≤150:=by omega
 have htk:rs0.take 150=rs0.take n:=by rw [hn,List.take_eq_take_min,Nat.min_comm]
 have hH:=hv.head hn1
 rw [htk]
 have hfit:∀ r∈rs0.take n,RecFit r:=fun r hr=>hv.2.1 r (List.mem_of_mem_take hr)
 have hrl:(rs0.take n).length=n:=by rw [List.length_take]; omega
 clear htk hn hv
 generalize rs0.take n=rs at *
 generalize rs0.length=L at *
 have K1:=Hd (refCopied_any _ _ w hH)
 have HFIT:=Hd hfit
 have HRL:=Hd hrl
 have HG:=Hd hg
 go_enter Tryz.func7,Tryz.ntmps7
 go_wp2_with fail
 refine (Uh K1).mono ?_
 rintro e1 w1 ⟨v1,ps1,rfl,p1,r1,b1⟩
 have R1:=rcs_new r1 p1 (by rw [Uh HRL]; omega) (Uh HFIT)
 have K2:=Hd (refCopied_any _ _ w1 R1)
 obtain ⟨a1,cp1,hv1,_,hcp1⟩:=R1.shape
 rw [Uh HRL] at hv1
 have hpl1:ps1.length=n:=by have:=congrArg List.length p1; rw [List.length_map,Uh HRL] at this; exact this
 subst hv1
 have HR1:=Hd R1
 have HO1:=Hd r1
 have HB1:=Hd b1
 have HPL1:=Hd hpl1
 go_wp2_with fail
 refine (Uh K2).mono ?_
 rintro e2 w2 ⟨v2,ps2,rfl,p2,r2,b2⟩
 have R2:=rcs_new r2 p2 (by rw [Uh HRL]; omega) (Uh HFIT)
 have K3:=Hd (refCheck7 _ _ w2 R2)
 obtain ⟨a2,cp2,hv2,_,hcp2⟩:=R2.shape
 rw [Uh HRL] at hv2
 subst hv2
 have HR2:=Hd R2
 have HO2:=Hd r2
 have HB2:=Hd b2
 go_wp2_with fail
 refine (Uh K3).mono ?_
 rintro e3 w3 ⟨rfl,b3⟩
 have HB3:=Hd b3
 have K4:=Hd (compile_any _ rs w3 (((Uh HG).on (Uh HB1)).on (bthen (Uh HB2) b3)) ((Uh HR1).below (bthen (Uh HB2) b3)))
 go_wp2_with fail
 refine (Uh K4).mono ?_
 rintro e4 w4 ⟨b4,h4⟩
 have HB4:=Hd b4
 have K5:=Hd (sameRecs_eq _ _ rs w4 ((Uh HR1).below (bthen (bthen (Uh HB2) (Uh HB3)) b4)) ((Uh HR2).below (bthen (Uh HB3) b4)))
 rcases h4 with ⟨hne,rfl⟩ | ⟨h0,p,rfl,hD⟩
 ·have HNE:=Hd hne
  have hq:((Cn.check rs).2 != 0)=true:=bne_iff_ne.2 hne
  generalize hck:Cn.check rs=q at *
  have HCK:=Hd hck
  obtain ⟨q1,q2⟩:=q
  simp only at hq
  go_wp2_with (go_at_call 29; refine (Uh K5).mono ?_; rintro e5 w5 ⟨rfl,b5⟩; have HB5:=Hd b5; clear K5 b5)
  go_ret3
  exact ⟨bthen (bthen (Uh HB1) (bthen (bthen (Uh HB2) (Uh HB3)) (Uh HB4))) (Uh HB5),.inl ⟨by rw [Uh HCK]; exact Uh HNE,rfl⟩⟩
 ·have hz:=Cn.check_zero h0
  have HH0:=Hd h0
  have HD:=Hd hD
  generalize hck:Cn.check rs=q at *
  have HCK:=Hd hck
  obtain ⟨q1,q2⟩:=q
  simp only at h0 hz
  subst h0 hz
  go_wp2_with (go_at_call 29; refine (Uh K5).mono ?_; rintro e5 w5 ⟨rfl,b5⟩; have HB5:=Hd b5; clear K5 b5)
  have HB15:=Hd (bthen (bthen (bthen (Uh HB2) (Uh HB3)) (Uh HB4)) (Uh HB5))
  have HOV:=Hd (Ovr.start (w:=w) (w1:=w1) (w4:=w5) (cap:=cp1) (ao:=a1) (ps:=ps1) (by rw [Uh HPL1]; exact Uh HO1) (bthen (Uh HB1) (Uh HB15)) (Uh HB15))
  have HLI:Hid (∀ k,k<n→∃ ak ck,(ps1.getD k (Cn.none,undef)).2=.slice ak (ps1.getD k (Cn.none,undef)).1.to.length ck∧(ps1.getD k (Cn.none,undef)).1.to.length≤140737488355328∧ck≤9223372036854775807∧(ps1.getD k (Cn.none,undef)).1.to.length≤ck):=fun k hk=>by
   have hm:ps1.getD k (Cn.none,undef)∈ps1:=by
    have:=Uh HPL1
    simp [List.getD,show k<ps1.length by omega]
   obtain ⟨ak,ck,e,h1,h2⟩:=((Uh HO1).2 _ hm).sk.shape
   exact ⟨ak,ck,e,((Uh HO1).2 _ hm).sk.len,h2,h1⟩
  have HEND:Hid (∀ W k,Ovr w w1 w5 W a1 ps1 k→MadeB w rs (.returned (.tuple #[.pointer (some ⟨p,0,none⟩),.slice a2 n cp2,.int .i64 1])) W):=fun W k hO=>by
   have hs12:=(Uh HB2).size
   have hs13:=(bthen (Uh HB2) (Uh HB3)).size
   have hs5:=(Uh HB1).size
   refine ⟨hO.bel,.inr ⟨by rw [Uh HCK],p,_,ps2,rfl,?_,?_,p2⟩⟩
   ·exact (((Uh HD).below (Uh HB5)).keep (by rw [hO.sz]; exact Nat.le_refl _) (fun b hb _=>hO.far b (by omega))).lower (by omega)
   ·exact (((Uh HO2).on7 (bthen (bthen (Uh HB3) (Uh HB4)) (Uh HB5))).far7 (fun b hb _=>hO.far b hb)).lower9 (by omega)
  go_loopw [12,13] (fun ii _ wr=>∃ k:Nat,ii=.int .i64 k∧k≤n∧Ovr w w1 w5 wr a1 ps1 k) (fun ii _ _=>n - (intOf ii).toNat)
  case atStart=>exact ⟨0,rfl,by omega,Uh HOV⟩
  case round =>
   obtain ⟨k,rfl,hk,hO⟩:=hrel
   by_cases hlt:k<n
   ·have hpl1:=Uh HPL1
    obtain ⟨ak,ck,hq2,hq3,hq4,hq5⟩:=(Uh HLI) k hlt
    have hm:ps1.getD k (Cn.none,undef)∈ps1:=by simp [List.getD,show k<ps1.length by omega]
    obtain ⟨g,hga⟩:∃ g,a1=some ⟨g,0,none⟩:=by
     rcases hO.rcd with h0 | ⟨g,cur,e,_⟩
     ·omega
     ·exact ⟨g,e⟩
    subst hga
    have HC4:Hid (∀ W,Ovr w w1 w5 W (some ⟨g,0,none⟩) ps1 k→W.cell? ⟨g,k * 8+4,none⟩=some (ps1.getD k (Cn.none,undef)).2∧∃ cur,W.heap[g]?=some (.cells cur 59 (0,0))∧k * 8+8≤cur.size):=fun W h=>by
     rcases h.rcd with h0 | ⟨g',cur,e,_,_,hh,hs,hc⟩
     ·omega
     ·simp only [Option.some.injEq,Addr.mk.injEq,and_true] at e
      subst e
      exact ⟨by rw [cell_of (j:=k * 8+4) hh (by omega),hc k (Nat.le_refl _) (by omega)],cur,hh,by omega⟩
    have HLS:Hid (∀ W,Ovr w w1 w5 W (some ⟨g,0,none⟩) ps1 k→(ps1.getD k (Cn.none,undef)).1.to≠[]→∃ gi capi cur,(ps1.getD k (Cn.none,undef)).2=.slice (some ⟨gi,0,none⟩) (ps1.getD k (Cn.none,undef)).1.to.length capi∧w.heap.size≤gi∧gi<w1.heap.size∧W.heap[gi]?=some (.cells cur 21 (0,0))∧(ps1.getD k (Cn.none,undef)).1.to.length≤cur.size):=fun W h=>h.lst _ hm
    have HWI:Hid (∀ W,Ovr w w1 w5 W (some ⟨g,0,none⟩) ps1 k→Ovr w w1 w5 (putR W g (k * 8) (Cn.none,.slice none 0 0)) (some ⟨g,0,none⟩) ps1 (k+1)):=fun W h=>h.wipe rfl (by omega) _
    have HO:=Hd hO
    rw [hq2] at HC4 HLS
    generalize hql:(ps1.getD k (Cn.none,undef)).1.to.length=tl at *
    have HTL:=Hd hql
    go_upto_block 2 with fail
    go_cut [13] (fun _ wc=>Ovr w w1 w5 wc (some ⟨g,0,none⟩) ps1 k)
    case first =>
     go_wp2
     go_loopw [13] (fun jj wd=>∃ j:Nat,jj=.int .i64 j∧j≤tl∧Ovr w w1 w5 wd (some ⟨g,0,none⟩) ps1 k) (fun jj _=>tl - (intOf jj).toNat)
     case atStart=>exact ⟨0,rfl,by omega,Uh HO⟩
     case round =>
      obtain ⟨j,rfl,hj,hO2⟩:=hrel
      obtain ⟨hc4,-⟩:=(Uh HC4) wr hO2
      by_cases hjl:j<tl
      ·obtain ⟨gi,capi,cur,e,g1,g2,hh,hsz⟩:=(Uh HLS) wr hO2 (fun e=>by have:=Uh HTL; rw [e] at this; simp at this; omega)
       obtain ⟨e1,e2,e3⟩:=Value.slice.inj e
       subst e1 e3
       have hcj:=cell_of (j:=j) hh (by omega)
       have hfz:=frozen_of (j:=j) hh
       have HOI:=Hd (hO2.item g1 g2 hh j (.int .i32 65))
       generalize cur.getD j undef=uj at *
       go_wp2
       go_roundw
       case rel=>exact ⟨j+1,by go_num,by omega,Uh HOI⟩
       case measure=>simp [intOf]; omega
      ·have HO3:=Hd hO2
       go_wp2
       go_meet
       case rel=>exact Uh HO3
    case rest =>
     obtain ⟨hc4,cur,hh,hsz⟩:=(Uh HC4) wc hcut
     have HW:=Hd ((Uh HWI) wc hcut)
     have y0:=cell_of (j:=k * 8) hh (by omega)
     have y1:=cell_of (j:=k * 8+1) hh (by omega)
     have y2:=cell_of (j:=k * 8+2) hh (by omega)
     have y3:=cell_of (j:=k * 8+3) hh (by omega)
     have y5:=cell_of (j:=k * 8+5) hh (by omega)
     have y6:=cell_of (j:=k * 8+6) hh (by omega)
     have y7:=cell_of (j:=k * 8+7) hh (by omega)
     have fz:=fun j=>frozen_of (j:=j) hh
     have hfl:∀ W a m,(store a (.float .f64 0) m).run Tryz.prog W=stored Tryz.prog W a (.float .f64 0) m:=fun W a m=>run_store Tryz.prog W a _ m rfl
     generalize cur.getD (k * 8) undef=uy0 at *
     generalize cur.getD (k * 8+1) undef=uy1 at *
     generalize cur.getD (k * 8+2) undef=uy2 at *
     generalize cur.getD (k * 8+3) undef=uy3 at *
     generalize cur.getD (k * 8+5) undef=uy5 at *
     generalize cur.getD (k * 8+6) undef=uy6 at *
     generalize cur.getD (k * 8+7) undef=uy7 at *
     go_wp2
     exact ⟨⟨k+1,by go_num,by omega,Uh HW⟩,by simp [intOf]; omega⟩
   ·obtain rfl:k=n:=by omega
    have HF:=Hd ((Uh HEND) wr k hO)
    go_wp2
    go_ret3
    exact Uh HF
namespace Cn
def mk3 (k lo hi:Int):Rec:=⟨k,lo,hi,0,[],⟨#[]⟩,⟨#[]⟩,0⟩
def little:List Rec:=[mk3 1 97 122,mk3 1 48 57,mk3 1 45 46,⟨4,65,90,1,[97],⟨#[]⟩,⟨#[]⟩,0⟩,mk3 1 224 224,mk3 1 768 768,⟨7,224,224,0,[97,768],⟨#[]⟩,⟨#[]⟩,0⟩,⟨6,768,768,230,[],⟨#[]⟩,⟨#[]⟩,0⟩,mk3 11 768 768,⟨14,224,224,0,[],⟨#[]⟩,⟨#[]⟩,4591870180066957722⟩]
end Cn
def lpsA:List (Rec × Value):=[(Cn.mk3 1 97 122,.slice none 0 0),(Cn.mk3 1 48 57,.slice none 0 0),(Cn.mk3 1 45 46,.slice none 0 0)]
def lpsB (n:Nat):List (Rec × Value):=[(⟨4,65,90,1,[97],⟨#[]⟩,⟨#[]⟩,0⟩,.slice (some ⟨n,0,none⟩) 1 1),(Cn.mk3 1 224 224,.slice none 0 0),(Cn.mk3 1 768 768,.slice none 0 0)]
def lpsC (n:Nat):List (Rec × Value):=[(⟨7,224,224,0,[97,768],⟨#[]⟩,⟨#[]⟩,0⟩,.slice (some ⟨n,0,none⟩) 2 2),(⟨6,768,768,230,[],⟨#[]⟩,⟨#[]⟩,0⟩,.slice none 0 0),(Cn.mk3 11 768 768,.slice none 0 0),(⟨14,224,224,0,[],⟨#[]⟩,⟨#[]⟩,4591870180066957722⟩,.slice none 0 0)]
theorem ok_one9 (w:World) B (hB:B≤w.heap.size) c (hc:-2147483648≤c∧c≤2147483647):Ok .i32 21 (w.alloc (.cells #[.int .i32 c] 21)) B (.slice (some ⟨w.heap.size,0,none⟩) 1 1) [c]:=by
 refine ⟨fun z hz=>by simp at hz; subst hz; exact i32_fit hc,by simp,by simp,.inr ⟨w.heap.size,1,#[.int .i32 c],rfl,hB,?_,Nat.le_refl _,by unfold maxLen; simp,by simp,by simp⟩⟩
 show (w.heap.push _)[w.heap.size]?=_
 simp
theorem lit_own (W:World) B (hB:B≤W.heap.size) (ps:List (Rec × Value)) n (hn:ps.length=n) (hs:n≤100):(W.alloc (.cells (rcells ps).toArray 59)).ownsRow B 59 8 (.slice (some ⟨W.heap.size,0,none⟩) n n) n (rcells ps):=by
 subst hn
 refine ⟨rcells_length ps,.inr ⟨W.heap.size,ps.length,(rcells ps).toArray,rfl,hB,?_,Nat.le_refl _,by unfold maxLen; omega,by rw [List.size_toArray,rcells_length],?_⟩⟩
 ·show (W.heap.push _)[W.heap.size]?=_
  simp
 ·exact List.take_of_length_le (by rw [rcells_length]; exact Nat.le_refl _)
theorem lit_lies (W:World) (ps:List (Rec × Value)):∀ j u,(rcells ps)[j]?=some u→(W.alloc (.cells (rcells ps).toArray 59)).cell? ((⟨W.heap.size,0,none⟩:Addr).add j)=some u:=by
 intro j u h
 have hh:(W.alloc (.cells (rcells ps).toArray 59)).heap[W.heap.size]?=some (.cells (rcells ps).toArray 59 (0,0)):=by
  show (W.heap.push _)[W.heap.size]?=_
  simp
 rw [addr_add,Nat.zero_add]
 have hj:j<(rcells ps).length:=(List.getElem?_eq_some_iff.1 h).1
 rw [cell_of (j:=j) hh (by simpa using hj)]
 rw [Array.getD_eq_getD_getElem?,List.getElem?_toArray,h]; rfl
theorem rcells_app (ps qs:List (Rec × Value)):rcells ps++rcells qs=rcells (ps++qs):=by unfold rcells; rw [List.flatMap_append]
theorem rows_more {W1 W2 B v v'} {ps qs:List (Rec × Value)} (hown:Rown W1 B v ps) (hq:∀ q∈qs,Ok .i32 21 W1 B q.2 q.1.to) (hrow:W2.ownsRow B 59 8 v' (ps.length+qs.length) (rcells ps++rcells qs)) (hg:W1.grownBy W2 v.ownBlock):Rown W2 B v' (ps++qs):=by
 refine ⟨by rw [List.length_append,← rcells_app]; exact hrow,fun p hp=>?_⟩
 have key:∀ p:Rec × Value,Ok .i32 21 W1 B p.2 p.1.to→Ok .i32 21 W2 B p.2 p.1.to:=fun p hop=>hop.keep fun g h=>hg.block g (hop.2.2.lt g h).2 (fun e=>own_apart hop.2.2 hown.1 (by decide) h e.symm)
 rcases List.mem_append.1 hp with hp | hp
 ·exact key p (hown.2 p hp)
 ·exact key p (hq p hp)
theorem one_all (ps:List (Rec × Value)) (h:∀ p∈ps,p.2.oneCell'=true):∀ u∈rcells ps,u.oneCell'=true:=by
 intro u hu
 obtain ⟨p,hp,hu⟩:=List.mem_flatMap.1 hu
 exact rec_one p.1 (h p hp) u hu
theorem Rown.alloc9 {W B v} {ps:List (Rec × Value)} (h:Rown W B v ps) o:Rown (W.alloc o) B v ps:=h.on7 ((Below.refl _ _).alloc (Nat.le_refl _) o)
set_option maxRecDepth 20000 in
set_option maxHeartbeats 4000000 in
theorem little_any w:Calls Tryz.prog 50 #[] w (RecsNew w Cn.little):=by
 obtain ⟨i1,hj,hy0,hy1,hy2⟩:=info_parts Tryz.info59
 obtain ⟨WA,hWA⟩:∃ WA,w.alloc (.cells (rcells lpsA).toArray 59)=WA:=⟨_,rfl⟩
 have hA:Rown WA w.heap.size (.slice (some ⟨w.heap.size,0,none⟩) 3 3) lpsA:=by
  rw [← hWA]
  refine ⟨lit_own w w.heap.size (Nat.le_refl _) lpsA 3 rfl (by omega),fun p hp=>?_⟩
  simp only [lpsA,List.mem_cons,List.mem_nil_iff,or_false] at hp
  rcases hp with rfl | rfl | rfl <;> exact Ok.nil _ _ _ _
 have hbA:Below w.heap.size w WA:=by rw [← hWA]; exact (Below.refl _ _).alloc (Nat.le_refl _) _
 have hsA:WA.heap.size=w.heap.size+1:=by rw [← hWA]; simp
 obtain ⟨WB,hWB⟩:∃ WB,WA.alloc (.cells #[.int .i32 97] 21)=WB:=⟨_,rfl⟩
 have hbB:Below w.heap.size w WB:=by rw [← hWB]; exact hbA.alloc (by omega) _
 have hsB:WB.heap.size=w.heap.size+2:=by rw [← hWB]; simp; omega
 have hlB:Ok .i32 21 WB w.heap.size (.slice (some ⟨w.heap.size+1,0,none⟩) 1 1) [97]:=by
  have:=ok_one9 WA w.heap.size (by omega) 97 (by omega)
  rw [hWB,hsA] at this; exact this
 have hAB:Rown WB w.heap.size (.slice (some ⟨w.heap.size,0,none⟩) 3 3) lpsA:=by rw [← hWB]; exact hA.alloc9 _
 obtain ⟨WC,hWC⟩:∃ WC,WB.alloc (.cells (rcells (lpsB (w.heap.size+1))).toArray 59)=WC:=⟨_,rfl⟩
 have hbC:Below w.heap.size w WC:=by rw [← hWC]; exact hbB.alloc (by omega) _
 have hsC:WC.heap.size=w.heap.size+3:=by rw [← hWC]; simp; omega
 have hlies:=lit_lies WB (lpsB (w.heap.size+1))
 rw [hWC,hsB] at hlies
 have hAC:Rown WC w.heap.size (.slice (some ⟨w.heap.size,0,none⟩) 3 3) lpsA:=by rw [← hWC]; exact hAB.alloc9 _
 have hqB:∀ q∈lpsB (w.heap.size+1),Ok .i32 21 WC w.heap.size q.2 q.1.to:=fun q hq=>by
  simp only [lpsB,List.mem_cons,List.mem_nil_iff,or_false] at hq
  rcases hq with rfl | rfl | rfl
  ·rw [← hWC]; exact hlB.below ((Below.refl _ _).alloc (Nat.le_refl _) _)
  ·exact Ok.nil _ _ _ _
  ·exact Ok.nil _ _ _ _
 have honeB:=one_all (lpsB (w.heap.size+1)) (fun p hp=>by
  simp only [lpsB,List.mem_cons,List.mem_nil_iff,or_false] at hp
  rcases hp with rfl | rfl | rfl <;> rfl)
 have HAC:=Hd hAC
 have HRA:Hid (WC.ownsRow w.heap.size 59 8 (.slice (some ⟨w.heap.size,0,none⟩) 3 3) 3 (rcells lpsA)):=hAC.1
 have HQB:=Hd hqB
 have HLIES:=Hd hlies
 have HONEB:=Hd honeB
 have HBC:=Hd hbC
 replace hWA:w.alloc (.cells #[.int .i64 1,.int .i64 97,.int .i64 122,.int .i64 0,.slice none 0 0,.string ⟨#[]⟩,.string ⟨#[]⟩,.float .f64 0,.int .i64 1,.int .i64 48,.int .i64 57,.int .i64 0,.slice none 0 0,.string ⟨#[]⟩,.string ⟨#[]⟩,.float .f64 0,.int .i64 1,.int .i64 45,.int .i64 46,.int .i64 0,.slice none 0 0,.string ⟨#[]⟩,.string ⟨#[]⟩,.float .f64 0] 59)=WA:=hWA
 replace hWC:WB.alloc (.cells #[.int .i64 4,.int .i64 65,.int .i64 90,.int .i64 1,.slice (some ⟨w.heap.size+1,0,none⟩) 1 1,.string ⟨#[]⟩,.string ⟨#[]⟩,.float .f64 0,.int .i64 1,.int .i64 224,.int .i64 224,.int .i64 0,.slice none 0 0,.string ⟨#[]⟩,.string ⟨#[]⟩,.float .f64 0,.int .i64 1,.int .i64 768,.int .i64 768,.int .i64 0,.slice none 0 0,.string ⟨#[]⟩,.string ⟨#[]⟩,.float .f64 0] 59)=WC:=hWC
 go_enter Tryz.func50,Tryz.ntmps50
 go_wp2_with (at_builtin; refine wpList_append_own _ rfl (.tmp 6) (.tmp 11) 22 rfl w.heap.size 59 i1 (.agg #[.int .i64 0,.int .i64 0,.int .i64 0,.int .i64 0,.slice none 0 0,.string ⟨#[]⟩,.string ⟨#[]⟩,.float .f64 0]) 8 96 Tryz.underlying22 hj hy0 hy1 hy2 rfl (by decide) _ _ _ rfl (Uh HRA) ⟨w.heap.size+2,0,none⟩ 3 3 (rcells (lpsB (w.heap.size+1))) rfl (by rw [rcells_length]; rfl) (Uh HLIES) (Uh HONEB) (by unfold maxLen; omega) (by omega) (by omega) ?_)
 intro v10 w10 hrow10 hg10 _
 have hR10:Rown w10 w.heap.size v10 (lpsA++lpsB (w.heap.size+1)):=rows_more (Uh HAC) (Uh HQB) hrow10 hg10
 have hb10:Below w.heap.size w w10:=(Uh HBC).grown hg10 (by omega) (fun k hk=>((Uh HAC).1.lt k hk).1)
 have hs10:=hb10.size
 have hv10:∃ g cap,v10=.slice (some ⟨g,0,none⟩) 6 cap:=by
  rcases hrow10.2 with ⟨_,h0⟩ | ⟨g,cap,cur,e,_⟩
  ·omega
  ·exact ⟨g,cap,e⟩
 obtain ⟨g10,cp10,rfl⟩:=hv10
 obtain ⟨m,hm⟩:∃ m,w10.heap.size=m:=⟨_,rfl⟩
 obtain ⟨WD,hWD⟩:∃ WD,w10.alloc (.cells #[.int .i32 97,.int .i32 768] 21)=WD:=⟨_,rfl⟩
 have hbD:Below w.heap.size w WD:=by rw [← hWD]; exact hb10.alloc (by omega) _
 have hsD:WD.heap.size=m+1:=by rw [← hWD]; simp; omega
 have hlD:Ok .i32 21 WD w.heap.size (.slice (some ⟨m,0,none⟩) 2 2) [97,768]:=by
  have:=(ok_two w10 97 768 (by omega) (by omega)).lower hs10
  rw [hWD,hm] at this; exact this
 obtain ⟨WE,hWE⟩:∃ WE,WD.alloc (.cells (rcells (lpsC m)).toArray 59)=WE:=⟨_,rfl⟩
 have hbE:Below w.heap.size w WE:=by rw [← hWE]; exact hbD.alloc (by omega) _
 have hsE:WE.heap.size=m+2:=by rw [← hWE]; simp; omega
 have hlies:=lit_lies WD (lpsC m)
 rw [hWE,hsD] at hlies
 have hRE:Rown WE w.heap.size (.slice (some ⟨g10,0,none⟩) 6 cp10) (lpsA++lpsB (w.heap.size+1)):=by rw [← hWE,← hWD]; exact (hR10.alloc9 _).alloc9 _
 have hqC:∀ q∈lpsC m,Ok .i32 21 WE w.heap.size q.2 q.1.to:=fun q hq=>by
  simp only [lpsC,List.mem_cons,List.mem_nil_iff,or_false] at hq
  rcases hq with rfl | rfl | rfl | rfl
  ·rw [← hWE]; exact hlD.below ((Below.refl _ _).alloc (Nat.le_refl _) _)
  ·exact Ok.nil _ _ _ _
  ·exact Ok.nil _ _ _ _
  ·exact Ok.nil _ _ _ _
 have honeC:=one_all (lpsC m) (fun p hp=>by
  simp only [lpsC,List.mem_cons,List.mem_nil_iff,or_false] at hp
  rcases hp with rfl | rfl | rfl | rfl <;> rfl)
 have HRE:Hid (WE.ownsRow w.heap.size 59 8 (.slice (some ⟨g10,0,none⟩) 6 cp10) 6 (rcells (lpsA++lpsB (w.heap.size+1)))):=hRE.1
 have HRR:=Hd hRE
 have HQC:=Hd hqC
 have HLIES:=Hd hlies
 have HONEC:=Hd honeC
 have HBE:=Hd hbE
 have hmw:w.heap.size≤m:=by omega
 replace hWE:WD.alloc (.cells #[.int .i64 7,.int .i64 224,.int .i64 224,.int .i64 0,.slice (some ⟨m,0,none⟩) 2 2,.string ⟨#[]⟩,.string ⟨#[]⟩,.float .f64 0,.int .i64 6,.int .i64 768,.int .i64 768,.int .i64 230,.slice none 0 0,.string ⟨#[]⟩,.string ⟨#[]⟩,.float .f64 0,.int .i64 11,.int .i64 768,.int .i64 768,.int .i64 0,.slice none 0 0,.string ⟨#[]⟩,.string ⟨#[]⟩,.float .f64 0,.int .i64 14,.int .i64 224,.int .i64 224,.int .i64 0,.slice none 0 0,.string ⟨#[]⟩,.string ⟨#[]⟩,.float .f64 4591870180066957722] 59)=WE:=hWE
 go_wp2_with (at_builtin; refine wpList_append_own _ rfl (.tmp 13) (.tmp 19) 22 rfl w.heap.size 59 i1 (.agg #[.int .i64 0,.int .i64 0,.int .i64 0,.int .i64 0,.slice none 0 0,.string ⟨#[]⟩,.string ⟨#[]⟩,.float .f64 0]) 8 96 Tryz.underlying22 hj hy0 hy1 hy2 rfl (by decide) _ _ _ rfl (Uh HRE) ⟨m+1,0,none⟩ 4 4 (rcells (lpsC m)) rfl (by rw [rcells_length]; rfl) (Uh HLIES) (Uh HONEC) (by unfold maxLen; omega) (by omega) (by omega) ?_)
 intro v20 w20 hrow20 hg20 _
 have hR20:Rown w20 w.heap.size v20 (lpsA++lpsB (w.heap.size+1)++lpsC m):=rows_more (Uh HRR) (Uh HQC) hrow20 hg20
 have hb20:Below w.heap.size w w20:=(Uh HBE).grown hg20 (by omega) (fun k hk=>((Uh HRR).1.lt k hk).1)
 have HF:Hid (RecsNew w Cn.little (.returned v20) w20):=⟨v20,_,rfl,rfl,hR20,hb20⟩
 go_wp2
 go_ret
 exact Uh HF
end Go.Proofs.YtihhhjodonkkcaaGreatDoor
