/- Va9 Rw7 Vb9 Vd9 -/
import Derived.Test.YtkglkajjofidoaaGreatDoorV27
import Derived.Test.YtkglkajjofidoaaGreatDoorV33
import Derived.Test.YtkglkajjofidoaaGreatDoorV34
import Derived.Test.YtkglkajjofidoaaGreatDoorV35
import Derived.Test.YtkglkajjofidoaaGreatDoorV36
import Derived.Test.YtkglkajjofidoaaGreatDoorV37
import Derived.Test.YtkglkajjofidoaaGreatDoorV38
import Derived.Test.YtkglkajjofidoaaGreatDoorV39
import Derived.Test.YtkglkajjofidoaaGreatDoorV41
set_option maxHeartbeats 8000000
set_option maxRecDepth 100000
namespace Go.Proofs.YtkglkajjofidoaaGreatDoor
open Go.Proofs.Tryz
open Go.RowKit
structure Ovr (w w1 w4 W:World) (ao:Option Addr) (ps:List (Rec × Value)) (k:Nat):Prop where
 sz:W.heap.size=w4.heap.size
 bel:Below w.heap.size w W
 far:∀ b,w1.heap.size<=b->W.heap[b]?=w4.heap[b]?
 rcd:ps.length=0\/∃ g cur,ao=some ⟨g,0,none⟩/\w.heap.size<=g/\g<w1.heap.size/\W.heap[g]?=some (.cells cur 50 (0,0))/\ps.length * 8<=cur.size/\∀ i,k<=i->i<ps.length->cur.getD (i * 8+4) undef=(ps.getD i (Cn.none,undef)).2
 lst:∀ q∈ps,q.1.to≠[]->∃ gi ad cur,q.2=.slice (some ⟨gi,0,none⟩) q.1.to.length ad/\w.heap.size<=gi/\gi<w1.heap.size/\W.heap[gi]?=some (.cells cur 21 (0,0))/\q.1.to.length<=cur.size
section
variable {w w1 w4 W:World} {ao:Option Addr} {ps:List (Rec × Value)} {cap k:Nat}
theorem Ovr.start (h:Rown w1 w.heap.size (.slice ao ps.length cap) ps) (hb:Bw w w4) (bp:Bw w1 w4):Ovr w w1 w4 w4 ao ps 0:=by
 refine ⟨rfl,hb,fun k _=>rfl,?_,fun q hq hne=>?_⟩
 ·rcases h.1.2 with ⟨_,h0⟩ | ⟨g,cap',cur,hve,hg,hh,hn,hc,hs,ht⟩
  ·exact .inl h0
  ·obtain ⟨e1,_,e3⟩:=Value.slice.inj hve;have aD:g<w1.heap.size:=x4S hh;refine .inr ⟨g,cur,e1,hg,aD,by rw [bp.block g aD]; exact hh,by omega,fun i _ hi=>?_⟩;have e:=x1j ps i 4 hi (by omega);have hl:(x0u (ps.getD i (Cn.none,undef)))[4]?=some (ps.getD i (Cn.none,undef)).2:=rfl;rw [hl,<- ht,List.getElem?_take,if_pos (by omega),Array.getElem?_toList] at e;rw [Array.getD_eq_getD_getElem?,e];rfl
 ·have bx:=h.2 q hq;rcases bx.row.2 with ⟨_,h0⟩ | ⟨g,cap',cur,hve,hg,hh,hn,hc,hs,ht⟩
  ·exact absurd (List.eq_nil_of_length_eq_zero h0) hne
  ·have aD:=(bx.2.2.lt g (by rw [hve]; rfl)).2;exact ⟨g,cap',cur,hve,hg,aD,by rw [bp.block g aD]; exact hh,by omega⟩
theorem x8C (W:World) (a:Addr) (v:Value):(W.setCell a v).heap.size=W.heap.size:=by
 unfold World.setCell;split <;> simp
theorem Ovr.item (h:Ovr w w1 w4 W ao ps k) {gi:Nat} {cur:Array Value} (g1:w.heap.size<=gi) (g2:gi<w1.heap.size) (hh:W.heap[gi]?=some (.cells cur 21 (0,0))) (j:Nat) (v:Value):Ovr w w1 w4 (W.setCell ⟨gi,j,none⟩ v) ao ps k:=by
 refine ⟨by rw [x8C]; exact h.sz,x0c h.bel g1 v,fun b hb=>by rw [x0g v (by omega)]; exact h.far b hb,?_,fun q hq hne=>?_⟩
 ·rcases h.rcd with h0 | ⟨g',ag,e,k1,k2,hh',hc⟩
  ·exact .inl h0
  ·refine .inr ⟨g',ag,e,k1,k2,?_,hc⟩;rw [x0g v (fun e=>by subst e; rw [hh] at hh'; simp at hh')];exact hh'
 ·obtain ⟨g',ad,ag,e1,e2,e3,e4,e5⟩:=h.lst q hq hne;by_cases hg:g'=gi
  ·subst hg;rw [hh] at e4;simp only [Option.some.injEq,Obj.cells.injEq,and_true] at e4;subst e4;exact ⟨g',ad,_,e1,e2,e3,x0f hh v,by rw [Array.size_setIfInBounds]; exact e5⟩
  ·exact ⟨g',ad,ag,e1,e2,e3,by rw [x0g v hg]; exact e4,e5⟩
theorem y4V (W:World) (g off:Nat) (q:Rec × Value):(putR W g off q).heap.size=W.heap.size:=by
 unfold putR;simp only [x8C]
theorem Ovr.wipe (h:Ovr w w1 w4 W ao ps k) {g:Nat} (hg:ao=some ⟨g,0,none⟩) (hk:k<ps.length) (q:Rec × Value):Ovr w w1 w4 (putR W g (k * 8) q) ao ps (k+1):=by
 rcases h.rcd with h0 | ⟨g',cur,e,g1,g2,hh,hs,hc⟩
 ·omega
 ·rw [hg] at e;simp only [Option.some.injEq,Addr.mk.injEq,and_true] at e;subst e;refine ⟨by rw [y4V]; exact h.sz,x6j h.bel g1 q,fun b hb=>by rw [x7c q (by omega)]; exact h.far b hb,.inr ⟨g,_,hg,g1,g2,y4U hh q,by rw [y5o]; exact hs,fun j hj hjl=>?_⟩,fun p hp hne=>?_⟩
  ·rw [<- hc j (by omega) hjl];simp only [Array.getD_eq_getD_getElem?];rw [y5n cur (k * 8) q (by omega),if_neg (by omega)]
  ·obtain ⟨gi,ad,ag,e1,e2,e3,e4,e5⟩:=h.lst p hp hne;refine ⟨gi,ad,ag,e1,e2,e3,?_,e5⟩;rw [x7c q (fun e=>by subst e; rw [hh] at e4; simp at e4)];exact e4
end
namespace Cn
def x0Z (r:Rec):Bool :=
  if r.kind=1\/r.kind=2\/r.kind=11 then bare r false false false false false
  else if r.kind=3 then bare r false true false false false && list r.to 1 24
  else if r.kind=4 then bare r true true false false false && decide (1<=r.n/\r.n<=64) && list r.to 1 1 && decide (r.to.getD 0 0+r.hi - r.lo<=1114111/\(r.to.getD 0 0+r.hi - r.lo<55296\/57343<r.to.getD 0 0))
  else if r.kind=5 then decide (r.lo=r.hi) && scalar r.lo && bare r false true false false false && list r.to 0 24
  else if r.kind=13 then decide (r.lo=r.hi) && scalar r.lo && bare r false true false false false && list r.to 1 24
  else if r.kind=6 then bare r true false false false false && decide (1<=r.n/\r.n<=254)
  else if r.kind=7 then decide (r.lo=r.hi) && scalar r.lo && bare r false true false false false && list r.to 2 2
  else if r.kind=8 then decide (r.lo=r.hi) && scalar r.lo && bare r false true false false false && list r.to 1 2
  else if r.kind=9 then bare r true false false false false && decide (0<=r.n/\r.n<=10)
  else if r.kind=10 then bare r true false false false false && decide (0<=r.n/\r.n<=5)
  else if r.kind=12 then bare r false false true false false && nameL r.name
  else bare r false false false false true && weight r.wt
theorem y2o {r:Rec} (h:fam r.kind=0):right r=60:=by unfold right; rw [if_pos h]
theorem y7x {r:Rec} (h:r.kind=15):right r=ansG (decide (r.lo=0) && decide (r.hi=0) && bare r false false true true true && nameL r.name && nameL r.other && decide (r.name≠r.other) && weight r.wt):=by
 unfold right ansG;rw [if_neg (by rw [h]; decide),if_pos h];simp [and_assoc]
theorem y2n {r:Rec} (h0:fam r.kind≠0) (h15:r.kind≠15):right r=ansG (decide (0<=r.lo/\r.lo<=r.hi/\r.hi<=1114111) && x0Z r):=by
 unfold right;rw [if_neg h0,if_neg h15];rfl
theorem y3D {k:Int} (h:fam k≠0):1<=k/\k<=15:=by
 unfold fam at h;split at h
 ·exact absurd rfl h
 ·omega
end Cn
theorem y8E {r:Rec} (h:r.kind=1):Cn.x0Z r=(Cn.bare r false false false false false):=by
 unfold Cn.x0Z;rw [if_pos (by omega)]
theorem y8F {r:Rec} (h:r.kind=2):Cn.x0Z r=(Cn.bare r false false false false false):=by
 unfold Cn.x0Z;rw [if_pos (by omega)]
theorem y8G {r:Rec} (h:r.kind=3):Cn.x0Z r=(Cn.bare r false true false false false && Cn.list r.to 1 24):=by
 unfold Cn.x0Z;rw [if_neg (by omega),if_pos (by omega)]
theorem z2y {r:Rec} (h:r.kind=4):Cn.x0Z r=(Cn.bare r true true false false false && decide (1<=r.n/\r.n<=64) && Cn.list r.to 1 1 && decide (r.to.getD 0 0+r.hi - r.lo<=1114111/\(r.to.getD 0 0+r.hi - r.lo<55296\/57343<r.to.getD 0 0))):=by
 unfold Cn.x0Z;rw [if_neg (by omega),if_neg (by omega),if_pos (by omega)]
theorem y8H {r:Rec} (h:r.kind=5):Cn.x0Z r=((decide (r.lo=r.hi) && Cn.scalar r.lo) && Cn.bare r false true false false false && Cn.list r.to 0 24):=by
 unfold Cn.x0Z;rw [if_neg (by omega),if_neg (by omega),if_neg (by omega),if_pos (by omega)]
theorem y8I {r:Rec} (h:r.kind=6):Cn.x0Z r=(Cn.bare r true false false false false && decide (1<=r.n/\r.n<=254)):=by
 unfold Cn.x0Z;rw [if_neg (by omega),if_neg (by omega),if_neg (by omega),if_neg (by omega),if_neg (by omega),if_pos (by omega)]
theorem y8J {r:Rec} (h:r.kind=7):Cn.x0Z r=((decide (r.lo=r.hi) && Cn.scalar r.lo) && Cn.bare r false true false false false && Cn.list r.to 2 2):=by
 unfold Cn.x0Z;rw [if_neg (by omega),if_neg (by omega),if_neg (by omega),if_neg (by omega),if_neg (by omega),if_neg (by omega),if_pos (by omega)]
theorem y8K {r:Rec} (h:r.kind=8):Cn.x0Z r=((decide (r.lo=r.hi) && Cn.scalar r.lo) && Cn.bare r false true false false false && Cn.list r.to 1 2):=by
 unfold Cn.x0Z;rw [if_neg (by omega),if_neg (by omega),if_neg (by omega),if_neg (by omega),if_neg (by omega),if_neg (by omega),if_neg (by omega),if_pos (by omega)]
theorem y8L {r:Rec} (h:r.kind=9):Cn.x0Z r=(Cn.bare r true false false false false && decide (0<=r.n/\r.n<=10)):=by
 unfold Cn.x0Z;rw [if_neg (by omega),if_neg (by omega),if_neg (by omega),if_neg (by omega),if_neg (by omega),if_neg (by omega),if_neg (by omega),if_neg (by omega),if_pos (by omega)]
theorem z0C {r:Rec} (h:r.kind=10):Cn.x0Z r=(Cn.bare r true false false false false && decide (0<=r.n/\r.n<=5)):=by
 unfold Cn.x0Z;rw [if_neg (by omega),if_neg (by omega),if_neg (by omega),if_neg (by omega),if_neg (by omega),if_neg (by omega),if_neg (by omega),if_neg (by omega),if_neg (by omega),if_pos (by omega)]
theorem y5x {r:Rec} (h:r.kind=11):Cn.x0Z r=(Cn.bare r false false false false false):=by
 unfold Cn.x0Z;rw [if_pos (by omega)]
theorem y5y {r:Rec} (h:r.kind=12):Cn.x0Z r=(Cn.bare r false false true false false && Cn.nameL r.name):=by
 unfold Cn.x0Z;rw [if_neg (by omega),if_neg (by omega),if_neg (by omega),if_neg (by omega),if_neg (by omega),if_neg (by omega),if_neg (by omega),if_neg (by omega),if_neg (by omega),if_neg (by omega),if_pos (by omega)]
theorem y5z {r:Rec} (h:r.kind=13):Cn.x0Z r=((decide (r.lo=r.hi) && Cn.scalar r.lo) && Cn.bare r false true false false false && Cn.list r.to 1 24):=by
 unfold Cn.x0Z;rw [if_neg (by omega),if_neg (by omega),if_neg (by omega),if_neg (by omega),if_pos (by omega)]
theorem y5A {r:Rec} (h:r.kind=14):Cn.x0Z r=(Cn.bare r false false false false true && Cn.weight r.wt):=by
 unfold Cn.x0Z;rw [if_neg (by omega),if_neg (by omega),if_neg (by omega),if_neg (by omega),if_neg (by omega),if_neg (by omega),if_neg (by omega),if_neg (by omega),if_neg (by omega),if_neg (by omega),if_neg (by omega)]
theorem x8x:y7X:=by
 intro r vt w hf hs;obtain ⟨ao,tc,rfl,bW,_⟩:=hs.shape;unfold recV;by_cases h0:Cn.fam r.kind=0
 ·rw [Cn.y2o h0];exact z0s r.kind r.lo r.hi r.n ao r.to.length tc r.name r.other r.wt w hf.kind h0
 ·have KB:Hid (∀ W f1 f2 f3 f4 f5,Bw w W->Calls prog 97 #[recV r (.slice ao r.to.length tc),.bool f1,.bool f2,.bool f3,.bool f4,.bool f5] W (x0d W (Cn.bare r f1 f2 f3 f4 f5))):=fun W f1 f2 f3 f4 f5 h=>x9D r _ f1 f2 f3 f4 f5 W (hs.below h);unfold recV at KB;have KN:Hid (∀ W,Calls prog 98 #[.string r.name] W fun e w'=>e=.returned (.bool (Cn.nameL r.name))/\w'=W):=fun W=>x3W r.name W;have KW:Hid (∀ W,Calls prog 99 #[.float .f64 r.wt] W fun e w'=>e=.returned (.bool (Cn.weight r.wt))/\w'=W):=fun W=>x7h r.wt W hf.wt;by_cases h15:r.kind=15
  ·rw [Cn.y7x h15];have KO:Hid (∀ W,Calls prog 98 #[.string r.other] W fun e w'=>e=.returned (.bool (Cn.nameL r.other))/\w'=W):=fun W=>x3W r.other W;rw [h15] at KB ⊢;exact rw_15 r.lo r.hi r.n ao r.to.length tc r.name r.other r.wt w hf.lo hf.hi _ _ _ _ (fun W h=>V KB W false false true true true h) KN KO KW
  ·have KL:∀ a b:Nat,Hid (∀ W,Bw w W->Calls prog 101 #[.slice ao r.to.length tc,.int .i64 a,.int .i64 b] W fun e w'=>e=.returned (.bool (Cn.list r.to a b))/\w'=W):=fun a b W h=>x9G _ r.to a b W (hs.below h) hf.len;have hk:=Cn.y3D h0;rw [Cn.y2n h0 h15];have aa:Hid (decide (0<=r.lo/\r.lo<=r.hi/\r.hi<=1114111)=true->(decide (r.lo=r.hi) && Cn.scalar r.lo)=(decide (r.lo=r.hi) && Cn.scalar r.lo)):=fun _=>rfl;have a9:r.kind=1\/r.kind=2\/r.kind=3\/r.kind=4\/r.kind=5\/r.kind=6\/r.kind=7\/r.kind=8\/r.kind=9\/r.kind=10\/r.kind=11\/r.kind=12\/r.kind=13\/r.kind=14:=(by omega);rcases a9 with hk1 | hk1 | hk1 | hk1 | hk1 | hk1 | hk1 | hk1 | hk1 | hk1 | hk1 | hk1 | hk1 | hk1
   ·exact z2l r.kind r.lo r.hi r.n (.inl hk1) ao r.to.length tc r.name r.other r.wt w hf.lo hf.hi _ _ _ (rfl:_=decide (0<=r.lo/\r.lo<=r.hi/\r.hi<=1114111)) aa (Cn.bare r) KB (fun e=>congrArg (fun x=>ansG (decide (0<=r.lo/\r.lo<=r.hi/\r.hi<=1114111) && x)) (y8E e)) (fun e=>congrArg (fun x=>ansG (decide (0<=r.lo/\r.lo<=r.hi/\r.hi<=1114111) && x)) (y8F e))
   ·exact z2l r.kind r.lo r.hi r.n (.inr hk1) ao r.to.length tc r.name r.other r.wt w hf.lo hf.hi _ _ _ (rfl:_=decide (0<=r.lo/\r.lo<=r.hi/\r.hi<=1114111)) aa (Cn.bare r) KB (fun e=>congrArg (fun x=>ansG (decide (0<=r.lo/\r.lo<=r.hi/\r.hi<=1114111) && x)) (y8E e)) (fun e=>congrArg (fun x=>ansG (decide (0<=r.lo/\r.lo<=r.hi/\r.hi<=1114111) && x)) (y8F e))
   ·exact z2m r.kind r.lo r.hi r.n (.inr hk1) ao r.to.length tc r.name r.other r.wt w hf.lo hf.hi _ _ _ (rfl:_=decide (0<=r.lo/\r.lo<=r.hi/\r.hi<=1114111)) aa (Cn.bare r) KB _ (KL 1 24) (fun e=>congrArg (fun x=>ansG (decide (0<=r.lo/\r.lo<=r.hi/\r.hi<=1114111) && x)) (y5x e)) (fun e=>congrArg (fun x=>ansG (decide (0<=r.lo/\r.lo<=r.hi/\r.hi<=1114111) && x)) (y8G e))
   ·have HA:Hid (Cn.list r.to 1 1=true->Rune (r.to.getD 0 0)/\∃ b off,ao=some ⟨b,off,none⟩/\r.to.length=1/\r.to.length<=tc/\∀ W,Bw w W->W.cell? ⟨b,off,none⟩=some (.int .i32 (r.to.getD 0 0))):=fun h=>by
     unfold Cn.list at h;rw [Bool.and_eq_true] at h;have h1:=o0d h.1;have hl:r.to.length=1:=(by omega);obtain ⟨b,off,cap,he,c1,c2,hc⟩:=hs.place (by omega);simp only [Value.slice.injEq,true_and] at he;obtain ⟨rfl,rfl⟩:=he;refine ⟨x0x hs (by omega),b,off,rfl,hl,bW,fun W hW=>?_⟩;have hz:=hc 0 (by omega);rw [Nat.add_zero] at hz;rw [hW.cell (x0a hz)];exact hz
    exact rwg_e r.kind r.lo r.hi r.n (hk1) ao r.to.length tc r.name r.other r.wt w hf.lo hf.hi hf.n _ _ _ (rfl:_=decide (0<=r.lo/\r.lo<=r.hi/\r.hi<=1114111)) aa (Cn.bare r) KB _ (KL 1 1) (r.to.getD 0 0) HA (decide (r.to.getD 0 0+r.hi - r.lo<=1114111/\(r.to.getD 0 0+r.hi - r.lo<55296\/57343<r.to.getD 0 0))) (fun h=>o0d h) (fun h=>by have:=of_decide_eq_false h; omega) (decide (1<=r.n/\r.n<=64)) (fun h=>o0d h) (fun h=>by have:=of_decide_eq_false h; omega) (fun e=>congrArg (fun x=>ansG (decide (0<=r.lo/\r.lo<=r.hi/\r.hi<=1114111) && x)) (z2y e))
   ·exact z2n r.kind r.lo r.hi r.n (.inl hk1) ao r.to.length tc r.name r.other r.wt w hf.lo hf.hi _ _ _ (rfl:_=decide (0<=r.lo/\r.lo<=r.hi/\r.hi<=1114111)) aa (Cn.bare r) KB _ (KL 0 24) _ (KL 1 24) (fun e=>congrArg (fun x=>ansG (decide (0<=r.lo/\r.lo<=r.hi/\r.hi<=1114111) && x)) (y8H e)) (fun e=>congrArg (fun x=>ansG (decide (0<=r.lo/\r.lo<=r.hi/\r.hi<=1114111) && x)) (y5z e))
   ·exact z2p r.kind r.lo r.hi r.n (.inl hk1) ao r.to.length tc r.name r.other r.wt w hf.lo hf.hi hf.n _ _ _ (rfl:_=decide (0<=r.lo/\r.lo<=r.hi/\r.hi<=1114111)) aa (Cn.bare r) KB (decide (1<=r.n/\r.n<=254)) (fun h=>o0d h) (fun h=>by have:=of_decide_eq_false h; omega) (decide (0<=r.n/\r.n<=10)) (fun h=>o0d h) (fun h=>by have:=of_decide_eq_false h; omega) (fun e=>congrArg (fun x=>ansG (decide (0<=r.lo/\r.lo<=r.hi/\r.hi<=1114111) && x)) (y8I e)) (fun e=>congrArg (fun x=>ansG (decide (0<=r.lo/\r.lo<=r.hi/\r.hi<=1114111) && x)) (y8L e))
   ·exact z2o r.kind r.lo r.hi r.n (.inl hk1) ao r.to.length tc r.name r.other r.wt w hf.lo hf.hi _ _ _ (rfl:_=decide (0<=r.lo/\r.lo<=r.hi/\r.hi<=1114111)) aa (Cn.bare r) KB _ (KL 2 2) _ (KL 1 2) (fun e=>congrArg (fun x=>ansG (decide (0<=r.lo/\r.lo<=r.hi/\r.hi<=1114111) && x)) (y8J e)) (fun e=>congrArg (fun x=>ansG (decide (0<=r.lo/\r.lo<=r.hi/\r.hi<=1114111) && x)) (y8K e))
   ·exact z2o r.kind r.lo r.hi r.n (.inr hk1) ao r.to.length tc r.name r.other r.wt w hf.lo hf.hi _ _ _ (rfl:_=decide (0<=r.lo/\r.lo<=r.hi/\r.hi<=1114111)) aa (Cn.bare r) KB _ (KL 2 2) _ (KL 1 2) (fun e=>congrArg (fun x=>ansG (decide (0<=r.lo/\r.lo<=r.hi/\r.hi<=1114111) && x)) (y8J e)) (fun e=>congrArg (fun x=>ansG (decide (0<=r.lo/\r.lo<=r.hi/\r.hi<=1114111) && x)) (y8K e))
   ·exact z2p r.kind r.lo r.hi r.n (.inr hk1) ao r.to.length tc r.name r.other r.wt w hf.lo hf.hi hf.n _ _ _ (rfl:_=decide (0<=r.lo/\r.lo<=r.hi/\r.hi<=1114111)) aa (Cn.bare r) KB (decide (1<=r.n/\r.n<=254)) (fun h=>o0d h) (fun h=>by have:=of_decide_eq_false h; omega) (decide (0<=r.n/\r.n<=10)) (fun h=>o0d h) (fun h=>by have:=of_decide_eq_false h; omega) (fun e=>congrArg (fun x=>ansG (decide (0<=r.lo/\r.lo<=r.hi/\r.hi<=1114111) && x)) (y8I e)) (fun e=>congrArg (fun x=>ansG (decide (0<=r.lo/\r.lo<=r.hi/\r.hi<=1114111) && x)) (y8L e))
   ·exact rwg_g r.kind r.lo r.hi r.n (hk1) ao r.to.length tc r.name r.other r.wt w hf.lo hf.hi hf.n _ _ _ (rfl:_=decide (0<=r.lo/\r.lo<=r.hi/\r.hi<=1114111)) aa (Cn.bare r) KB (decide (0<=r.n/\r.n<=5)) (fun h=>o0d h) (fun h=>by have:=of_decide_eq_false h; omega) (fun e=>congrArg (fun x=>ansG (decide (0<=r.lo/\r.lo<=r.hi/\r.hi<=1114111) && x)) (z0C e))
   ·exact z2m r.kind r.lo r.hi r.n (.inl hk1) ao r.to.length tc r.name r.other r.wt w hf.lo hf.hi _ _ _ (rfl:_=decide (0<=r.lo/\r.lo<=r.hi/\r.hi<=1114111)) aa (Cn.bare r) KB _ (KL 1 24) (fun e=>congrArg (fun x=>ansG (decide (0<=r.lo/\r.lo<=r.hi/\r.hi<=1114111) && x)) (y5x e)) (fun e=>congrArg (fun x=>ansG (decide (0<=r.lo/\r.lo<=r.hi/\r.hi<=1114111) && x)) (y8G e))
   ·exact z2q r.kind r.lo r.hi r.n (.inl hk1) ao r.to.length tc r.name r.other r.wt w hf.lo hf.hi _ _ _ (rfl:_=decide (0<=r.lo/\r.lo<=r.hi/\r.hi<=1114111)) aa (Cn.bare r) KB _ KN _ KW (fun e=>congrArg (fun x=>ansG (decide (0<=r.lo/\r.lo<=r.hi/\r.hi<=1114111) && x)) (y5y e)) (fun e=>congrArg (fun x=>ansG (decide (0<=r.lo/\r.lo<=r.hi/\r.hi<=1114111) && x)) (y5A e))
   ·exact z2n r.kind r.lo r.hi r.n (.inr hk1) ao r.to.length tc r.name r.other r.wt w hf.lo hf.hi _ _ _ (rfl:_=decide (0<=r.lo/\r.lo<=r.hi/\r.hi<=1114111)) aa (Cn.bare r) KB _ (KL 0 24) _ (KL 1 24) (fun e=>congrArg (fun x=>ansG (decide (0<=r.lo/\r.lo<=r.hi/\r.hi<=1114111) && x)) (y8H e)) (fun e=>congrArg (fun x=>ansG (decide (0<=r.lo/\r.lo<=r.hi/\r.hi<=1114111) && x)) (y5z e))
   ·exact z2q r.kind r.lo r.hi r.n (.inr hk1) ao r.to.length tc r.name r.other r.wt w hf.lo hf.hi _ _ _ (rfl:_=decide (0<=r.lo/\r.lo<=r.hi/\r.hi<=1114111)) aa (Cn.bare r) KB _ KN _ KW (fun e=>congrArg (fun x=>ansG (decide (0<=r.lo/\r.lo<=r.hi/\r.hi<=1114111) && x)) (y5y e)) (fun e=>congrArg (fun x=>ansG (decide (0<=r.lo/\r.lo<=r.hi/\r.hi<=1114111) && x)) (y5A e))
theorem y4Z:x8Q:=x7f x8x x8p
theorem y5a:y2P:=x8o y4Z x7g
namespace Cn
theorem x3w {l:List Rec} (h:(check l).2=0):(check l).1=0:=by
 unfold check at h ⊢;by_cases h1:(check6 l).2≠0
 ·rw [if_pos h1] at h; exact absurd h h1
 ·rw [if_neg h1] at h ⊢
  cases hx:x0J l 0 l with
  | some x=>rw [hx] at h; exact absurd h (x2R _ _ _ hx)
  | none =>
   rw [hx] at h;simp only at h ⊢;by_cases hb:baseA l 78 45=true
   ·rw [if_pos hb]
   ·rw [if_neg hb] at h; exact absurd (show (70:Int)=0 from h) (by decide)
end Cn
theorem x7d {w1:World} {B:Nat} {v:Value} {ps:List (Rec × Value)} {rs:List Rec} (hr:Rown w1 B v ps) (hp:ps.map (·.1)=rs) (hl:rs.length<=1000000000) (hf:∀ r∈rs,RecFit r):Rcs w1 v rs:=by
 subst hp;exact hr.rcs (by simpa using hl) fun p hp'=>hf _ (List.mem_map.2 ⟨p,hp',rfl⟩)
theorem Rown.lower9 {w:World} {B B':Nat} {v:Value} {ps:List (Rec × Value)} (h:Rown w B v ps) (hb:B'<=B):Rown w B' v ps:=⟨y5i h.1 hb,fun p hp=>(h.2 p hp).lower hb⟩
def z0Q (w:World) (rs:List Rec) (e:Ending) (w':World):Prop:=Below w.heap.size w w'/\((¬ (Cn.check rs).2=0/\e=.returned (.tuple #[.pointer none,.slice none 0 0,.int .i64 0]))\/((Cn.check rs).2=0/\∃ p v ps,e=.returned (.tuple #[.pointer (some ⟨p,0,none⟩),v,.int .i64 1])/\x0p w' w.heap.size p rs/\Rown w' w.heap.size v ps/\ps.map (·.1)=rs))
theorem y0G (v:Value) (ai:List Rec) (w:World) (hg:Glob w) (hv:Rcs w v ai):Calls prog 6 #[v] w (z0Q w (ai.take 150)):=by
 have hlen:=hv.1;obtain ⟨ao,cap,rfl,hc1,hc2⟩:=hv.shape;obtain ⟨n,hn⟩:∃ n,n=min ai.length 150:=⟨_,rfl⟩;have hmin:min (ai.length:Int) 150=(n:Int):=(by omega);have bT:n<=ai.length:=(by omega);have hn2:n<=150:=(by omega);have bF:ai.take 150=ai.take n:=(by rw [hn,List.take_eq_take_min,Nat.min_comm]);have hH:=hv.head bT;rw [bF];have aR:∀ r∈ai.take n,RecFit r:=fun r hr=>hv.2.1 r (List.mem_of_mem_take hr);have bC:(ai.take n).length=n:=(by rw [List.length_take]; omega);clear bF hn hv;generalize ai.take n=rs at *;generalize ai.length=L at *;have K1:=O (x3j _ _ w hH);have ay:=O aR;have aG:=O bC;have HG:=O hg;clear hH aR hg bC;go_enter func6,ntmps6;go_wp2_with fail;refine (V K1).mono ?_;rintro e1 w1 ⟨v1,ab,rfl,p1,r1,b1⟩;have R1:=x7d r1 p1 (by rw [V aG]; omega) (V ay);have K2:=O (x3j _ _ w1 R1);obtain ⟨a1,bP,hv1,_,hcp1⟩:=R1.shape;rw [V aG] at hv1;have aj:ab.length=n:=(by have:=congrArg List.length p1; rw [List.length_map,V aG] at this; exact this);subst hv1;have aZ:=O R1;have aW:=O r1;have aJ:=O b1;have az:=O aj;clear K1 R1 r1 b1 aj;go_wp2_with fail;refine (V K2).mono ?_;rintro e2 w2 ⟨v2,bX,rfl,p2,r2,b2⟩;have R2:=x7d r2 p2 (by rw [V aG]; omega) (V ay);have K3:=O (y5a _ _ w2 R2);obtain ⟨a2,bQ,hv2,_,hcp2⟩:=R2.shape;rw [V aG] at hv2;subst hv2;have bk:=O R2;have bg:=O r2;have al:=O b2;clear K2 R2 r2 b2;go_wp2_with fail;refine (V K3).mono ?_;rintro e3 w3 ⟨rfl,b3⟩;have aw:=O b3;have K4:=O (x9d _ rs w3 (((V HG).on (V aJ)).on (x0b (V al) b3)) ((V aZ).below (x0b (V al) b3)));clear K3 b3;go_wp2_with fail;refine (V K4).mono ?_;rintro e4 w4 ⟨b4,h4⟩;have aU:=O b4;have K5:=O (x9L _ _ rs w4 ((V aZ).below (x0b (x0b (V al) (V aw)) b4)) ((V bk).below (x0b (V aw) b4)));clear K4 b4;rcases h4 with ⟨hne,rfl⟩ | ⟨h0,p,rfl,hD⟩
 ·have bL:=O hne;have hq:((Cn.check rs).2 != 0)=true:=bne_iff_ne.2 hne;clear hne;generalize hck:Cn.check rs=q at *;have aV:=O hck;clear hck;obtain ⟨q1,q2⟩:=q;simp only at hq;go_wp2_with (go_at_call 21; refine (V K5).mono ?_; rintro e5 w5 ⟨rfl,b5⟩; have aE:=O b5; clear K5 b5);go_ret3;exact ⟨x0b (x0b (V aJ) (x0b (x0b (V al) (V aw)) (V aU))) (V aE),.inl ⟨by rw [V aV]; exact V bL,rfl⟩⟩
 ·have hz:=Cn.x3w h0;have bK:=O h0;have HD:=O hD;clear hD;generalize hck:Cn.check rs=q at *;have aV:=O hck;clear hck;obtain ⟨q1,q2⟩:=q;simp only at h0 hz;subst h0 hz;go_wp2_with (go_at_call 21; refine (V K5).mono ?_; rintro e5 w5 ⟨rfl,b5⟩; have aE:=O b5; clear K5 b5);have av:=O (x0b (x0b (x0b (V al) (V aw)) (V aU)) (V aE));have bh:=O (Ovr.start (w:=w) (w1:=w1) (w4:=w5) (cap:=bP) (ao:=a1) (ps:=ab) (by rw [V az]; exact V aW) (x0b (V aJ) (V av)) (V av))
  have aY:Hid (∀ k,k<n->∃ ak ck,(ab.getD k (Cn.none,undef)).2=.slice ak (ab.getD k (Cn.none,undef)).1.to.length ck/\(ab.getD k (Cn.none,undef)).1.to.length<=140737488355328/\ck<=9223372036854775807/\(ab.getD k (Cn.none,undef)).1.to.length<=ck):=fun k hk=>by
   have hm:ab.getD k (Cn.none,undef)∈ab:=by
    have:=V az;simp [List.getD,show k<ab.length by omega]
   obtain ⟨ak,ck,e,h1,h2⟩:=((V aW).2 _ hm).sk.shape;exact ⟨ak,ck,e,((V aW).2 _ hm).sk.len,h2,h1⟩
  have ax:Hid (∀ W k,Ovr w w1 w5 W a1 ab k->z0Q w rs (.returned (.tuple #[.pointer (some ⟨p,0,none⟩),.slice a2 n bQ,.int .i64 1])) W):=fun W k hO=>by
   have hs12:=(V al).size;have hs13:=(x0b (V al) (V aw)).size;have hs5:=(V aJ).size;refine ⟨hO.bel,.inr ⟨by rw [V aV],p,_,bX,rfl,?_,?_,p2⟩⟩
   ·exact (((V HD).below (V aE)).keep (by rw [hO.sz]; exact l0r _) (fun b hb _=>hO.far b (by omega))).lower (by omega)
   ·exact (((V bg).on7 (x0b (x0b (V aw) (V aU)) (V aE))).far7 (fun b hb _=>hO.far b hb)).lower9 (by omega)
  clear al aw aU aE av aW bg HD aZ bk HG ay aV bK aJ aG p1 p2;go_loopw [12,13] (fun ii _ wr=>∃ k:Nat,ii=.int .i64 k/\k<=n/\Ovr w w1 w5 wr a1 ab k) (fun ii _ _=>n - (intOf ii).toNat)
  case atStart=>exact ⟨0,rfl,by omega,V bh⟩
  case round =>
   clear bh;obtain ⟨k,rfl,hk,hO⟩:=hrel;by_cases aD:k<n
   ·have aj:=V az;obtain ⟨ak,ck,bz,hq3,hq4,hq5⟩:=V aY k aD;have hm:ab.getD k (Cn.none,undef)∈ab:=by simp [List.getD,show k<ab.length by omega]
    obtain ⟨g,bS⟩:∃ g,a1=some ⟨g,0,none⟩:=by
     rcases hO.rcd with h0 | ⟨g,cur,e,_⟩
     ·omega
     ·exact ⟨g,e⟩
    subst bS
    have aF:Hid (∀ W,Ovr w w1 w5 W (some ⟨g,0,none⟩) ab k->W.cell? ⟨g,k * 8+4,none⟩=some (ab.getD k (Cn.none,undef)).2/\∃ cur,W.heap[g]?=some (.cells cur 50 (0,0))/\k * 8+8<=cur.size):=fun W h=>by
     rcases h.rcd with h0 | ⟨g',cur,e,_,_,hh,hs,hc⟩
     ·omega
     ·simp only [Option.some.injEq,Addr.mk.injEq,and_true] at e;subst e;exact ⟨by rw [cell_of (j:=k * 8+4) hh (by omega),hc k (l0r _) (by omega)],cur,hh,by omega⟩
    have aK:Hid (∀ W,Ovr w w1 w5 W (some ⟨g,0,none⟩) ab k->(ab.getD k (Cn.none,undef)).1.to≠[]->∃ gi ad cur,(ab.getD k (Cn.none,undef)).2=.slice (some ⟨gi,0,none⟩) (ab.getD k (Cn.none,undef)).1.to.length ad/\w.heap.size<=gi/\gi<w1.heap.size/\W.heap[gi]?=some (.cells cur 21 (0,0))/\(ab.getD k (Cn.none,undef)).1.to.length<=cur.size):=fun W h=>h.lst _ hm;have a6:Hid (∀ W,Ovr w w1 w5 W (some ⟨g,0,none⟩) ab k->Ovr w w1 w5 (putR W g (k * 8) (Cn.none,.slice none 0 0)) (some ⟨g,0,none⟩) ab (k+1)):=fun W h=>h.wipe rfl (by omega) _;have HO:=O hO;clear hO hm aY aj;rw [bz] at aF aK;generalize hql:(ab.getD k (Cn.none,undef)).1.to.length=tl at *;have bO:=O hql;clear hql bz;go_upto_block 2 with fail;go_cut [13] (fun _ wc=>Ovr w w1 w5 wc (some ⟨g,0,none⟩) ab k)
    case first =>
     clear ax a6;go_wp2;go_loopw [13] (fun jj wd=>∃ j:Nat,jj=.int .i64 j/\j<=tl/\Ovr w w1 w5 wd (some ⟨g,0,none⟩) ab k) (fun jj _=>tl - (intOf jj).toNat)
     case atStart=>exact ⟨0,rfl,by omega,V HO⟩
     case round =>
      clear HO;obtain ⟨j,rfl,hj,aH⟩:=hrel;obtain ⟨bR,-⟩:=V aF wr aH;by_cases hjl:j<tl
      ·obtain ⟨gi,ad,cur,e,g1,g2,hh,bc⟩:=V aK wr aH (fun e=>by have:=V bO; rw [e] at this; simp at this; omega);obtain ⟨e1,e2,e3⟩:=Value.slice.inj e;clear e e2;subst e1 e3;have hcj:=cell_of (j:=j) hh (by omega);have hfz:=x0e (j:=j) hh;have bN:=O (aH.item g1 g2 hh j (.int .i32 65));generalize cur.getD j undef=uj at *;clear aH aF aK hh g1 g2 bc;go_wp2
       go_roundw
       case rel=>exact ⟨j+1,by go_num,by omega,V bN⟩
       case measure=>simp [intOf]; omega
      ·have bM:=O aH;clear aH aF aK;go_wp2
       go_meet
       case rel=>exact V bM
    case rest =>
     obtain ⟨bR,cur,hh,bc⟩:=V aF wc hcut;have HW:=O (V a6 wc hcut);have y0:=cell_of (j:=k * 8) hh (by omega);have y1:=cell_of (j:=k * 8+1) hh (by omega);have y2:=cell_of (j:=k * 8+2) hh (by omega);have y3:=cell_of (j:=k * 8+3) hh (by omega);have y5:=cell_of (j:=k * 8+5) hh (by omega);have y6:=cell_of (j:=k * 8+6) hh (by omega);have y7:=cell_of (j:=k * 8+7) hh (by omega);have fz:=fun j=>x0e (j:=j) hh;have hfl:∀ W a m,(store a (.float .f64 0) m).run prog W=stored prog W a (.float .f64 0) m:=fun W a m=>run_store prog W a _ m rfl;generalize cur.getD (k * 8) undef=uy0 at *;generalize cur.getD (k * 8+1) undef=uy1 at *;generalize cur.getD (k * 8+2) undef=uy2 at *;generalize cur.getD (k * 8+3) undef=uy3 at *;generalize cur.getD (k * 8+5) undef=uy5 at *;generalize cur.getD (k * 8+6) undef=uy6 at *;generalize cur.getD (k * 8+7) undef=uy7 at *;clear hh bc hcut aF aK a6 HO;go_wp2;exact ⟨⟨k+1,by go_num,by omega,V HW⟩,by simp [intOf]; omega⟩
   ·obtain rfl:k=n:=(by omega);have HF:=O (V ax wr k hO);clear hO ax aY;go_wp2;go_ret3;exact V HF
namespace Cn
def mk3 (k lo hi:Int):Rec:=⟨k,lo,hi,0,[],⟨#[]⟩,⟨#[]⟩,0⟩
def x1O:List Rec:=[mk3 1 97 122,mk3 1 48 57,mk3 1 45 46,⟨4,65,90,1,[97],⟨#[]⟩,⟨#[]⟩,0⟩,mk3 1 224 224,mk3 1 768 768,⟨7,224,224,0,[97,768],⟨#[]⟩,⟨#[]⟩,0⟩,⟨6,768,768,230,[],⟨#[]⟩,⟨#[]⟩,0⟩,mk3 11 768 768,⟨14,224,224,0,[],⟨#[]⟩,⟨#[]⟩,4591870180066957722⟩]
theorem x7W:check x1O=(0,0):=by decide +kernel
end Cn
def lpsA:List (Rec × Value):=[(Cn.mk3 1 97 122,.slice none 0 0),(Cn.mk3 1 48 57,.slice none 0 0),(Cn.mk3 1 45 46,.slice none 0 0)]
def lpsB (n:Nat):List (Rec × Value):=[(⟨4,65,90,1,[97],⟨#[]⟩,⟨#[]⟩,0⟩,.slice (some ⟨n,0,none⟩) 1 1),(Cn.mk3 1 224 224,.slice none 0 0),(Cn.mk3 1 768 768,.slice none 0 0)]
def lpsC (n:Nat):List (Rec × Value):=[(⟨7,224,224,0,[97,768],⟨#[]⟩,⟨#[]⟩,0⟩,.slice (some ⟨n,0,none⟩) 2 2),(⟨6,768,768,230,[],⟨#[]⟩,⟨#[]⟩,0⟩,.slice none 0 0),(Cn.mk3 11 768 768,.slice none 0 0),(⟨14,224,224,0,[],⟨#[]⟩,⟨#[]⟩,4591870180066957722⟩,.slice none 0 0)]
theorem y4H (w:World) (B:Nat) (hB:B<=w.heap.size) (c:Int) (hc:-2147483648<=c/\c<=2147483647):Ok .i32 21 (w.alloc (.cells #[.int .i32 c] 21)) B (.slice (some ⟨w.heap.size,0,none⟩) 1 1) [c]:=by
 refine ⟨fun z hz=>by simp at hz; subst hz; exact x1X hc,by simp,by simp,.inr ⟨w.heap.size,1,#[.int .i32 c],rfl,hB,?_,l0r _,by unfold maxLen; simp,by simp,by simp⟩⟩;show (w.heap.push _)[w.heap.size]?=_;simp
theorem y9R (W:World) (B:Nat) (hB:B<=W.heap.size) (ps:List (Rec × Value)) (n:Nat) (hn:ps.length=n) (hs:n<=100):(W.alloc (.cells (rcells ps).toArray 50)).ownsRow B 50 8 (.slice (some ⟨W.heap.size,0,none⟩) n n) n (rcells ps):=by
 subst hn;refine ⟨x0X ps,.inr ⟨W.heap.size,ps.length,(rcells ps).toArray,rfl,hB,?_,l0r _,by unfold maxLen; omega,by rw [List.size_toArray,x0X],?_⟩⟩
 ·show (W.heap.push _)[W.heap.size]?=_;simp
 ·exact List.take_of_length_le (by rw [x0X]; exact l0r _)
theorem y0E (W:World) (ps:List (Rec × Value)):∀ j u,(rcells ps)[j]?=some u->(W.alloc (.cells (rcells ps).toArray 50)).cell? ((⟨W.heap.size,0,none⟩:Addr).add j)=some u:=by
 intro j u h
 have hh:(W.alloc (.cells (rcells ps).toArray 50)).heap[W.heap.size]?=some (.cells (rcells ps).toArray 50 (0,0)):=by
  show (W.heap.push _)[W.heap.size]?=_;simp
 rw [addr_add,Nat.zero_add];have hj:j<(rcells ps).length:=(List.getElem?_eq_some_iff.1 h).1;rw [cell_of (j:=j) hh (by simpa using hj)];rw [Array.getD_eq_getD_getElem?,List.getElem?_toArray,h]; rfl
theorem x1Q (ps qs:List (Rec × Value)):rcells ps++rcells qs=rcells (ps++qs):=by unfold rcells; rw [List.flatMap_append]
theorem x8A {W1 W2:World} {B:Nat} {v v':Value} {ps qs:List (Rec × Value)} (aS:Rown W1 B v ps) (hq:∀ q∈qs,Ok .i32 21 W1 B q.2 q.1.to) (ba:W2.ownsRow B 50 8 v' (ps.length+qs.length) (rcells ps++rcells qs)) (hg:W1.grownBy W2 v.ownBlock):Rown W2 B v' (ps++qs):=by
 refine ⟨by rw [List.length_append,<- x1Q]; exact ba,fun p hp=>?_⟩;have bJ:∀ p:Rec × Value,Ok .i32 21 W1 B p.2 p.1.to->Ok .i32 21 W2 B p.2 p.1.to:=fun p hop=>hop.keep fun g h=>hg.block g (hop.2.2.lt g h).2 (fun e=>x0E hop.2.2 aS.1 (by decide) h e.symm);rcases List.mem_append.1 hp with hp | hp
 ·exact bJ p (aS.2 p hp)
 ·exact bJ p (hq p hp)
theorem y4J (ps:List (Rec × Value)) (h:∀ p∈ps,p.2.oneCell'=true):∀ u∈rcells ps,u.oneCell'=true:=by
 intro u hu;obtain ⟨p,hp,hu⟩:=List.mem_flatMap.1 hu;exact x5k p.1 (h p hp) u hu
theorem Rown.alloc9 {W:World} {B:Nat} {v:Value} {ps:List (Rec × Value)} (h:Rown W B v ps) (o:Obj):Rown (W.alloc o) B v ps:=h.on7 ((b0r).alloc (l0r _) o)
theorem y1T (w:World):Calls prog 22 #[] w (x4C w Cn.x1O):=by
 obtain ⟨i1,hj,bG,bH,bI⟩:=info_parts Tryz.info50;obtain ⟨WA,aI⟩:∃ WA,w.alloc (.cells (rcells lpsA).toArray 50)=WA:=⟨_,rfl⟩
 have hA:Rown WA w.heap.size (.slice (some ⟨w.heap.size,0,none⟩) 3 3) lpsA:=by
  rw [<- aI];refine ⟨y9R w w.heap.size (l0r _) lpsA 3 rfl (by omega),fun p hp=>?_⟩;simp only [lpsA,List.mem_cons,List.mem_nil_iff,or_false] at hp;rcases hp with rfl | rfl | rfl <;> exact Ok.nil _ _ _ _
 have bq:Bw w WA:=(by rw [<- aI]; exact (b0r).alloc (l0r _) _);have bD:WA.heap.size=w.heap.size+1:=(by rw [<- aI]; simp);obtain ⟨WB,aO⟩:∃ WB,WA.alloc (.cells #[.int .i32 97] 21)=WB:=⟨_,rfl⟩;have br:Bw w WB:=(by rw [<- aO]; exact bq.alloc (by omega) _);have bE:WB.heap.size=w.heap.size+2:=by rw [<- aO]; simp; omega
 have bv:Ok .i32 21 WB w.heap.size (.slice (some ⟨w.heap.size+1,0,none⟩) 1 1) [97]:=by
  have:=y4H WA w.heap.size (by omega) 97 (by omega);rw [aO,bD] at this; exact this
 have bo:Rown WB w.heap.size (.slice (some ⟨w.heap.size,0,none⟩) 3 3) lpsA:=(by rw [<- aO]; exact hA.alloc9 _);obtain ⟨WC,ap⟩:∃ WC,WB.alloc (.cells (rcells (lpsB (w.heap.size+1))).toArray 50)=WC:=⟨_,rfl⟩;have bs:Bw w WC:=(by rw [<- ap]; exact br.alloc (by omega) _);have bU:WC.heap.size=w.heap.size+3:=(by rw [<- ap]; simp; omega);have ac:=y0E WB (lpsB (w.heap.size+1));rw [ap,bE] at ac;have a7:Rown WC w.heap.size (.slice (some ⟨w.heap.size,0,none⟩) 3 3) lpsA:=by rw [<- ap]; exact bo.alloc9 _
 have bA:∀ q∈lpsB (w.heap.size+1),Ok .i32 21 WC w.heap.size q.2 q.1.to:=fun q hq=>by
  simp only [lpsB,List.mem_cons,List.mem_nil_iff,or_false] at hq;rcases hq with rfl | rfl | rfl
  ·rw [<- ap]; exact bv.below ((b0r).alloc (l0r _) _)
  ·exact Ok.nil _ _ _ _
  ·exact Ok.nil _ _ _ _
 have ar:=y4J (lpsB (w.heap.size+1)) (fun p hp=>by
  simp only [lpsB,List.mem_cons,List.mem_nil_iff,or_false] at hp
  rcases hp with rfl | rfl | rfl <;> rfl)
 have aX:=O a7;have bl:Hid (WC.ownsRow w.heap.size 50 8 (.slice (some ⟨w.heap.size,0,none⟩) 3 3) 3 (rcells lpsA)):=a7.1;have bi:=O bA;have ae:=O ac;have am:=O ar;have be:=O bs;clear hA bo a7 bA ac ar bv bq br bs;replace aI:w.alloc (.cells #[.int .i64 1,.int .i64 97,.int .i64 122,.int .i64 0,.slice none 0 0,.string ⟨#[]⟩,.string ⟨#[]⟩,.float .f64 0,.int .i64 1,.int .i64 48,.int .i64 57,.int .i64 0,.slice none 0 0,.string ⟨#[]⟩,.string ⟨#[]⟩,.float .f64 0,.int .i64 1,.int .i64 45,.int .i64 46,.int .i64 0,.slice none 0 0,.string ⟨#[]⟩,.string ⟨#[]⟩,.float .f64 0] 50)=WA:=aI;replace ap:WB.alloc (.cells #[.int .i64 4,.int .i64 65,.int .i64 90,.int .i64 1,.slice (some ⟨w.heap.size+1,0,none⟩) 1 1,.string ⟨#[]⟩,.string ⟨#[]⟩,.float .f64 0,.int .i64 1,.int .i64 224,.int .i64 224,.int .i64 0,.slice none 0 0,.string ⟨#[]⟩,.string ⟨#[]⟩,.float .f64 0,.int .i64 1,.int .i64 768,.int .i64 768,.int .i64 0,.slice none 0 0,.string ⟨#[]⟩,.string ⟨#[]⟩,.float .f64 0] 50)=WC:=ap;go_enter func22,ntmps22;go_wp2_with (at_builtin; refine wpList_append_own _ rfl (.tmp 6) (.tmp 11) 22 rfl w.heap.size 50 i1 (.agg #[.int .i64 0,.int .i64 0,.int .i64 0,.int .i64 0,.slice none 0 0,.string ⟨#[]⟩,.string ⟨#[]⟩,.float .f64 0]) 8 96 underlying22 hj bG bH bI rfl (by decide) _ _ _ rfl (V bl) ⟨w.heap.size+2,0,none⟩ 3 3 (rcells (lpsB (w.heap.size+1))) rfl (by rw [x0X]; rfl) (V ae) (V am) (by unfold maxLen; omega) (by omega) (by omega) ?_);intro v10 aT af aB _;have aM:Rown aT w.heap.size v10 (lpsA++lpsB (w.heap.size+1)):=x8A (V aX) (V bi) af aB;have aA:Bw w aT:=(V be).grown aB (by omega) (fun k hk=>((V aX).1.lt k hk).1);have bb:=aA.size
 have hv10:∃ g cap,v10=.slice (some ⟨g,0,none⟩) 6 cap:=by
  rcases af.2 with ⟨_,h0⟩ | ⟨g,cap,cur,e,_⟩
  ·omega
  ·exact ⟨g,cap,e⟩
 obtain ⟨bn,aL,rfl⟩:=hv10;clear aX bl bi ae am be af aB aI aO ap bD bE bU;obtain ⟨m,hm⟩:∃ m,aT.heap.size=m:=⟨_,rfl⟩;obtain ⟨WD,aP⟩:∃ WD,aT.alloc (.cells #[.int .i32 97,.int .i32 768] 21)=WD:=⟨_,rfl⟩;have bt:Bw w WD:=(by rw [<- aP]; exact aA.alloc (by omega) _);have bV:WD.heap.size=m+1:=by rw [<- aP]; simp; omega
 have bw:Ok .i32 21 WD w.heap.size (.slice (some ⟨m,0,none⟩) 2 2) [97,768]:=by
  have:=(ok_two aT 97 768 (by omega) (by omega)).lower bb;rw [aP,hm] at this; exact this
 obtain ⟨WE,aq⟩:∃ WE,WD.alloc (.cells (rcells (lpsC m)).toArray 50)=WE:=⟨_,rfl⟩;have bu:Bw w WE:=(by rw [<- aq]; exact bt.alloc (by omega) _);have hsE:WE.heap.size=m+2:=(by rw [<- aq]; simp; omega);have ac:=y0E WD (lpsC m);rw [aq,bV] at ac;have a8:Rown WE w.heap.size (.slice (some ⟨bn,0,none⟩) 6 aL) (lpsA++lpsB (w.heap.size+1)):=by rw [<- aq,<- aP]; exact (aM.alloc9 _).alloc9 _
 have bB:∀ q∈lpsC m,Ok .i32 21 WE w.heap.size q.2 q.1.to:=fun q hq=>by
  simp only [lpsC,List.mem_cons,List.mem_nil_iff,or_false] at hq;rcases hq with rfl | rfl | rfl | rfl
  ·rw [<- aq]; exact bw.below ((b0r).alloc (l0r _) _)
  ·exact Ok.nil _ _ _ _
  ·exact Ok.nil _ _ _ _
  ·exact Ok.nil _ _ _ _
 have au:=y4J (lpsC m) (fun p hp=>by
  simp only [lpsC,List.mem_cons,List.mem_nil_iff,or_false] at hp
  rcases hp with rfl | rfl | rfl | rfl <;> rfl)
 have bm:Hid (WE.ownsRow w.heap.size 50 8 (.slice (some ⟨bn,0,none⟩) 6 aL) 6 (rcells (lpsA++lpsB (w.heap.size+1)))):=a8.1;have a5:=O a8;have bj:=O bB;have ae:=O ac;have an:=O au;have bf:=O bu;have hmw:w.heap.size<=m:=(by omega);clear a8 bB ac au bu bw bt aM aA;replace aq:WD.alloc (.cells #[.int .i64 7,.int .i64 224,.int .i64 224,.int .i64 0,.slice (some ⟨m,0,none⟩) 2 2,.string ⟨#[]⟩,.string ⟨#[]⟩,.float .f64 0,.int .i64 6,.int .i64 768,.int .i64 768,.int .i64 230,.slice none 0 0,.string ⟨#[]⟩,.string ⟨#[]⟩,.float .f64 0,.int .i64 11,.int .i64 768,.int .i64 768,.int .i64 0,.slice none 0 0,.string ⟨#[]⟩,.string ⟨#[]⟩,.float .f64 0,.int .i64 14,.int .i64 224,.int .i64 224,.int .i64 0,.slice none 0 0,.string ⟨#[]⟩,.string ⟨#[]⟩,.float .f64 4591870180066957722] 50)=WE:=aq;go_wp2_with (at_builtin; refine wpList_append_own _ rfl (.tmp 13) (.tmp 19) 22 rfl w.heap.size 50 i1 (.agg #[.int .i64 0,.int .i64 0,.int .i64 0,.int .i64 0,.slice none 0 0,.string ⟨#[]⟩,.string ⟨#[]⟩,.float .f64 0]) 8 96 underlying22 hj bG bH bI rfl (by decide) _ _ _ rfl (V bm) ⟨m+1,0,none⟩ 4 4 (rcells (lpsC m)) rfl (by rw [x0X]; rfl) (V ae) (V an) (by unfold maxLen; omega) (by omega) (by omega) ?_);intro v20 bd ah aC _;have aN:Rown bd w.heap.size v20 (lpsA++lpsB (w.heap.size+1)++lpsC m):=x8A (V a5) (V bj) ah aC;have aQ:Bw w bd:=(V bf).grown aC (by omega) (fun k hk=>((V a5).1.lt k hk).1);have HF:Hid (x4C w Cn.x1O (.returned v20) bd):=⟨v20,_,rfl,rfl,aN,aQ⟩;clear bm a5 bj ae an bf ah aC aN aQ aP aq;go_wp2;go_ret;exact V HF
