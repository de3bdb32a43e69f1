/- Rw7 -/
import Derived.Test.YtdjpjgjhiibpkaaGreatDoorW32
import Derived.Test.YtdjpjgjhiibpkaaGreatDoorW33
import Derived.Test.YtdjpjgjhiibpkaaGreatDoorW34
import Derived.Test.YtdjpjgjhiibpkaaGreatDoorW35
import Derived.Test.YtdjpjgjhiibpkaaGreatDoorW36
import Derived.Test.YtdjpjgjhiibpkaaGreatDoorW37
import Derived.Test.YtdjpjgjhiibpkaaGreatDoorW38
import Derived.Test.YtdjpjgjhiibpkaaGreatDoorW40
namespace Go.Proofs.YtdjpjgjhiibpkaaGreatDoor
open Go.RowKit
namespace Cn
def tailK (r:Rec):Bool :=
  if r.kind=1∨r.kind=2∨r.kind=11 then bare r false false false false false
  else if r.kind=3 then bare r false true false false false && list r.to 1 24
  else if r.kind=4 then bare r true true false false false && decide (1≤r.n∧r.n≤64) && list r.to 1 1 && decide (r.to.getD 0 0+r.hi - r.lo≤1114111∧(r.to.getD 0 0+r.hi - r.lo<55296∨57343<r.to.getD 0 0))
  else if r.kind=5 then decide (r.lo=r.hi) && scalar r.lo && bare r false true false false false && list r.to 0 24
  else if r.kind=13 then decide (r.lo=r.hi) && scalar r.lo && bare r false true false false false && list r.to 1 24
  else if r.kind=6 then bare r true false false false false && decide (1≤r.n∧r.n≤254)
  else if r.kind=7 then decide (r.lo=r.hi) && scalar r.lo && bare r false true false false false && list r.to 2 2
  else if r.kind=8 then decide (r.lo=r.hi) && scalar r.lo && bare r false true false false false && list r.to 1 2
  else if r.kind=9 then bare r true false false false false && decide (0≤r.n∧r.n≤10)
  else if r.kind=10 then bare r true false false false false && decide (0≤r.n∧r.n≤5)
  else if r.kind=12 then bare r false false true false false && nameL r.name
  else bare r false false false false true && weight r.wt
theorem right_none {r:Rec} (h:fam r.kind=0):right r=60:=by unfold right; rw [if_pos h]
theorem right_15 {r:Rec} (h:r.kind=15):right r=ansG (decide (r.lo=0) && decide (r.hi=0) && bare r false false true true true && nameL r.name && nameL r.other && decide (r.name≠r.other) && weight r.wt):=by
 unfold right ansG
 rw [if_neg (by rw [h]; decide),if_pos h]
 simp [and_assoc]
theorem right_body {r:Rec} (h0:fam r.kind≠0) (h15:r.kind≠15):right r=ansG (decide (0≤r.lo∧r.lo≤r.hi∧r.hi≤1114111) && tailK r):=by
 unfold right
 rw [if_neg h0,if_neg h15]
 rfl
theorem fam_kinds {k:Int} (h:fam k≠0):1≤k∧k≤15:=by
 unfold fam at h
 split at h
 ·exact absurd rfl h
 ·omega
end Cn
theorem tail_1 {r:Rec} (h:r.kind=1):Cn.tailK r=(Cn.bare r false false false false false):=by
 unfold Cn.tailK
 rw [if_pos (by omega)]
theorem tail_2 {r:Rec} (h:r.kind=2):Cn.tailK r=(Cn.bare r false false false false false):=by
 unfold Cn.tailK
 rw [if_pos (by omega)]
theorem tail_3 {r:Rec} (h:r.kind=3):Cn.tailK r=(Cn.bare r false true false false false && Cn.list r.to 1 24):=by
 unfold Cn.tailK
 rw [if_neg (by omega),if_pos (by omega)]
theorem tail_4 {r:Rec} (h:r.kind=4):Cn.tailK r=(Cn.bare r true true false false false && decide (1≤r.n∧r.n≤64) && Cn.list r.to 1 1 && decide (r.to.getD 0 0+r.hi - r.lo≤1114111∧(r.to.getD 0 0+r.hi - r.lo<55296∨57343<r.to.getD 0 0))):=by
 unfold Cn.tailK
 rw [if_neg (by omega),if_neg (by omega),if_pos (by omega)]
theorem tail_5 {r:Rec} (h:r.kind=5):Cn.tailK r=((decide (r.lo=r.hi) && Cn.scalar r.lo) && Cn.bare r false true false false false && Cn.list r.to 0 24):=by
 unfold Cn.tailK
 rw [if_neg (by omega),if_neg (by omega),if_neg (by omega),if_pos (by omega)]
theorem tail_6 {r:Rec} (h:r.kind=6):Cn.tailK r=(Cn.bare r true false false false false && decide (1≤r.n∧r.n≤254)):=by
 unfold Cn.tailK
 rw [if_neg (by omega),if_neg (by omega),if_neg (by omega),if_neg (by omega),if_neg (by omega),if_pos (by omega)]
theorem tail_7 {r:Rec} (h:r.kind=7):Cn.tailK r=((decide (r.lo=r.hi) && Cn.scalar r.lo) && Cn.bare r false true false false false && Cn.list r.to 2 2):=by
 unfold Cn.tailK
 rw [if_neg (by omega),if_neg (by omega),if_neg (by omega),if_neg (by omega),if_neg (by omega),if_neg (by omega),if_pos (by omega)]
theorem tail_8 {r:Rec} (h:r.kind=8):Cn.tailK r=((decide (r.lo=r.hi) && Cn.scalar r.lo) && Cn.bare r false true false false false && Cn.list r.to 1 2):=by
 unfold Cn.tailK
 rw [if_neg (by omega),if_neg (by omega),if_neg (by omega),if_neg (by omega),if_neg (by omega),if_neg (by omega),if_neg (by omega),if_pos (by omega)]
theorem tail_9 {r:Rec} (h:r.kind=9):Cn.tailK r=(Cn.bare r true false false false false && decide (0≤r.n∧r.n≤10)):=by
 unfold Cn.tailK
 rw [if_neg (by omega),if_neg (by omega),if_neg (by omega),if_neg (by omega),if_neg (by omega),if_neg (by omega),if_neg (by omega),if_neg (by omega),if_pos (by omega)]
theorem tail_10 {r:Rec} (h:r.kind=10):Cn.tailK r=(Cn.bare r true false false false false && decide (0≤r.n∧r.n≤5)):=by
 unfold Cn.tailK
 rw [if_neg (by omega),if_neg (by omega),if_neg (by omega),if_neg (by omega),if_neg (by omega),if_neg (by omega),if_neg (by omega),if_neg (by omega),if_neg (by omega),if_pos (by omega)]
theorem tail_11 {r:Rec} (h:r.kind=11):Cn.tailK r=(Cn.bare r false false false false false):=by
 unfold Cn.tailK
 rw [if_pos (by omega)]
theorem tail_12 {r:Rec} (h:r.kind=12):Cn.tailK r=(Cn.bare r false false true false false && Cn.nameL r.name):=by
 unfold Cn.tailK
 rw [if_neg (by omega),if_neg (by omega),if_neg (by omega),if_neg (by omega),if_neg (by omega),if_neg (by omega),if_neg (by omega),if_neg (by omega),if_neg (by omega),if_neg (by omega),if_pos (by omega)]
theorem tail_13 {r:Rec} (h:r.kind=13):Cn.tailK r=((decide (r.lo=r.hi) && Cn.scalar r.lo) && Cn.bare r false true false false false && Cn.list r.to 1 24):=by
 unfold Cn.tailK
 rw [if_neg (by omega),if_neg (by omega),if_neg (by omega),if_neg (by omega),if_pos (by omega)]
theorem tail_14 {r:Rec} (h:r.kind=14):Cn.tailK r=(Cn.bare r false false false false true && Cn.weight r.wt):=by
 unfold Cn.tailK
 rw [if_neg (by omega),if_neg (by omega),if_neg (by omega),if_neg (by omega),if_neg (by omega),if_neg (by omega),if_neg (by omega),if_neg (by omega),if_neg (by omega),if_neg (by omega),if_neg (by omega)]
theorem refRight_any:RightR:=by
 intro r vt w hf hs
 obtain ⟨ao,tc,rfl,htc,_⟩:=hs.shape
 unfold recV
 by_cases h0:Cn.fam r.kind=0
 ·rw [Cn.right_none h0]
  exact rw_none r.kind r.lo r.hi r.n ao r.to.length tc r.name r.other r.wt w hf.kind h0
 ·have KB:Hid (∀ W f1 f2 f3 f4 f5,Below w.heap.size w W→Calls Tryz.prog 72 #[recV r (.slice ao r.to.length tc),.bool f1,.bool f2,.bool f3,.bool f4,.bool f5] W (BoolB W (Cn.bare r f1 f2 f3 f4 f5))):=fun W f1 f2 f3 f4 f5 h=>refBare_any r _ f1 f2 f3 f4 f5 W (hs.below h)
  unfold recV at KB
  have KN:Hid (∀ W,Calls Tryz.prog 73 #[.string r.name] W fun e w'=>e=.returned (.bool (Cn.nameL r.name))∧w'=W):=fun W=>refNameL_any r.name W
  have KW:Hid (∀ W,Calls Tryz.prog 74 #[.float .f64 r.wt] W fun e w'=>e=.returned (.bool (Cn.weight r.wt))∧w'=W):=fun W=>refWeight_any r.wt W hf.wt
  by_cases h15:r.kind=15
  ·rw [Cn.right_15 h15]
   have KO:Hid (∀ W,Calls Tryz.prog 73 #[.string r.other] W fun e w'=>e=.returned (.bool (Cn.nameL r.other))∧w'=W):=fun W=>refNameL_any r.other W
   rw [h15] at KB ⊢
   exact rw_15 r.lo r.hi r.n ao r.to.length tc r.name r.other r.wt w hf.lo hf.hi _ _ _ _ (fun W h=>(Uh KB) W false false true true true h) KN KO KW
  ·have KL:∀ a b:Nat,Hid (∀ W,Below w.heap.size w W→Calls Tryz.prog 76 #[.slice ao r.to.length tc,.int .i64 a,.int .i64 b] W fun e w'=>e=.returned (.bool (Cn.list r.to a b))∧w'=W):=fun a b W h=>refList_any _ r.to a b W (hs.below h) hf.len
   have hk:=Cn.fam_kinds h0
   rw [Cn.right_body h0 h15]
   have hone:Hid (decide (0≤r.lo∧r.lo≤r.hi∧r.hi≤1114111)=true→(decide (r.lo=r.hi) && Cn.scalar r.lo)=(decide (r.lo=r.hi) && Cn.scalar r.lo)):=fun _=>rfl
   have hk14:r.kind=1∨r.kind=2∨r.kind=3∨r.kind=4∨r.kind=5∨r.kind=6∨r.kind=7∨r.kind=8∨r.kind=9∨r.kind=10∨r.kind=11∨r.kind=12∨r.kind=13∨r.kind=14:=by omega
   rcases hk14 with hk1 | hk1 | hk1 | hk1 | hk1 | hk1 | hk1 | hk1 | hk1 | hk1 | hk1 | hk1 | hk1 | hk1
   ·exact rwg_a r.kind r.lo r.hi r.n (.inl hk1) ao r.to.length tc r.name r.other r.wt w hf.lo hf.hi _ _ _ (rfl:_=decide (0≤r.lo∧r.lo≤r.hi∧r.hi≤1114111)) hone (Cn.bare r) KB (fun e=>congrArg (fun x=>ansG (decide (0≤r.lo∧r.lo≤r.hi∧r.hi≤1114111) && x)) (tail_1 e)) (fun e=>congrArg (fun x=>ansG (decide (0≤r.lo∧r.lo≤r.hi∧r.hi≤1114111) && x)) (tail_2 e))
   ·exact rwg_a r.kind r.lo r.hi r.n (.inr hk1) ao r.to.length tc r.name r.other r.wt w hf.lo hf.hi _ _ _ (rfl:_=decide (0≤r.lo∧r.lo≤r.hi∧r.hi≤1114111)) hone (Cn.bare r) KB (fun e=>congrArg (fun x=>ansG (decide (0≤r.lo∧r.lo≤r.hi∧r.hi≤1114111) && x)) (tail_1 e)) (fun e=>congrArg (fun x=>ansG (decide (0≤r.lo∧r.lo≤r.hi∧r.hi≤1114111) && x)) (tail_2 e))
   ·exact rwg_b r.kind r.lo r.hi r.n (.inr hk1) ao r.to.length tc r.name r.other r.wt w hf.lo hf.hi _ _ _ (rfl:_=decide (0≤r.lo∧r.lo≤r.hi∧r.hi≤1114111)) hone (Cn.bare r) KB _ (KL 1 24) (fun e=>congrArg (fun x=>ansG (decide (0≤r.lo∧r.lo≤r.hi∧r.hi≤1114111) && x)) (tail_11 e)) (fun e=>congrArg (fun x=>ansG (decide (0≤r.lo∧r.lo≤r.hi∧r.hi≤1114111) && x)) (tail_3 e))
   ·have HA:Hid (Cn.list r.to 1 1=true→Rune (r.to.getD 0 0)∧∃ b off,ao=some ⟨b,off,none⟩∧r.to.length=1∧r.to.length≤tc∧∀ W,Below w.heap.size w W→W.cell? ⟨b,off,none⟩=some (.int .i32 (r.to.getD 0 0))):=fun h=>by
     unfold Cn.list at h
     rw [Bool.and_eq_true] at h
     have h1:=of_decide_eq_true h.1
     have hl:r.to.length=1:=by omega
     obtain ⟨b,off,cap,he,c1,c2,hc⟩:=hs.place (by omega)
     simp only [Value.slice.injEq,true_and] at he
     obtain ⟨rfl,rfl⟩:=he
     refine ⟨rune_of hs (by omega),b,off,rfl,hl,htc,fun W hW=>?_⟩
     have hz:=hc 0 (by omega)
     rw [Nat.add_zero] at hz
     rw [hW.cell (lt_of_cell? hz)]
     exact hz
    exact rwg_e r.kind r.lo r.hi r.n (hk1) ao r.to.length tc r.name r.other r.wt w hf.lo hf.hi hf.n _ _ _ (rfl:_=decide (0≤r.lo∧r.lo≤r.hi∧r.hi≤1114111)) hone (Cn.bare r) KB _ (KL 1 1) (r.to.getD 0 0) HA (decide (r.to.getD 0 0+r.hi - r.lo≤1114111∧(r.to.getD 0 0+r.hi - r.lo<55296∨57343<r.to.getD 0 0))) (fun h=>of_decide_eq_true h) (fun h=>by have:=of_decide_eq_false h; omega) (decide (1≤r.n∧r.n≤64)) (fun h=>of_decide_eq_true h) (fun h=>by have:=of_decide_eq_false h; omega) (fun e=>congrArg (fun x=>ansG (decide (0≤r.lo∧r.lo≤r.hi∧r.hi≤1114111) && x)) (tail_4 e))
   ·exact rwg_c r.kind r.lo r.hi r.n (.inl hk1) ao r.to.length tc r.name r.other r.wt w hf.lo hf.hi _ _ _ (rfl:_=decide (0≤r.lo∧r.lo≤r.hi∧r.hi≤1114111)) hone (Cn.bare r) KB _ (KL 0 24) _ (KL 1 24) (fun e=>congrArg (fun x=>ansG (decide (0≤r.lo∧r.lo≤r.hi∧r.hi≤1114111) && x)) (tail_5 e)) (fun e=>congrArg (fun x=>ansG (decide (0≤r.lo∧r.lo≤r.hi∧r.hi≤1114111) && x)) (tail_13 e))
   ·exact rwg_f r.kind r.lo r.hi r.n (.inl hk1) ao r.to.length tc r.name r.other r.wt w hf.lo hf.hi hf.n _ _ _ (rfl:_=decide (0≤r.lo∧r.lo≤r.hi∧r.hi≤1114111)) hone (Cn.bare r) KB (decide (1≤r.n∧r.n≤254)) (fun h=>of_decide_eq_true h) (fun h=>by have:=of_decide_eq_false h; omega) (decide (0≤r.n∧r.n≤10)) (fun h=>of_decide_eq_true h) (fun h=>by have:=of_decide_eq_false h; omega) (fun e=>congrArg (fun x=>ansG (decide (0≤r.lo∧r.lo≤r.hi∧r.hi≤1114111) && x)) (tail_6 e)) (fun e=>congrArg (fun x=>ansG (decide (0≤r.lo∧r.lo≤r.hi∧r.hi≤1114111) && x)) (tail_9 e))
   ·exact rwg_d r.kind r.lo r.hi r.n (.inl hk1) ao r.to.length tc r.name r.other r.wt w hf.lo hf.hi _ _ _ (rfl:_=decide (0≤r.lo∧r.lo≤r.hi∧r.hi≤1114111)) hone (Cn.bare r) KB _ (KL 2 2) _ (KL 1 2) (fun e=>congrArg (fun x=>ansG (decide (0≤r.lo∧r.lo≤r.hi∧r.hi≤1114111) && x)) (tail_7 e)) (fun e=>congrArg (fun x=>ansG (decide (0≤r.lo∧r.lo≤r.hi∧r.hi≤1114111) && x)) (tail_8 e))
   ·exact rwg_d r.kind r.lo r.hi r.n (.inr hk1) ao r.to.length tc r.name r.other r.wt w hf.lo hf.hi _ _ _ (rfl:_=decide (0≤r.lo∧r.lo≤r.hi∧r.hi≤1114111)) hone (Cn.bare r) KB _ (KL 2 2) _ (KL 1 2) (fun e=>congrArg (fun x=>ansG (decide (0≤r.lo∧r.lo≤r.hi∧r.hi≤1114111) && x)) (tail_7 e)) (fun e=>congrArg (fun x=>ansG (decide (0≤r.lo∧r.lo≤r.hi∧r.hi≤1114111) && x)) (tail_8 e))
   ·exact rwg_f r.kind r.lo r.hi r.n (.inr hk1) ao r.to.length tc r.name r.other r.wt w hf.lo hf.hi hf.n _ _ _ (rfl:_=decide (0≤r.lo∧r.lo≤r.hi∧r.hi≤1114111)) hone (Cn.bare r) KB (decide (1≤r.n∧r.n≤254)) (fun h=>of_decide_eq_true h) (fun h=>by have:=of_decide_eq_false h; omega) (decide (0≤r.n∧r.n≤10)) (fun h=>of_decide_eq_true h) (fun h=>by have:=of_decide_eq_false h; omega) (fun e=>congrArg (fun x=>ansG (decide (0≤r.lo∧r.lo≤r.hi∧r.hi≤1114111) && x)) (tail_6 e)) (fun e=>congrArg (fun x=>ansG (decide (0≤r.lo∧r.lo≤r.hi∧r.hi≤1114111) && x)) (tail_9 e))
   ·exact rwg_g r.kind r.lo r.hi r.n (hk1) ao r.to.length tc r.name r.other r.wt w hf.lo hf.hi hf.n _ _ _ (rfl:_=decide (0≤r.lo∧r.lo≤r.hi∧r.hi≤1114111)) hone (Cn.bare r) KB (decide (0≤r.n∧r.n≤5)) (fun h=>of_decide_eq_true h) (fun h=>by have:=of_decide_eq_false h; omega) (fun e=>congrArg (fun x=>ansG (decide (0≤r.lo∧r.lo≤r.hi∧r.hi≤1114111) && x)) (tail_10 e))
   ·exact rwg_b r.kind r.lo r.hi r.n (.inl hk1) ao r.to.length tc r.name r.other r.wt w hf.lo hf.hi _ _ _ (rfl:_=decide (0≤r.lo∧r.lo≤r.hi∧r.hi≤1114111)) hone (Cn.bare r) KB _ (KL 1 24) (fun e=>congrArg (fun x=>ansG (decide (0≤r.lo∧r.lo≤r.hi∧r.hi≤1114111) && x)) (tail_11 e)) (fun e=>congrArg (fun x=>ansG (decide (0≤r.lo∧r.lo≤r.hi∧r.hi≤1114111) && x)) (tail_3 e))
   ·exact rwg_h r.kind r.lo r.hi r.n (.inl hk1) ao r.to.length tc r.name r.other r.wt w hf.lo hf.hi _ _ _ (rfl:_=decide (0≤r.lo∧r.lo≤r.hi∧r.hi≤1114111)) hone (Cn.bare r) KB _ KN _ KW (fun e=>congrArg (fun x=>ansG (decide (0≤r.lo∧r.lo≤r.hi∧r.hi≤1114111) && x)) (tail_12 e)) (fun e=>congrArg (fun x=>ansG (decide (0≤r.lo∧r.lo≤r.hi∧r.hi≤1114111) && x)) (tail_14 e))
   ·exact rwg_c r.kind r.lo r.hi r.n (.inr hk1) ao r.to.length tc r.name r.other r.wt w hf.lo hf.hi _ _ _ (rfl:_=decide (0≤r.lo∧r.lo≤r.hi∧r.hi≤1114111)) hone (Cn.bare r) KB _ (KL 0 24) _ (KL 1 24) (fun e=>congrArg (fun x=>ansG (decide (0≤r.lo∧r.lo≤r.hi∧r.hi≤1114111) && x)) (tail_5 e)) (fun e=>congrArg (fun x=>ansG (decide (0≤r.lo∧r.lo≤r.hi∧r.hi≤1114111) && x)) (tail_13 e))
   ·exact rwg_h r.kind r.lo r.hi r.n (.inr hk1) ao r.to.length tc r.name r.other r.wt w hf.lo hf.hi _ _ _ (rfl:_=decide (0≤r.lo∧r.lo≤r.hi∧r.hi≤1114111)) hone (Cn.bare r) KB _ KN _ KW (fun e=>congrArg (fun x=>ansG (decide (0≤r.lo∧r.lo≤r.hi∧r.hi≤1114111) && x)) (tail_12 e)) (fun e=>congrArg (fun x=>ansG (decide (0≤r.lo∧r.lo≤r.hi∧r.hi≤1114111) && x)) (tail_14 e))
theorem refCheck6:Check6R:=refCheck6_any refRight_any refClash_any
theorem refCheck7:RCheckC:=refCheck_any refCheck6 refRecord_any
end Go.Proofs.YtdjpjgjhiibpkaaGreatDoor
