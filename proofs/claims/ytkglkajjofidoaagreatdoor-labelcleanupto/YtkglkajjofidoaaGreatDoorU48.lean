/- Ja16 Jb16 Jc16 Jd16 Je16 Jf16 -/
import Derived.Test.YtkglkajjofidoaaGreatDoorU3
import Derived.Deep.RegionHeld3
set_option maxHeartbeats 4000000
set_option maxRecDepth 8000
namespace Go.Proofs.YtkglkajjofidoaaGreatDoor
namespace Jn
def near (j:Int→Int):List Int→Int
 | []=>0
 | c :: l=>if j c=5 then near j l else j c
def lok (a:Int):Bool:=decide (a=2) || decide (a=3)
def rok (a:Int):Bool:=decide (a=1) || decide (a=3)
def vrl (cl:Int→Int):List Int→Bool
 | []=>false
 | v :: _=>decide (cl v=9)
def fx (cl j:Int→Int) (l:List Int) (c:Int) (r:List Int):Bool:=if c=8204 then vrl cl l || (lok (near j l) && rok (near j r)) else if c=8205 then vrl cl l else true
def lf (j:Int→Int) (X:List Int) (i:Nat):Int:=near j (X.take i).reverse
def rt (j:Int→Int) (X:List Int) (i:Nat):Int:=near j (X.drop i)
def vir (cl:Int→Int) (X:List Int) (i:Nat):Bool:=vrl cl (X.take i).reverse
def btw (j:Int→Int) (X:List Int) (i:Nat):Bool:=lok (lf j X i) && rok (rt j X (i+1))
def fit (cl j:Int→Int) (X:List Int) (i:Nat):Bool:=fx cl j (X.take i).reverse (X.getD i 0) (X.drop (i+1))
def chk (cl j:Int→Int) (X:List Int):Int:=match (List.range X.length).find? (fun i=>!fit cl j X i) with
 | some i=>i
 | none=>-1
variable {cl j:Int→Int} {X:List Int}
theorem z0e {i:Nat} (h:X.getD i 0=8204):fit cl j X i=(vir cl X i || btw j X i):=by
 unfold fit fx; rw [if_pos h]; rfl
theorem z0d {i:Nat} (h:X.getD i 0=8205):fit cl j X i=vir cl X i:=by
 unfold fit fx; rw [if_neg (by omega),if_pos h]; rfl
theorem z0c {i:Nat} (h:X.getD i 0≠8204) (h2:X.getD i 0≠8205):fit cl j X i=true:=by
 unfold fit fx; rw [if_neg h,if_neg h2]
theorem x3d {i:Nat} (h:i<X.length):X.take (i+1)=X.take i++[X.getD i 0]:=by
 rw [List.take_add_one]; simp [List.getD,h]
theorem y2E {i:Nat} (h:i<X.length):X.drop i=X.getD i 0 :: X.drop (i+1):=by
 rw [List.drop_eq_getElem_cons h]; simp [List.getD,h]
theorem y6L:vir cl X 0=false:=rfl
theorem y6K {i:Nat} (h:i<X.length):vir cl X (i+1)=decide (cl (X.getD i 0)=9):=by
 unfold vir; rw [x3d h,List.reverse_append]; rfl
theorem y3x {i:Nat} (h:i<X.length):lf j X (i+1)=if j (X.getD i 0)=5 then lf j X i else j (X.getD i 0):=by
 unfold lf; rw [x3d h,List.reverse_append]; rfl
theorem lf_t {i:Nat} (h:i<X.length) (ht:j (X.getD i 0)=5):lf j X (i+1)=lf j X i:=by rw [y3x h,if_pos ht]
theorem lf_n {i:Nat} (h:i<X.length) (ht:j (X.getD i 0)≠5):lf j X (i+1)=j (X.getD i 0):=by rw [y3x h,if_neg ht]
theorem z0W {i:Nat} (h:X.length≤i):rt j X i=0:=by unfold rt; rw [List.drop_eq_nil_of_le h]; rfl
theorem z0V {i:Nat} (h:i<X.length):rt j X i=if j (X.getD i 0)=5 then rt j X (i+1) else j (X.getD i 0):=by
 unfold rt; rw [y2E h]; rfl
theorem rt_t {i:Nat} (h:i<X.length) (ht:j (X.getD i 0)=5):rt j X i=rt j X (i+1):=by rw [z0V h,if_pos ht]
theorem rt_n {i:Nat} (h:i<X.length) (ht:j (X.getD i 0)≠5):rt j X i=j (X.getD i 0):=by rw [z0V h,if_neg ht]
theorem y3w {a:Nat}:∀ k,a≤k→k≤X.length→(∀ m,a≤m→m<k→j (X.getD m 0)=5)→lf j X k=lf j X a
 | 0,h,_,_=>by rw [Nat.le_zero.1 h]
 | k+1,h,hk,ht=>by
  rcases Nat.lt_or_ge a (k+1) with h1 | h1
  ·rw [lf_t (by omega) (ht k (by omega) (by omega))]
   exact y3w k (by omega) (by omega) fun m h1 h2=>ht m h1 (by omega)
  ·rw [Nat.le_antisymm h h1]
theorem y4p {a:Nat}:∀ k,a≤k→k≤X.length→(∀ m,a≤m→m<k→j (X.getD m 0)=5)→rt j X a=rt j X k
 | 0,h,_,_=>by rw [Nat.le_zero.1 h]
 | k+1,h,hk,ht=>by
  rcases Nat.lt_or_ge a (k+1) with h1 | h1
  ·rw [← rt_t (by omega) (ht k (by omega) (by omega))]
   exact y4p k (by omega) (by omega) fun m h1 h2=>ht m h1 (by omega)
  ·rw [Nat.le_antisymm h h1]
theorem y7T {i k e:Nat} (hb:btw j X i=true) (hi:X.getD i 0=8204) (aR:i<k) (aT:k<e) (he:e≤X.length) (ht:∀ m,i<m→m<e→j (X.getD m 0)=5) (hk:X.getD k 0=8204):btw j X k=true:=by
 have h5:j (X.getD i 0)=5:=(by rw [hi,← hk]; exact ht k aR aT);unfold btw at hb ⊢
 rw [y3w (a:=i) k (by omega) (by omega) (fun m h1 h2=>by
  rcases Nat.lt_or_ge i m with h | h
  ·exact ht m h (by omega)
  ·rw [show m=i by omega]; exact h5)]
 rw [← y4p (a:=i+1) (k+1) (by omega) (by omega) (fun m h1 h2=>ht m (by omega) (by omega))];exact hb
theorem y5r (h:∀ i,i<X.length→fit cl j X i=true):chk cl j X=-1:=by
 unfold chk
 have:(List.range X.length).find? (fun i=>!fit cl j X i)=none:=by
  rw [List.find?_eq_none];intro i hi;rw [h i (List.mem_range.1 hi)]; simp
 rw [this]
theorem y5s {k:Nat} (hk:k<X.length) (h:∀ i,i<k→fit cl j X i=true) (hn:fit cl j X k=false):chk cl j X=k:=by
 unfold chk
 have:(List.range X.length).find? (fun i=>!fit cl j X i)=some k:=by
  rw [List.find?_eq_some_iff_append];refine ⟨by rw [hn]; rfl,List.range k,(List.range (X.length - k - 1)).map (k+1+·),?_,fun i hi=>?_⟩
  ·have e:X.length=k+(1+(X.length - k - 1)):=by omega
   conv=>lhs; rw [e]
   rw [List.range_add,List.range_add];simp [List.range_succ,Function.comp_def,Nat.add_assoc]
  ·rw [h i (List.mem_range.1 hi)]; rfl
 rw [this]
end Jn
open Go.RowKit
def x8p (w:World) (n:Int) (e:Ending) (w':World):Prop:=e=.returned (.int .i64 n)∧∃ m,w'=w.drewN m
def x1I (f:Nat) (w0:World) (p:Nat) (cl:Int→Int):Prop:=∀ c,Rune c→∀ W,Below w0.heap.size w0 W→Calls Tryz.prog f #[.pointer (some ⟨p,0,none⟩),.int .i32 c] W (x8p W (cl c))
def LnAt (w:World) (b p:Nat) (xv:Value) (row:Nat):Prop:=w.heap[b]?=some (.cells #[.pointer (some ⟨p,0,none⟩),xv,.int .i64 row] 170 (0,0))
theorem LnAt.c0 {w:World} {b p:Nat} {xv:Value} {row:Nat} (h:LnAt w b p xv row):w.cell? ⟨b,0,none⟩=some (.pointer (some ⟨p,0,none⟩)):=cell_of (j:=0) h (by show 0<3; omega)
theorem LnAt.c1 {w:World} {b p:Nat} {xv:Value} {row:Nat} (h:LnAt w b p xv row):w.cell? ⟨b,1,none⟩=some xv:=cell_of (j:=1) h (by show 1<3; omega)
theorem LnAt.c2 {w:World} {b p:Nat} {xv:Value} {row:Nat} (h:LnAt w b p xv row):w.cell? ⟨b,2,none⟩=some (.int .i64 row):=cell_of (j:=2) h (by show 2<3; omega)
theorem LnAt.drewN {w:World} {b p:Nat} {xv:Value} {row:Nat} (h:LnAt w b p xv row) (m:Nat):LnAt (w.drewN m) b p xv row:=by
 unfold LnAt at *
 have au:b<w.heap.size:=by
  rcases Nat.lt_or_ge b w.heap.size with h1 | h1
  ·exact h1
  ·rw [Array.getElem?_eq_none h1] at h; cases h
 rw [(x0l (w:=w) ⟨m,rfl⟩:Below w.heap.size w (w.drewN m)).block b au]; exact h
namespace Jn
def jat (j:Int→Int) (X:List Int) (k:Int):Int:=if 0≤k∧k<X.length then j (X.getD k.toNat 0) else 0
end Jn
theorem x8O {w0:World} {p:Nat} {j:Int→Int} {xv:Value} {X:List Int} {row:Nat} (hJ:x1I 237 w0 p j) (hx:Sk .i32 w0 xv X) (k:Int) (hk:-10≤k∧k≤1000000000000000000) (w:World) (hb:Below w0.heap.size w0 w) (hl:LnAt w w0.heap.size p xv row):Calls Tryz.prog 198 #[.pointer (some ⟨w0.heap.size,0,none⟩),.int .i64 k] w (x8p w (Jn.jat j X k)):=by
 have x0:=hl.c0;have x1:=hl.c1;obtain ⟨hk1,aI⟩:=hk;unfold Jn.jat;have ae:=hx.len;by_cases h0:0≤k
 ·by_cases h1:k<X.length
  ·rw [if_pos ⟨h0,h1⟩]
   have ac:=hx.below hb;obtain ⟨g,off,cap,rfl,_,_,ad⟩:=ac.place (by omega);obtain ⟨n,rfl⟩:∃ n:Nat,k=n:=⟨k.toNat,by omega⟩;have hn:n<X.length:=(by omega);have x4:=ad n hn
   have ak:Rune (X.getD n 0):=by
    have:=ac.1 (X.getD n 0) (by simp [List.getD,hn]);exact ⟨this.1,this.2⟩
   have HG:=fun m:Nat=>Hd (hJ (X.getD n 0) ak (w.drewN m) (x0b hb (x0l ⟨m,rfl⟩)));rw [Int.toNat_natCast];clear hJ hx hb hl ac ad ak;generalize w0.heap.size=b at *;generalize j (X.getD n 0)=z at *;generalize X.getD n 0=c at *;go_enter Tryz.func198,Tryz.ntmps198;go_wp2;go_quiet (first | (go_at_call 237; exact Calls.quiet_of (Uh (HG _))));go_wp2;go_ret;exact ⟨rfl,nq,rfl⟩
  ·rw [if_neg (by omega)]
   obtain ⟨ao,cap,rfl,_,_⟩:=hx.shape;have h2:(X.length:Int)≤k:=(by omega);clear hJ hx hb hl;generalize w0.heap.size=b at *;go_enter Tryz.func198,Tryz.ntmps198;go_wp2;go_ret;exact ⟨rfl,x4x w⟩
 ·rw [if_neg (by omega)]
  have h2:k<0:=(by omega);clear hJ hx hb hl;generalize w0.heap.size=b at *;go_enter Tryz.func198,Tryz.ntmps198;go_wp2;go_ret;exact ⟨rfl,x4x w⟩
theorem y1a {w0:World} {p:Nat} {cl:Int→Int} {xv:Value} {X:List Int} {row:Nat} (hC:x1I 134 w0 p cl) (hx:Sk .i32 w0 xv X) (i:Nat) (hi:i<X.length) (w:World) (hb:Below w0.heap.size w0 w) (hl:LnAt w w0.heap.size p xv row):Calls Tryz.prog 162 #[.pointer (some ⟨w0.heap.size,0,none⟩),.int .i64 i] w (x2N w (Jn.vir cl X i)):=by
 have x0:=hl.c0;have x1:=hl.c1;have ae:=hx.len
 cases i with
 | zero =>
  rw [Jn.y6L];clear hC hx hb hl;generalize w0.heap.size=b at *;go_enter Tryz.func162,Tryz.ntmps162;go_wp2;go_quiet (fail);go_wp2;go_ret;exact ⟨rfl,nq,rfl⟩
 | succ n =>
  have ac:=hx.below hb;obtain ⟨g,off,cap,rfl,_,_,ad⟩:=ac.place (by omega);have hn:n<X.length:=(by omega);have x4:=ad n hn
  have ak:Rune (X.getD n 0):=by
   have:=ac.1 (X.getD n 0) (by simp [List.getD,hn]);exact ⟨this.1,this.2⟩
  rw [Jn.y6K hn];have HG:=fun m:Nat=>Hd (hC (X.getD n 0) ak (w.drewN m) (x0b hb (x0l ⟨m,rfl⟩)));have hL:(n:Int)<X.length:=(by omega);have aU:IntKind.i64.wrap ((n:Int)+1 - 1)=n:=(by rw [IntKind.wrap_i64]; omega);have hp:(0:Int)<(n:Int)+1:=(by omega);rw [Int.natCast_add];clear hC hx hb hl ac ad ak;generalize w0.heap.size=b at *;generalize cl (X.getD n 0)=z at *;generalize X.getD n 0=c at *;obtain ⟨bz,aA⟩:∃ bz,decide (z=9)=bz:=⟨_,rfl⟩;have hbz2:(z==9)=bz:=(by rw [← aA]; rfl);rw [aA];clear aA;go_enter Tryz.func162,Tryz.ntmps162;go_wp2;go_quiet (first | (go_at_call 134; exact Calls.quiet_of (Uh (HG _))));go_wp2;go_ret;exact ⟨rfl,nq,rfl⟩
def BtwB (w0:World) (p:Nat) (xv:Value) (j:Int→Int) (X:List Int) (row i:Nat) (e:Ending) (w':World):Prop:=e=.returned (.bool (Jn.btw j X i))∧Below w0.heap.size w0 w'∧∃ aa,LnAt w' w0.heap.size p xv aa∧(aa=row∨(Jn.btw j X i=true∧i<aa∧aa≤X.length∧∀ m,i<m→m<aa→j (X.getD m 0)=5))
theorem LnAt.set {w:World} {b p:Nat} {xv:Value} {row:Nat} (h:LnAt w b p xv row) (e:Nat):LnAt (w.setCell ⟨b,2,none⟩ (.int .i64 e)) b p xv e:=by
 unfold LnAt at *;rw [x0f h]; rfl
theorem y3o {j:Int→Int} {X:List Int} (e:Nat):Jn.jat j X e=if e<X.length then j (X.getD e 0) else 0:=by
 unfold Jn.jat;rw [Int.toNat_natCast];by_cases h:e<X.length
 ·rw [if_pos h,if_pos ⟨by omega,by omega⟩]
 ·rw [if_neg h,if_neg (by omega)]
theorem y5S {j:Int→Int} {X:List Int} (k:Nat) (hk:k≤X.length):(Jn.jat j X ((k:Int) - 1)=5→0<k∧Jn.lf j X k=Jn.lf j X (k - 1))∧(Jn.jat j X ((k:Int) - 1)≠5→Jn.lf j X k=Jn.jat j X ((k:Int) - 1)):=by
 cases k with
 | zero =>
  have:Jn.jat j X (((0:Nat):Int) - 1)=0:=(by unfold Jn.jat; rw [if_neg (by omega)]);rw [this];exact ⟨fun h=>absurd h (by decide),fun _=>rfl⟩
 | succ n =>
  have e:(((n+1:Nat):Int) - 1)=(n:Int):=(by omega);rw [e,y3o,if_pos (by omega)];exact ⟨fun h=>⟨by omega,Jn.lf_t (by omega) h⟩,fun h=>Jn.lf_n (by omega) h⟩
theorem y5R {j:Int→Int} {X:List Int} (e:Nat) (he:e≤X.length):(Jn.jat j X e=5→e<X.length∧j (X.getD e 0)=5∧Jn.rt j X e=Jn.rt j X (e+1))∧(Jn.jat j X e≠5→Jn.rt j X e=Jn.jat j X e):=by
 rw [y3o];by_cases h:e<X.length
 ·rw [if_pos h]
  exact ⟨fun h5=>⟨h,h5,Jn.rt_t h h5⟩,fun h5=>Jn.rt_n h h5⟩
 ·rw [if_neg h]
  exact ⟨fun h=>absurd h (by decide),fun _=>Jn.z0W (by omega)⟩
theorem y0Y {w0:World} {p:Nat} {j:Int→Int} {xv:Value} {X:List Int} {row:Nat} (hJ:x1I 237 w0 p j) (hx:Sk .i32 w0 xv X) (i:Nat) (hi:i<X.length) (hr:i<row→Jn.btw j X i=true) (w:World) (hb:Below w0.heap.size w0 w) (hl:LnAt w w0.heap.size p xv row):Calls Tryz.prog 163 #[.pointer (some ⟨w0.heap.size,0,none⟩),.int .i64 i] w (BtwB w0 p xv j X row i):=by
 have x2:=hl.c2;have ae:=hx.len;have HJ:Hid (∀ (k:Int),(-10≤k∧k≤1000000000000000000)→∀ m:Nat,Calls Tryz.prog 198 #[.pointer (some ⟨w0.heap.size,0,none⟩),.int .i64 k] (w.drewN m) (x8p (w.drewN m) (Jn.jat j X k))):=fun k hk m=>x8O hJ hx k hk (w.drewN m) (x0b hb (x0l ⟨m,rfl⟩)) (hl.drewN m);have HB:=Hd hb;have HL:=Hd hl;have aD:=Hd (fun k=>y5S (j:=j) (X:=X) k);have aF:=Hd (fun k=>y5R (j:=j) (X:=X) k);have al:Hid (Jn.btw j X i=(Jn.lok (Jn.lf j X i) && Jn.rok (Jn.rt j X (i+1)))):=rfl;have ab:Hid (∀ m:Nat,∀ bb,bb=Jn.btw j X i→BtwB w0 p xv j X row i (.returned (.bool bb)) (w.drewN m)):=fun m bb e=>⟨by rw [e],x0b hb (x0l ⟨m,rfl⟩),row,hl.drewN m,.inl rfl⟩;have ah:Hid (∀ m e:Nat,Jn.btw j X i=true→i<e→e≤X.length→(∀ m,i<m→m<e→j (X.getD m 0)=5)→BtwB w0 p xv j X row i (.returned (.bool true)) ((w.drewN m).setCell ⟨w0.heap.size,2,none⟩ (.int .i64 e))):=fun m e h1 h2 h3 h4=>⟨by rw [h1],x0c (x0b hb (x0l ⟨m,rfl⟩)) (Nat.le_refl _) _,e,(hl.drewN m).set e,.inr ⟨h1,h2,h3,h4⟩⟩;have aG:Hid (∀ m:Nat,(w.drewN m).cell? ⟨w0.heap.size,2,none⟩=some (.int .i64 row)):=fun m=>(hl.drewN m).c2;have HR:=Hd hr;clear hJ hx hb hl hr;generalize w0.heap.size=b at *;go_enter Tryz.func163,Tryz.ntmps163;by_cases hir:(i:Int)<row
 ·have HF:=Hd ((Uh ab) 0 true ((Uh HR) (by omega)).symm)
  clear HJ aD aF al ab ah aG HR HB HL;go_wp2;go_step3;go_wp2
  try rw [Exit.noGoto_ret]
  go_ret;exact Uh HF
 ·have hnr:(row:Int)≤i:=by omega
  have aU:IntKind.i64.wrap ((i:Int) - 1)=(i:Int) - 1:=(by rw [IntKind.wrap_i64]; omega);have hdd:decide (i<row)=false:=decide_eq_false (by omega);clear hir;go_wp2;go_step3;go_wp2;go_step3;go_wp2;go_loopw [4,5] (fun rv av wr=>∃ k:Nat,rv=.bool false∧av=.int .i64 ((k:Int) - 1)∧k≤i∧Jn.lf j X i=Jn.lf j X k∧∃ m,wr=w.drewN m) (fun _ av _=>(intOf av+1).toNat)
  case atStart=>exact ⟨i,rfl,rfl,Nat.le_refl _,rfl,x4x w⟩
  case round =>
   obtain ⟨k,rfl,rfl,hk,aL,m,rfl⟩:=hrel;have K:=Hd ((Uh HJ) ((k:Int) - 1) ⟨by omega,by omega⟩ m);have an:=Hd ((Uh aD) k (by omega));generalize Jn.jat j X ((k:Int) - 1)=z at *;have am:=Hd aL;clear aL;by_cases z5:z=5
   ·subst z5
    obtain ⟨aS,hk1⟩:=(Uh an).1 rfl;have aO:=Hd ((Uh am).trans hk1);clear an am hk1;have hw2:IntKind.i64.wrap ((k:Int) - 1 - 1)=(k:Int) - 1 - 1:=(by rw [IntKind.wrap_i64]; omega);go_wp2_with fail;refine (Uh K).mono ?_;rintro e w1 ⟨rfl,m1,rfl⟩;have hd:∃ m',(w.drewN m).drewN m1=w.drewN m':=x4y ⟨m,rfl⟩ m1;obtain ⟨m',af⟩:=hd;rw [af];clear K af;go_wp2
    go_roundw
    case rel=>exact ⟨k - 1,rfl,by congr 1; omega,by omega,Uh aO,⟨m',rfl⟩⟩
    case measure=>simp [intOf]; omega
   ·have aw:=(Uh am).trans ((Uh an).2 z5)
    clear an am;have n5:(z==5)=false:=(by rw [beq_eq_false_iff_ne]; exact z5);by_cases hz:z=2∨z=3
    ·have ay:Hid (Jn.lok (Jn.lf j X i)=true):=by
      show Jn.lok (Jn.lf j X i)=true;rw [aw]; rcases hz with rfl | rfl <;> rfl
     clear aw z5;rcases hz with rfl | rfl
     all_goals
      clear n5;go_wp2_with fail;refine (Uh K).mono ?_;rintro e w1 ⟨rfl,m1,rfl⟩;have hd:∃ m',(w.drewN m).drewN m1=w.drewN m':=x4y ⟨m,rfl⟩ m1;obtain ⟨m',af⟩:=hd;rw [af];clear K af;have hw3:IntKind.i64.wrap ((i:Int)+1)=(i:Int)+1:=(by rw [IntKind.wrap_i64]; omega);go_wp2;go_step3;go_wp2;go_loopw [4,6] (fun rv av wr=>∃ k:Nat,rv=.bool false∧av=.int .i64 (k:Int)∧i<k∧k≤X.length∧(∀ q,i<q→q<k→j (X.getD q 0)=5)∧Jn.rt j X (i+1)=Jn.rt j X k∧∃ m,wr=w.drewN m) (fun _ av _=>(X.length+1 - (intOf av).toNat))
      case atStart=>exact ⟨i+1,rfl,rfl,by omega,by omega,fun q h1 h2=>(by omega),rfl,⟨m',rfl⟩⟩
      case round =>
       obtain ⟨k2,rfl,rfl,aI,aJ,aN,aM,m2,rfl⟩:=hrel;have K:=Hd ((Uh HJ) (k2:Int) ⟨by omega,by omega⟩ m2);have aq:=Hd ((Uh aF) k2 aJ);have ar:=Hd aN;have ap:=Hd aM;have hx2:=(Uh aG);clear aM aN;generalize Jn.jat j X (k2:Int)=z at *;by_cases z5:z=5
       ·subst z5
        obtain ⟨aS,hk1,aK⟩:=(Uh aq).1 rfl;have aQ:=Hd ((Uh ap).trans aK)
        have az:Hid (∀ q,i<q→q<k2+1→j (X.getD q 0)=5):=fun q h1 h2=>by
         rcases Nat.lt_or_ge q k2 with h | h
         ·exact (Uh ar) q h1 h
         ·rw [show q=k2 by omega]; exact hk1
        have hw4:IntKind.i64.wrap ((k2:Int)+1)=(k2:Int)+1:=(by rw [IntKind.wrap_i64]; omega);clear aq ap ar hk1 aK hx2;go_wp2_with fail;refine (Uh K).mono ?_;rintro e w1 ⟨rfl,m1,rfl⟩;obtain ⟨m3,ag⟩:∃ m',(w.drewN m2).drewN m1=w.drewN m':=x4y ⟨m2,rfl⟩ m1;rw [ag];clear K ag;go_wp2
        go_roundw
        case rel=>exact ⟨k2+1,rfl,by first | rfl | (congr 1),by omega,by omega,Uh az,Uh aQ,⟨m3,rfl⟩⟩
        case measure=>simp [intOf]; omega
       ·have ax:=(Uh ap).trans ((Uh aq).2 z5)
        clear aq ap;have n5:(z==5)=false:=(by rw [beq_eq_false_iff_ne]; exact z5);by_cases hz:z=1∨z=3
        ·have ai:Hid (Jn.btw j X i=true):=by
          show Jn.btw j X i=true;rw [Uh al,Uh ay,ax]; rcases hz with rfl | rfl <;> rfl
         clear ax z5;rcases hz with rfl | rfl
         all_goals
          clear n5;go_wp2_with fail;refine (Uh K).mono ?_;rintro e w1 ⟨rfl,m1,rfl⟩;obtain ⟨m3,ag⟩:∃ m',(w.drewN m2).drewN m1=w.drewN m':=x4y ⟨m2,rfl⟩ m1;rw [ag];have x3:=hx2 m3;have hfr:=x0e (j:=2) ((Uh HL).drewN m3);have HF:=Hd ((Uh ah) m3 k2 (Uh ai) aI aJ (Uh ar));clear K ag hx2 ah ai ar;go_wp2
          try rw [Exit.noGoto_ret]
          go_ret;exact Uh HF
        ·have HF:Hid (∀ m:Nat,BtwB w0 p xv j X row i (.returned (.bool false)) (w.drewN m)):=fun m=>(Uh ab) m false (by
          rw [Uh al,ax];have:Jn.rok z=false:=by unfold Jn.rok; rw [decide_eq_false (fun h=>hz (.inl h)),decide_eq_false (fun h=>hz (.inr h))]; rfl
          rw [this,Bool.and_false])
         have n1:(z==1)=false:=(by rw [beq_eq_false_iff_ne]; exact fun h=>hz (.inl h));have n3:(z==3)=false:=(by rw [beq_eq_false_iff_ne]; exact fun h=>hz (.inr h));clear ax z5 hz hx2;go_wp2_with fail;refine (Uh K).mono ?_;rintro e w1 ⟨rfl,m1,rfl⟩;obtain ⟨m3,ag⟩:∃ m',(w.drewN m2).drewN m1=w.drewN m':=x4y ⟨m2,rfl⟩ m1;rw [ag];clear K ag;go_wp2
         try rw [Exit.noGoto_ret]
         go_ret;exact Uh (HF) _
    ·have HF:Hid (∀ m:Nat,BtwB w0 p xv j X row i (.returned (.bool false)) (w.drewN m)):=fun m=>(Uh ab) m false (by
      rw [Uh al,aw];have:Jn.lok z=false:=by unfold Jn.lok; rw [decide_eq_false (fun h=>hz (.inl h)),decide_eq_false (fun h=>hz (.inr h))]; rfl
      rw [this]; rfl)
     have n2:(z==2)=false:=(by rw [beq_eq_false_iff_ne]; exact fun h=>hz (.inl h));have n3:(z==3)=false:=(by rw [beq_eq_false_iff_ne]; exact fun h=>hz (.inr h));clear aw z5 hz;go_wp2_with fail;refine (Uh K).mono ?_;rintro e w1 ⟨rfl,m1,rfl⟩;have hd:∃ m',(w.drewN m).drewN m1=w.drewN m':=x4y ⟨m,rfl⟩ m1;obtain ⟨m',af⟩:=hd;rw [af];clear K af;go_wp2
     try rw [Exit.noGoto_ret]
     go_ret;exact Uh (HF) _
def x5m (j:Int→Int) (X:List Int) (row i:Nat):Prop:=∀ k,i≤k→k<row→k<X.length→X.getD k 0=8204→Jn.btw j X k=true
theorem x5m.next {j:Int→Int} {X:List Int} {row i:Nat} (h:x5m j X row i):x5m j X row (i+1):=fun k h1=>h k (by omega)
theorem x5m.row {j:Int→Int} {X:List Int} {row i:Nat} (hb:Jn.btw j X i=true) (hi:X.getD i 0=8204) (he:row≤X.length) (ht:∀ m,i<m→m<row→j (X.getD m 0)=5):x5m j X row (i+1):=fun _ h1 h2 _ h3=>Jn.y7T hb hi (by omega) h2 he ht h3
def FitB (w0:World) (p:Nat) (xv:Value) (j:Int→Int) (X:List Int) (i:Nat) (bb:Bool) (e:Ending) (w':World):Prop:=e=.returned (.bool bb)∧Below w0.heap.size w0 w'∧∃ aa,LnAt w' w0.heap.size p xv aa∧x5m j X aa (i+1)
theorem x8N {w0:World} {p:Nat} {cl j:Int→Int} {xv:Value} {X:List Int} {row:Nat} (hC:x1I 134 w0 p cl) (hJ:x1I 237 w0 p j) (hx:Sk .i32 w0 xv X) (i:Nat) (hi:i<X.length) (hr:x5m j X row i) (w:World) (hb:Below w0.heap.size w0 w) (hl:LnAt w w0.heap.size p xv row):Calls Tryz.prog 127 #[.pointer (some ⟨w0.heap.size,0,none⟩),.int .i64 i] w (FitB w0 p xv j X i (Jn.fit cl j X i)):=by
 have x1:=hl.c1;have ae:=hx.len;have KV:=Hd (y1a hC hx i hi w hb hl);have ac:=hx.below hb;obtain ⟨g,off,cap,rfl,_,_,ad⟩:=ac.place (by omega);have x4:=ad i hi;have hL:(i:Int)<X.length:=(by omega);by_cases h1:X.getD i 0=8204
 ·rw [Jn.z0e h1]
  have KB:Hid (∀ m:Nat,Calls Tryz.prog 163 #[.pointer (some ⟨w0.heap.size,0,none⟩),.int .i64 i] (w.drewN m) (BtwB w0 p (.slice (some ⟨g,off,none⟩) X.length cap) j X row i)):=fun m=>y0Y hJ hx i hi (fun h=>hr i (Nat.le_refl _) h hi h1) (w.drewN m) (x0b hb (x0l ⟨m,rfl⟩)) (hl.drewN m);have HS:Hid (∀ m:Nat,FitB w0 p (.slice (some ⟨g,off,none⟩) X.length cap) j X i true (.returned (.bool true)) (w.drewN m)):=fun m=>⟨rfl,x0b hb (x0l ⟨m,rfl⟩),row,hl.drewN m,hr.next⟩
  have HN:Hid (∀ bb w',BtwB w0 p (.slice (some ⟨g,off,none⟩) X.length cap) j X row i (.returned (.bool bb)) w'→FitB w0 p (.slice (some ⟨g,off,none⟩) X.length cap) j X i (Jn.btw j X i) (.returned (.bool (Jn.btw j X i))) w'):=fun bb w' h=>by
   obtain ⟨_,h2,aa,h3,h4⟩:=h;refine ⟨rfl,h2,aa,h3,?_⟩;rcases h4 with rfl | ⟨h5,_,h7,h8⟩
   ·exact hr.next
   ·exact x5m.row h5 h1 h7 h8
  rw [h1] at x4;clear hC hJ hx hr hb hl ac ad;generalize w0.heap.size=b at *;generalize Jn.vir cl X i=vb at *
  cases vb with
  | true =>
   rw [Bool.true_or];go_enter Tryz.func127,Tryz.ntmps127;go_wp2_with fail;refine (Uh KV).mono ?_;rintro e w1 ⟨rfl,m1,rfl⟩;have HF:=Hd ((Uh HS) m1);clear KV KB HS HN;go_wp2;go_ret;exact Uh HF
  | false =>
   rw [Bool.false_or];go_enter Tryz.func127,Tryz.ntmps127;go_wp2_with fail;refine (Uh KV).mono ?_;rintro e w1 ⟨rfl,m1,rfl⟩;have aH:=Hd ((Uh KB) m1);clear KV KB HS;go_wp2_with fail;refine (Uh aH).mono ?_;rintro e w2 h2;have he:=h2.1;subst he;have HF:=Hd ((Uh HN) _ w2 h2);clear aH HN h2;generalize Jn.btw j X i=bb at *;go_wp2;go_ret;exact Uh HF
 ·have n1:(X.getD i 0==8204)=false:=by rw [beq_eq_false_iff_ne]; exact h1
  by_cases h2:X.getD i 0=8205
  ·rw [Jn.z0d h2]
   rw [h2] at x4;have HS:Hid (∀ m:Nat,∀ vb,FitB w0 p (.slice (some ⟨g,off,none⟩) X.length cap) j X i vb (.returned (.bool vb)) (w.drewN m)):=fun m vb=>⟨rfl,x0b hb (x0l ⟨m,rfl⟩),row,hl.drewN m,hr.next⟩;clear hC hJ hx hr hb hl ac ad n1;generalize w0.heap.size=b at *;generalize Jn.vir cl X i=vb at *;go_enter Tryz.func127,Tryz.ntmps127;go_wp2_with fail;refine (Uh KV).mono ?_;rintro e w1 ⟨rfl,m1,rfl⟩;have HF:=Hd ((Uh HS) m1 vb);clear KV HS;go_wp2;go_ret;exact Uh HF
  ·rw [Jn.z0c h1 h2]
   have n2:(X.getD i 0==8205)=false:=(by rw [beq_eq_false_iff_ne]; exact h2);have HF:Hid (FitB w0 p (.slice (some ⟨g,off,none⟩) X.length cap) j X i true (.returned (.bool true)) w):=⟨rfl,hb,row,hl,hr.next⟩;clear hC hJ hx hr hb hl ac ad KV h1 h2;generalize w0.heap.size=b at *;generalize X.getD i 0=c at *;go_enter Tryz.func127,Tryz.ntmps127;go_wp2;go_ret;exact Uh HF
theorem LnAt.new (w:World) (p:Nat) (xv:Value):LnAt (w.alloc (.cells #[.pointer (some ⟨p,0,none⟩),xv,.int .i64 0] 170)) w.heap.size p xv 0:=by
 unfold LnAt;show (w.heap.push _)[w.heap.size]?=_;simp
def y1P (w:World) (n:Int) (e:Ending) (w':World):Prop:=e=.returned (.int .i64 n)∧Below w.heap.size w w'
theorem x8v {w:World} {p:Nat} {cl j:Int→Int} {xv:Value} {X:List Int} (hC:x1I 134 w p cl) (hJ:x1I 237 w p j) (hx:Sk .i32 w xv X):Calls Tryz.prog 86 #[.pointer (some ⟨p,0,none⟩),xv] w (y1P w (Jn.chk cl j X)):=by
 have ae:=hx.len;have hb:Below w.heap.size w (w.alloc (.cells #[.pointer (some ⟨p,0,none⟩),xv,.int .i64 0] 170)):=(Below.refl _ _).alloc (Nat.le_refl _) _;have hl:=LnAt.new w p xv;have KF:Hid (∀ (i:Nat),i<X.length→∀ (row:Nat),x5m j X row i→∀ W,Below w.heap.size w W→LnAt W w.heap.size p xv row→Calls Tryz.prog 127 #[.pointer (some ⟨w.heap.size,0,none⟩),.int .i64 i] W (FitB w p xv j X i (Jn.fit cl j X i))):=fun i hi row hr W hW hL=>x8N hC hJ hx i hi hr W hW hL;have aj:Hid ((∀ q,q<X.length→Jn.fit cl j X q=true)→∀ W,Below w.heap.size w W→y1P w (Jn.chk cl j X) (.returned (.int .i64 (-1))) W):=fun h W hW=>⟨by rw [Jn.y5r h],hW⟩;have aE:Hid (∀ k,k<X.length→(∀ q,q<k→Jn.fit cl j X q=true)→Jn.fit cl j X k=false→∀ W,Below w.heap.size w W→y1P w (Jn.chk cl j X) (.returned (.int .i64 k)) W):=fun k hk h hn W hW=>⟨by rw [Jn.y5s hk h hn],hW⟩;obtain ⟨ao,cap,rfl,_,_⟩:=hx.shape;have aB:=Hd hb;have aC:=Hd hl;clear hC hJ hx hb hl;generalize Jn.chk cl j X=ck at *;go_enter Tryz.func86,Tryz.ntmps86;go_wp2;go_loopw [4,6,12] (fun rv _ iv wr=>∃ k row:Nat,rv=.int .i64 0∧iv=.int .i64 (k:Int)∧k≤X.length∧(∀ q,q<k→Jn.fit cl j X q=true)∧x5m j X row k∧LnAt wr w.heap.size p (.slice ao X.length cap) row∧Below w.heap.size w wr) (fun _ _ iv _=>X.length - (intOf iv).toNat)
 case atStart=>exact ⟨0,0,rfl,rfl,Nat.zero_le _,fun q h=>absurd h (by omega),fun k _ h=>absurd h (by omega),Uh aC,Uh aB⟩
 case round =>
  clear aB aC;obtain ⟨k,row,rfl,rfl,hk,hq,hr,hl,hb⟩:=hrel;by_cases au:k<X.length
  ·have hL:(k:Int)<X.length:=by omega
   have K:=Hd ((Uh KF) k au row hr wr hb hl);have HQ:=Hd hq;clear hq hr hl hb
   cases hf:Jn.fit cl j X k with
   | true =>
    rw [hf] at K
    have aP:Hid (∀ q,q<k+1→Jn.fit cl j X q=true):=fun q h=>by
     rcases Nat.lt_or_ge q k with h1 | h1
     ·exact (Uh HQ) q h1
     ·rw [show q=k by omega]; exact hf
    clear hf HQ;go_wp2_with fail;refine (Uh K).mono ?_;rintro e w1 ⟨rfl,b1,aa,l1,r1⟩;have HB:=Hd b1;have HL:=Hd l1;have HR:=Hd r1;clear K b1 l1 r1;go_wp2
    go_roundw
    case rel=>exact ⟨k+1,aa,rfl,by go_num,by omega,Uh aP,Uh HR,Uh HL,Uh HB⟩
    case measure=>simp [intOf]; omega
   | false =>
    rw [hf] at K;have HN:=Hd ((Uh aE) k au (Uh HQ) hf);clear hf HQ;go_wp2_with fail;refine (Uh K).mono ?_;rintro e w1 ⟨rfl,b1,_⟩;have HF:=Hd ((Uh HN) w1 b1);clear K b1 HN;go_wp2;go_ret;exact Uh HF
  ·have HF:=Hd ((Uh aj) (fun q h=>hq q (by omega)) wr hb)
   have hL:¬ ((k:Int)<X.length):=(by omega);clear hq hr hl hb aj aE KF;go_wp2;go_ret;exact Uh HF
end Go.Proofs.YtkglkajjofidoaaGreatDoor
