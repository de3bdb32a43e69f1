/- Ja16 Jb16 Jc16 Jd16 Je16 Jf16 -/
import Derived.Test.YtkglkajjofidoaaGreatDoorV3
import Derived.Deep.RegionHeld3
set_option maxHeartbeats 8000000
set_option maxRecDepth 8000
namespace Go.Proofs.YtkglkajjofidoaaGreatDoor
open Go.Proofs.Tryz
namespace Jn
def near (j:Int->Int):List Int->Int
 | []=>0
 | c :: l=>if j c=5 then near j l else j c
def lok (a:Int):Bool:=decide (a=2) || decide (a=3)
def rok (a:Int):Bool:=decide (a=1) || decide (a=3)
def vrl (cl:Int->Int):List Int->Bool
 | []=>false
 | v :: _=>decide (cl v=9)
def fx (cl j:Int->Int) (l:List Int) (c:Int) (r:List Int):Bool:=if c=8204 then vrl cl l || (lok (near j l) && rok (near j r)) else if c=8205 then vrl cl l else true
def lf (j:Int->Int) (X:List Int) (i:Nat):Int:=near j (X.take i).reverse
def rt (j:Int->Int) (X:List Int) (i:Nat):Int:=near j (X.drop i)
def vir (cl:Int->Int) (X:List Int) (i:Nat):Bool:=vrl cl (X.take i).reverse
def btw (j:Int->Int) (X:List Int) (i:Nat):Bool:=lok (lf j X i) && rok (rt j X (i+1))
def fit (cl j:Int->Int) (X:List Int) (i:Nat):Bool:=fx cl j (X.take i).reverse (X.getD i 0) (X.drop (i+1))
def chk (cl j:Int->Int) (X:List Int):Int:=match (List.range X.length).find? (fun i=>!fit cl j X i) with
 | some i=>i
 | none=>-1
variable {cl j:Int->Int} {X:List Int}
theorem y8g {i:Nat} (h:X.getD i 0=8204):fit cl j X i=(vir cl X i || btw j X i):=by
 unfold fit fx; rw [if_pos h]; rfl
theorem y8f {i:Nat} (h:X.getD i 0=8205):fit cl j X i=vir cl X i:=by
 unfold fit fx; rw [if_neg (by omega),if_pos h]; rfl
theorem y8e {i:Nat} (h:X.getD i 0≠8204) (h2:X.getD i 0≠8205):fit cl j X i=true:=by
 unfold fit fx; rw [if_neg h,if_neg h2]
theorem x1E {i:Nat} (h:i<X.length):X.take (i+1)=X.take i++[X.getD i 0]:=by
 rw [List.take_add_one]; simp [List.getD,h]
theorem y3y {i:Nat} (h:i<X.length):X.drop i=X.getD i 0 :: X.drop (i+1):=by
 rw [List.drop_eq_getElem_cons h]; simp [List.getD,h]
theorem y7Q:vir cl X 0=false:=rfl
theorem x7q {i:Nat} (h:i<X.length):vir cl X (i+1)=decide (cl (X.getD i 0)=9):=by
 unfold vir; rw [x1E h,List.reverse_append]; rfl
theorem x9t {i:Nat} (h:i<X.length):lf j X (i+1)=if j (X.getD i 0)=5 then lf j X i else j (X.getD i 0):=by
 unfold lf; rw [x1E h,List.reverse_append]; rfl
theorem lf_t {i:Nat} (h:i<X.length) (ht:j (X.getD i 0)=5):lf j X (i+1)=lf j X i:=by rw [x9t h,if_pos ht]
theorem lf_n {i:Nat} (h:i<X.length) (ht:j (X.getD i 0)≠5):lf j X (i+1)=j (X.getD i 0):=by rw [x9t h,if_neg ht]
theorem y8z {i:Nat} (h:X.length<=i):rt j X i=0:=by unfold rt; rw [List.drop_eq_nil_of_le h]; rfl
theorem y5j {i:Nat} (h:i<X.length):rt j X i=if j (X.getD i 0)=5 then rt j X (i+1) else j (X.getD i 0):=by
 unfold rt; rw [y3y h]; rfl
theorem rt_t {i:Nat} (h:i<X.length) (ht:j (X.getD i 0)=5):rt j X i=rt j X (i+1):=by rw [y5j h,if_pos ht]
theorem rt_n {i:Nat} (h:i<X.length) (ht:j (X.getD i 0)≠5):rt j X i=j (X.getD i 0):=by rw [y5j h,if_neg ht]
theorem y4r {a:Nat}:∀ k,a<=k->k<=X.length->(∀ m,a<=m->m<k->j (X.getD m 0)=5)->lf j X k=lf j X a
 | 0,h,_,_=>by rw [Nat.le_zero.1 h]
 | k+1,h,hk,ht=>by
  rcases Nat.lt_or_ge a (k+1) with h1 | h1
  ·rw [lf_t (by omega) (ht k (by omega) (by omega))];exact y4r k (by omega) (by omega) fun m h1 h2=>ht m h1 (by omega)
  ·rw [Nat.le_antisymm h h1]
theorem y5k {a:Nat}:∀ k,a<=k->k<=X.length->(∀ m,a<=m->m<k->j (X.getD m 0)=5)->rt j X a=rt j X k
 | 0,h,_,_=>by rw [Nat.le_zero.1 h]
 | k+1,h,hk,ht=>by
  rcases Nat.lt_or_ge a (k+1) with h1 | h1
  ·rw [<- rt_t (by omega) (ht k (by omega) (by omega))];exact y5k k (by omega) (by omega) fun m h1 h2=>ht m h1 (by omega)
  ·rw [Nat.le_antisymm h h1]
theorem y9g {i k e:Nat} (hb:btw j X i=true) (hi:X.getD i 0=8204) (bp:i<k) (br:k<e) (he:e<=X.length) (ht:∀ m,i<m->m<e->j (X.getD m 0)=5) (hk:X.getD k 0=8204):btw j X k=true:=by
 have h5:j (X.getD i 0)=5:=(by rw [hi,<- hk]; exact ht k bp br);unfold btw at hb ⊢
 rw [y4r (a:=i) k (by omega) (by omega) (fun m h1 h2=>by
  rcases Nat.lt_or_ge i m with h | h
  ·exact ht m h (by omega)
  ·rw [show m=i by omega]; exact h5)]
 rw [<- y5k (a:=i+1) (k+1) (by omega) (by omega) (fun m h1 h2=>ht m (by omega) (by omega))];exact hb
theorem y0g (h:∀ i,i<X.length->fit cl j X i=true):chk cl j X=-1:=by
 unfold chk
 have:(List.range X.length).find? (fun i=>!fit cl j X i)=none:=by
  rw [List.find?_eq_none];intro i hi;rw [h i (List.mem_range.1 hi)]; simp
 rw [this]
theorem y0h {k:Nat} (hk:k<X.length) (h:∀ i,i<k->fit cl j X i=true) (hn:fit cl j X k=false):chk cl j X=k:=by
 unfold chk
 have:(List.range X.length).find? (fun i=>!fit cl j X i)=some k:=by
  rw [List.find?_eq_some_iff_append];refine ⟨by rw [hn]; rfl,List.range k,(List.range (X.length - k - 1)).map (k+1+·),?_,fun i hi=>?_⟩
  ·have e:X.length=k+(1+(X.length - k - 1)):=by omega
   conv=>lhs; rw [e]
   rw [List.range_add,List.range_add];simp [List.range_succ,Function.comp_def,Nat.add_assoc]
  ·rw [h i (List.mem_range.1 hi)]; rfl
 rw [this]
end Jn
open Go.RowKit
def x8R (w:World) (n:Int) (e:Ending) (w':World):Prop:=e=.returned (.int .i64 n)/\∃ m,w'=w.drewN m
def x1U (f:Nat) (w0:World) (p:Nat) (cl:Int->Int):Prop:=∀ c,Rune c->∀ W,Below w0.heap.size w0 W->Calls prog f #[.pointer (some ⟨p,0,none⟩),.int .i32 c] W (x8R W (cl c))
def LnAt (w:World) (b p:Nat) (xv:Value) (row:Nat):Prop:=w.heap[b]?=some (.cells #[.pointer (some ⟨p,0,none⟩),xv,.int .i64 row] 170 (0,0))
theorem LnAt.c0 {w:World} {b p:Nat} {xv:Value} {row:Nat} (h:LnAt w b p xv row):w.cell? ⟨b,0,none⟩=some (.pointer (some ⟨p,0,none⟩)):=cell_of (j:=0) h (by show 0<3; omega)
theorem LnAt.c1 {w:World} {b p:Nat} {xv:Value} {row:Nat} (h:LnAt w b p xv row):w.cell? ⟨b,1,none⟩=some xv:=cell_of (j:=1) h (by show 1<3; omega)
theorem LnAt.c2 {w:World} {b p:Nat} {xv:Value} {row:Nat} (h:LnAt w b p xv row):w.cell? ⟨b,2,none⟩=some (.int .i64 row):=cell_of (j:=2) h (by show 2<3; omega)
theorem LnAt.drewN {w:World} {b p:Nat} {xv:Value} {row:Nat} (h:LnAt w b p xv row) (m:Nat):LnAt (w.drewN m) b p xv row:=by
 unfold LnAt at *
 have ae:b<w.heap.size:=by
  rcases Nat.lt_or_ge b w.heap.size with h1 | h1
  ·exact h1
  ·rw [Array.getElem?_eq_none h1] at h; cases h
 rw [(x0k (w:=w) ⟨m,rfl⟩:Bw w (w.drewN m)).block b ae]; exact h
namespace Jn
def jat (j:Int->Int) (X:List Int) (k:Int):Int:=if 0<=k/\k<X.length then j (X.getD k.toNat 0) else 0
end Jn
theorem x9v {w0:World} {p:Nat} {j:Int->Int} {xv:Value} {X:List Int} {row:Nat} (hJ:x1U 237 w0 p j) (hx:Sk .i32 w0 xv X) (k:Int) (hk:-10<=k/\k<=1000000000000000000) (w:World) (hb:Bw w0 w) (hl:LnAt w w0.heap.size p xv row):Calls prog 198 #[.pointer (some ⟨w0.heap.size,0,none⟩),.int .i64 k] w (x8R w (Jn.jat j X k)):=by
 have x0:=hl.c0;have x1:=hl.c1;obtain ⟨hk1,bf⟩:=hk;unfold Jn.jat;have al:=hx.len;by_cases h0:0<=k
 ·by_cases h1:k<X.length
  ·rw [if_pos ⟨h0,h1⟩];have am:=hx.below hb;obtain ⟨g,off,cap,rfl,_,_,ai⟩:=am.place (by omega);obtain ⟨n,rfl⟩:∃ n:Nat,k=n:=⟨k.toNat,by omega⟩;have hn:n<X.length:=(by omega);have x4:=ai n hn
   have ay:Rune (X.getD n 0):=by
    have:=am.1 (X.getD n 0) (by simp [List.getD,hn]);exact ⟨this.1,this.2⟩
   have HG:=fun m:Nat=>O (hJ (X.getD n 0) ay (w.drewN m) (x0b hb (x0k ⟨m,rfl⟩)));rw [Int.toNat_natCast];clear hJ hx hb hl am ai ay;generalize w0.heap.size=b at *;generalize j (X.getD n 0)=z at *;generalize X.getD n 0=c at *;go_enter func198,ntmps198;go_wp2;go_quiet (first | (go_at_call 237; exact Calls.quiet_of (V (HG _))));go_wp2;go_ret;exact ⟨rfl,nq,rfl⟩
  ·rw [if_neg (by omega)];obtain ⟨ao,cap,rfl,_,_⟩:=hx.shape;have h2:(X.length:Int)<=k:=(by omega);clear hJ hx hb hl;generalize w0.heap.size=b at *;go_enter func198,ntmps198;go_wp2;go_ret;exact ⟨rfl,x4J w⟩
 ·rw [if_neg (by omega)];have h2:k<0:=(by omega);clear hJ hx hb hl;generalize w0.heap.size=b at *;go_enter func198,ntmps198;go_wp2;go_ret;exact ⟨rfl,x4J w⟩
theorem y1U {w0:World} {p:Nat} {cl:Int->Int} {xv:Value} {X:List Int} {row:Nat} (hC:x1U 134 w0 p cl) (hx:Sk .i32 w0 xv X) (i:Nat) (hi:i<X.length) (w:World) (hb:Bw w0 w) (hl:LnAt w w0.heap.size p xv row):Calls prog 162 #[.pointer (some ⟨w0.heap.size,0,none⟩),.int .i64 i] w (x3a w (Jn.vir cl X i)):=by
 have x0:=hl.c0;have x1:=hl.c1;have al:=hx.len
 cases i with
 | zero =>
  rw [Jn.y7Q];clear hC hx hb hl;generalize w0.heap.size=b at *;go_enter func162,ntmps162;go_wp2;go_quiet (fail);go_wp2;go_ret;exact ⟨rfl,nq,rfl⟩
 | succ n =>
  have am:=hx.below hb;obtain ⟨g,off,cap,rfl,_,_,ai⟩:=am.place (by omega);have hn:n<X.length:=(by omega);have x4:=ai n hn
  have ay:Rune (X.getD n 0):=by
   have:=am.1 (X.getD n 0) (by simp [List.getD,hn]);exact ⟨this.1,this.2⟩
  rw [Jn.x7q hn];have HG:=fun m:Nat=>O (hC (X.getD n 0) ay (w.drewN m) (x0b hb (x0k ⟨m,rfl⟩)));have hL:(n:Int)<X.length:=(by omega);have a6:IntKind.i64.wrap ((n:Int)+1 - 1)=n:=(by rw [IntKind.wrap_i64]; omega);have hp:(0:Int)<(n:Int)+1:=(by omega);rw [Int.natCast_add];clear hC hx hb hl am ai ay;generalize w0.heap.size=b at *;generalize cl (X.getD n 0)=z at *;generalize X.getD n 0=c at *;obtain ⟨bz,a5⟩:∃ bz,decide (z=9)=bz:=⟨_,rfl⟩;have hbz2:(z==9)=bz:=(by rw [<- a5]; rfl);rw [a5];clear a5;go_enter func162,ntmps162;go_wp2;go_quiet (first | (go_at_call 134; exact Calls.quiet_of (V (HG _))));go_wp2;go_ret;exact ⟨rfl,nq,rfl⟩
def BtwB (w0:World) (p:Nat) (xv:Value) (j:Int->Int) (X:List Int) (row i:Nat) (e:Ending) (w':World):Prop:=e=.returned (.bool (Jn.btw j X i))/\Below w0.heap.size w0 w'/\∃ ab,LnAt w' w0.heap.size p xv ab/\(ab=row\/(Jn.btw j X i=true/\i<ab/\ab<=X.length/\∀ m,i<m->m<ab->j (X.getD m 0)=5))
theorem LnAt.set {w:World} {b p:Nat} {xv:Value} {row:Nat} (h:LnAt w b p xv row) (e:Nat):LnAt (w.setCell ⟨b,2,none⟩ (.int .i64 e)) b p xv e:=by
 unfold LnAt at *;rw [x0f h]; rfl
theorem y4j {j:Int->Int} {X:List Int} (e:Nat):Jn.jat j X e=if e<X.length then j (X.getD e 0) else 0:=by
 unfold Jn.jat;rw [Int.toNat_natCast];by_cases h:e<X.length
 ·rw [if_pos h,if_pos ⟨by omega,by omega⟩]
 ·rw [if_neg h,if_neg (by omega)]
theorem y6P {j:Int->Int} {X:List Int} (k:Nat) (hk:k<=X.length):(Jn.jat j X ((k:Int) - 1)=5->0<k/\Jn.lf j X k=Jn.lf j X (k - 1))/\(Jn.jat j X ((k:Int) - 1)≠5->Jn.lf j X k=Jn.jat j X ((k:Int) - 1)):=by
 cases k with
 | zero =>
  have:Jn.jat j X (((0:Nat):Int) - 1)=0:=(by unfold Jn.jat; rw [if_neg (by omega)]);rw [this];exact ⟨fun h=>absurd h (by decide),fun _=>rfl⟩
 | succ n =>
  have e:(((n+1:Nat):Int) - 1)=(n:Int):=(by omega);rw [e,y4j,if_pos (by omega)];exact ⟨fun h=>⟨by omega,Jn.lf_t (by omega) h⟩,fun h=>Jn.lf_n (by omega) h⟩
theorem y6O {j:Int->Int} {X:List Int} (e:Nat) (he:e<=X.length):(Jn.jat j X e=5->e<X.length/\j (X.getD e 0)=5/\Jn.rt j X e=Jn.rt j X (e+1))/\(Jn.jat j X e≠5->Jn.rt j X e=Jn.jat j X e):=by
 rw [y4j];by_cases h:e<X.length
 ·rw [if_pos h];exact ⟨fun h5=>⟨h,h5,Jn.rt_t h h5⟩,fun h5=>Jn.rt_n h h5⟩
 ·rw [if_neg h];exact ⟨fun h=>absurd h (by decide),fun _=>Jn.y8z (by omega)⟩
theorem y1S {w0:World} {p:Nat} {j:Int->Int} {xv:Value} {X:List Int} {row:Nat} (hJ:x1U 237 w0 p j) (hx:Sk .i32 w0 xv X) (i:Nat) (hi:i<X.length) (hr:i<row->Jn.btw j X i=true) (w:World) (hb:Bw w0 w) (hl:LnAt w w0.heap.size p xv row):Calls prog 163 #[.pointer (some ⟨w0.heap.size,0,none⟩),.int .i64 i] w (BtwB w0 p xv j X row i):=by
 have x2:=hl.c2;have al:=hx.len;have HJ:Hid (∀ (k:Int),(-10<=k/\k<=1000000000000000000)->∀ m:Nat,Calls prog 198 #[.pointer (some ⟨w0.heap.size,0,none⟩),.int .i64 k] (w.drewN m) (x8R (w.drewN m) (Jn.jat j X k))):=fun k hk m=>x9v hJ hx k hk (w.drewN m) (x0b hb (x0k ⟨m,rfl⟩)) (hl.drewN m);have HB:=O hb;have HL:=O hl;have aC:=O (fun k=>y6P (j:=j) (X:=X) k);have ag:=O (fun k=>y6O (j:=j) (X:=X) k);have an:Hid (Jn.btw j X i=(Jn.lok (Jn.lf j X i) && Jn.rok (Jn.rt j X (i+1)))):=rfl;have ak:Hid (∀ m:Nat,∀ bb,bb=Jn.btw j X i->BtwB w0 p xv j X row i (.returned (.bool bb)) (w.drewN m)):=fun m bb e=>⟨by rw [e],x0b hb (x0k ⟨m,rfl⟩),row,hl.drewN m,.inl rfl⟩;have aD:Hid (∀ m e:Nat,Jn.btw j X i=true->i<e->e<=X.length->(∀ m,i<m->m<e->j (X.getD m 0)=5)->BtwB w0 p xv j X row i (.returned (.bool true)) ((w.drewN m).setCell ⟨w0.heap.size,2,none⟩ (.int .i64 e))):=fun m e h1 h2 h3 h4=>⟨by rw [h1],x0c (x0b hb (x0k ⟨m,rfl⟩)) (l0r _) _,e,(hl.drewN m).set e,.inr ⟨h1,h2,h3,h4⟩⟩;have ba:Hid (∀ m:Nat,(w.drewN m).cell? ⟨w0.heap.size,2,none⟩=some (.int .i64 row)):=fun m=>(hl.drewN m).c2;have HR:=O hr;clear hJ hx hb hl hr;generalize w0.heap.size=b at *;go_enter func163,ntmps163;by_cases hir:(i:Int)<row
 ·have HF:=O (V ak 0 true (V HR (by omega)).symm);clear HJ aC ag an ak aD ba HR HB HL;go_wp2;go_step3;go_wp2
  try rw [Exit.noGoto_ret]
  go_ret;exact V HF
 ·have hnr:(row:Int)<=i:=(by omega);have a6:IntKind.i64.wrap ((i:Int) - 1)=(i:Int) - 1:=(by rw [IntKind.wrap_i64]; omega);have hdd:decide (i<row)=false:=d0f (by omega);clear hir;go_wp2;go_step3;go_wp2;go_step3;go_wp2;go_loopw [4,5] (fun rv av wr=>∃ k:Nat,rv=.bool false/\av=.int .i64 ((k:Int) - 1)/\k<=i/\Jn.lf j X i=Jn.lf j X k/\∃ m,wr=w.drewN m) (fun _ av _=>(intOf av+1).toNat)
  case atStart=>exact ⟨i,rfl,rfl,l0r _,rfl,x4J w⟩
  case round =>
   obtain ⟨k,rfl,rfl,hk,aG,m,rfl⟩:=hrel;have K:=O (V HJ ((k:Int) - 1) ⟨by omega,by omega⟩ m);have aP:=O (V aC k (by omega));generalize Jn.jat j X ((k:Int) - 1)=z at *;have aw:=O aG;clear aG;by_cases z5:z=5
   ·subst z5;obtain ⟨bq,hk1⟩:=(V aP).1 rfl;have aJ:=O ((V aw).trans hk1);clear aP aw hk1;have hw2:IntKind.i64.wrap ((k:Int) - 1 - 1)=(k:Int) - 1 - 1:=(by rw [IntKind.wrap_i64]; omega);go_wp2_with fail;refine (V K).mono ?_;rintro e w1 ⟨rfl,m1,rfl⟩;have hd:∃ m',(w.drewN m).drewN m1=w.drewN m':=x4K ⟨m,rfl⟩ m1;obtain ⟨m',az⟩:=hd;rw [az];clear K az;go_wp2
    go_roundw
    case rel=>exact ⟨k - 1,rfl,by congr 1; omega,by omega,V aJ,⟨m',rfl⟩⟩
    case measure=>simp [intOf]; omega
   ·have aS:=(V aw).trans ((V aP).2 z5);clear aP aw;have n5:(z==5)=false:=(by rw [beq_eq_false_iff_ne]; exact z5);by_cases hz:z=2\/z=3
    ·have aV:Hid (Jn.lok (Jn.lf j X i)=true):=by
      show Jn.lok (Jn.lf j X i)=true;rw [aS]; rcases hz with rfl | rfl <;> rfl
     clear aS z5;rcases hz with rfl | rfl
     all_goals
      clear n5;go_wp2_with fail;refine (V K).mono ?_;rintro e w1 ⟨rfl,m1,rfl⟩;have hd:∃ m',(w.drewN m).drewN m1=w.drewN m':=x4K ⟨m,rfl⟩ m1;obtain ⟨m',az⟩:=hd;rw [az];clear K az;have bA:IntKind.i64.wrap ((i:Int)+1)=(i:Int)+1:=(by rw [IntKind.wrap_i64]; omega);go_wp2;go_step3;go_wp2;go_loopw [4,6] (fun rv av wr=>∃ k:Nat,rv=.bool false/\av=.int .i64 (k:Int)/\i<k/\k<=X.length/\(∀ q,i<q->q<k->j (X.getD q 0)=5)/\Jn.rt j X (i+1)=Jn.rt j X k/\∃ m,wr=w.drewN m) (fun _ av _=>(X.length+1 - (intOf av).toNat))
      case atStart=>exact ⟨i+1,rfl,rfl,by omega,by omega,fun q h1 h2=>(by omega),rfl,⟨m',rfl⟩⟩
      case round =>
       obtain ⟨k2,rfl,rfl,bf,bg,bj,ah,m2,rfl⟩:=hrel;have K:=O (V HJ (k2:Int) ⟨by omega,by omega⟩ m2);have aQ:=O (V ag k2 bg);have aR:=O bj;have ac:=O ah;have hx2:=(V ba);clear ah bj;generalize Jn.jat j X (k2:Int)=z at *;by_cases z5:z=5
       ·subst z5;obtain ⟨bq,hk1,bh⟩:=(V aQ).1 rfl;have aq:=O ((V ac).trans bh)
        have aX:Hid (∀ q,i<q->q<k2+1->j (X.getD q 0)=5):=fun q h1 h2=>by
         rcases Nat.lt_or_ge q k2 with h | h
         ·exact V aR q h1 h
         ·rw [show q=k2 by omega]; exact hk1
        have bB:IntKind.i64.wrap ((k2:Int)+1)=(k2:Int)+1:=(by rw [IntKind.wrap_i64]; omega);clear aQ ac aR hk1 bh hx2;go_wp2_with fail;refine (V K).mono ?_;rintro e w1 ⟨rfl,m1,rfl⟩;obtain ⟨m3,aA⟩:∃ m',(w.drewN m2).drewN m1=w.drewN m':=x4K ⟨m2,rfl⟩ m1;rw [aA];clear K aA;go_wp2
        go_roundw
        case rel=>exact ⟨k2+1,rfl,by first | rfl | (congr 1),by omega,by omega,V aX,V aq,⟨m3,rfl⟩⟩
        case measure=>simp [intOf]; omega
       ·have aT:=(V ac).trans ((V aQ).2 z5);clear aQ ac;have n5:(z==5)=false:=(by rw [beq_eq_false_iff_ne]; exact z5);by_cases hz:z=1\/z=3
        ·have aI:Hid (Jn.btw j X i=true):=by
          show Jn.btw j X i=true;rw [V an,V aV,aT]; rcases hz with rfl | rfl <;> rfl
         clear aT z5;rcases hz with rfl | rfl
         all_goals
          clear n5;go_wp2_with fail;refine (V K).mono ?_;rintro e w1 ⟨rfl,m1,rfl⟩;obtain ⟨m3,aA⟩:∃ m',(w.drewN m2).drewN m1=w.drewN m':=x4K ⟨m2,rfl⟩ m1;rw [aA];have x3:=hx2 m3;have hfr:=x0e (j:=2) ((V HL).drewN m3);have HF:=O (V aD m3 k2 (V aI) bf bg (V aR));clear K aA hx2 aD aI aR;go_wp2
          try rw [Exit.noGoto_ret]
          go_ret;exact V HF
        ·have HF:Hid (∀ m:Nat,BtwB w0 p xv j X row i (.returned (.bool false)) (w.drewN m)):=fun m=>V ak m false (by
          rw [V an,aT];have:Jn.rok z=false:=by unfold Jn.rok; rw [d0f (fun h=>hz (.inl h)),d0f (fun h=>hz (.inr h))]; rfl
          rw [this,Bool.and_false])
         have n1:(z==1)=false:=(by rw [beq_eq_false_iff_ne]; exact fun h=>hz (.inl h));have n3:(z==3)=false:=(by rw [beq_eq_false_iff_ne]; exact fun h=>hz (.inr h));clear aT z5 hz hx2;go_wp2_with fail;refine (V K).mono ?_;rintro e w1 ⟨rfl,m1,rfl⟩;obtain ⟨m3,aA⟩:∃ m',(w.drewN m2).drewN m1=w.drewN m':=x4K ⟨m2,rfl⟩ m1;rw [aA];clear K aA;go_wp2
         try rw [Exit.noGoto_ret]
         go_ret;exact V (HF) _
    ·have HF:Hid (∀ m:Nat,BtwB w0 p xv j X row i (.returned (.bool false)) (w.drewN m)):=fun m=>V ak m false (by
      rw [V an,aS];have:Jn.lok z=false:=by unfold Jn.lok; rw [d0f (fun h=>hz (.inl h)),d0f (fun h=>hz (.inr h))]; rfl
      rw [this]; rfl)
     have n2:(z==2)=false:=(by rw [beq_eq_false_iff_ne]; exact fun h=>hz (.inl h));have n3:(z==3)=false:=(by rw [beq_eq_false_iff_ne]; exact fun h=>hz (.inr h));clear aS z5 hz;go_wp2_with fail;refine (V K).mono ?_;rintro e w1 ⟨rfl,m1,rfl⟩;have hd:∃ m',(w.drewN m).drewN m1=w.drewN m':=x4K ⟨m,rfl⟩ m1;obtain ⟨m',az⟩:=hd;rw [az];clear K az;go_wp2
     try rw [Exit.noGoto_ret]
     go_ret;exact V (HF) _
def x5z (j:Int->Int) (X:List Int) (row i:Nat):Prop:=∀ k,i<=k->k<row->k<X.length->X.getD k 0=8204->Jn.btw j X k=true
theorem x5z.next {j:Int->Int} {X:List Int} {row i:Nat} (h:x5z j X row i):x5z j X row (i+1):=fun k h1=>h k (by omega)
theorem x5z.row {j:Int->Int} {X:List Int} {row i:Nat} (hb:Jn.btw j X i=true) (hi:X.getD i 0=8204) (he:row<=X.length) (ht:∀ m,i<m->m<row->j (X.getD m 0)=5):x5z j X row (i+1):=fun _ h1 h2 _ h3=>Jn.y9g hb hi (by omega) h2 he ht h3
def FitB (w0:World) (p:Nat) (xv:Value) (j:Int->Int) (X:List Int) (i:Nat) (bb:Bool) (e:Ending) (w':World):Prop:=e=.returned (.bool bb)/\Below w0.heap.size w0 w'/\∃ ab,LnAt w' w0.heap.size p xv ab/\x5z j X ab (i+1)
theorem x9u {w0:World} {p:Nat} {cl j:Int->Int} {xv:Value} {X:List Int} {row:Nat} (hC:x1U 134 w0 p cl) (hJ:x1U 237 w0 p j) (hx:Sk .i32 w0 xv X) (i:Nat) (hi:i<X.length) (hr:x5z j X row i) (w:World) (hb:Bw w0 w) (hl:LnAt w w0.heap.size p xv row):Calls prog 127 #[.pointer (some ⟨w0.heap.size,0,none⟩),.int .i64 i] w (FitB w0 p xv j X i (Jn.fit cl j X i)):=by
 have x1:=hl.c1;have al:=hx.len;have KV:=O (y1U hC hx i hi w hb hl);have am:=hx.below hb;obtain ⟨g,off,cap,rfl,_,_,ai⟩:=am.place (by omega);have x4:=ai i hi;have hL:(i:Int)<X.length:=(by omega);by_cases h1:X.getD i 0=8204
 ·rw [Jn.y8g h1];have KB:Hid (∀ m:Nat,Calls prog 163 #[.pointer (some ⟨w0.heap.size,0,none⟩),.int .i64 i] (w.drewN m) (BtwB w0 p (.slice (some ⟨g,off,none⟩) X.length cap) j X row i)):=fun m=>y1S hJ hx i hi (fun h=>hr i (l0r _) h hi h1) (w.drewN m) (x0b hb (x0k ⟨m,rfl⟩)) (hl.drewN m);have HS:Hid (∀ m:Nat,FitB w0 p (.slice (some ⟨g,off,none⟩) X.length cap) j X i true (.returned (.bool true)) (w.drewN m)):=fun m=>⟨rfl,x0b hb (x0k ⟨m,rfl⟩),row,hl.drewN m,hr.next⟩
  have HN:Hid (∀ bb w',BtwB w0 p (.slice (some ⟨g,off,none⟩) X.length cap) j X row i (.returned (.bool bb)) w'->FitB w0 p (.slice (some ⟨g,off,none⟩) X.length cap) j X i (Jn.btw j X i) (.returned (.bool (Jn.btw j X i))) w'):=fun bb w' h=>by
   obtain ⟨_,h2,ab,h3,h4⟩:=h;refine ⟨rfl,h2,ab,h3,?_⟩;rcases h4 with rfl | ⟨h5,_,h7,h8⟩
   ·exact hr.next
   ·exact x5z.row h5 h1 h7 h8
  rw [h1] at x4;clear hC hJ hx hr hb hl am ai;generalize w0.heap.size=b at *;generalize Jn.vir cl X i=vb at *
  cases vb with
  | true =>
   rw [Bool.true_or];go_enter func127,ntmps127;go_wp2_with fail;refine (V KV).mono ?_;rintro e w1 ⟨rfl,m1,rfl⟩;have HF:=O (V HS m1);clear KV KB HS HN;go_wp2;go_ret;exact V HF
  | false =>
   rw [Bool.false_or];go_enter func127,ntmps127;go_wp2_with fail;refine (V KV).mono ?_;rintro e w1 ⟨rfl,m1,rfl⟩;have bc:=O (V KB m1);clear KV KB HS;go_wp2_with fail;refine (V bc).mono ?_;rintro e w2 h2;have he:=h2.1;subst he;have HF:=O (V HN _ w2 h2);clear bc HN h2;generalize Jn.btw j X i=bb at *;go_wp2;go_ret;exact V HF
 ·have n1:(X.getD i 0==8204)=false:=(by rw [beq_eq_false_iff_ne]; exact h1);by_cases h2:X.getD i 0=8205
  ·rw [Jn.y8f h2];rw [h2] at x4;have HS:Hid (∀ m:Nat,∀ vb,FitB w0 p (.slice (some ⟨g,off,none⟩) X.length cap) j X i vb (.returned (.bool vb)) (w.drewN m)):=fun m vb=>⟨rfl,x0b hb (x0k ⟨m,rfl⟩),row,hl.drewN m,hr.next⟩;clear hC hJ hx hr hb hl am ai n1;generalize w0.heap.size=b at *;generalize Jn.vir cl X i=vb at *;go_enter func127,ntmps127;go_wp2_with fail;refine (V KV).mono ?_;rintro e w1 ⟨rfl,m1,rfl⟩;have HF:=O (V HS m1 vb);clear KV HS;go_wp2;go_ret;exact V HF
  ·rw [Jn.y8e h1 h2];have n2:(X.getD i 0==8205)=false:=(by rw [beq_eq_false_iff_ne]; exact h2);have HF:Hid (FitB w0 p (.slice (some ⟨g,off,none⟩) X.length cap) j X i true (.returned (.bool true)) w):=⟨rfl,hb,row,hl,hr.next⟩;clear hC hJ hx hr hb hl am ai KV h1 h2;generalize w0.heap.size=b at *;generalize X.getD i 0=c at *;go_enter func127,ntmps127;go_wp2;go_ret;exact V HF
theorem LnAt.new (w:World) (p:Nat) (xv:Value):LnAt (w.alloc (.cells #[.pointer (some ⟨p,0,none⟩),xv,.int .i64 0] 170)) w.heap.size p xv 0:=by
 unfold LnAt;show (w.heap.push _)[w.heap.size]?=_;simp
def x5R (w:World) (n:Int) (e:Ending) (w':World):Prop:=e=.returned (.int .i64 n)/\Below w.heap.size w w'
theorem x9a {w:World} {p:Nat} {cl j:Int->Int} {xv:Value} {X:List Int} (hC:x1U 134 w p cl) (hJ:x1U 237 w p j) (hx:Sk .i32 w xv X):Calls prog 86 #[.pointer (some ⟨p,0,none⟩),xv] w (x5R w (Jn.chk cl j X)):=by
 have al:=hx.len;have hb:Bw w (w.alloc (.cells #[.pointer (some ⟨p,0,none⟩),xv,.int .i64 0] 170)):=(b0r).alloc (l0r _) _;have hl:=LnAt.new w p xv;have KF:Hid (∀ (i:Nat),i<X.length->∀ (row:Nat),x5z j X row i->∀ W,Bw w W->LnAt W w.heap.size p xv row->Calls prog 127 #[.pointer (some ⟨w.heap.size,0,none⟩),.int .i64 i] W (FitB w p xv j X i (Jn.fit cl j X i))):=fun i hi row hr W hW hL=>x9u hC hJ hx i hi hr W hW hL;have ap:Hid ((∀ q,q<X.length->Jn.fit cl j X q=true)->∀ W,Bw w W->x5R w (Jn.chk cl j X) (.returned (.int .i64 (-1))) W):=fun h W hW=>⟨by rw [Jn.y0g h],hW⟩;have aK:Hid (∀ k,k<X.length->(∀ q,q<k->Jn.fit cl j X q=true)->Jn.fit cl j X k=false->∀ W,Bw w W->x5R w (Jn.chk cl j X) (.returned (.int .i64 k)) W):=fun k hk h hn W hW=>⟨by rw [Jn.y0h hk h hn],hW⟩;obtain ⟨ao,cap,rfl,_,_⟩:=hx.shape;have a8:=O hb;have a9:=O hl;clear hC hJ hx hb hl;generalize Jn.chk cl j X=ck at *;go_enter func86,ntmps86;go_wp2;go_loopw [4,6,12] (fun rv _ iv wr=>∃ k row:Nat,rv=.int .i64 0/\iv=.int .i64 (k:Int)/\k<=X.length/\(∀ q,q<k->Jn.fit cl j X q=true)/\x5z j X row k/\LnAt wr w.heap.size p (.slice ao X.length cap) row/\Bw w wr) (fun _ _ iv _=>X.length - (intOf iv).toNat)
 case atStart=>exact ⟨0,0,rfl,rfl,Nat.zero_le _,fun q h=>absurd h (by omega),fun k _ h=>absurd h (by omega),V a9,V a8⟩
 case round =>
  clear a8 a9;obtain ⟨k,row,rfl,rfl,hk,hq,hr,hl,hb⟩:=hrel;by_cases ae:k<X.length
  ·have hL:(k:Int)<X.length:=(by omega);have K:=O (V KF k ae row hr wr hb hl);have HQ:=O hq;clear hq hr hl hb
   cases hf:Jn.fit cl j X k with
   | true =>
    rw [hf] at K
    have aW:Hid (∀ q,q<k+1->Jn.fit cl j X q=true):=fun q h=>by
     rcases Nat.lt_or_ge q k with h1 | h1
     ·exact V HQ q h1
     ·rw [show q=k by omega]; exact hf
    clear hf HQ;go_wp2_with fail;refine (V K).mono ?_;rintro e w1 ⟨rfl,b1,ab,l1,r1⟩;have HB:=O b1;have HL:=O l1;have HR:=O r1;clear K b1 l1 r1;go_wp2
    go_roundw
    case rel=>exact ⟨k+1,ab,rfl,by go_num,by omega,V aW,V HR,V HL,V HB⟩
    case measure=>simp [intOf]; omega
   | false =>
    rw [hf] at K;have HN:=O (V aK k ae (V HQ) hf);clear hf HQ;go_wp2_with fail;refine (V K).mono ?_;rintro e w1 ⟨rfl,b1,_⟩;have HF:=O (V HN w1 b1);clear K b1 HN;go_wp2;go_ret;exact V HF
  ·have HF:=O (V ap (fun q h=>hq q (by omega)) wr hb);have hL:¬ ((k:Int)<X.length):=(by omega);clear hq hr hl hb ap aK KF;go_wp2;go_ret;exact V HF
def x2v (f:Nat) (w0:World) (tv:Value) (cl:Int->Int):Prop:=∀ c,Rune c->∀ W,Below w0.heap.size w0 W->Calls prog f #[tv,.int .i32 c] W (IntB W (cl c))
theorem x8r (ta:Option Addr) (tl tc:Nat) {cl j:Int->Int} {xv:Value} {X:List Int} (w:World) (hC:x2v 91 w (.slice ta tl tc) cl) (hJ:x2v 92 w (.slice ta tl tc) j) (hx:Sk .i32 w xv X) (n:Nat) (hn:n<X.length):Calls prog 54 #[.slice ta tl tc,xv,.int .i64 n] w (y5V w (Jn.fit cl j X n)):=by
 have al:=hx.len;obtain ⟨g,off,cap,rfl,_,_,ai⟩:=hx.place (by omega);have x4:=ai n hn;have hL:(n:Int)<X.length:=(by omega);have HC:Hid (∀ (k:Nat),k<X.length->∀ W,Bw w W->W.cell? ⟨g,off+k,none⟩=some (.int .i32 (X.getD k 0))):=fun k hk W hW=>by rw [hW.cell (x0a (ai k hk))]; exact ai k hk
 have ay:∀ k,k<X.length->Rune (X.getD k 0):=fun k hk=>by
  have:=hx.1 (X.getD k 0) (by simp [List.getD,hk]);exact ⟨this.1,this.2⟩
 have KC:Hid (∀ (k:Nat),k<X.length->∀ W,Bw w W->Calls prog 91 #[.slice ta tl tc,.int .i32 (X.getD k 0)] W (IntB W (cl (X.getD k 0)))):=fun k hk W hW=>hC _ (ay k hk) W hW;have KJ:Hid (∀ (k:Nat),k<X.length->∀ W,Bw w W->Calls prog 92 #[.slice ta tl tc,.int .i32 (X.getD k 0)] W (IntB W (j (X.getD k 0)))):=fun k hk W hW=>hJ _ (ay k hk) W hW;clear hC hJ hx ai ay;by_cases h1:X.getD n 0=8204
 ·rw [Jn.y8g h1];rw [h1] at x4;have an:Hid (Jn.btw j X n=(Jn.lok (Jn.lf j X n) && Jn.rok (Jn.rt j X (n+1)))):=rfl;have aE:Hid (n=0->Jn.vir cl X n=false):=fun h=>(by rw [h]; rfl);have aF:Hid (∀ m,n=m+1->Jn.vir cl X n=decide (cl (X.getD m 0)=9)):=fun m h=>(by rw [h]; exact Jn.x7q (by omega));have H1:=O h1;clear h1;generalize Jn.vir cl X n=vb at *;generalize hbt:Jn.btw j X n=bt at *;clear hbt;rcases Nat.eq_zero_or_pos n with hp | hp
  ·subst hp;have aj:=V aE rfl;have aM:bt=false:=V an;rw [aj,aM,Bool.false_or];clear aE aF KC aj aM an;rw [Nat.add_zero] at x4;have bm:(0:Int)<X.length:=(by omega);have aY:¬ X.length=0:=(by omega);have bn:¬ X=[]:=fun h=>aY (by rw [h]; rfl);clear hL;show Calls _ _ #[_,_,.int .i64 (0:Int)] _ _;go_enter func54,ntmps54;go_wp2;refine wp_loop_rounds 1 ?_;rw [rounds_succ];go_wp2;go_loopw [8] (fun av wr=>∃ r:Nat,av=.int .i64 (r:Int)/\0<r/\r<=X.length/\Jn.rt j X (0+1)=Jn.rt j X r/\Bw w wr) (fun av _=>X.length - (intOf av).toNat)
   case atStart=>exact ⟨0+1,by first | rfl | go_num,by omega,by omega,rfl,b0r⟩
   case round =>
    obtain ⟨r,rfl,hr1,hr2,ah,ad⟩:=hrel;by_cases ae:r<X.length
    ·have bd:(r:Int)<X.length:=(by omega);have hr0:(0:Int)<=r:=(by omega);have x8:=V HC r ae wr ad;have ax:Hid (∀ W,Bw w W->W.cell? ⟨g,off+r,none⟩=some (.int .i32 (X.getD r 0))):=fun W hW=>V HC r ae W hW;have KR:Hid (∀ W,Bw w W->Calls prog 92 #[.slice ta tl tc,.int .i32 (X.getD r 0)] W (IntB W (j (X.getD r 0)))):=fun W hW=>V KJ r ae W hW;have ag:=O (Jn.y5j (j:=j) ae);have ac:=O ah;have aa:=O ad;clear ah ad;generalize j (X.getD r 0)=z2 at *;generalize X.getD r 0=c2 at *;by_cases z5:z2=5
     ·subst z5;have aq:Hid (Jn.rt j X (0+1)=Jn.rt j X (r+1)):=(V ac).trans (by rw [V ag]; rfl);have bk:IntKind.i64.wrap ((r:Int)+1)=(r:Int)+1:=(by rw [IntKind.wrap_i64]; omega);clear ag ac ax;go_wp2_with fail;refine (V KR wr (V aa)).mono ?_;rintro e w3 ⟨rfl,b3⟩;have af:=O (x0b (V aa) b3);clear KR b3 aa x8;go_wp2
      go_roundw
      case rel=>exact ⟨r+1,by go_num,by omega,by omega,V aq,V af⟩
      case measure=>simp [intOf] <;> omega
     ·have aq:Hid (Jn.rt j X (0+1)=z2):=(V ac).trans (by rw [V ag,if_neg z5]);have a7:(z2==5)=false:=(by rw [beq_eq_false_iff_ne]; exact z5);have bi:((r:Int)==(X.length:Int))=false:=(by rw [beq_eq_false_iff_ne]; omega);have aN:¬ r=X.length:=(by omega);clear ag ac;go_wp2_with fail;refine (V KR wr (V aa)).mono ?_;rintro e w3 ⟨rfl,b3⟩;have af:=O (x0b (V aa) b3);clear b3 aa x8 z5;go_wp2;go_ret;exact ⟨rfl,V af⟩
    ·obtain rfl:r=X.length:=(by omega);have af:=O ad;have ac:=O ah;clear ah ad;go_wp2;go_ret;exact ⟨rfl,V af⟩
  ·obtain ⟨m,hm⟩:∃ m,n=m+1:=⟨n - 1,by omega⟩;have aj:=V aF m hm;have K:=V KC m (by omega) w (b0r);have x5:=V HC m (by omega) w (b0r);clear aE aF KC;have a6:IntKind.i64.wrap ((n:Int) - 1)=(m:Int):=(by rw [IntKind.wrap_i64]; omega);have bu:(m:Int)<X.length:=(by omega);have bs:(0:Int)<=m:=(by omega);have bv:(0:Int)<n:=(by omega);have bw:¬ (n:Int)<0:=(by omega);have HM:=O hm;have K:=O K;clear hm;generalize cl (X.getD m 0)=z at *;generalize X.getD m 0=c at *;by_cases hz:z=9
   ·subst hz;have ar:vb=true:=aj;rw [ar,Bool.true_or];clear aj ar;go_enter func54,ntmps54;go_wp2_with fail;refine (V K).mono ?_;rintro e w1 ⟨rfl,b1⟩;have HB:=O b1;clear K b1;go_wp2;go_ret;exact ⟨rfl,V HB⟩
   ·rw [aj,d0f hz,Bool.false_or];have z9:(z==9)=false:=(by rw [beq_eq_false_iff_ne]; exact hz);clear aj hz;go_enter func54,ntmps54;go_wp2_with fail;refine (V K).mono ?_;rintro e w1 ⟨rfl,b1⟩;have x6:=V HC n hn w1 b1;rw [V H1] at x6;have HB:=O b1;have bA:IntKind.i64.wrap ((n:Int)+1)=(n:Int)+1:=(by rw [IntKind.wrap_i64]; omega);clear K b1 x4 x5;go_wp2;clear x6;go_loopw [7] (fun av wr=>∃ k:Nat,av=.int .i64 ((k:Int) - 1)/\k<=n/\Jn.lf j X n=Jn.lf j X k/\Bw w wr) (fun av _=>(intOf av+1).toNat)
    case atStart=>exact ⟨n,by congr 1; have:=V HM; omega,l0r _,rfl,V HB⟩
    case round =>
     clear HB;obtain ⟨k,rfl,hk,aG,ad⟩:=hrel
     cases k with
     | zero =>
      rw [show (((0:Nat):Int) - 1)=-1 from rfl]
      have au:Hid (bt=false):=by
       show bt=false;rw [V an,aG]; rfl
      have HB:=O ad;clear aG ad an;go_wp2;go_loopw [8] (fun av wr=>∃ r:Nat,av=.int .i64 (r:Int)/\n<r/\r<=X.length/\Jn.rt j X (n+1)=Jn.rt j X r/\Bw w wr) (fun av _=>X.length - (intOf av).toNat)
      case atStart=>exact ⟨n+1,by first | rfl | go_num,by omega,by omega,rfl,V HB⟩
      case round =>
       obtain ⟨r,rfl,hr1,hr2,ah,ad⟩:=hrel;by_cases ae:r<X.length
       ·have bd:(r:Int)<X.length:=(by omega);have hr0:(0:Int)<=r:=(by omega);have x8:=V HC r ae wr ad;have ax:Hid (∀ W,Bw w W->W.cell? ⟨g,off+r,none⟩=some (.int .i32 (X.getD r 0))):=fun W hW=>V HC r ae W hW;have KR:Hid (∀ W,Bw w W->Calls prog 92 #[.slice ta tl tc,.int .i32 (X.getD r 0)] W (IntB W (j (X.getD r 0)))):=fun W hW=>V KJ r ae W hW;have ag:=O (Jn.y5j (j:=j) ae);have ac:=O ah;have aa:=O ad;clear ah ad;generalize j (X.getD r 0)=z2 at *;generalize X.getD r 0=c2 at *;by_cases z5:z2=5
        ·subst z5;have aq:Hid (Jn.rt j X (n+1)=Jn.rt j X (r+1)):=(V ac).trans (by rw [V ag]; rfl);have bk:IntKind.i64.wrap ((r:Int)+1)=(r:Int)+1:=(by rw [IntKind.wrap_i64]; omega);clear ag ac ax;go_wp2_with fail;refine (V KR wr (V aa)).mono ?_;rintro e w3 ⟨rfl,b3⟩;have af:=O (x0b (V aa) b3);clear KR b3 aa x8;go_wp2
         go_roundw
         case rel=>exact ⟨r+1,by go_num,by omega,by omega,V aq,V af⟩
         case measure=>simp [intOf] <;> omega
        ·have aq:Hid (Jn.rt j X (n+1)=z2):=(V ac).trans (by rw [V ag,if_neg z5]);have a7:(z2==5)=false:=(by rw [beq_eq_false_iff_ne]; exact z5);have bi:((r:Int)==(X.length:Int))=false:=(by rw [beq_eq_false_iff_ne]; omega);have aN:¬ r=X.length:=(by omega);clear ag ac;go_wp2_with fail;refine (V KR wr (V aa)).mono ?_;rintro e w3 ⟨rfl,b3⟩;have af:=O (x0b (V aa) b3);clear b3 aa x8 z5;go_wp2;rw [V au];go_ret;exact ⟨rfl,V af⟩
       ·obtain rfl:r=X.length:=(by omega);have af:=O ad;have ac:=O ah;clear ah ad;go_wp2;rw [V au];go_ret;exact ⟨rfl,V af⟩
     | succ q =>
      rw [show (((q+1:Nat):Int) - 1)=(q:Int) by omega];have hq:q<X.length:=(by omega);have hq1:(q:Int)<X.length:=(by omega);have hq2:(0:Int)<=q:=(by omega);have hq3:¬ (q:Int)<0:=(by omega);have x7:=V HC q hq wr ad;have aL:Hid (∀ W,Bw w W->W.cell? ⟨g,off+q,none⟩=some (.int .i32 (X.getD q 0))):=fun W hW=>V HC q hq W hW;have K:Hid (∀ W,Bw w W->Calls prog 92 #[.slice ta tl tc,.int .i32 (X.getD q 0)] W (IntB W (j (X.getD q 0)))):=fun W hW=>V KJ q hq W hW;have aC:=O (Jn.x9t (j:=j) hq);have aw:=O aG;have aa:=O ad;have bx:q<=n:=(by omega);clear aG ad;generalize j (X.getD q 0)=z1 at *;generalize X.getD q 0=c1 at *;by_cases z5:z1=5
      ·subst z5;have aJ:Hid (Jn.lf j X n=Jn.lf j X q):=(V aw).trans (by rw [V aC]; rfl);have bB:IntKind.i64.wrap ((q:Int) - 1)=(q:Int) - 1:=(by rw [IntKind.wrap_i64]; omega);clear aC aw aL;go_wp2_with fail;refine (V K wr (V aa)).mono ?_;rintro e w2 ⟨rfl,b2⟩;have bl:=O (x0b (V aa) b2);clear K b2 aa x7;go_wp2
       go_roundw
       case rel=>exact ⟨q,rfl,bx,V aJ,V bl⟩
       case measure=>simp [intOf] <;> omega
      ·have aJ:Hid (Jn.lf j X n=z1):=(V aw).trans (by rw [V aC,if_neg z5]);have a7:(z1==5)=false:=(by rw [beq_eq_false_iff_ne]; exact z5);clear aC aw;go_wp2_with fail;refine (V K wr (V aa)).mono ?_;rintro e w2 ⟨rfl,b2⟩;have HB:=O (x0b (V aa) b2);clear b2 aa x7 z5;have KL:=K;clear K;go_wp2;go_loopw [8] (fun av wr=>∃ r:Nat,av=.int .i64 (r:Int)/\n<r/\r<=X.length/\Jn.rt j X (n+1)=Jn.rt j X r/\Bw w wr) (fun av _=>X.length - (intOf av).toNat)
       case atStart=>exact ⟨n+1,by first | rfl | go_num,by omega,by omega,rfl,V HB⟩
       case round =>
        obtain ⟨r,rfl,hr1,hr2,ah,ad⟩:=hrel;by_cases ae:r<X.length
        ·have bd:(r:Int)<X.length:=(by omega);have hr0:(0:Int)<=r:=(by omega);have x8:=V HC r ae wr ad;have ax:Hid (∀ W,Bw w W->W.cell? ⟨g,off+r,none⟩=some (.int .i32 (X.getD r 0))):=fun W hW=>V HC r ae W hW;have KR:Hid (∀ W,Bw w W->Calls prog 92 #[.slice ta tl tc,.int .i32 (X.getD r 0)] W (IntB W (j (X.getD r 0)))):=fun W hW=>V KJ r ae W hW;have ag:=O (Jn.y5j (j:=j) ae);have ac:=O ah;have aa:=O ad;clear ah ad;generalize j (X.getD r 0)=z2 at *;generalize X.getD r 0=c2 at *;by_cases z5:z2=5
         ·subst z5;have aq:Hid (Jn.rt j X (n+1)=Jn.rt j X (r+1)):=(V ac).trans (by rw [V ag]; rfl);have bk:IntKind.i64.wrap ((r:Int)+1)=(r:Int)+1:=(by rw [IntKind.wrap_i64]; omega);clear ag ac ax;go_wp2_with fail;refine (V KR wr (V aa)).mono ?_;rintro e w3 ⟨rfl,b3⟩;have af:=O (x0b (V aa) b3);clear KR b3 aa x8;go_wp2
          go_roundw
          case rel=>exact ⟨r+1,by go_num,by omega,by omega,V aq,V af⟩
          case measure=>simp [intOf] <;> omega
         ·have aq:Hid (Jn.rt j X (n+1)=z2):=(V ac).trans (by rw [V ag,if_neg z5]);have a7:(z2==5)=false:=(by rw [beq_eq_false_iff_ne]; exact z5);have bi:((r:Int)==(X.length:Int))=false:=(by rw [beq_eq_false_iff_ne]; omega);have aN:¬ r=X.length:=(by omega);clear ag ac;go_wp2_with fail;refine (V KR wr (V aa)).mono ?_;rintro e w3 ⟨rfl,b3⟩;have af:=O (x0b (V aa) b3);clear b3 aa x8 z5;go_wp2;have x9:=V aL w3 (V af);have x10:=V ax w3 (V af)
          have aB:Hid (bt=(Jn.lok z1 && Jn.rok z2)):=by
           show bt=_;rw [V an,V aJ,V aq]
          have hbd:=(V af).drew;go_region_held3 (fun w'=>w'.cell? ⟨g,off+q,none⟩=some (.int .i32 c1)/\w'.cell? ⟨g,off+r,none⟩=some (.int .i32 c2)/\Bw w w') (first | exact ⟨V aL _ (by assumption),V ax _ (by assumption),by assumption⟩ | (have aZ:=x0b hbd (by assumption); exact ⟨V aL _ aZ,V ax _ aZ,aZ⟩) | go_keep) (first | (go_at_call 92; refine (V KL _ (by assumption)).mono ?_; rintro e4 w4 ⟨rfl,b4⟩; have bo:=x0b (by assumption:Bw w _) b4) | (go_at_call 92; refine (V KR _ (by assumption)).mono ?_; rintro e5 w5 ⟨rfl,b5⟩; have be:=x0b (by assumption:Bw w _) b5));have aU:=O be;clear be bo b4 b5 hbd x9 x10 aL ax KL KR;by_cases ha:z1=2\/z1=3
          ·by_cases hb:z2=1\/z2=3
           ·have aH:Hid (bt=true):=by
             show bt=true;rw [V aB]; rcases ha with rfl | rfl <;> rcases hb with rfl | rfl <;> rfl
            rcases ha with rfl | rfl <;> rcases hb with rfl | rfl
            all_goals
             go_wp2;go_ret;exact ⟨by rw [V aH]; rfl,V aU⟩
           ·have n1:(z2==1)=false:=(by rw [beq_eq_false_iff_ne]; exact fun h=>hb (.inl h));have n3:(z2==3)=false:=by rw [beq_eq_false_iff_ne]; exact fun h=>hb (.inr h)
            have aH:Hid (bt=false):=by
             show bt=false;rw [V aB,show Jn.rok z2=false by unfold Jn.rok; rw [d0f (fun h=>hb (.inl h)),d0f (fun h=>hb (.inr h))]; rfl];exact Bool.and_false _
            clear hb;rcases ha with rfl | rfl
            all_goals
             go_wp2;go_ret;exact ⟨by rw [V aH]; rfl,V aU⟩
          ·have n2:(z1==2)=false:=(by rw [beq_eq_false_iff_ne]; exact fun h=>ha (.inl h));have n3:(z1==3)=false:=by rw [beq_eq_false_iff_ne]; exact fun h=>ha (.inr h)
           have aH:Hid (bt=false):=by
            show bt=false;rw [V aB,show Jn.lok z1=false by unfold Jn.lok; rw [d0f (fun h=>ha (.inl h)),d0f (fun h=>ha (.inr h))]; rfl];exact Bool.false_and _
           clear ha;go_wp2;go_ret;exact ⟨by rw [V aH]; rfl,V aU⟩
        ·obtain rfl:r=X.length:=(by omega);have af:=O ad;have ac:=O ah;clear ah ad;go_wp2
         have au:Hid (bt=false):=by
          show bt=false;rw [V an,V ac,Jn.y8z (l0r _)]; exact Bool.and_false _
         rw [V au];go_ret;exact ⟨rfl,V af⟩
 ·have n4:(X.getD n 0 != 8204)=true:=(by simpa using h1);by_cases h2:X.getD n 0=8205
  ·rw [Jn.y8f h2];have aE:Hid (n=0->Jn.vir cl X n=false):=fun h=>(by rw [h]; rfl);have aF:Hid (∀ m,n=m+1->Jn.vir cl X n=decide (cl (X.getD m 0)=9)):=fun m h=>(by rw [h]; exact Jn.x7q (by omega));have H2:=O h2;rw [h2] at x4;clear n4 h1 h2 KJ;generalize Jn.vir cl X n=vb at *;rcases Nat.eq_zero_or_pos n with hp | hp
   ·subst hp;have aj:=V aE rfl;rw [aj];clear aE aF KC aj;rw [Nat.add_zero] at x4;have bm:(0:Int)<X.length:=(by omega);have aY:¬ X.length=0:=(by omega);have bn:¬ X=[]:=fun h=>aY (by rw [h]; rfl);clear hL;show Calls _ _ #[_,_,.int .i64 (0:Int)] _ _;go_enter func54,ntmps54;go_wp2;go_ret;exact ⟨rfl,b0r⟩
   ·obtain ⟨m,hm⟩:∃ m,n=m+1:=⟨n - 1,by omega⟩;have aj:=V aF m hm;have K:=V KC m (by omega) w (b0r);have x5:=V HC m (by omega) w (b0r);clear aE aF KC;have a6:IntKind.i64.wrap ((n:Int) - 1)=(m:Int):=(by rw [IntKind.wrap_i64]; omega);have bu:(m:Int)<X.length:=(by omega);have bs:(0:Int)<=m:=(by omega);have bv:(0:Int)<n:=(by omega);have bw:¬ (n:Int)<0:=(by omega);have K:=O K;clear hm;generalize cl (X.getD m 0)=z at *;generalize X.getD m 0=c at *;by_cases hz:z=9
    ·subst hz;have ar:vb=true:=aj;rw [ar];clear aj ar;go_enter func54,ntmps54;go_wp2_with fail;refine (V K).mono ?_;rintro e w1 ⟨rfl,b1⟩;have HB:=O b1;clear K b1;go_wp2;go_ret;exact ⟨rfl,V HB⟩
    ·rw [aj,d0f hz];have z9:(z==9)=false:=(by rw [beq_eq_false_iff_ne]; exact hz);clear aj hz;go_enter func54,ntmps54;go_wp2_with fail;refine (V K).mono ?_;rintro e w1 ⟨rfl,b1⟩;have x6:=V HC n hn w1 b1;rw [V H2] at x6;have HB:=O b1;clear K b1 x4 x5;go_wp2;go_ret;exact ⟨rfl,V HB⟩
  ·have n5:(X.getD n 0 != 8205)=true:=(by simpa using h2);rw [Jn.y8e h1 h2];clear h1 h2 KJ KC HC;generalize X.getD n 0=c at *;go_enter func54,ntmps54;go_wp2;go_ret;exact ⟨rfl,b0r⟩
theorem x5N (ta:Option Addr) (tl tc:Nat) {cl j:Int->Int} {xv:Value} {X:List Int} (w:World) (hC:x2v 91 w (.slice ta tl tc) cl) (hJ:x2v 92 w (.slice ta tl tc) j) (hx:Sk .i32 w xv X):Calls prog 29 #[.slice ta tl tc,xv] w (x5R w (Jn.chk cl j X)):=by
 have al:=hx.len;have KF:Hid (∀ (i:Nat),i<X.length->∀ W,Bw w W->Calls prog 54 #[.slice ta tl tc,xv,.int .i64 i] W (y5V W (Jn.fit cl j X i))):=fun i hi W hW=>x8r ta tl tc W (fun c hc W' hW'=>hC c hc W' (x0b hW hW')) (fun c hc W' hW'=>hJ c hc W' (x0b hW hW')) (hx.below hW) i hi;have ap:Hid ((∀ q,q<X.length->Jn.fit cl j X q=true)->∀ W,Bw w W->x5R w (Jn.chk cl j X) (.returned (.int .i64 (-1))) W):=fun h W hW=>⟨by rw [Jn.y0g h],hW⟩;have aK:Hid (∀ k,k<X.length->(∀ q,q<k->Jn.fit cl j X q=true)->Jn.fit cl j X k=false->∀ W,Bw w W->x5R w (Jn.chk cl j X) (.returned (.int .i64 k)) W):=fun k hk h hn W hW=>⟨by rw [Jn.y0h hk h hn],hW⟩;obtain ⟨ao,cap,rfl,_,_⟩:=hx.shape;clear hC hJ hx;generalize Jn.chk cl j X=ck at *;go_enter func29,ntmps29;go_wp2;go_loopw [4,5] (fun rv iv wr=>∃ k:Nat,rv=.int .i64 0/\iv=.int .i64 (k:Int)/\k<=X.length/\(∀ q,q<k->Jn.fit cl j X q=true)/\Bw w wr) (fun _ iv _=>X.length - (intOf iv).toNat)
 case atStart=>exact ⟨0,rfl,rfl,Nat.zero_le _,fun q h=>absurd h (by omega),b0r⟩
 case round =>
  obtain ⟨k,rfl,rfl,hk,hq,hb⟩:=hrel;by_cases ae:k<X.length
  ·have hL:(k:Int)<X.length:=(by omega);have K:=O (V KF k ae wr hb);have HQ:=O hq;have aO:=O hb;clear hq hb
   cases hf:Jn.fit cl j X k with
   | true =>
    rw [hf] at K
    have aW:Hid (∀ q,q<k+1->Jn.fit cl j X q=true):=fun q h=>by
     rcases Nat.lt_or_ge q k with h1 | h1
     ·exact V HQ q h1
     ·rw [show q=k by omega]; exact hf
    clear hf HQ;go_wp2_with fail;refine (V K).mono ?_;rintro e w1 ⟨rfl,b1⟩;have HB:=O (x0b (V aO) b1);clear K b1 aO;go_wp2
    go_roundw
    case rel=>exact ⟨k+1,rfl,by go_num,by omega,V aW,V HB⟩
    case measure=>simp [intOf] <;> omega
   | false =>
    rw [hf] at K;have HN:=O (V aK k ae (V HQ) hf);clear hf HQ;go_wp2_with fail;refine (V K).mono ?_;rintro e w1 ⟨rfl,b1⟩;have HF:=O (V HN w1 (x0b (V aO) b1));clear K b1 HN aO;go_wp2;go_ret;exact V HF
  ·have HF:=O (V ap (fun q h=>hq q (by omega)) wr hb);have hL:¬ ((k:Int)<X.length):=(by omega);clear hq hb ap aK KF;go_wp2;go_ret;exact V HF
