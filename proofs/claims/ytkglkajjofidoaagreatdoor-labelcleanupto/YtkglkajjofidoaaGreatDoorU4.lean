/- La18 Lb18 Ld18 Lm18 Ln18 Lo18 Lr18 Lp18 -/
import Derived.Test.YtkglkajjofidoaaGreatDoorU3
import Derived.Deep.RegionHeld3
set_option maxHeartbeats 2000000
set_option maxRecDepth 8000
namespace Go.Proofs.YtkglkajjofidoaaGreatDoor
open Go.RowKit
namespace Lb
def ldh (c:Int):Bool:=decide (97≤c) && decide (c≤122) || (decide (48≤c) && decide (c≤57) || decide (c=45))
def coded (X:List Int):Bool:=decide (4≤X.length) && (decide (X.getD 0 0=120) && (decide (X.getD 1 0=110) && (decide (X.getD 2 0=45) && decide (X.getD 3 0=45))))
def flg (fl k:Int):Bool:=bits .and .i64 fl k != 0
def hyp (X:List Int):Bool:=decide (X.getD 0 0=45) || (decide (X.getD (X.length - 1) 0=45) || (decide (4≤X.length) && (decide (X.getD 2 0=45) && decide (X.getD 3 0=45))))
structure Of where
 nf:Bool
 mrk:Int→Bool
 st:Int→Int
 jn:Bool
 bi:Bool
def bst (o:Of) (fl:Int) (dec:Bool) (c:Int):Bool:=decide (o.st c≠1) && (decide (o.st c≠4) || (flg fl 16 && !dec))
def std (fl c:Int):Bool:=flg fl 8 && (decide (c<128) && !ldh c)
def nb (o:Of) (fl:Int) (dec:Bool) (c:Int):Nat:=(if c=46 then 32 else 0) ||| (if bst o fl dec c=true then 128 else 0) ||| (if std fl c=true then 256 else 0)
def num (o:Of) (fl:Int) (dec:Bool) (X:List Int):Nat:=X.foldl (fun a c=>a ||| nb o fl dec c) 0
def hd (o:Of) (fl:Int) (X:List Int):Nat:=(if o.nf=true then 0 else 4) ||| (if flg fl 1=true then (if hyp X=true then 8 else 0) else (if coded X=true then 16 else 0)) ||| (if o.mrk (X.getD 0 0)=true then 64 else 0)
def chk (o:Of) (fl:Int) (rtl dec:Bool) (X:List Int):Nat:=hd o fl X ||| num o fl dec X ||| (if (flg fl 4 && o.jn)=true then 512 else 0) ||| (if (flg fl 2 && (rtl && o.bi))=true then 1024 else 0)
variable {o:Of} {fl:Int} {dec rtl:Bool} {X:List Int}
theorem x2g {b:Prop} [Decidable b] {n m:Nat} (hn:n<2 ^ 11) (hm:m<2 ^ 11):(if b then n else m)<2 ^ 11:=by split <;> assumption
theorem nb_lt (c:Int):nb o fl dec c<2 ^ 11:=by
 unfold nb;exact Nat.or_lt_two_pow (Nat.or_lt_two_pow (x2g (by decide) (by decide)) (x2g (by decide) (by decide))) (x2g (by decide) (by decide))
theorem y8r (X:List Int):∀ a,a<2 ^ 11→X.foldl (fun a c=>a ||| nb o fl dec c) a<2 ^ 11:=by
 induction X with
 | nil=>intro a h; exact h
 | cons c l ih=>intro a h; exact ih _ (Nat.or_lt_two_pow h (nb_lt c))
theorem z0G (X:List Int):num o fl dec X<2 ^ 11:=y8r X 0 (by decide)
theorem hd_lt:hd o fl X<2 ^ 11:=by
 unfold hd;exact Nat.or_lt_two_pow (Nat.or_lt_two_pow (x2g (by decide) (by decide)) (x2g (x2g (by decide) (by decide)) (x2g (by decide) (by decide)))) (x2g (by decide) (by decide))
theorem y9H:chk o fl rtl dec X<2 ^ 11:=by
 unfold chk;exact Nat.or_lt_two_pow (Nat.or_lt_two_pow (Nat.or_lt_two_pow hd_lt (z0G X)) (x2g (by decide) (by decide))) (x2g (by decide) (by decide))
theorem x9G (i:Nat):∀ (X:List Int) (a:Nat),(X.foldl (fun a c=>a ||| nb o fl dec c) a).testBit i=(a.testBit i || X.any fun c=>(nb o fl dec c).testBit i)
 | [],a=>by simp
 | c :: l,a=>by
  rw [List.foldl_cons,x9G i l,Nat.testBit_or,List.any_cons,Bool.or_assoc]
theorem x8S (i:Nat):(num o fl dec X).testBit i=X.any fun c=>(nb o fl dec c).testBit i:=by
 unfold num; rw [x9G]; simp
theorem x9q {a b:Nat} (ha:a<2 ^ 11) (hb:b<2 ^ 11):bits .andNot .i64 (a:Int) (b:Int)=((a &&& (2047 ^^^ b):Nat):Int):=by
 have h2:∀ x:Nat,x<2 ^ 11→x &&& (2 ^ 64 - 1 - b)=x &&& (2047 ^^^ b):=fun x hx=>by
  apply Nat.eq_of_testBit_eq;intro i;rw [Nat.testBit_and,Nat.testBit_and,Nat.testBit_xor];by_cases hi:i<11
  ·rw [show (2047:Nat)=2 ^ 11 - 1 by decide,Nat.testBit_two_pow_sub_one,decide_eq_true hi,show 2 ^ 64 - 1 - b=2 ^ 64 - (b+1) by omega,Nat.testBit_two_pow_sub_succ (by omega),decide_eq_true (by omega)]
   simp
  ·rw [Nat.testBit_lt_two_pow (x:=x) (i:=i) (Nat.lt_of_lt_of_le hx (Nat.pow_le_pow_right (by omega) (by omega)))]
   rfl
 show IntKind.i64.wrap (((BitVec.ofInt 64 (a:Int) &&& ~~~ (BitVec.ofInt 64 (b:Int))).toNat:Nat):Int)=_;rw [BitVec.ofInt_natCast,BitVec.ofInt_natCast,BitVec.toNat_and,BitVec.toNat_not,BitVec.toNat_ofNat,BitVec.toNat_ofNat,Nat.mod_eq_of_lt (by omega),Nat.mod_eq_of_lt (by omega),h2 a ha];have hab:a &&& (2047 ^^^ b)≤a:=Nat.and_le_left;simp only [IntKind.wrap,IntKind.bits,IntKind.signed];simp;omega
theorem y0i {a b:Nat} (ha:a<2 ^ 11) (hb:b<2 ^ 11) (h:∀ i,a.testBit i=true→b.testBit i=true):bits .andNot .i64 (a:Int) (b:Int)=0:=by
 rw [x9q ha hb]
 have:a &&& (2047 ^^^ b)=0:=by
  apply Nat.eq_of_testBit_eq;intro i;rw [Nat.testBit_and,Nat.testBit_xor,Nat.zero_testBit]
  cases e:a.testBit i with
  | false=>rfl
  | true =>
   have hi:i<11:=by
    rcases Nat.lt_or_ge i 11 with hi | hi
    ·exact hi
    ·rw [Nat.testBit_lt_two_pow (Nat.lt_of_lt_of_le ha (Nat.pow_le_pow_right (by omega) hi))] at e
     cases e
   rw [h i e,show (2047:Nat)=2 ^ 11 - 1 by decide,Nat.testBit_two_pow_sub_one,decide_eq_true hi];rfl
 rw [this]; rfl
end Lb
namespace Lb
variable {o:Of} {fl aa:Int} {dec dec' rtl rtl':Bool} {X:List Int}
def err (o:Of) (fl:Int) (rtl dec:Bool) (X:List Int):Nat:=if X.length=0 then 0 else chk o fl rtl dec X
theorem x5K:err o fl rtl dec X<2 ^ 11:=by
 unfold err;split
 ·decide
 ·exact y9H
theorem x1w {b:Prop} [Decidable b] {n i:Nat}:(if b then n else 0).testBit i=(decide b && n.testBit i):=by
 split
 ·rename_i h; rw [decide_eq_true h]; rfl
 ·rename_i h; rw [decide_eq_false h,Nat.zero_testBit]; rfl
theorem z0B (h16:(flg fl 16 && !dec)=true→(flg aa 16 && !dec')=true) (h8:flg fl 8=true→flg aa 8=true) (c:Int) (i:Nat) (h:(nb o fl dec c).testBit i=true):(nb o aa dec' c).testBit i=true:=by
 unfold nb at *;rw [Nat.testBit_or,Nat.testBit_or,x1w,x1w,x1w] at *;simp only [Bool.or_eq_true,Bool.and_eq_true,decide_eq_true_eq] at *;rcases h with (h | h) | h
 ·exact .inl (.inl h)
 ·refine .inl (.inr ⟨?_,h.2⟩)
  have h1:=h.1;unfold bst at *;simp only [Bool.or_eq_true,Bool.and_eq_true] at *;exact ⟨h1.1,h1.2.imp id h16⟩
 ·refine .inr ⟨?_,h.2⟩
  have h1:=h.1;unfold std at *;rw [Bool.and_eq_true] at *;exact ⟨h8 h1.1,h1.2⟩
theorem y7W (h1:flg fl 1=true→flg aa 1=true) (h2:flg fl 2=true→flg aa 2=true) (h4:flg fl 4=true→flg aa 4=true) (h8:flg fl 8=true→flg aa 8=true) (h16:(flg fl 16 && !dec)=true→(flg aa 16 && !dec')=true) (hr:rtl=true→rtl'=true) (i:Nat) (h:(chk o fl rtl dec X).testBit i=true):(chk o aa rtl' dec' X).testBit i=true∨(i=4∧flg fl 1=false∧flg aa 1=true):=by
 unfold chk hd at *;rw [Nat.testBit_or,Nat.testBit_or,Nat.testBit_or,Nat.testBit_or,Nat.testBit_or,x8S,x1w,x1w,x1w] at *;simp only [Bool.or_eq_true,Bool.and_eq_true,decide_eq_true_eq] at h ⊢;rcases h with ((((h | h) | h) | h) | h) | h
 ·exact .inl (.inl (.inl (.inl (.inl (.inl h)))))
 ·cases e1:flg fl 1
  ·rw [e1,if_neg (by decide),x1w] at h
   cases e2:flg aa 1
   ·rw [if_neg (show ¬ (false=true) from Bool.false_ne_true),x1w]
    exact .inl (.inl (.inl (.inl (.inl (.inr h)))))
   ·rw [Bool.and_eq_true] at h
    refine .inr ⟨?_,rfl,rfl⟩;have:=h.2;rw [show (16:Nat)=2 ^ 4 by decide,Nat.testBit_two_pow] at this;have:=of_decide_eq_true this;omega
  ·rw [e1,if_pos rfl] at h
   rw [h1 e1,if_pos rfl];exact .inl (.inl (.inl (.inl (.inl (.inr h)))))
 ·exact .inl (.inl (.inl (.inl (.inr h))))
 ·refine .inl (.inl (.inl (.inr ?_)))
  rw [List.any_eq_true] at *;obtain ⟨x,hx,hb⟩:=h;exact ⟨x,hx,z0B h16 h8 x i hb⟩
 ·exact .inl (.inl (.inr ⟨⟨h4 h.1.1,h.1.2⟩,h.2⟩))
 ·exact .inl (.inr ⟨⟨h2 h.1.1,hr h.1.2.1,h.1.2.2⟩,h.2⟩)
theorem y3z (h1:flg fl 1=true→flg aa 1=true) (h2:flg fl 2=true→flg aa 2=true) (h4:flg fl 4=true→flg aa 4=true) (h8:flg fl 8=true→flg aa 8=true) (h16:(flg fl 16 && !dec)=true→(flg aa 16 && !dec')=true) (hr:rtl=true→rtl'=true):bits .andNot .i64 (bits .andNot .i64 ((err o fl rtl dec X:Nat):Int) ((err o aa rtl' dec' X:Nat):Int)) 16=0∧(flg fl 1=flg aa 1→bits .andNot .i64 ((err o fl rtl dec X:Nat):Int) ((err o aa rtl' dec' X:Nat):Int)=0):=by
 have ah:∀ i,(err o fl rtl dec X).testBit i=true→(err o aa rtl' dec' X).testBit i=true∨(i=4∧flg fl 1=false∧flg aa 1=true):=fun i h=>by
  unfold err at *;split at h
  ·rw [Nat.zero_testBit] at h; cases h
  ·rename_i h0
   rw [if_neg h0];exact y7W h1 h2 h4 h8 h16 hr i h
 constructor
 ·rw [x9q x5K x5K]
  have aq:err o fl rtl dec X &&& (2047 ^^^ err o aa rtl' dec' X)<2 ^ 11:=Nat.lt_of_le_of_lt Nat.and_le_left x5K;refine y0i (b:=16) aq (by decide) fun i hi=>?_;rw [Nat.testBit_and,Bool.and_eq_true,Nat.testBit_xor] at hi;rcases ah i hi.1 with h | ⟨rfl,_⟩
  ·have hi2:=hi.2
   rw [h] at hi2;have hi1:=hi.1;by_cases hl:i<11
   ·rw [show (2047:Nat)=2 ^ 11 - 1 by decide,Nat.testBit_two_pow_sub_one,decide_eq_true hl] at hi2
    cases hi2
   ·rw [Nat.testBit_lt_two_pow (Nat.lt_of_lt_of_le x5K (Nat.pow_le_pow_right (by omega) (by omega)))] at hi1
    cases hi1
  ·decide
 ·intro he
  refine y0i x5K x5K fun i hi=>?_;rcases ah i hi with h | ⟨_,a,b⟩
  ·exact h
  ·rw [he,b] at a; cases a
theorem y7X (h:chk o fl rtl dec X=0):o.nf=true∧coded X=false∧o.mrk (X.getD 0 0)=false∧∀ c∈X,c≠46∧bst o fl dec c=false∧std fl c=false:=by
 unfold chk hd at h;simp only [Nat.or_eq_zero_iff] at h;obtain ⟨⟨⟨⟨⟨h1,h2⟩,h3⟩,h4⟩,_⟩,_⟩:=h;refine ⟨?_,?_,?_,fun c hc=>?_⟩
 ·cases e:o.nf
  ·rw [e] at h1; cases h1
  ·rfl
 ·cases e:coded X
  ·rfl
  ·exfalso
   cases e1:flg fl 1
   ·rw [e1,if_neg (by decide),e] at h2; cases h2
   ·rw [e1,if_pos rfl] at h2
    have hy:hyp X=true:=by
     unfold coded at e;unfold hyp;simp only [Bool.and_eq_true,decide_eq_true_eq] at e;simp only [Bool.or_eq_true,Bool.and_eq_true,decide_eq_true_eq];exact .inr (.inr ⟨e.1,e.2.2.2.1,e.2.2.2.2⟩)
    rw [hy] at h2; cases h2
 ·cases e:o.mrk (X.getD 0 0)
  ·rfl
  ·rw [e] at h3; cases h3
 ·have hb:nb o fl dec c=0:=by
   apply Nat.eq_of_testBit_eq;intro i;rw [Nat.zero_testBit];cases e:(nb o fl dec c).testBit i
   ·rfl
   ·have:=x8S (o:=o) (fl:=fl) (dec:=dec) (X:=X) i
    rw [h4,Nat.zero_testBit] at this;have h5:(X.any fun c=>(nb o fl dec c).testBit i)=true:=List.any_eq_true.2 ⟨c,hc,e⟩;rw [h5] at this; cases this
  unfold nb at hb;simp only [Nat.or_eq_zero_iff] at hb;obtain ⟨⟨n1,n2⟩,n3⟩:=hb;refine ⟨fun e=>?_,?_,?_⟩
  ·rw [if_pos e] at n1; cases n1
  ·cases e:bst o fl dec c
   ·rfl
   ·rw [e] at n2; cases n2
  ·cases e:std fl c
   ·rfl
   ·rw [e] at n3; cases n3
end Lb
def LbH (w:World) (L p:Nat) (xv:Value) (fl:Int) (rtl dec:Bool):Prop:=w.heap[L]?=some (.cells #[.pointer (some ⟨p,0,none⟩),xv,.int .i64 fl,.bool rtl,.bool dec] 54 (0,0))
section
variable {w:World} {L p:Nat} {xv:Value} {fl:Int} {rtl dec:Bool}
theorem LbH.c0 (h:LbH w L p xv fl rtl dec):w.cell? ⟨L,0,none⟩=some (.pointer (some ⟨p,0,none⟩)):=cell_of (j:=0) h (by show 0<5; omega)
theorem LbH.c1 (h:LbH w L p xv fl rtl dec):w.cell? ⟨L,1,none⟩=some xv:=cell_of (j:=1) h (by show 1<5; omega)
theorem LbH.c2 (h:LbH w L p xv fl rtl dec):w.cell? ⟨L,2,none⟩=some (.int .i64 fl):=cell_of (j:=2) h (by show 2<5; omega)
theorem LbH.c3 (h:LbH w L p xv fl rtl dec):w.cell? ⟨L,3,none⟩=some (.bool rtl):=cell_of (j:=3) h (by show 3<5; omega)
theorem LbH.c4 (h:LbH w L p xv fl rtl dec):w.cell? ⟨L,4,none⟩=some (.bool dec):=cell_of (j:=4) h (by show 4<5; omega)
theorem LbH.below {w':World} (h:LbH w L p xv fl rtl dec) (hb:Below w.heap.size w w'):LbH w' L p xv fl rtl dec:=by
  unfold LbH at *; rw [hb.block L (x0a (LbH.c0 h))]; exact h
end
def Sm18 (v:Value) (w:World) (e:Ending) (w':World):Prop:=e=.returned v∧w'=w
def x2d (b:Bool) (n:Int):Int:=if b=true then n else 0
theorem x3f (b:Bool) (n:Int) (w:World):Calls Tryz.prog 80 #[.bool b,.int .i64 n] w (Sm18 (.int .i64 (x2d b n)) w):=by
  cases b <;> go_enter Tryz.func80,Tryz.ntmps80 <;> go_wp2 <;> go_ret <;> exact ⟨rfl,rfl⟩
theorem y0Q {w:World} {L p:Nat} {xv:Value} {fl:Int} {rtl dec:Bool} (h:LbH w L p xv fl rtl dec) (k:Int):Calls Tryz.prog 82 #[.pointer (some ⟨L,0,none⟩),.int .i64 k] w (Sm18 (.bool (Lb.flg fl k)) w):=by
  have x2:=h.c2;clear h;go_enter Tryz.func82,Tryz.ntmps82;go_wp2;go_ret;exact ⟨rfl,rfl⟩
theorem idx18 (g:Nat) (F C:Array Value) (eg:∀ args w,(callFunc g args).run Tryz.prog w=.ok (.enter g args) w) (p:Int→Bool) (xv:Value) (X:List Int) (w:World) (hx:Sk .i32 w xv X) (hp:∀ k,k<X.length→∀ W,Below w.heap.size w W→Calls Tryz.prog g (F++#[.int .i32 (X.getD k 0)]++C) W (x0d W (p (X.getD k 0)))) :
    Calls Tryz.prog 57 #[xv,.func (.func g) F C] w (IdxB w (X.any p)):=by
  have ad:=hx.len;have KP:=Hd hp
  have HC:Hid (∀ (k:Nat),k<X.length→∃ b off cap,xv=.slice (some ⟨b,off,none⟩) X.length cap∧∀ W,Below w.heap.size w W→W.cell? ⟨b,off+k,none⟩=some (.int .i32 (X.getD k 0))):=fun k hk=>by
    obtain ⟨b,off,cap,he,_,_,hc⟩:=hx.place (by omega);exact ⟨b,off,cap,he,fun W hW=>by rw [hW.cell (x0a (hc k hk))]; exact hc k hk⟩
  have ac:Hid ((∀ q,q<X.length→p (X.getD q 0)=false)→X.any p=false):=fun h=>Bd.y6T h;have ab:Hid (∀ q,q<X.length→p (X.getD q 0)=true→X.any p=true):=fun q hq h=>Bd.y1X hq h;obtain ⟨ao,cap,rfl,_,_⟩:=hx.shape;clear hp hx;generalize X.any p=hb at *;go_enter Tryz.func57,Tryz.ntmps57;go_wp2;go_loopw [5,8] (fun _ iv wr=>∃ k:Nat,iv=.int .i64 k∧k≤X.length∧(∀ q,q<k→p (X.getD q 0)=false)∧Below w.heap.size w wr) (fun _ iv _=>X.length - (intOf iv).toNat)
  case atStart=>exact ⟨0,rfl,by omega,fun q h=>absurd h (by omega),Below.refl _ _⟩
  case round =>
    obtain ⟨k,rfl,hk,hq,ag⟩:=hrel;by_cases hlt:k<X.length
    · have hL:(k:Int)<X.length:=by omega
      obtain ⟨b1,off,cp,he,an⟩:=(Uh HC) k hlt;simp only [Value.slice.injEq] at he;obtain ⟨rfl,-,rfl⟩:=he;have x4:=an wr ag;have K:=Hd ((Uh KP) k hlt wr ag);have HY:=Hd ((Uh ab) k hlt)
      have HQ:Hid (p (X.getD k 0)=false→∀ q,q<k+1→p (X.getD q 0)=false):=fun h q hq'=>by
        rcases Nat.lt_or_ge q k with h1 | h1
        · exact hq q h1
        · rw [show q=k by omega]; exact h
      have ae:=Hd ag;clear an hq ag KP HC ac ab;generalize p (X.getD k 0)=z at *;generalize X.getD k 0=c at *
      cases z with
      | true =>
        have HT:=Hd ((Uh HY) rfl);clear HY HQ;go_wp2_with (go_at_fn g; refine (Uh K).mono ?_; rintro e w1 ⟨rfl,b1⟩);have aj:=Hd (x0b (Uh ae) b1);clear K ae;go_ret;exact ⟨_,rfl,by rw [Uh HT]; exact decide_eq_true (by omega),Uh aj⟩
      | false =>
        have ak:=Hd ((Uh HQ) rfl);clear HY HQ;go_wp2_with (go_at_fn g; refine (Uh K).mono ?_; rintro e w1 ⟨rfl,b1⟩);have aj:=Hd (x0b (Uh ae) b1);clear K ae
        go_roundw
        case rel=>exact ⟨k+1,by go_num,by omega,Uh ak,Uh aj⟩
        case measure=>simp [intOf]; omega
    · have HT:=Hd ((Uh ac) fun q h=>hq q (by omega))
      have hL:¬ ((k:Int)<X.length):=(by omega);have ae:=Hd ag;clear hq ag KP HC ac ab;go_wp2;go_ret;exact ⟨_,rfl,by rw [Uh HT]; rfl,Uh ae⟩
theorem y8a (g:Nat) (F C:Array Value) (eg:∀ args w,(callFunc g args).run Tryz.prog w=.ok (.enter g args) w) (p:Int→Bool) (xv:Value) (X:List Int) (w:World) (hx:Sk .i32 w xv X) (hp:∀ k,k<X.length→∀ W,Below w.heap.size w W→Calls Tryz.prog g (F++#[.int .i32 (X.getD k 0)]++C) W (x0d W (p (X.getD k 0)))) :
    Calls Tryz.prog 31 #[xv,.func (.func g) F C] w (x0d w (X.any p)):=by
  have K:=Hd (idx18 g F C eg p xv X w hx hp);obtain ⟨ao,cap,rfl,_,_⟩:=hx.shape;clear hp hx;generalize X.any p=hb at *;go_enter Tryz.func31,Tryz.ntmps31;go_wp2_with fail;refine (Uh K).mono ?_;rintro e w1 ⟨n,rfl,hn,b1⟩;subst hn;clear K;go_wp2;go_ret;exact ⟨rfl,b1⟩
theorem x9W (c:Int) (w:World):Calls Tryz.prog 32 #[.int .i32 c] w (x0d w (!Lb.ldh c)):=by
  by_cases h1:97≤c <;> by_cases h2:c≤122 <;> by_cases h3:48≤c <;> by_cases h4:c≤57 <;> by_cases h5:c=45
  all_goals first
    | omega
    | (have E:∃ b,(!Lb.ldh c)=b:=⟨_,rfl⟩
       obtain ⟨b,E⟩:=E;rw [E];unfold Lb.ldh at E;simp only [h1,h2,h3,h4,h5,decide_true,decide_false,Bool.and_true,Bool.and_false,Bool.or_true,Bool.or_false,Bool.not_true,Bool.not_false] at E;subst E;have h6:(c==45)=decide (c=45):=rfl;simp only [h5,decide_true,decide_false] at h6;have h7:(c != 45)=!decide (c=45):=rfl;simp only [h5,decide_true,decide_false,Bool.not_true,Bool.not_false] at h7;go_enter Tryz.func32,Tryz.ntmps32;go_wp2;go_ret
       exact ⟨rfl,Below.refl _ _⟩)
theorem x8B:∀ args w,(callFunc 32 args).run Tryz.prog w=.ok (.enter 32 args) w:=enters_of Tryz.func32 (by kernel_rfl) rfl
theorem enters_std18:∀ args w,(callFunc 85 args).run Tryz.prog w=.ok (.enter 85 args) w:=enters_of Tryz.func85 (by kernel_rfl) rfl
theorem enters_ws18:∀ args w,(callFunc 84 args).run Tryz.prog w=.ok (.enter 84 args) w:=enters_of Tryz.func84 (by kernel_rfl) rfl
theorem any_not18 (X:List Int):(!X.any fun c=>!Lb.ldh c)=X.all Lb.ldh:=by
  induction X with
  | nil=>rfl
  | cons a l ih=>rw [List.any_cons,List.all_cons,← ih,Bool.not_or,Bool.not_not]
theorem z0q {w:World} {xv:Value} {X:List Int} (hx:Sk .i32 w xv X):Calls Tryz.prog 11 #[xv] w (x0d w (X.all Lb.ldh)):=by
  have K:=Hd (y8a 32 #[] #[] x8B (fun c=>!Lb.ldh c) xv X w hx fun k _ W _=>x9W (X.getD k 0) W);rw [← any_not18];obtain ⟨ao,cap,rfl,_,_⟩:=hx.shape;clear hx;generalize (X.any fun c=>!Lb.ldh c)=a at *;go_enter Tryz.func11,Tryz.ntmps11;go_wp2_with fail;refine (Uh K).mono ?_;rintro e w1 ⟨rfl,b1⟩;clear K;go_wp2;go_ret;exact ⟨rfl,b1⟩
structure PLbC (p:Nat) (xv:Value) (X:List Int) (o:Lb.Of) (w0:World):Prop where
 i:∀ W,Below w0.heap.size w0 W→Calls Tryz.prog 15 #[.pointer (some ⟨p,0,none⟩),xv] W (fun e w'=>e=.returned (.tuple #[.bool o.nf,.int .i64 0])∧Below W.heap.size W w')
 m:∀ c,Rune c→∀ W,Below w0.heap.size w0 W→Calls Tryz.prog 17 #[.pointer (some ⟨p,0,none⟩),.int .i32 c] W (x0d W (o.mrk c))
 s:∀ c,Rune c→∀ W,Below w0.heap.size w0 W→Calls Tryz.prog 16 #[.pointer (some ⟨p,0,none⟩),.int .i32 c] W (IntB W (o.st c))
 j:∃ n:Int,decide (0≤n)=o.jn∧∀ W,Below w0.heap.size w0 W→Calls Tryz.prog 86 #[.pointer (some ⟨p,0,none⟩),xv] W (IntB W n)
 r:∃ n:Int,(n != 0)=o.bi∧∀ W,Below w0.heap.size w0 W→Calls Tryz.prog 87 #[.pointer (some ⟨p,0,none⟩),xv] W (IntB W n)
theorem PLbC.on {p:Nat} {xv:Value} {X:List Int} {o:Lb.Of} {w W:World} (h:PLbC p xv X o w) (hb:Below w.heap.size w W):PLbC p xv X o W:=by
 obtain ⟨n,hn,hj⟩:=h.j;obtain ⟨m,hm,hr⟩:=h.r;exact ⟨fun W' hW=>h.i W' (x0b hb hW),fun c hc W' hW=>h.m c hc W' (x0b hb hW),fun c hc W' hW=>h.s c hc W' (x0b hb hW),⟨n,hn,fun W' hW=>hj W' (x0b hb hW)⟩,⟨m,hm,fun W' hW=>hr W' (x0b hb hW)⟩⟩
theorem lit18 (W:World) (zs:List Int) (n:Nat) (hn:zs.length=n) (h0:0<n) (hs:n≤100) (C:Array Value) (hC:C=(zs.map (Value.int .i32)).toArray) (hz:∀ z∈zs,-2147483648≤z∧z≤2147483647):Sk .i32 (W.alloc (.cells C 21)) (.slice (some ⟨W.heap.size,0,none⟩) n n) zs:=by
 have h:Ok .i32 21 (W.alloc (.cells C 21)) W.heap.size (.slice (some ⟨W.heap.size,0,none⟩) n n) zs:=by
  refine Ok.of (n:=n) (us:=zs.map (Value.int .i32)) (fun z h=>hz z h) (by omega) ⟨by simp [hn],Or.inr ⟨W.heap.size,n,C,rfl,Nat.le_refl _,World.alloc_heap_new W _,Nat.le_refl _,by unfold maxLen; omega,by rw [hC]; simp [hn],by rw [hC]; exact List.take_of_length_le (by simp [hn])⟩⟩ hn.symm rfl
 exact h.sk
theorem y0C {X:List Int} (h:4≤X.length):decide (X.take 4=[120,110,45,45])=Lb.coded X:=by
 match X,h with
 | a :: b :: c :: d :: l,_=>simp [Lb.coded]
theorem y6Y {w:World} {xv:Value} {X:List Int} (hx:Sk .i32 w xv X):Calls Tryz.prog 13 #[xv] w (x0d w (Lb.coded X)):=by
 have ai:∀ o,Below w.heap.size w (w.alloc o):=fun o=>(Below.refl _ _).alloc (Nat.le_refl _) o;have ad:=hx.len;obtain ⟨ao,cap,rfl,ap,hc2⟩:=hx.shape;by_cases h4:X.length<4
 ·have E:Lb.coded X=false:=by unfold Lb.coded; rw [decide_eq_false (by omega)]; rfl
  rw [E];have hL:¬ ((4:Int)≤X.length):=(by omega);clear hx E;go_enter Tryz.func13,Tryz.ntmps13;go_wp2;go_ret;exact ⟨rfl,ai _⟩
 ·have hL:(4:Int)≤X.length:=by omega
  have hT:=(hx.below (ai (.cells #[.int .i32 120,.int .i32 110,.int .i32 45,.int .i32 45] 21))).head (k:=4) (by omega) ap;have K:=Hd (x9C _ _ _ _ _ hT (lit18 w [120,110,45,45] 4 rfl (by omega) (by omega) #[.int .i32 120,.int .i32 110,.int .i32 45,.int .i32 45] rfl (by simp)));rw [y0C (by omega)] at K;clear hx hT;generalize Lb.coded X=z at *;go_enter Tryz.func13,Tryz.ntmps13;go_wp2_with fail;refine (Uh K).mono ?_;rintro e w1 ⟨rfl,b1⟩;have HB:=Hd (x0b (ai _) (x0l b1));clear K b1 ai;go_wp2;go_ret;exact ⟨rfl,Uh HB⟩
theorem ctn18 (v:Int) (xv:Value) (X:List Int) (w:World) (hx:Sk .i32 w xv X):Calls Tryz.prog 126 #[xv,.int .i32 v] w (IdxB w (X.any fun c=>decide (v=c))):=by
 have ad:=hx.len
 have HC:Hid (∀ (k:Nat),k<X.length→∃ b off cap,xv=.slice (some ⟨b,off,none⟩) X.length cap∧w.cell? ⟨b,off+k,none⟩=some (.int .i32 (X.getD k 0))):=fun k hk=>by
  obtain ⟨b,off,cap,he,_,_,hc⟩:=hx.place (by omega);exact ⟨b,off,cap,he,hc k hk⟩
 have ac:Hid ((∀ q,q<X.length→decide (v=X.getD q 0)=false)→(X.any fun c=>decide (v=c))=false):=fun h=>Bd.y6T h;have ab:Hid (∀ q,q<X.length→decide (v=X.getD q 0)=true→(X.any fun c=>decide (v=c))=true):=fun q hq h=>Bd.y1X (f:=fun c=>decide (v=c)) hq h;obtain ⟨ao,cap,rfl,_,_⟩:=hx.shape;clear hx;generalize (X.any fun c=>decide (v=c))=hb at *;go_enter Tryz.func126,Tryz.ntmps126;go_wp2;go_loopw [5,8] (fun _ iv wr=>∃ k:Nat,iv=.int .i64 k∧k≤X.length∧(∀ q,q<k→decide (v=X.getD q 0)=false)∧wr=w) (fun _ iv _=>X.length - (intOf iv).toNat)
 case atStart=>exact ⟨0,rfl,by omega,fun q h=>absurd h (by omega),rfl⟩
 case round =>
  obtain ⟨k,rfl,hk,hq,rfl⟩:=hrel;by_cases hlt:k<X.length
  ·have hL:(k:Int)<X.length:=by omega
   obtain ⟨b1,off,cp,he,x4⟩:=(Uh HC) k hlt;simp only [Value.slice.injEq] at he;obtain ⟨rfl,-,rfl⟩:=he;have HY:=Hd ((Uh ab) k hlt)
   have HQ:Hid (decide (v=X.getD k 0)=false→∀ q,q<k+1→decide (v=X.getD q 0)=false):=fun h q hq'=>by
    rcases Nat.lt_or_ge q k with h1 | h1
    ·exact hq q h1
    ·rw [show q=k by omega]; exact h
   clear hq HC ac ab;have hz:(v==X.getD k 0)=decide (v=X.getD k 0):=rfl;generalize decide (v=X.getD k 0)=z at *;generalize X.getD k 0=c at *
   cases z with
   | true =>
    have HT:=Hd ((Uh HY) rfl);clear HY HQ;go_wp2;go_ret;exact ⟨_,rfl,by rw [Uh HT]; exact decide_eq_true (by omega),Below.refl _ _⟩
   | false =>
    have ak:=Hd ((Uh HQ) rfl);clear HY HQ;go_wp2
    go_roundw
    case rel=>exact ⟨k+1,by go_num,by omega,Uh ak,trivial⟩
    case measure=>simp [intOf]; omega
  ·have HT:=Hd ((Uh ac) fun q h=>hq q (by omega))
   have hL:¬ ((k:Int)<X.length):=(by omega);clear hq HC ac ab;go_wp2;go_ret;exact ⟨_,rfl,by rw [Uh HT]; rfl,Below.refl _ _⟩
theorem cnt18 (v:Int) (xv:Value) (X:List Int) (w:World) (hx:Sk .i32 w xv X):Calls Tryz.prog 83 #[xv,.int .i32 v] w (x0d w (X.any fun c=>decide (v=c))):=by
 have K:=Hd (ctn18 v xv X w hx);obtain ⟨ao,cap,rfl,_,_⟩:=hx.shape;clear hx;generalize (X.any fun c=>decide (v=c))=hb at *;go_enter Tryz.func83,Tryz.ntmps83;go_wp2_with fail;refine (Uh K).mono ?_;rintro e w1 ⟨n,rfl,hn,b1⟩;subst hn;clear K;go_wp2;go_ret;exact ⟨rfl,b1⟩
section
variable {w:World} {L p:Nat} {xv:Value} {fl:Int} {rtl dec:Bool} {X:List Int} {o:Lb.Of}
def hat18 (X:List Int) (i:Nat):Bool:=decide (i<X.length) && decide (X.getD i 0=45)
theorem y3e (h:LbH w L p xv fl rtl dec) (hx:Sk .i32 w xv X) (i:Nat) (hi:i<1000000000):Calls Tryz.prog 81 #[.pointer (some ⟨L,0,none⟩),.int .i64 i] w (Sm18 (.bool (hat18 X i)) w):=by
 have x1:=h.c1;have ad:=hx.len;by_cases hl:i<X.length
 ·obtain ⟨b,off,cap,rfl,_,_,hc⟩:=hx.place (by omega)
  have x4:=hc i hl;have hL:(i:Int)<X.length:=(by omega);have E:hat18 X i=decide (X.getD i 0=45):=(by unfold hat18; rw [decide_eq_true hl]; rfl);rw [E];clear h hx hc E;have hz:(X.getD i 0==45)=decide (X.getD i 0=45):=rfl;generalize decide (X.getD i 0=45)=z at *;generalize X.getD i 0=c at *;go_enter Tryz.func81,Tryz.ntmps81;go_wp2;go_ret;exact ⟨rfl,rfl⟩
 ·obtain ⟨ao,cap,rfl,_,_⟩:=hx.shape
  have hL:¬ ((i:Int)<X.length):=(by omega);have E:hat18 X i=false:=(by unfold hat18; rw [decide_eq_false hl]; rfl);rw [E];clear h hx E;go_enter Tryz.func81,Tryz.ntmps81;go_wp2;go_ret;exact ⟨rfl,rfl⟩
theorem y9P (h:LbH w L p xv fl rtl dec) (hx:Sk .i32 w xv X) (hP:PLbC p xv X o w):Calls Tryz.prog 42 #[.pointer (some ⟨L,0,none⟩)] w (IntB w (x2d (!o.nf) 4)):=by
 have H0:=Hd fun W (hW:Below w.heap.size w W)=>(h.below hW).c0;have H1:=Hd fun W (hW:Below w.heap.size w W)=>(h.below hW).c1;have K:=Hd hP.i;have KW:=Hd (fun b W=>x3f b 4 W);obtain ⟨ao,cap,rfl,_,_⟩:=hx.shape;have am:Below w.heap.size w w:=Below.refl _ _;have hbd:=am.drew;clear h hP hx;generalize o.nf=z at *;go_enter Tryz.func42,Tryz.ntmps42;go_wp2_with fail;go_region_held3 (fun w'=>w'.cell? ⟨L,0,none⟩=some (.pointer (some ⟨p,0,none⟩))∧w'.cell? ⟨L,1,none⟩=some (.slice ao X.length cap)∧Below w.heap.size w w') (first | exact ⟨(Uh H0) _ (by assumption),(Uh H1) _ (by assumption),by assumption⟩ | (have al:=x0b hbd (by assumption); exact ⟨(Uh H0) _ al,(Uh H1) _ al,al⟩) | go_keep) (first | (go_at_call 15; refine ((Uh K) _ (by assumption)).mono ?_; rintro e w1 ⟨rfl,b1⟩; have af:=x0b (by assumption:Below w.heap.size w _) b1));have HB:=Hd af;clear K H0 H1 af b1 hbd am;cases z <;>
 ·go_wp2_with fail
  refine ((Uh KW) _ _).mono ?_;rintro e w2 ⟨rfl,rfl⟩;clear KW;go_wp2;go_ret;exact ⟨rfl,Uh HB⟩
theorem y8s {X:List Int} (h0:0<X.length):Lb.hyp X=((hat18 X 0 || hat18 X (X.length - 1)) || (hat18 X 2 && hat18 X 3)):=by
 unfold Lb.hyp hat18;rw [decide_eq_true h0,decide_eq_true (show X.length - 1<X.length by omega),Bool.true_and,Bool.true_and,Bool.or_assoc];by_cases h:4≤X.length
 ·rw [decide_eq_true h,decide_eq_true (show 2<X.length by omega),decide_eq_true (show 3<X.length by omega)]
  simp
 ·rw [decide_eq_false h,decide_eq_false (show ¬ 3<X.length by omega)]
  simp
theorem x9L (h:LbH w L p xv fl rtl dec) (hx:Sk .i32 w xv X) (i:Int) (h0:0≤i) (h1:i<1000000000):Calls Tryz.prog 81 #[.pointer (some ⟨L,0,none⟩),.int .i64 i] w (Sm18 (.bool (hat18 X i.toNat)) w):=by
 have:=y3e h hx i.toNat (by omega);rw [show ((i.toNat:Nat):Int)=i by omega] at this;exact this
theorem y9Q (h:LbH w L p xv fl rtl dec) (hx:Sk .i32 w xv X) (h0:0<X.length) (hxl:X.length≤1000):Calls Tryz.prog 43 #[.pointer (some ⟨L,0,none⟩)] w (IntB w (x2d (Lb.flg fl 1 && Lb.hyp X) 8)):=by
 have x1:=h.c1;rw [y8s h0];obtain ⟨m,hm⟩:∃ m:Int,m=(X.length:Int) - 1:=⟨_,rfl⟩;have hW:IntKind.i64.wrap ((X.length:Int) - 1)=m:=(by rw [IntKind.wrap_i64]; omega);have ha:=x9L h hx 0 (by omega) (by omega);have hb:=x9L h hx m (by omega) (by omega);have hc:=x9L h hx 2 (by omega) (by omega);have hd:=x9L h hx 3 (by omega) (by omega);rw [show m.toNat=X.length - 1 by omega] at hb;obtain ⟨g,hg⟩:∃ g:Int→Bool,g 0=hat18 X 0∧g m=hat18 X (X.length - 1)∧g 2=hat18 X 2∧g 3=hat18 X 3:=⟨fun i=>hat18 X i.toNat,rfl,by show hat18 X m.toNat=_; rw [show m.toNat=X.length - 1 by omega],rfl,rfl⟩
 have KA:Hid (∀ i,i=0∨i=m∨i=2∨i=3→Calls Tryz.prog 81 #[.pointer (some ⟨L,0,none⟩),.int .i64 i] w (Sm18 (.bool (g i)) w)):=fun i hi=>by
  rcases hi with rfl | rfl | rfl | rfl
  ·rw [hg.1]; exact ha
  ·rw [hg.2.1]; exact hb
  ·rw [hg.2.2.1]; exact hc
  ·rw [hg.2.2.2]; exact hd
 rw [← hg.1,← hg.2.1,← hg.2.2.1,← hg.2.2.2];have KH:=Hd (y0Q h 1);have KW:=Hd (fun b W=>x3f b 8 W);obtain ⟨ao,cap,rfl,_,_⟩:=hx.shape;clear h hx ha hb hc hd hg;have i0:(0:Int)=0∨(0:Int)=m∨(0:Int)=2∨(0:Int)=3:=.inl rfl;have i1:m=0∨m=m∨m=2∨m=3:=.inr (.inl rfl);have i2:(2:Int)=0∨(2:Int)=m∨(2:Int)=2∨(2:Int)=3:=.inr (.inr (.inl rfl));have i3:(3:Int)=0∨(3:Int)=m∨(3:Int)=2∨(3:Int)=3:=.inr (.inr (.inr rfl));have K0:=Hd ((Uh KA) 0 i0);have K1:=Hd ((Uh KA) m i1);have K2:=Hd ((Uh KA) 2 i2);have K3:=Hd ((Uh KA) 3 i3);clear KA hm i0 i1 i2 i3;generalize g 0=a at *;generalize g m=b at *;generalize g 2=c at *;generalize g 3=d at *;generalize Lb.flg fl 1=f at *;go_enter Tryz.func43,Tryz.ntmps43;go_wp2_with fail;refine (Uh K0).mono ?_;rintro e w1 ⟨rfl,rfl⟩;clear K0;cases a
 ·go_wp2_with fail
  refine (Uh K1).mono ?_;rintro e w1 ⟨rfl,rfl⟩;clear K1;go_wp2_with fail;refine (Uh K2).mono ?_;rintro e w1 ⟨rfl,rfl⟩;clear K2;cases b <;> cases c <;> cases f <;>
  ·go_wp2_with (first | (go_at_call 81; refine (Uh K3).mono ?_; rintro e w1 ⟨rfl,rfl⟩) | (go_at_call 82; refine (Uh KH).mono ?_; rintro e w1 ⟨rfl,rfl⟩) | (go_at_call 80; refine ((Uh KW) _ _).mono ?_; rintro e w1 ⟨rfl,rfl⟩))
   go_ret;exact ⟨rfl,Below.refl _ _⟩
 ·clear K1
  go_wp2_with fail;refine (Uh K2).mono ?_;rintro e w1 ⟨rfl,rfl⟩;clear K2;cases c <;> cases f <;>
  ·go_wp2_with (first | (go_at_call 81; refine (Uh K3).mono ?_; rintro e w1 ⟨rfl,rfl⟩) | (go_at_call 82; refine (Uh KH).mono ?_; rintro e w1 ⟨rfl,rfl⟩) | (go_at_call 80; refine ((Uh KW) _ _).mono ?_; rintro e w1 ⟨rfl,rfl⟩))
   go_ret;exact ⟨rfl,Below.refl _ _⟩
end
section
variable {w:World} {L p:Nat} {xv:Value} {fl:Int} {rtl dec:Bool} {X:List Int} {o:Lb.Of}
theorem y9R (h:LbH w L p xv fl rtl dec) (hx:Sk .i32 w xv X):Calls Tryz.prog 44 #[.pointer (some ⟨L,0,none⟩)] w (IntB w (x2d (!Lb.flg fl 1 && Lb.coded X) 16)):=by
 have x1:=h.c1;have K:=Hd (y6Y hx);have KH:=Hd (y0Q h 1);have KW:=Hd (fun b W=>x3f b 16 W);obtain ⟨ao,cap,rfl,_,_⟩:=hx.shape;have af:Below w.heap.size w w:=Below.refl _ _;clear h hx;generalize Lb.coded X=c at *;generalize Lb.flg fl 1=f at *;cases f
 ·go_enter Tryz.func44,Tryz.ntmps44
  go_wp2_with (first | (refine (Uh KH).mono ?_; rintro e w1 ⟨rfl,rfl⟩) | (refine (Uh K).mono ?_; rintro e w2 ⟨rfl,b2⟩) | (refine ((Uh KW) _ _).mono ?_; rintro e w1 ⟨rfl,rfl⟩));go_ret;exact ⟨rfl,b2⟩
 ·go_enter Tryz.func44,Tryz.ntmps44
  go_wp2_with (first | (refine (Uh KH).mono ?_; rintro e w1 ⟨rfl,rfl⟩) | (refine ((Uh KW) _ _).mono ?_; rintro e w1 ⟨rfl,rfl⟩));go_ret;exact ⟨rfl,af⟩
theorem y9S (h:LbH w L p xv fl rtl dec) (hx:Sk .i32 w xv X):Calls Tryz.prog 45 #[.pointer (some ⟨L,0,none⟩)] w (IntB w (x2d (X.any fun c=>decide (46=c)) 32)):=by
 have x1:=h.c1;have K:=Hd (cnt18 46 xv X w hx);have KW:=Hd (fun b W=>x3f b 32 W);obtain ⟨ao,cap,rfl,_,_⟩:=hx.shape;clear h hx;generalize (X.any fun c=>decide (46=c))=f at *;go_enter Tryz.func45,Tryz.ntmps45;go_wp2_with (first | (refine (Uh K).mono ?_; rintro e w2 ⟨rfl,b2⟩) | (refine ((Uh KW) _ _).mono ?_; rintro e w1 ⟨rfl,rfl⟩));go_ret;exact ⟨rfl,b2⟩
theorem ws18 (h:LbH w L p xv fl rtl dec) (hP:PLbC p xv X o w) {c:Int} (hc:Rune c):Calls Tryz.prog 84 #[.pointer (some ⟨L,0,none⟩),.int .i32 c] w (x0d w (Lb.bst o fl dec c)):=by
 have x0:=h.c0;have K:=Hd (hP.s c hc w (Below.refl _ _));have HB:Hid (∀ W,Below w.heap.size w W→Calls Tryz.prog 82 #[.pointer (some ⟨L,0,none⟩),.int .i64 16] W (Sm18 (.bool (Lb.flg fl 16)) W)∧W.cell? ⟨L,4,none⟩=some (.bool dec)):=fun W hW=>⟨y0Q (h.below hW) 16,(h.below hW).c4⟩;have E:Hid (Lb.bst o fl dec c=(decide (o.st c≠1) && (decide (o.st c≠4) || (Lb.flg fl 16 && !dec)))):=rfl;clear h hP;generalize Lb.bst o fl dec c=bb at *;generalize Lb.flg fl 16=f at *;generalize o.st c=k at *;by_cases h1:k=1
 ·subst h1
  obtain rfl:bb=false:=Uh E;clear HB E;go_enter Tryz.func84,Tryz.ntmps84;go_wp2_with (refine (Uh K).mono ?_; rintro e w1 ⟨rfl,b1⟩);go_ret;exact ⟨rfl,b1⟩
 ·by_cases h4:k=4
  ·subst h4
   obtain rfl:bb=(f && !dec):=Uh E;clear E h1;go_enter Tryz.func84,Tryz.ntmps84;go_wp2_with fail;refine (Uh K).mono ?_;rintro e w1 ⟨rfl,b1⟩;have KH:=Hd ((Uh HB) w1 b1).1;have x4:=((Uh HB) w1 b1).2;clear K HB x0;cases f <;>
   ·go_wp2_with (refine (Uh KH).mono ?_; rintro e w1 ⟨rfl,rfl⟩)
    go_ret;exact ⟨rfl,b1⟩
  ·have hk1:(k==1)=false:=by rw [beq_eq_false_iff_ne]; exact h1
   have hk4:(k==4)=false:=(by rw [beq_eq_false_iff_ne]; exact h4);obtain rfl:bb=true:=(by rw [Uh E,decide_eq_true h1,decide_eq_true h4]; rfl);clear HB E;go_enter Tryz.func84,Tryz.ntmps84;go_wp2_with (refine (Uh K).mono ?_; rintro e w1 ⟨rfl,b1⟩);go_ret;exact ⟨rfl,b1⟩
theorem y9U (h:LbH w L p xv fl rtl dec) (hx:Sk .i32 w xv X) (hP:PLbC p xv X o w):Calls Tryz.prog 47 #[.pointer (some ⟨L,0,none⟩)] w (IntB w (x2d (X.any (Lb.bst o fl dec)) 128)):=by
 have ar:∀ (fn:Fn) (first cap:Array Value) (w:World),(Instr.makeFunc fn first cap).run Tryz.prog w=.ok (.func fn first cap) w:=fun _ _ _ _=>rfl;have x1:=h.c1;have K:=Hd (y8a 84 #[.pointer (some ⟨L,0,none⟩)] #[] enters_ws18 (Lb.bst o fl dec) xv X w hx fun k hk W hW=>ws18 (h.below hW) (hP.on hW) (x0G hx hk));have KW:=Hd (fun b W=>x3f b 128 W);obtain ⟨ao,cap,rfl,_,_⟩:=hx.shape;clear h hx hP;generalize X.any (Lb.bst o fl dec)=f at *;go_enter Tryz.func47,Tryz.ntmps47;go_wp2_with (first | (refine (Uh K).mono ?_; rintro e w2 ⟨rfl,b2⟩) | (refine ((Uh KW) _ _).mono ?_; rintro e w1 ⟨rfl,rfl⟩));go_ret;exact ⟨rfl,b2⟩
theorem y9g (c:Int) (w:World):Calls Tryz.prog 85 #[.int .i32 c] w (x0d w (decide (c<128) && !Lb.ldh c)):=by
 have K:=Hd (x9W c w);generalize (!Lb.ldh c)=z at *;by_cases hc:c<128
 ·rw [decide_eq_true hc]
  go_enter Tryz.func85,Tryz.ntmps85;go_wp2_with (refine (Uh K).mono ?_; rintro e w1 ⟨rfl,b1⟩);go_ret;exact ⟨rfl,b1⟩
 ·rw [decide_eq_false hc]
  go_enter Tryz.func85,Tryz.ntmps85;go_wp2;go_ret;exact ⟨rfl,Below.refl _ _⟩
theorem y9V (h:LbH w L p xv fl rtl dec) (hx:Sk .i32 w xv X):Calls Tryz.prog 48 #[.pointer (some ⟨L,0,none⟩)] w (IntB w (x2d (Lb.flg fl 8 && X.any fun c=>decide (c<128) && !Lb.ldh c) 256)):=by
 have ar:∀ (fn:Fn) (first cap:Array Value) (w:World),(Instr.makeFunc fn first cap).run Tryz.prog w=.ok (.func fn first cap) w:=fun _ _ _ _=>rfl;have x1:=h.c1;have K:=Hd (y8a 85 #[] #[] enters_std18 (fun c=>decide (c<128) && !Lb.ldh c) xv X w hx fun k _ W _=>y9g (X.getD k 0) W);have KH:=Hd (y0Q h 8);have KW:=Hd (fun b W=>x3f b 256 W);obtain ⟨ao,cap,rfl,_,_⟩:=hx.shape;have af:Below w.heap.size w w:=Below.refl _ _;clear h hx;generalize (X.any fun c=>decide (c<128) && !Lb.ldh c)=c at *;generalize Lb.flg fl 8=f at *;cases f
 ·go_enter Tryz.func48,Tryz.ntmps48
  go_wp2_with (first | (refine (Uh KH).mono ?_; rintro e w1 ⟨rfl,rfl⟩) | (refine ((Uh KW) _ _).mono ?_; rintro e w1 ⟨rfl,rfl⟩));go_ret;exact ⟨rfl,af⟩
 ·go_enter Tryz.func48,Tryz.ntmps48
  go_wp2_with (first | (refine (Uh KH).mono ?_; rintro e w1 ⟨rfl,rfl⟩) | (refine (Uh K).mono ?_; rintro e w2 ⟨rfl,b2⟩) | (refine ((Uh KW) _ _).mono ?_; rintro e w1 ⟨rfl,rfl⟩));go_ret;exact ⟨rfl,b2⟩
end
namespace Lb
variable {o:Of} {fl:Int} {dec rtl:Bool} {X:List Int}
def part (o:Of) (fl:Int) (rtl dec:Bool) (X:List Int):Nat→Nat
 | 0=>if (!o.nf)=true then 4 else 0
 | 1=>if (flg fl 1 && hyp X)=true then 8 else 0
 | 2=>if (!flg fl 1 && coded X)=true then 16 else 0
 | 3=>if (X.any fun c=>decide (46=c))=true then 32 else 0
 | 4=>if o.mrk (X.getD 0 0)=true then 64 else 0
 | 5=>if X.any (bst o fl dec)=true then 128 else 0
 | 6=>if (flg fl 8 && X.any fun c=>decide (c<128) && !ldh c)=true then 256 else 0
 | 7=>if (flg fl 4 && o.jn)=true then 512 else 0
 | 8=>if ((flg fl 2 && rtl) && o.bi)=true then 1024 else 0
 | _=>0
def acc (f:Nat→Nat):Nat→Nat
 | 0=>0
 | k+1=>acc f k ||| f k
theorem y3W (k:Nat):part o fl rtl dec X k<2 ^ 11:=by
 unfold part
 split <;> first | exact x2g (by decide) (by decide) | decide
theorem x6Z:∀ k,acc (part o fl rtl dec X) k<2 ^ 11
 | 0=>by show 0<2 ^ 11; decide
 | k+1=>Nat.or_lt_two_pow (x6Z k) (y3W k)
theorem y3M (i:Nat):(num o fl dec X).testBit i=((if (X.any fun c=>decide (46=c))=true then 32 else 0) ||| (if X.any (bst o fl dec)=true then 128 else 0) ||| (if (flg fl 8 && X.any fun c=>decide (c<128) && !ldh c)=true then 256 else 0)).testBit i:=by
 rw [x8S,Nat.testBit_or,Nat.testBit_or,x1w,x1w,x1w];simp only [Bool.decide_eq_true]
 induction X with
 | nil=>simp
 | cons c l ih =>
  rw [List.any_cons,ih];unfold nb;rw [Nat.testBit_or,Nat.testBit_or,x1w,x1w,x1w];have e1:decide (c=46)=decide (46=c):=(by simp [eq_comm]);rw [e1];unfold std;simp only [List.any_cons,Bool.decide_eq_true];simp only [Bool.and_or_distrib_left,Bool.and_or_distrib_right];ac_rfl
theorem y7E:acc (part o fl rtl dec X) 9=chk o fl rtl dec X:=by
 unfold chk hd;rw [Nat.eq_of_testBit_eq y3M];simp only [acc,part];cases e:flg fl 1
 ·simp only [Bool.false_and,Bool.not_false,Bool.true_and,Nat.zero_or,Nat.or_zero,Bool.false_eq_true,if_false,Bool.and_assoc]
  generalize (if (X.any fun c=>decide (46=c))=true then 32 else 0)=a1;cases o.nf <;> simp only [Bool.not_false,Bool.not_true,if_true,if_false,Bool.false_eq_true,Nat.zero_or] <;> ac_rfl
 ·simp only [Bool.false_and,Bool.not_true,Bool.true_and,Nat.zero_or,Nat.or_zero,Bool.false_eq_true,if_false,if_true,Bool.and_assoc]
  cases o.nf <;> simp only [Bool.not_false,Bool.not_true,if_true,if_false,Bool.false_eq_true,Nat.zero_or] <;> ac_rfl
end Lb
end Go.Proofs.YtkglkajjofidoaaGreatDoor
