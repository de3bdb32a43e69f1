/- TbM7 TbO7 TbP7 TbQ7 -/
import Derived.Test.YtkglkajjofidoaaGreatDoorV13
import Derived.Deep.QuietTactic
import Derived.BigQuiet
set_option maxHeartbeats 8000000
set_option maxRecDepth 20000
namespace Go.Proofs.YtkglkajjofidoaaGreatDoor
open Go.Proofs.Tryz
open Go.RowKit
def plB (r:Rec):Bool:=if r.kind=4 then shiftB r else if r.kind=5\/r.kind=7\/r.kind=8\/r.kind=13 then decide (r.lo=r.hi) && Cn.scalar r.lo else if r.kind=15 then decide (r.lo=0/\r.hi=0) else spanB r
def okB (r:Rec):Bool:=plB r && (tarB r.kind r && (numB r.kind r && (namB r.kind r && weiB r.kind r)))
theorem len_nil {l:List Int} (h:l.length=0):l.all Cn.scalar=true:=by
 cases l with
 | nil=>rfl
 | cons a b=>simp at h
theorem x0P {k:Int} {n:Nat} (h:k=n) (hn:n<16):Cn.rowK k=Cn.rowT n:=by
 subst h;unfold Cn.rowK;rw [if_neg (by omega),Int.toNat_natCast]
theorem x1s {r:Rec} {q:Row9} (e:Cn.rowK r.kind=q) (h1:q.least=0) (h2:q.most=0):tarB r.kind r=decide (r.to.length=0):=by
 unfold tarB;rw [e,h1,h2,Bool.eq_iff_iff,Bool.and_eq_true,decide_eq_true_eq,decide_eq_true_eq];constructor
 ·rintro ⟨h,_⟩; omega
 ·intro h; exact ⟨by omega,len_nil h⟩
theorem x2w {r:Rec} {q:Row9} {a b:Nat} (e:Cn.rowK r.kind=q) (h1:q.least=a) (h2:q.most=b):tarB r.kind r=Cn.list r.to a b:=by
 unfold tarB Cn.list;rw [e,h1,h2];congr 1;rw [decide_eq_decide];omega
theorem x0U {r:Rec} {q:Row9} (e:Cn.rowK r.kind=q) (h1:q.low=0) (h2:q.high=0):numB r.kind r=decide (r.n=0):=by
 unfold numB;rw [e,h1,h2,decide_eq_decide];omega
theorem x6t {r:Rec} {q:Row9} {a b:Int} (e:Cn.rowK r.kind=q) (h1:q.low=a) (h2:q.high=b):numB r.kind r=decide (a<=r.n/\r.n<=b):=by
 unfold numB;rw [e,h1,h2]
theorem x0y {r:Rec} {q:Row9} (e:Cn.rowK r.kind=q) (h1:q.scr=0):namB r.kind r=(decide (r.name.size=0) && decide (r.other.size=0)):=by
 unfold namB;rw [e,h1,if_neg (by decide),if_neg (by decide)]
theorem x0G {r:Rec} {q:Row9} (e:Cn.rowK r.kind=q) (h1:q.wei=false):weiB r.kind r=decide (r.wt=0):=by
 unfold weiB;rw [e,h1,if_neg (by decide)]
theorem x0Y (r:Rec):decide (0<=r.lo/\r.lo<=r.hi/\r.hi<=1114111)=spanB r:=by
 unfold spanB;rw [decide_eq_decide];omega
theorem y7G {r:Rec} (hl:Cn.list r.to 1 1=true) (hs:spanB r=true):decide (r.to.getD 0 0+r.hi - r.lo<=1114111/\(r.to.getD 0 0+r.hi - r.lo<55296\/57343<r.to.getD 0 0))=shiftB r:=by
 obtain ⟨h1,h2⟩:(1<=r.to.length/\r.to.length<=1)/\r.to.all Cn.scalar=true:=by
  unfold Cn.list at hl;rw [Bool.and_eq_true] at hl;exact ⟨o0d hl.1,hl.2⟩
 obtain ⟨a,ha⟩:∃ a,r.to=[a]:=List.length_eq_one_iff.1 (by omega);have aE:0<=r.lo/\r.lo<=1114111/\0<=r.hi/\r.hi<=1114111/\r.lo<=r.hi:=o0d hs;have aH:Cn.scalar a=true:=(by rw [ha] at h2; simpa using h2);have hsc2:0<=a/\a<=1114111/\¬ (55296<=a/\a<=57343):=o0d aH;unfold shiftB;rw [hs,ha];show decide (a+r.hi - r.lo<=1114111/\(a+r.hi - r.lo<55296\/57343<a))=(true && (decide (1=1) && (Cn.scalar a && (Cn.scalar (a+r.hi - r.lo) && (decide (a<55296)==decide (a+r.hi - r.lo<55296))))));rw [aH];have hab:a<=a+r.hi - r.lo:=(by omega);generalize a+r.hi - r.lo=b at *;simp only [Bool.true_and,decide_true];unfold Cn.scalar;rw [Bool.eq_iff_iff,Bool.and_eq_true,decide_eq_true_eq,decide_eq_true_eq,beq_iff_eq,decide_eq_decide];omega
theorem x3o (r:Rec) (b:Bool):(spanB r && (decide (r.lo=r.hi) && Cn.scalar r.lo && b))=(decide (r.lo=r.hi) && Cn.scalar r.lo && b):=by
 by_cases h:r.lo=r.hi
 ·cases hs:Cn.scalar r.lo with
  | false=>simp
  | true =>
   have:0<=r.lo/\r.lo<=1114111/\¬ (55296<=r.lo/\r.lo<=57343):=o0d hs;have hp:spanB r=true:=d0t (by omega);rw [hp];simp
 ·rw [d0f h];simp
theorem y2u (r:Rec) (h:spanB r=false):shiftB r=false:=by
 unfold shiftB;rw [h];rfl
theorem z1Z {r:Rec} (h:r.kind=1):Cn.right r=if okB r=true then 0 else 61:=by
 have e:Cn.rowK r.kind=Cn.rowT 1:=x0P h (by decide);have aa:¬ Cn.fam r.kind=0:=(by rw [h]; decide);have e1:=x1s e rfl rfl;have e2:=x0U e rfl rfl;have e3:=x0y e rfl;have e4:=x0G e rfl;have e5:plB r=(spanB r):=(by unfold plB; rw [if_neg (by omega),if_neg (by omega),if_neg (by omega)]);unfold okB;rw [e1,e2,e3,e4,e5];unfold Cn.right;rw [if_neg aa];rw [if_neg (show ¬ r.kind=15 by omega)];rw [if_pos (show r.kind=1\/r.kind=2\/r.kind=11 by omega)];rw [x0Y];unfold Cn.bare;have ah:∀ x y:Bool,x=y->(if x=true then (0:Int) else 61)=if y=true then 0 else 61:=fun x y hxy=>(by rw [hxy]);refine ah _ _ ?_;generalize spanB r=v0;generalize decide (r.n=0)=v1;generalize decide (r.to.length=0)=v2;generalize decide (r.name.size=0)=v3;generalize decide (r.other.size=0)=v4;generalize decide (r.wt=0)=v5;cases v0 <;> cases v1 <;> cases v2 <;> cases v3 <;> cases v4 <;> cases v5 <;> rfl
theorem z2a {r:Rec} (h:r.kind=2):Cn.right r=if okB r=true then 0 else 61:=by
 have e:Cn.rowK r.kind=Cn.rowT 2:=x0P h (by decide);have aa:¬ Cn.fam r.kind=0:=(by rw [h]; decide);have e1:=x1s e rfl rfl;have e2:=x0U e rfl rfl;have e3:=x0y e rfl;have e4:=x0G e rfl;have e5:plB r=(spanB r):=(by unfold plB; rw [if_neg (by omega),if_neg (by omega),if_neg (by omega)]);unfold okB;rw [e1,e2,e3,e4,e5];unfold Cn.right;rw [if_neg aa];rw [if_neg (show ¬ r.kind=15 by omega)];rw [if_pos (show r.kind=1\/r.kind=2\/r.kind=11 by omega)];rw [x0Y];unfold Cn.bare;have ah:∀ x y:Bool,x=y->(if x=true then (0:Int) else 61)=if y=true then 0 else 61:=fun x y hxy=>(by rw [hxy]);refine ah _ _ ?_;generalize spanB r=v0;generalize decide (r.n=0)=v1;generalize decide (r.to.length=0)=v2;generalize decide (r.name.size=0)=v3;generalize decide (r.other.size=0)=v4;generalize decide (r.wt=0)=v5;cases v0 <;> cases v1 <;> cases v2 <;> cases v3 <;> cases v4 <;> cases v5 <;> rfl
theorem z2b {r:Rec} (h:r.kind=3):Cn.right r=if okB r=true then 0 else 61:=by
 have e:Cn.rowK r.kind=Cn.rowT 3:=x0P h (by decide);have aa:¬ Cn.fam r.kind=0:=(by rw [h]; decide);have e1:=x2w (a:=1) (b:=24) e rfl rfl;have e2:=x0U e rfl rfl;have e3:=x0y e rfl;have e4:=x0G e rfl;have e5:plB r=(spanB r):=(by unfold plB; rw [if_neg (by omega),if_neg (by omega),if_neg (by omega)]);unfold okB;rw [e1,e2,e3,e4,e5];unfold Cn.right;rw [if_neg aa];rw [if_neg (show ¬ r.kind=15 by omega)];rw [if_neg (show ¬ (r.kind=1\/r.kind=2\/r.kind=11) by omega)];rw [if_pos (show r.kind=3 by omega)];rw [x0Y];unfold Cn.bare;have ah:∀ x y:Bool,x=y->(if x=true then (0:Int) else 61)=if y=true then 0 else 61:=fun x y hxy=>(by rw [hxy]);refine ah _ _ ?_;generalize spanB r=v0;generalize decide (r.n=0)=v1;generalize Cn.list r.to 1 24=v2;generalize decide (r.to.length=0)=v3;generalize decide (r.name.size=0)=v4;generalize decide (r.other.size=0)=v5;generalize decide (r.wt=0)=v6;cases v0 <;> cases v1 <;> cases v2 <;> cases v3 <;> cases v4 <;> cases v5 <;> cases v6 <;> rfl
theorem z2c {r:Rec} (h:r.kind=4):Cn.right r=if okB r=true then 0 else 61:=by
 have e:Cn.rowK r.kind=Cn.rowT 4:=x0P h (by decide);have aa:¬ Cn.fam r.kind=0:=(by rw [h]; decide);have e1:=x2w (a:=1) (b:=1) e rfl rfl;have e2:=x6t (a:=1) (b:=64) e rfl rfl;have e3:=x0y e rfl;have e4:=x0G e rfl;have e5:plB r=(shiftB r):=(by unfold plB; rw [if_pos h]);unfold okB;rw [e1,e2,e3,e4,e5];unfold Cn.right;rw [if_neg aa];rw [if_neg (show ¬ r.kind=15 by omega)];rw [if_neg (show ¬ (r.kind=1\/r.kind=2\/r.kind=11) by omega)];rw [if_neg (show ¬ (r.kind=3) by omega)];rw [if_pos (show r.kind=4 by omega)];rw [x0Y];unfold Cn.bare;have ah:∀ x y:Bool,x=y->(if x=true then (0:Int) else 61)=if y=true then 0 else 61:=fun x y hxy=>(by rw [hxy]);refine ah _ _ ?_
 cases aE:spanB r with
 | false=>rw [y2u r aE]; rfl
 | true =>
  cases hl:Cn.list r.to 1 1 with
  | false=>simp
  | true =>
   rw [y7G hl aE];generalize shiftB r=v0;generalize decide (1<=r.n/\r.n<=64)=v1;generalize decide (r.name.size=0)=v2;generalize decide (r.other.size=0)=v3;generalize decide (r.wt=0)=v4;generalize decide (r.n=0)=v5;generalize decide (r.to.length=0)=v6;cases v0 <;> cases v1 <;> cases v2 <;> cases v3 <;> cases v4 <;> cases v5 <;> cases v6 <;> rfl
theorem z2d {r:Rec} (h:r.kind=5):Cn.right r=if okB r=true then 0 else 61:=by
 have e:Cn.rowK r.kind=Cn.rowT 5:=x0P h (by decide);have aa:¬ Cn.fam r.kind=0:=(by rw [h]; decide);have e1:=x2w (a:=0) (b:=24) e rfl rfl;have e2:=x0U e rfl rfl;have e3:=x0y e rfl;have e4:=x0G e rfl;have e5:plB r=(decide (r.lo=r.hi) && Cn.scalar r.lo):=(by unfold plB; rw [if_neg (by omega),if_pos (by omega)]);unfold okB;rw [e1,e2,e3,e4,e5];unfold Cn.right;rw [if_neg aa];rw [if_neg (show ¬ r.kind=15 by omega)];rw [if_neg (show ¬ (r.kind=1\/r.kind=2\/r.kind=11) by omega)];rw [if_neg (show ¬ (r.kind=3) by omega)];rw [if_neg (show ¬ (r.kind=4) by omega)];rw [if_pos (show r.kind=5 by omega)];rw [x0Y];unfold Cn.bare;have ah:∀ x y:Bool,x=y->(if x=true then (0:Int) else 61)=if y=true then 0 else 61:=fun x y hxy=>(by rw [hxy]);refine ah _ _ ?_;have hs:=x3o r (((false || decide (r.n=0)) && (true || decide (r.to.length=0)) && (false || decide (r.name.size=0)) && (false || decide (r.other.size=0)) && (false || decide (r.wt=0))) && Cn.list r.to 0 24);revert hs;generalize spanB r=v0;generalize decide (r.lo=r.hi)=v1;generalize Cn.scalar r.lo=v2;generalize decide (r.n=0)=v3;generalize Cn.list r.to 0 24=v4;generalize decide (r.to.length=0)=v5;generalize decide (r.name.size=0)=v6;generalize decide (r.other.size=0)=v7;generalize decide (r.wt=0)=v8;cases v0 <;> cases v1 <;> cases v2 <;> cases v3 <;> cases v4 <;> cases v5 <;> cases v6 <;> cases v7 <;> cases v8 <;> decide
theorem z2e {r:Rec} (h:r.kind=6):Cn.right r=if okB r=true then 0 else 61:=by
 have e:Cn.rowK r.kind=Cn.rowT 6:=x0P h (by decide);have aa:¬ Cn.fam r.kind=0:=(by rw [h]; decide);have e1:=x1s e rfl rfl;have e2:=x6t (a:=1) (b:=254) e rfl rfl;have e3:=x0y e rfl;have e4:=x0G e rfl;have e5:plB r=(spanB r):=(by unfold plB; rw [if_neg (by omega),if_neg (by omega),if_neg (by omega)]);unfold okB;rw [e1,e2,e3,e4,e5];unfold Cn.right;rw [if_neg aa];rw [if_neg (show ¬ r.kind=15 by omega)];rw [if_neg (show ¬ (r.kind=1\/r.kind=2\/r.kind=11) by omega)];rw [if_neg (show ¬ (r.kind=3) by omega)];rw [if_neg (show ¬ (r.kind=4) by omega)];rw [if_neg (show ¬ (r.kind=5) by omega)];rw [if_neg (show ¬ (r.kind=13) by omega)];rw [if_pos (show r.kind=6 by omega)];rw [x0Y];unfold Cn.bare;have ah:∀ x y:Bool,x=y->(if x=true then (0:Int) else 61)=if y=true then 0 else 61:=fun x y hxy=>(by rw [hxy]);refine ah _ _ ?_;generalize spanB r=v0;generalize decide (1<=r.n/\r.n<=254)=v1;generalize decide (r.n=0)=v2;generalize decide (r.to.length=0)=v3;generalize decide (r.name.size=0)=v4;generalize decide (r.other.size=0)=v5;generalize decide (r.wt=0)=v6;cases v0 <;> cases v1 <;> cases v2 <;> cases v3 <;> cases v4 <;> cases v5 <;> cases v6 <;> rfl
theorem z2f {r:Rec} (h:r.kind=7):Cn.right r=if okB r=true then 0 else 61:=by
 have e:Cn.rowK r.kind=Cn.rowT 7:=x0P h (by decide);have aa:¬ Cn.fam r.kind=0:=(by rw [h]; decide);have e1:=x2w (a:=2) (b:=2) e rfl rfl;have e2:=x0U e rfl rfl;have e3:=x0y e rfl;have e4:=x0G e rfl;have e5:plB r=(decide (r.lo=r.hi) && Cn.scalar r.lo):=(by unfold plB; rw [if_neg (by omega),if_pos (by omega)]);unfold okB;rw [e1,e2,e3,e4,e5];unfold Cn.right;rw [if_neg aa];rw [if_neg (show ¬ r.kind=15 by omega)];rw [if_neg (show ¬ (r.kind=1\/r.kind=2\/r.kind=11) by omega)];rw [if_neg (show ¬ (r.kind=3) by omega)];rw [if_neg (show ¬ (r.kind=4) by omega)];rw [if_neg (show ¬ (r.kind=5) by omega)];rw [if_neg (show ¬ (r.kind=13) by omega)];rw [if_neg (show ¬ (r.kind=6) by omega)];rw [if_pos (show r.kind=7 by omega)];rw [x0Y];unfold Cn.bare;have ah:∀ x y:Bool,x=y->(if x=true then (0:Int) else 61)=if y=true then 0 else 61:=fun x y hxy=>(by rw [hxy]);refine ah _ _ ?_;have hs:=x3o r (((false || decide (r.n=0)) && (true || decide (r.to.length=0)) && (false || decide (r.name.size=0)) && (false || decide (r.other.size=0)) && (false || decide (r.wt=0))) && Cn.list r.to 2 2);revert hs;generalize spanB r=v0;generalize decide (r.lo=r.hi)=v1;generalize Cn.scalar r.lo=v2;generalize decide (r.n=0)=v3;generalize Cn.list r.to 2 2=v4;generalize decide (r.to.length=0)=v5;generalize decide (r.name.size=0)=v6;generalize decide (r.other.size=0)=v7;generalize decide (r.wt=0)=v8;cases v0 <;> cases v1 <;> cases v2 <;> cases v3 <;> cases v4 <;> cases v5 <;> cases v6 <;> cases v7 <;> cases v8 <;> decide
theorem z2g {r:Rec} (h:r.kind=8):Cn.right r=if okB r=true then 0 else 61:=by
 have e:Cn.rowK r.kind=Cn.rowT 8:=x0P h (by decide);have aa:¬ Cn.fam r.kind=0:=(by rw [h]; decide);have e1:=x2w (a:=1) (b:=2) e rfl rfl;have e2:=x0U e rfl rfl;have e3:=x0y e rfl;have e4:=x0G e rfl;have e5:plB r=(decide (r.lo=r.hi) && Cn.scalar r.lo):=(by unfold plB; rw [if_neg (by omega),if_pos (by omega)]);unfold okB;rw [e1,e2,e3,e4,e5];unfold Cn.right;rw [if_neg aa];rw [if_neg (show ¬ r.kind=15 by omega)];rw [if_neg (show ¬ (r.kind=1\/r.kind=2\/r.kind=11) by omega)];rw [if_neg (show ¬ (r.kind=3) by omega)];rw [if_neg (show ¬ (r.kind=4) by omega)];rw [if_neg (show ¬ (r.kind=5) by omega)];rw [if_neg (show ¬ (r.kind=13) by omega)];rw [if_neg (show ¬ (r.kind=6) by omega)];rw [if_neg (show ¬ (r.kind=7) by omega)];rw [if_pos (show r.kind=8 by omega)];rw [x0Y];unfold Cn.bare;have ah:∀ x y:Bool,x=y->(if x=true then (0:Int) else 61)=if y=true then 0 else 61:=fun x y hxy=>(by rw [hxy]);refine ah _ _ ?_;have hs:=x3o r (((false || decide (r.n=0)) && (true || decide (r.to.length=0)) && (false || decide (r.name.size=0)) && (false || decide (r.other.size=0)) && (false || decide (r.wt=0))) && Cn.list r.to 1 2);revert hs;generalize spanB r=v0;generalize decide (r.lo=r.hi)=v1;generalize Cn.scalar r.lo=v2;generalize decide (r.n=0)=v3;generalize Cn.list r.to 1 2=v4;generalize decide (r.to.length=0)=v5;generalize decide (r.name.size=0)=v6;generalize decide (r.other.size=0)=v7;generalize decide (r.wt=0)=v8;cases v0 <;> cases v1 <;> cases v2 <;> cases v3 <;> cases v4 <;> cases v5 <;> cases v6 <;> cases v7 <;> cases v8 <;> decide
theorem z2h {r:Rec} (h:r.kind=9):Cn.right r=if okB r=true then 0 else 61:=by
 have e:Cn.rowK r.kind=Cn.rowT 9:=x0P h (by decide);have aa:¬ Cn.fam r.kind=0:=(by rw [h]; decide);have e1:=x1s e rfl rfl;have e2:=x6t (a:=0) (b:=10) e rfl rfl;have e3:=x0y e rfl;have e4:=x0G e rfl;have e5:plB r=(spanB r):=(by unfold plB; rw [if_neg (by omega),if_neg (by omega),if_neg (by omega)]);unfold okB;rw [e1,e2,e3,e4,e5];unfold Cn.right;rw [if_neg aa];rw [if_neg (show ¬ r.kind=15 by omega)];rw [if_neg (show ¬ (r.kind=1\/r.kind=2\/r.kind=11) by omega)];rw [if_neg (show ¬ (r.kind=3) by omega)];rw [if_neg (show ¬ (r.kind=4) by omega)];rw [if_neg (show ¬ (r.kind=5) by omega)];rw [if_neg (show ¬ (r.kind=13) by omega)];rw [if_neg (show ¬ (r.kind=6) by omega)];rw [if_neg (show ¬ (r.kind=7) by omega)];rw [if_neg (show ¬ (r.kind=8) by omega)];rw [if_pos (show r.kind=9 by omega)];rw [x0Y];unfold Cn.bare;have ah:∀ x y:Bool,x=y->(if x=true then (0:Int) else 61)=if y=true then 0 else 61:=fun x y hxy=>(by rw [hxy]);refine ah _ _ ?_;generalize spanB r=v0;generalize decide (0<=r.n/\r.n<=10)=v1;generalize decide (r.n=0)=v2;generalize decide (r.to.length=0)=v3;generalize decide (r.name.size=0)=v4;generalize decide (r.other.size=0)=v5;generalize decide (r.wt=0)=v6;cases v0 <;> cases v1 <;> cases v2 <;> cases v3 <;> cases v4 <;> cases v5 <;> cases v6 <;> rfl
theorem z0l {r:Rec} (h:r.kind=10):Cn.right r=if okB r=true then 0 else 61:=by
 have e:Cn.rowK r.kind=Cn.rowT 10:=x0P h (by decide);have aa:¬ Cn.fam r.kind=0:=(by rw [h]; decide);have e1:=x1s e rfl rfl;have e2:=x6t (a:=0) (b:=5) e rfl rfl;have e3:=x0y e rfl;have e4:=x0G e rfl;have e5:plB r=(spanB r):=(by unfold plB; rw [if_neg (by omega),if_neg (by omega),if_neg (by omega)]);unfold okB;rw [e1,e2,e3,e4,e5];unfold Cn.right;rw [if_neg aa];rw [if_neg (show ¬ r.kind=15 by omega)];rw [if_neg (show ¬ (r.kind=1\/r.kind=2\/r.kind=11) by omega)];rw [if_neg (show ¬ (r.kind=3) by omega)];rw [if_neg (show ¬ (r.kind=4) by omega)];rw [if_neg (show ¬ (r.kind=5) by omega)];rw [if_neg (show ¬ (r.kind=13) by omega)];rw [if_neg (show ¬ (r.kind=6) by omega)];rw [if_neg (show ¬ (r.kind=7) by omega)];rw [if_neg (show ¬ (r.kind=8) by omega)];rw [if_neg (show ¬ (r.kind=9) by omega)];rw [if_pos (show r.kind=10 by omega)];rw [x0Y];unfold Cn.bare;have ah:∀ x y:Bool,x=y->(if x=true then (0:Int) else 61)=if y=true then 0 else 61:=fun x y hxy=>(by rw [hxy]);refine ah _ _ ?_;generalize spanB r=v0;generalize decide (0<=r.n/\r.n<=5)=v1;generalize decide (r.n=0)=v2;generalize decide (r.to.length=0)=v3;generalize decide (r.name.size=0)=v4;generalize decide (r.other.size=0)=v5;generalize decide (r.wt=0)=v6;cases v0 <;> cases v1 <;> cases v2 <;> cases v3 <;> cases v4 <;> cases v5 <;> cases v6 <;> rfl
theorem z0m {r:Rec} (h:r.kind=11):Cn.right r=if okB r=true then 0 else 61:=by
 have e:Cn.rowK r.kind=Cn.rowT 11:=x0P h (by decide);have aa:¬ Cn.fam r.kind=0:=(by rw [h]; decide);have e1:=x1s e rfl rfl;have e2:=x0U e rfl rfl;have e3:=x0y e rfl;have e4:=x0G e rfl;have e5:plB r=(spanB r):=(by unfold plB; rw [if_neg (by omega),if_neg (by omega),if_neg (by omega)]);unfold okB;rw [e1,e2,e3,e4,e5];unfold Cn.right;rw [if_neg aa];rw [if_neg (show ¬ r.kind=15 by omega)];rw [if_pos (show r.kind=1\/r.kind=2\/r.kind=11 by omega)];rw [x0Y];unfold Cn.bare;have ah:∀ x y:Bool,x=y->(if x=true then (0:Int) else 61)=if y=true then 0 else 61:=fun x y hxy=>(by rw [hxy]);refine ah _ _ ?_;generalize spanB r=v0;generalize decide (r.n=0)=v1;generalize decide (r.to.length=0)=v2;generalize decide (r.name.size=0)=v3;generalize decide (r.other.size=0)=v4;generalize decide (r.wt=0)=v5;cases v0 <;> cases v1 <;> cases v2 <;> cases v3 <;> cases v4 <;> cases v5 <;> rfl
theorem z0n {r:Rec} (h:r.kind=12):Cn.right r=if okB r=true then 0 else 61:=by
 have e:Cn.rowK r.kind=Cn.rowT 12:=x0P h (by decide);have aa:¬ Cn.fam r.kind=0:=(by rw [h]; decide);have e1:=x1s e rfl rfl;have e2:=x0U e rfl rfl;have e3:namB r.kind r=(Cn.nameL r.name && decide (r.other.size=0)):=(by unfold namB; rw [e]; exact if_pos rfl);have e4:=x0G e rfl;have e5:plB r=(spanB r):=(by unfold plB; rw [if_neg (by omega),if_neg (by omega),if_neg (by omega)]);unfold okB;rw [e1,e2,e3,e4,e5];unfold Cn.right;rw [if_neg aa];rw [if_neg (show ¬ r.kind=15 by omega)];rw [if_neg (show ¬ (r.kind=1\/r.kind=2\/r.kind=11) by omega)];rw [if_neg (show ¬ (r.kind=3) by omega)];rw [if_neg (show ¬ (r.kind=4) by omega)];rw [if_neg (show ¬ (r.kind=5) by omega)];rw [if_neg (show ¬ (r.kind=13) by omega)];rw [if_neg (show ¬ (r.kind=6) by omega)];rw [if_neg (show ¬ (r.kind=7) by omega)];rw [if_neg (show ¬ (r.kind=8) by omega)];rw [if_neg (show ¬ (r.kind=9) by omega)];rw [if_neg (show ¬ (r.kind=10) by omega)];rw [if_pos (show r.kind=12 by omega)];rw [x0Y];unfold Cn.bare;have ah:∀ x y:Bool,x=y->(if x=true then (0:Int) else 61)=if y=true then 0 else 61:=fun x y hxy=>(by rw [hxy]);refine ah _ _ ?_;generalize spanB r=v0;generalize decide (r.n=0)=v1;generalize decide (r.to.length=0)=v2;generalize Cn.nameL r.name=v3;generalize decide (r.name.size=0)=v4;generalize decide (r.other.size=0)=v5;generalize decide (r.wt=0)=v6;cases v0 <;> cases v1 <;> cases v2 <;> cases v3 <;> cases v4 <;> cases v5 <;> cases v6 <;> rfl
theorem z0o {r:Rec} (h:r.kind=13):Cn.right r=if okB r=true then 0 else 61:=by
 have e:Cn.rowK r.kind=Cn.rowT 13:=x0P h (by decide);have aa:¬ Cn.fam r.kind=0:=(by rw [h]; decide);have e1:=x2w (a:=1) (b:=24) e rfl rfl;have e2:=x0U e rfl rfl;have e3:=x0y e rfl;have e4:=x0G e rfl;have e5:plB r=(decide (r.lo=r.hi) && Cn.scalar r.lo):=(by unfold plB; rw [if_neg (by omega),if_pos (by omega)]);unfold okB;rw [e1,e2,e3,e4,e5];unfold Cn.right;rw [if_neg aa];rw [if_neg (show ¬ r.kind=15 by omega)];rw [if_neg (show ¬ (r.kind=1\/r.kind=2\/r.kind=11) by omega)];rw [if_neg (show ¬ (r.kind=3) by omega)];rw [if_neg (show ¬ (r.kind=4) by omega)];rw [if_neg (show ¬ (r.kind=5) by omega)];rw [if_pos (show r.kind=13 by omega)];rw [x0Y];unfold Cn.bare;have ah:∀ x y:Bool,x=y->(if x=true then (0:Int) else 61)=if y=true then 0 else 61:=fun x y hxy=>(by rw [hxy]);refine ah _ _ ?_;have hs:=x3o r (((false || decide (r.n=0)) && (true || decide (r.to.length=0)) && (false || decide (r.name.size=0)) && (false || decide (r.other.size=0)) && (false || decide (r.wt=0))) && Cn.list r.to 1 24);revert hs;generalize spanB r=v0;generalize decide (r.lo=r.hi)=v1;generalize Cn.scalar r.lo=v2;generalize decide (r.n=0)=v3;generalize Cn.list r.to 1 24=v4;generalize decide (r.to.length=0)=v5;generalize decide (r.name.size=0)=v6;generalize decide (r.other.size=0)=v7;generalize decide (r.wt=0)=v8;cases v0 <;> cases v1 <;> cases v2 <;> cases v3 <;> cases v4 <;> cases v5 <;> cases v6 <;> cases v7 <;> cases v8 <;> decide
theorem z0p {r:Rec} (h:r.kind=14):Cn.right r=if okB r=true then 0 else 61:=by
 have e:Cn.rowK r.kind=Cn.rowT 14:=x0P h (by decide);have aa:¬ Cn.fam r.kind=0:=(by rw [h]; decide);have e1:=x1s e rfl rfl;have e2:=x0U e rfl rfl;have e3:=x0y e rfl;have e4:weiB r.kind r=Cn.weight r.wt:=(by unfold weiB; rw [e]; exact if_pos rfl);have e5:plB r=(spanB r):=(by unfold plB; rw [if_neg (by omega),if_neg (by omega),if_neg (by omega)]);unfold okB;rw [e1,e2,e3,e4,e5];unfold Cn.right;rw [if_neg aa];rw [if_neg (show ¬ r.kind=15 by omega)];rw [if_neg (show ¬ (r.kind=1\/r.kind=2\/r.kind=11) by omega)];rw [if_neg (show ¬ (r.kind=3) by omega)];rw [if_neg (show ¬ (r.kind=4) by omega)];rw [if_neg (show ¬ (r.kind=5) by omega)];rw [if_neg (show ¬ (r.kind=13) by omega)];rw [if_neg (show ¬ (r.kind=6) by omega)];rw [if_neg (show ¬ (r.kind=7) by omega)];rw [if_neg (show ¬ (r.kind=8) by omega)];rw [if_neg (show ¬ (r.kind=9) by omega)];rw [if_neg (show ¬ (r.kind=10) by omega)];rw [if_neg (show ¬ (r.kind=12) by omega)];rw [x0Y];unfold Cn.bare;have ah:∀ x y:Bool,x=y->(if x=true then (0:Int) else 61)=if y=true then 0 else 61:=fun x y hxy=>(by rw [hxy]);refine ah _ _ ?_;generalize spanB r=v0;generalize decide (r.n=0)=v1;generalize decide (r.to.length=0)=v2;generalize decide (r.name.size=0)=v3;generalize decide (r.other.size=0)=v4;generalize Cn.weight r.wt=v5;generalize decide (r.wt=0)=v6;cases v0 <;> cases v1 <;> cases v2 <;> cases v3 <;> cases v4 <;> cases v5 <;> cases v6 <;> rfl
theorem z0q {r:Rec} (h:r.kind=15):Cn.right r=if okB r=true then 0 else 61:=by
 have e:Cn.rowK r.kind=Cn.rowT 15:=x0P h (by decide);have aa:¬ Cn.fam r.kind=0:=(by rw [h]; decide);have e1:=x1s e rfl rfl;have e2:=x0U e rfl rfl;have e3:namB r.kind r=(Cn.nameL r.name && (Cn.nameL r.other && decide (r.name≠r.other))):=(by unfold namB; rw [e]; exact (if_neg (by decide)).trans (if_pos rfl));have e4:weiB r.kind r=Cn.weight r.wt:=(by unfold weiB; rw [e]; exact if_pos rfl);have e5:plB r=(decide (r.lo=0/\r.hi=0)):=(by unfold plB; rw [if_neg (by omega),if_neg (by omega),if_pos h]);unfold okB;rw [e1,e2,e3,e4,e5];unfold Cn.right;rw [if_neg aa];rw [if_pos h];unfold Cn.bare
 have ah:(r.lo=0/\r.hi=0/\(((false || decide (r.n=0)) && (false || decide (r.to.length=0)) && (true || decide (r.name.size=0)) && (true || decide (r.other.size=0)) && (true || decide (r.wt=0)))=true)/\Cn.nameL r.name=true/\Cn.nameL r.other=true/\r.name≠r.other/\Cn.weight r.wt=true)↔(decide (r.lo=0/\r.hi=0) && (decide (r.to.length=0) && (decide (r.n=0) && ((Cn.nameL r.name && (Cn.nameL r.other && decide (r.name≠r.other))) && Cn.weight r.wt))))=true:=by
  simp only [Bool.and_eq_true,decide_eq_true_eq,Bool.false_or,Bool.true_or,and_true];constructor
  ·rintro ⟨a,b,⟨c,d⟩,e,f,g,i⟩; exact ⟨⟨a,b⟩,d,c,⟨e,f,g⟩,i⟩
  ·rintro ⟨⟨a,b⟩,d,c,⟨e,f,g⟩,i⟩; exact ⟨a,b,⟨c,d⟩,e,f,g,i⟩
 by_cases hq:(decide (r.lo=0/\r.hi=0) && (decide (r.to.length=0) && (decide (r.n=0) && ((Cn.nameL r.name && (Cn.nameL r.other && decide (r.name≠r.other))) && Cn.weight r.wt))))=true
 ·rw [if_pos hq,if_pos (ah.2 hq)]
 ·rw [if_neg hq,if_neg (fun h=>hq (ah.1 h))]
theorem right_eq (r:Rec) (hf:¬ Cn.fam r.kind=0):Cn.right r=if okB r=true then 0 else 61:=by
 have hk:1<=r.kind/\r.kind<=15:=by
  unfold Cn.fam at hf;split at hf
  ·exact absurd rfl hf
  ·omega
 obtain h | h | h | h | h | h | h | h | h | h | h | h | h | h | h:r.kind=1\/r.kind=2\/r.kind=3\/r.kind=4\/r.kind=5\/r.kind=6\/r.kind=7\/r.kind=8\/r.kind=9\/r.kind=10\/r.kind=11\/r.kind=12\/r.kind=13\/r.kind=14\/r.kind=15:=by omega
 ·exact z1Z h
 ·exact z2a h
 ·exact z2b h
 ·exact z2c h
 ·exact z2d h
 ·exact z2e h
 ·exact z2f h
 ·exact z2g h
 ·exact z2h h
 ·exact z0l h
 ·exact z0m h
 ·exact z0n h
 ·exact z0o h
 ·exact z0p h
 ·exact z0q h
theorem x2C (T fp:Nat) (r:Rec) (vt:Value) (w:World)
  (ai:∀ W,Calls prog 154 #[.int .i64 r.kind] W (fun e w'=>e=.returned (.iface T (.agg #[.int .i64 r.kind]))/\Bw W w'))
  (KF:∀ W,Bw w W->Calls prog 156 #[shV r.kind] W (IntB W (Cn.fam r.kind)))
  (m0 : ∀ W, (method 421 T (.agg #[.int .i64 r.kind]) "endonym/table.family").run Tryz.prog W = .ok (156, .agg #[.int .i64 r.kind]) W)
  (m1 : ∀ W, (method 421 T (.agg #[.int .i64 r.kind]) "endonym/table.placed").run Tryz.prog W = .ok (fp, .agg #[.int .i64 r.kind]) W)
  (m2 : ∀ W, (method 421 T (.agg #[.int .i64 r.kind]) "endonym/table.targeted").run Tryz.prog W = .ok (271, .agg #[.int .i64 r.kind]) W)
  (m3 : ∀ W, (method 421 T (.agg #[.int .i64 r.kind]) "endonym/table.numbered").run Tryz.prog W = .ok (268, .agg #[.int .i64 r.kind]) W)
  (m4 : ∀ W, (method 421 T (.agg #[.int .i64 r.kind]) "endonym/table.named").run Tryz.prog W = .ok (266, .agg #[.int .i64 r.kind]) W)
  (m5 : ∀ W, (method 421 T (.agg #[.int .i64 r.kind]) "endonym/table.weighed").run Tryz.prog W = .ok (272, .agg #[.int .i64 r.kind]) W)
  (eg:∀ args W,(callFunc fp args).run prog W=.ok (.enter fp args) W)
  (b1 b2 b3 b4 b5:Bool)
  (K1:∀ W,Bw w W->Calls prog fp #[shV r.kind,recV r vt] W (x0d W b1))
  (K2:∀ W,Bw w W->Calls prog 271 #[shV r.kind,recV r vt] W (x0d W b2))
  (K3:∀ W,Bw w W->Calls prog 268 #[shV r.kind,recV r vt] W (x0d W b3))
  (K4:∀ W,Bw w W->Calls prog 266 #[shV r.kind,recV r vt] W (x0d W b4))
  (K5:∀ W,Bw w W->Calls prog 272 #[shV r.kind,recV r vt] W (x0d W b5))
  : Calls prog 139 #[recV r vt] w (IntB w (if Cn.fam r.kind=0 then 60 else if (b1 && (b2 && (b3 && (b4 && b5))))=true then 0 else 61)):=by
 have ae:Bw w (w.alloc (.cells #[.int .i64 r.kind,.int .i64 r.lo,.int .i64 r.hi,.int .i64 r.n,vt,.string r.name,.string r.other,.float .f64 r.wt] 50)):=(b0r).alloc (l0r _) _
 have HC:Hid (∀ W,Below (w.alloc (.cells #[.int .i64 r.kind,.int .i64 r.lo,.int .i64 r.hi,.int .i64 r.n,vt,.string r.name,.string r.other,.float .f64 r.wt] 50)).heap.size (w.alloc (.cells #[.int .i64 r.kind,.int .i64 r.lo,.int .i64 r.hi,.int .i64 r.n,vt,.string r.name,.string r.other,.float .f64 r.wt] 50)) W->W.cell? ⟨w.heap.size,0,none⟩=some (.int .i64 r.kind)/\W.cell? ⟨w.heap.size,1,none⟩=some (.int .i64 r.lo)/\W.cell? ⟨w.heap.size,2,none⟩=some (.int .i64 r.hi)/\W.cell? ⟨w.heap.size,3,none⟩=some (.int .i64 r.n)/\W.cell? ⟨w.heap.size,4,none⟩=some (vt)/\W.cell? ⟨w.heap.size,5,none⟩=some (.string r.name)/\W.cell? ⟨w.heap.size,6,none⟩=some (.string r.other)/\W.cell? ⟨w.heap.size,7,none⟩=some (.float .f64 r.wt)):=fun W h=>by
  have h0:(w.alloc (.cells #[.int .i64 r.kind,.int .i64 r.lo,.int .i64 r.hi,.int .i64 r.n,vt,.string r.name,.string r.other,.float .f64 r.wt] 50)).heap[w.heap.size]?=some (.cells #[.int .i64 r.kind,.int .i64 r.lo,.int .i64 r.hi,.int .i64 r.n,vt,.string r.name,.string r.other,.float .f64 r.wt] 50 (0,0)):=by
   show (w.heap.push _)[w.heap.size]?=_;simp
  have h2:W.heap[w.heap.size]?=_:=(h.block _ (by simp)).trans h0;exact ⟨cell_of (j:=0) h2 (by simp),cell_of (j:=1) h2 (by simp),cell_of (j:=2) h2 (by simp),cell_of (j:=3) h2 (by simp),cell_of (j:=4) h2 (by simp),cell_of (j:=5) h2 (by simp),cell_of (j:=6) h2 (by simp),cell_of (j:=7) h2 (by simp)⟩
 have ai:=O ai;have KF:=O KF;have K1:=O K1;have K2:=O K2;have K3:=O K3;have K4:=O K4;have K5:=O K5;have mm0:=m0;have mm1:=m1;have mm2:=m2;have mm3:=m3;have mm4:=m4;have mm5:=m5;clear m0 m1 m2 m3 m4 m5;unfold recV shV at *;generalize Cn.fam r.kind=fr at *;generalize r.kind=kd at *;generalize r.n=n at *;generalize r.lo=lo at *;generalize r.hi=hi at *;generalize r.name=nm at *;generalize r.other=ot at *;generalize r.wt=wt at *;by_cases h0:fr=0
 ·subst h0;rw [if_pos rfl];go_enter func139,ntmps139;go_wp2_with fail;refine (V ai _).mono ?_;rintro e w1 ⟨rfl,ac⟩;have hB:=x0b ae ac;have ar:Hid _:=V HC w1 ac;go_wp2_with fail;refine (V KF _ hB).mono ?_;rintro e w2 ⟨rfl,ag⟩;have hA:=x0b ac ag;have hB:=x0b ae hA;have HF:=O hB;clear ai KF K1 K2 K3 K4 K5 HC;go_wp2;go_ret;exact ⟨rfl,V HF⟩
 ·rw [if_neg h0];have q0:(fr==0)=false:=b0f h0
  cases b1 with
  | false =>
   rw [if_neg (by simp)];go_enter func139,ntmps139;go_wp2_with fail;refine (V ai _).mono ?_;rintro e w1 ⟨rfl,ac⟩;have hB:=x0b ae ac;have ar:Hid _:=V HC w1 ac;go_wp2_with fail;refine (V KF _ hB).mono ?_;rintro e w2 ⟨rfl,ag⟩;have hA:=x0b ac ag;have hB:=x0b ae hA;obtain ⟨x0,x1,x2,x3,x4,x5,x6,x7⟩:=V HC _ hA;go_wp2_with fail;refine (V K1 _ hB).mono ?_;rintro e w3 ⟨rfl,al⟩;have hA:=x0b hA al;have hB:=x0b ae hA;clear x0 x1 x2 x3 x4 x5 x6 x7;have HF:=O hB;clear ai KF K1 K2 K3 K4 K5 HC;go_wp2;go_ret;exact ⟨rfl,V HF⟩
  | true =>
   cases b2 with
   | false =>
    rw [if_neg (by simp)];go_enter func139,ntmps139;go_wp2_with fail;refine (V ai _).mono ?_;rintro e w1 ⟨rfl,ac⟩;have hB:=x0b ae ac;have ar:Hid _:=V HC w1 ac;go_wp2_with fail;refine (V KF _ hB).mono ?_;rintro e w2 ⟨rfl,ag⟩;have hA:=x0b ac ag;have hB:=x0b ae hA;obtain ⟨x0,x1,x2,x3,x4,x5,x6,x7⟩:=V HC _ hA;go_wp2_with fail;refine (V K1 _ hB).mono ?_;rintro e w3 ⟨rfl,al⟩;have hA:=x0b hA al;have hB:=x0b ae hA;clear x0 x1 x2 x3 x4 x5 x6 x7;obtain ⟨x0,x1,x2,x3,x4,x5,x6,x7⟩:=V HC _ hA;go_wp2_with fail;refine (V K2 _ hB).mono ?_;rintro e w4 ⟨rfl,an⟩;have hA:=x0b hA an;have hB:=x0b ae hA;clear x0 x1 x2 x3 x4 x5 x6 x7;have HF:=O hB;clear ai KF K1 K2 K3 K4 K5 HC;go_wp2;go_ret;exact ⟨rfl,V HF⟩
   | true =>
    cases b3 with
    | false =>
     rw [if_neg (by simp)];go_enter func139,ntmps139;go_wp2_with fail;refine (V ai _).mono ?_;rintro e w1 ⟨rfl,ac⟩;have hB:=x0b ae ac;have ar:Hid _:=V HC w1 ac;go_wp2_with fail;refine (V KF _ hB).mono ?_;rintro e w2 ⟨rfl,ag⟩;have hA:=x0b ac ag;have hB:=x0b ae hA;obtain ⟨x0,x1,x2,x3,x4,x5,x6,x7⟩:=V HC _ hA;go_wp2_with fail;refine (V K1 _ hB).mono ?_;rintro e w3 ⟨rfl,al⟩;have hA:=x0b hA al;have hB:=x0b ae hA;clear x0 x1 x2 x3 x4 x5 x6 x7;obtain ⟨x0,x1,x2,x3,x4,x5,x6,x7⟩:=V HC _ hA;go_wp2_with fail;refine (V K2 _ hB).mono ?_;rintro e w4 ⟨rfl,an⟩;have hA:=x0b hA an;have hB:=x0b ae hA;clear x0 x1 x2 x3 x4 x5 x6 x7;obtain ⟨x0,x1,x2,x3,x4,x5,x6,x7⟩:=V HC _ hA;go_wp2_with fail;refine (V K3 _ hB).mono ?_;rintro e w5 ⟨rfl,ap⟩;have hA:=x0b hA ap;have hB:=x0b ae hA;clear x0 x1 x2 x3 x4 x5 x6 x7;have HF:=O hB;clear ai KF K1 K2 K3 K4 K5 HC;go_wp2;go_ret;exact ⟨rfl,V HF⟩
    | true =>
     cases b4 with
     | false =>
      rw [if_neg (by simp)];go_enter func139,ntmps139;go_wp2_with fail;refine (V ai _).mono ?_;rintro e w1 ⟨rfl,ac⟩;have hB:=x0b ae ac;have ar:Hid _:=V HC w1 ac;go_wp2_with fail;refine (V KF _ hB).mono ?_;rintro e w2 ⟨rfl,ag⟩;have hA:=x0b ac ag;have hB:=x0b ae hA;obtain ⟨x0,x1,x2,x3,x4,x5,x6,x7⟩:=V HC _ hA;go_wp2_with fail;refine (V K1 _ hB).mono ?_;rintro e w3 ⟨rfl,al⟩;have hA:=x0b hA al;have hB:=x0b ae hA;clear x0 x1 x2 x3 x4 x5 x6 x7;obtain ⟨x0,x1,x2,x3,x4,x5,x6,x7⟩:=V HC _ hA;go_wp2_with fail;refine (V K2 _ hB).mono ?_;rintro e w4 ⟨rfl,an⟩;have hA:=x0b hA an;have hB:=x0b ae hA;clear x0 x1 x2 x3 x4 x5 x6 x7;obtain ⟨x0,x1,x2,x3,x4,x5,x6,x7⟩:=V HC _ hA;go_wp2_with fail;refine (V K3 _ hB).mono ?_;rintro e w5 ⟨rfl,ap⟩;have hA:=x0b hA ap;have hB:=x0b ae hA;clear x0 x1 x2 x3 x4 x5 x6 x7;obtain ⟨x0,x1,x2,x3,x4,x5,x6,x7⟩:=V HC _ hA;go_wp2_with fail;refine (V K4 _ hB).mono ?_;rintro e w6 ⟨rfl,ax⟩;have hA:=x0b hA ax;have hB:=x0b ae hA;clear x0 x1 x2 x3 x4 x5 x6 x7;have HF:=O hB;clear ai KF K1 K2 K3 K4 K5 HC;go_wp2;go_ret;exact ⟨rfl,V HF⟩
     | true =>
      cases b5 with
      | false =>
       rw [if_neg (by simp)];go_enter func139,ntmps139;go_wp2_with fail;refine (V ai _).mono ?_;rintro e w1 ⟨rfl,ac⟩;have hB:=x0b ae ac;have ar:Hid _:=V HC w1 ac;go_wp2_with fail;refine (V KF _ hB).mono ?_;rintro e w2 ⟨rfl,ag⟩;have hA:=x0b ac ag;have hB:=x0b ae hA;obtain ⟨x0,x1,x2,x3,x4,x5,x6,x7⟩:=V HC _ hA;go_wp2_with fail;refine (V K1 _ hB).mono ?_;rintro e w3 ⟨rfl,al⟩;have hA:=x0b hA al;have hB:=x0b ae hA;clear x0 x1 x2 x3 x4 x5 x6 x7;obtain ⟨x0,x1,x2,x3,x4,x5,x6,x7⟩:=V HC _ hA;go_wp2_with fail;refine (V K2 _ hB).mono ?_;rintro e w4 ⟨rfl,an⟩;have hA:=x0b hA an;have hB:=x0b ae hA;clear x0 x1 x2 x3 x4 x5 x6 x7;obtain ⟨x0,x1,x2,x3,x4,x5,x6,x7⟩:=V HC _ hA;go_wp2_with fail;refine (V K3 _ hB).mono ?_;rintro e w5 ⟨rfl,ap⟩;have hA:=x0b hA ap;have hB:=x0b ae hA;clear x0 x1 x2 x3 x4 x5 x6 x7;obtain ⟨x0,x1,x2,x3,x4,x5,x6,x7⟩:=V HC _ hA;go_wp2_with fail;refine (V K4 _ hB).mono ?_;rintro e w6 ⟨rfl,ax⟩;have hA:=x0b hA ax;have hB:=x0b ae hA;clear x0 x1 x2 x3 x4 x5 x6 x7;obtain ⟨x0,x1,x2,x3,x4,x5,x6,x7⟩:=V HC _ hA;go_wp2_with fail;refine (V K5 _ hB).mono ?_;rintro e w7 ⟨rfl,aD⟩;have hA:=x0b hA aD;have hB:=x0b ae hA;clear x0 x1 x2 x3 x4 x5 x6 x7;have HF:=O hB;clear ai KF K1 K2 K3 K4 K5 HC;go_wp2;go_ret;exact ⟨rfl,V HF⟩
      | true =>
       rw [if_pos (by simp)];go_enter func139,ntmps139;go_wp2_with fail;refine (V ai _).mono ?_;rintro e w1 ⟨rfl,ac⟩;have hB:=x0b ae ac;have ar:Hid _:=V HC w1 ac;go_wp2_with fail;refine (V KF _ hB).mono ?_;rintro e w2 ⟨rfl,ag⟩;have hA:=x0b ac ag;have hB:=x0b ae hA;obtain ⟨x0,x1,x2,x3,x4,x5,x6,x7⟩:=V HC _ hA;go_wp2_with fail;refine (V K1 _ hB).mono ?_;rintro e w3 ⟨rfl,al⟩;have hA:=x0b hA al;have hB:=x0b ae hA;clear x0 x1 x2 x3 x4 x5 x6 x7;obtain ⟨x0,x1,x2,x3,x4,x5,x6,x7⟩:=V HC _ hA;go_wp2_with fail;refine (V K2 _ hB).mono ?_;rintro e w4 ⟨rfl,an⟩;have hA:=x0b hA an;have hB:=x0b ae hA;clear x0 x1 x2 x3 x4 x5 x6 x7;obtain ⟨x0,x1,x2,x3,x4,x5,x6,x7⟩:=V HC _ hA;go_wp2_with fail;refine (V K3 _ hB).mono ?_;rintro e w5 ⟨rfl,ap⟩;have hA:=x0b hA ap;have hB:=x0b ae hA;clear x0 x1 x2 x3 x4 x5 x6 x7;obtain ⟨x0,x1,x2,x3,x4,x5,x6,x7⟩:=V HC _ hA;go_wp2_with fail;refine (V K4 _ hB).mono ?_;rintro e w6 ⟨rfl,ax⟩;have hA:=x0b hA ax;have hB:=x0b ae hA;clear x0 x1 x2 x3 x4 x5 x6 x7;obtain ⟨x0,x1,x2,x3,x4,x5,x6,x7⟩:=V HC _ hA;go_wp2_with fail;refine (V K5 _ hB).mono ?_;rintro e w7 ⟨rfl,aD⟩;have hA:=x0b hA aD;have hB:=x0b ae hA;clear x0 x1 x2 x3 x4 x5 x6 x7;have HF:=O hB;clear ai KF K1 K2 K3 K4 K5 HC;go_wp2;go_ret;exact ⟨rfl,V HF⟩
theorem y1D:∀ args w,(callFunc 285 args).run prog w=.ok (.enter 285 args) w:=enters_of func285 (by kernel_rfl) rfl
theorem enters_pl5:∀ args w,(callFunc 289 args).run prog w=.ok (.enter 289 args) w:=enters_of func289 (by kernel_rfl) rfl
theorem enters_pl15:∀ args w,(callFunc 292 args).run prog w=.ok (.enter 292 args) w:=enters_of func292 (by kernel_rfl) rfl
theorem enters_pl1:∀ args w,(callFunc 284 args).run prog w=.ok (.enter 284 args) w:=enters_of func284 (by kernel_rfl) rfl
def RightT:Prop:=∀ (r:Rec) (vt:Value) (w:World),Glob w->RecFit r->Sk .i32 w vt r.to->Calls prog 139 #[recV r vt] w (IntB w (Cn.right r))
theorem y5e:RightT:=by
 intro r vt w hg hf hs
 have e:Cn.right r=if Cn.fam r.kind=0 then 60 else if (plB r && (tarB r.kind r && (numB r.kind r && (namB r.kind r && weiB r.kind r))))=true then 0 else 61:=by
  by_cases h0:Cn.fam r.kind=0
  ·rw [if_pos h0];unfold Cn.right;rw [if_pos h0]
  ·rw [if_neg h0,right_eq r h0];rfl
 rw [e];have KF:∀ W,Bw w W->Calls prog 156 #[shV r.kind] W (IntB W (Cn.fam r.kind)):=fun W h=>x3n r.kind W (hg.on h) hf.kind;have K2:∀ W,Bw w W->Calls prog 271 #[shV r.kind,recV r vt] W (x0d W (tarB r.kind r)):=fun W h=>x8G r.kind r vt W (hg.on h) hf.kind (hs.below h);have K3:∀ W,Bw w W->Calls prog 268 #[shV r.kind,recV r vt] W (x0d W (numB r.kind r)):=fun W h=>x8e r.kind r vt W (hg.on h) hf.kind hf.n;have K4:∀ W,Bw w W->Calls prog 266 #[shV r.kind,recV r vt] W (x0d W (namB r.kind r)):=fun W h=>y4A r.kind r vt W (hg.on h) hf.kind;have K5:∀ W,Bw w W->Calls prog 272 #[shV r.kind,recV r vt] W (x0d W (weiB r.kind r)):=fun W h=>x9V r.kind r vt W (hg.on h) hf.kind hf.wt;by_cases h4:r.kind=4
 ·have ep:plB r=shiftB r:=(by unfold plB; rw [if_pos h4]);have es:shape r.kind=.iface 249 (.agg #[.int .i64 r.kind]):=(by unfold shape shV; rw [if_pos h4]);rw [ep];exact x2C 249 285 r vt w (fun W=>es ▸ x1d r.kind W hf.kind) KF (x5G _) (x5I _) (x4c _) (x4a _) (x6O _) (x5c _) y1D _ _ _ _ _ (fun W h=>x3B r.kind r vt W hf (hs.below h)) K2 K3 K4 K5
 ·by_cases h5:r.kind=5\/r.kind=7\/r.kind=8\/r.kind=13
  ·have ep:plB r=(decide (r.lo=r.hi) && Cn.scalar r.lo):=(by unfold plB; rw [if_neg h4,if_pos h5]);have es:shape r.kind=.iface 250 (.agg #[.int .i64 r.kind]):=(by unfold shape shV; rw [if_neg h4,if_pos h5]);rw [ep];exact x2C 250 289 r vt w (fun W=>es ▸ x1d r.kind W hf.kind) KF (x6N _) (x6R _) (x5b _) (x4Z _) (x7Y _) (x5L _) enters_pl5 _ _ _ _ _ (fun W _=>x4f r.kind r vt W hf) K2 K3 K4 K5
  ·by_cases h15:r.kind=15
   ·have ep:plB r=decide (r.lo=0/\r.hi=0):=(by unfold plB; rw [if_neg h4,if_neg h5,if_pos h15]);have es:shape r.kind=.iface 251 (.agg #[.int .i64 r.kind]):=(by unfold shape shV; rw [if_neg h4,if_neg h5,if_pos h15]);rw [ep];exact x2C 251 292 r vt w (fun W=>es ▸ x1d r.kind W hf.kind) KF (x6M _) (x6Q _) (x5a _) (x4Y _) (x7X _) (x5K _) enters_pl15 _ _ _ _ _ (fun W _=>x4e r.kind r vt W hf) K2 K3 K4 K5
   ·have ep:plB r=spanB r:=(by unfold plB; rw [if_neg h4,if_neg h5,if_neg h15]);have es:shape r.kind=.iface 247 (.agg #[.int .i64 r.kind]):=(by unfold shape shV; rw [if_neg h4,if_neg h5,if_neg h15]);rw [ep];exact x2C 247 284 r vt w (fun W=>es ▸ x1d r.kind W hf.kind) KF (x5H _) (x5J _) (x4d _) (x4b _) (x6P _) (x5d _) enters_pl1 _ _ _ _ _ (fun W _=>x1P r.kind r vt W hf) K2 K3 K4 K5
def firstW (rs:List Rec):Nat × Int:=if 4096<rs.length then (0,3) else match Cn.x0T 0 rs with | some x=>x | Option.none=>(0,0)
def x4i (rs:List Rec) (k:Nat):Nat × Int:=match Cn.x0T k (rs.drop k) with | some x=>x | Option.none=>(0,0)
theorem z2B {rs:List Rec} {k:Nat} (hk:k<rs.length) (h:Cn.right (rs.getD k Cn.none)≠0):x4i rs k=(k,Cn.right (rs.getD k Cn.none)):=by
 have e:rs.getD k Cn.none=rs[k]:=(by simp [List.getD,hk]);rw [e] at h ⊢;unfold x4i;rw [List.drop_eq_getElem_cons hk,Cn.x0T,if_neg h]
theorem z0D {rs:List Rec} {k:Nat} (hk:k<rs.length) (h:Cn.right (rs.getD k Cn.none)=0):x4i rs k=x4i rs (k+1):=by
 have e:rs.getD k Cn.none=rs[k]:=(by simp [List.getD,hk]);rw [e] at h;unfold x4i;rw [List.drop_eq_getElem_cons hk,Cn.x0T,if_pos h]
theorem z2A (rs:List Rec):x4i rs rs.length=(0,0):=by
 unfold x4i;rw [List.drop_length,Cn.x0T]
def x9X (w:World) (x:Nat × Int) (e:Ending) (w':World):Prop:=e=.returned (.tuple #[.int .i64 (x.1:Int),.int .i64 x.2])/\Below w.heap.size w w'
theorem x5D (v:Value) (rs:List Rec) (w:World) (hg:Glob w) (hv:Rcs w v rs):Calls prog 107 #[v] w (x9X w (firstW rs)):=by
 have hlen:=hv.1;by_cases hbig:4096<rs.length
 ·have e:firstW rs=(0,3):=(by unfold firstW; rw [if_pos hbig]);rw [e];obtain ⟨ao,cap,rfl,_,_⟩:=hv.shape;clear hv hg e;go_enter func107,ntmps107;go_wp2;go_ret2;exact ⟨rfl,b0r⟩
 ·have aj:Hid (firstW rs=x4i rs 0):=by
   show firstW rs=x4i rs 0;unfold firstW x4i;rw [if_neg hbig,List.drop_zero]
  have aF:Hid (RIn w v rs w):=⟨hv,b0r⟩;have HG:=O (fun W (h:Bw w W)=>hg.on h);obtain ⟨ao,cap,rfl,h1,h2⟩:=hv.shape;clear hv hg;generalize firstW rs=res at *;go_enter func107,ntmps107;go_wp2;go_loopw [4,5,6,12] (fun _ _ _ i wr=>∃ k:Nat,i=.int .i64 k/\k<=rs.length/\res=x4i rs k/\RIn w (.slice ao rs.length cap) rs wr) (fun _ _ _ i _=>rs.length - (intOf i).toNat)
  case atStart=>exact ⟨0,rfl,by omega,V aj,V aF⟩
  case round =>
   obtain ⟨k,rfl,hk,ab,aq⟩:=hrel;clear aj aF;by_cases hlt:k<rs.length
   ·obtain ⟨b,off,aC,he,aG,hc2,hc⟩:=aq.1.place (by omega);obtain ⟨rfl,rfl⟩:ao=some ⟨b,off,none⟩/\cap=aC:=(by simpa using he);have az:=aq.1.fit hlt;obtain ⟨x0,x1,x2,x3,⟨vt,x4,sk⟩,x5,x6,x7⟩:=hc k hlt;have HN:Hid (Cn.right (rs.getD k Cn.none)=0->res=x4i rs (k+1)):=fun h=>ab.trans (z0D hlt h);have HH:Hid (Cn.right (rs.getD k Cn.none)≠0->res=(k,Cn.right (rs.getD k Cn.none))):=fun h=>ab.trans (z2B hlt h);have KR:Hid (∀ W,Bw wr W->Calls prog 139 #[recV (rs.getD k Cn.none) vt] W (IntB W (Cn.right (rs.getD k Cn.none)))):=fun W h=>y5e _ vt W (V HG W (aq.on h).2) az (sk.below h);have aA:=O aq;obtain ⟨tq,tc,rfl,_,_⟩:=sk.shape;clear ab aq hc he sk az HG;unfold recV at KR;generalize Cn.right (rs.getD k Cn.none)=y at KR HH HN;generalize (rs.getD k Cn.none).kind=kd at *;generalize (rs.getD k Cn.none).lo=lo at *;generalize (rs.getD k Cn.none).hi=hi at *;generalize (rs.getD k Cn.none).n=n at *;generalize (rs.getD k Cn.none).name=nm at *;generalize (rs.getD k Cn.none).other=ot at *;generalize (rs.getD k Cn.none).wt=wt at *;generalize (rs.getD k Cn.none).to.length=tl at *;have hfl:∀ W a m,(store a (.float .f64 wt) m).run prog W=stored prog W a (.float .f64 wt) m:=fun W a m=>run_store prog W a _ m rfl;go_wp2_with fail;refine (V KR _ ((b0r).alloc (l0r _) _)).mono ?_;rintro e w1 ⟨rfl,ac⟩;have ag:=x0b ((Below.refl wr.heap.size wr).alloc (l0r _) _) ac;clear KR x0 x1 x2 x3 x4 x5 x6 x7;by_cases hy:y=0
    ·have aI:=O (V HN hy);subst hy;have HI:=O ((V aA).on ag);clear HN HH aA ac ag;go_wp2;go_round
     case rel=>exact ⟨k+1,by go_num,by omega,V aI,V HI⟩
     case measure=>simp [intOf]; omega
    ·obtain rfl:=V HH hy;have hyb:(y==0)=false:=b0f hy;have hyn:(y != 0)=true:=(by simp [hy]);have HI:=O ((V aA).on ag).2;clear HN HH aA ac ag;go_wp2;go_ret2;exact ⟨rfl,V HI⟩
   ·obtain rfl:k=rs.length:=(by omega);obtain rfl:=ab.trans (z2A rs);have HF:=O aq.2;clear ab aq HG;go_wp2;go_ret2;exact ⟨rfl,V HF⟩
structure RunOk (lo hi s:Int):Prop where
 l0:0<=lo
 lh:lo<=hi
 h1:hi<=1114111
 s0:1<=s
 s1:s<=64
def fromI (lo s c:Int):Int:=if c<=lo then lo else c+(s - (c - lo) % s) % s
theorem y0s (lo hi s c:Int) (w:World) (h:RunOk lo hi s) (hc:0<=c/\c<=1114111):Calls prog 214 #[runV lo hi s,.int .i64 c] w (IntB w (fromI lo s c)):=by
 have hb:Bw w (w.alloc (.cells #[.int .i64 lo,.int .i64 hi,.int .i64 s] 199)):=(b0r).alloc (l0r _) _;obtain ⟨l0,lh,h1,s0,s1⟩:=h;obtain ⟨c0,c1⟩:=hc;unfold runV fromI;by_cases hle:c<=lo
 ·rw [if_pos hle];have d:=d0t hle;go_enter func214,ntmps214;go_wp2;go_ret;exact ⟨rfl,hb⟩
 ·rw [if_neg hle];have d:=d0f hle;have m0:=Int.emod_nonneg (c - lo) (show s≠0 by omega);have m1:=Int.emod_lt_of_pos (c - lo) (show 0<s by omega);have n0:=Int.emod_nonneg (s - (c - lo) % s) (show s≠0 by omega);have n1:=Int.emod_lt_of_pos (s - (c - lo) % s) (show 0<s by omega);have e1:(c - lo).tmod s=(c - lo) % s:=Int.tmod_eq_emod_of_nonneg (by omega);have e2:(s - (c - lo) % s).tmod s=(s - (c - lo) % s) % s:=Int.tmod_eq_emod_of_nonneg (by omega);have w1:IntKind.i64.wrap (c - lo)=c - lo:=IntWalk.i64_in _ ⟨by omega,by omega⟩;have w2:IntKind.i64.wrap (s - (c - lo) % s)=s - (c - lo) % s:=IntWalk.i64_in _ ⟨by omega,by omega⟩;have w3:IntKind.i64.wrap ((c - lo) % s)=(c - lo) % s:=IntWalk.i64_in _ ⟨by omega,by omega⟩;have w4:IntKind.i64.wrap ((s - (c - lo) % s) % s)=(s - (c - lo) % s) % s:=IntWalk.i64_in _ ⟨by omega,by omega⟩;have w5:IntKind.i64.wrap (c+(s - (c - lo) % s) % s)=c+(s - (c - lo) % s) % s:=IntWalk.i64_in _ ⟨by omega,by omega⟩;have q0:(s==0)=false:=b0f (by omega);go_enter func214,ntmps214;go_wp2;go_quiet (fail);go_wp2;go_ret
  have e3:(s - (c - lo) % s) % s=-((c - lo) % s) % s:=by
   rw [show s - (c - lo) % s=-((c - lo) % s)+s * 1 by omega,Int.add_mul_emod_self_left]
  refine ⟨?_,x0b hb (x0k ⟨_,rfl⟩)⟩;show Ending.returned (.int .i64 (wrap64 (c+-((c - lo) % s) % s)))=_;rw [<- e3,IntWalk.wrap64_in _ ⟨by omega,by omega⟩]
def mA (s hi:Int) (p:Int->Bool):Nat->Int->Bool
 | 0,_=>false
 | k+1,c=>if hi<c then false else if p c then true else mA s hi p k (c+s)
def y0J (lo hi s ad af s':Int):Bool :=
 if hi<ad\/af<lo then false
 else if s<s' then mA s' af (hasB lo hi s) s.toNat (fromI ad s' lo)
 else mA s hi (hasB ad af s') s'.toNat (fromI lo s ad)
theorem y4v (lo hi s ad af s':Int) (w:World) (h:RunOk lo hi s) (h':RunOk ad af s'):Calls prog 174 #[runV lo hi s,runV ad af s'] w (x0d w (y0J lo hi s ad af s')):=by
 have ae:=x2i w (.cells #[.int .i64 lo,.int .i64 hi,.int .i64 s] 199) (.cells #[.int .i64 ad,.int .i64 af,.int .i64 s'] 199);unfold y0J;by_cases ha:hi<ad
 ·rw [if_pos (.inl ha)];have d:=d0t ha;unfold runV;go_enter func174,ntmps174;go_wp2;go_ret;exact ⟨rfl,ae⟩
 ·have d:=d0f ha;by_cases hc:af<lo
  ·rw [if_pos (.inr hc)];have d2:=d0t hc;unfold runV;go_enter func174,ntmps174;go_wp2;go_ret;exact ⟨rfl,ae⟩
  ·rw [if_neg (by omega)];have d2:=d0f hc;by_cases hs:s<s'
   ·rw [if_pos hs];have d3:=d0t hs;have am:=x2i w (.cells #[.int .i64 ad,.int .i64 af,.int .i64 s'] 199) (.cells #[.int .i64 lo,.int .i64 hi,.int .i64 s] 199);have aw:=O (y0s ad af s' lo ((w.alloc (.cells #[.int .i64 ad,.int .i64 af,.int .i64 s'] 199)).alloc (.cells #[.int .i64 lo,.int .i64 hi,.int .i64 s] 199)) h' ⟨h.l0,by have:=h.lh; have:=h.h1; omega⟩);have KH:Hid (∀ c W,-10<=c/\c<=2000000->Calls prog 155 #[.agg #[.int .i64 lo,.int .i64 hi,.int .i64 s],.int .i64 c] W (x0d W (hasB lo hi s c))):=fun c W hc=>x9q lo hi s c W ⟨by have:=h.l0; omega,by have:=h.lh; have:=h.h1; omega⟩ ⟨by have:=h.l0; have:=h.lh; omega,by have:=h.h1; omega⟩ ⟨by have:=h.s0; omega,by have:=h.s1; omega⟩ ⟨by omega,by omega⟩
    have HX:Hid (∀ W,Below ((w.alloc (.cells #[.int .i64 ad,.int .i64 af,.int .i64 s'] 199)).alloc (.cells #[.int .i64 lo,.int .i64 hi,.int .i64 s] 199)).heap.size ((w.alloc (.cells #[.int .i64 ad,.int .i64 af,.int .i64 s'] 199)).alloc (.cells #[.int .i64 lo,.int .i64 hi,.int .i64 s] 199)) W->W.cell? ⟨w.heap.size,1,none⟩=some (.int .i64 af)/\W.cell? ⟨w.heap.size,2,none⟩=some (.int .i64 s')):=fun W h=>by
     have h0:((w.alloc (.cells #[.int .i64 ad,.int .i64 af,.int .i64 s'] 199)).alloc (.cells #[.int .i64 lo,.int .i64 hi,.int .i64 s] 199)).heap[w.heap.size]?=some (.cells #[.int .i64 ad,.int .i64 af,.int .i64 s'] 199 (0,0)):=by
      show ((w.heap.push _).push _)[w.heap.size]?=_;rw [Array.getElem?_push_lt (by simp)];simp
     have h2:W.heap[w.heap.size]?=_:=(h.block _ (by simp; omega)).trans h0;exact ⟨cell_of (j:=1) h2 (by simp),cell_of (j:=2) h2 (by simp)⟩
    have HY:Hid (∀ W,Below ((w.alloc (.cells #[.int .i64 ad,.int .i64 af,.int .i64 s'] 199)).alloc (.cells #[.int .i64 lo,.int .i64 hi,.int .i64 s] 199)).heap.size ((w.alloc (.cells #[.int .i64 ad,.int .i64 af,.int .i64 s'] 199)).alloc (.cells #[.int .i64 lo,.int .i64 hi,.int .i64 s] 199)) W->W.cell? ⟨w.heap.size+1,0,none⟩=some (.int .i64 lo)/\W.cell? ⟨w.heap.size+1,1,none⟩=some (.int .i64 hi)/\W.cell? ⟨w.heap.size+1,2,none⟩=some (.int .i64 s)):=fun W h=>⟨x0j (j:=0) h rfl,x0j (j:=1) h rfl,x0j (j:=2) h rfl⟩;obtain ⟨N,hN⟩:∃ N:Nat,s=(N:Int):=⟨s.toNat,by have:=h.s0; omega⟩;have aJ:N<=64:=(by have:=h.s1; omega);have ht:s.toNat=N:=by omega
    have ay:0<=fromI ad s' lo/\fromI ad s' lo<=1114300:=by
     obtain ⟨a0,a1,a2,a3,a4⟩:=h';obtain ⟨b0,b1,b2,b3,b4⟩:=h;unfold fromI;split
     ·omega
     ·have:=Int.emod_nonneg (s' - (lo - ad) % s') (show s'≠0 by omega);have:=Int.emod_lt_of_pos (s' - (lo - ad) % s') (show 0<s' by omega);omega
    have aM:0<=af/\af<=1114111:=⟨by have:=h'.l0; have:=h'.lh; omega,h'.h1⟩;have aL:1<=s'/\s'<=64:=⟨h'.s0,h'.s1⟩;rw [ht];have HN:=O hN;clear h h' ae ht hN;generalize hfm:fromI ad s' lo=c0 at *;clear hfm;generalize hhas:hasB lo hi s=p at *;clear hhas;generalize hr0:mA s' af p N c0=res at *;have au:=O hr0.symm;clear hr0;unfold runV at *;go_enter func174,ntmps174;go_wp2_with fail;refine (V aw).mono ?_;rintro e w1 ⟨rfl,ac⟩;have y2:=(V HY w1 ac).2.2;rw [V HN] at y2;have am:=x0b am ac;have HX:=O (fun W (h:Bw w1 W)=>V HX W (x0b ac h));have HY:=O (fun W (h:Bw w1 W)=>V HY W (x0b ac h));clear aw ac HN;go_wp2;go_loopw [5,31] (fun cv iv wr=>∃ (k:Nat) (c:Int),cv=.int .i64 c/\iv=.int .i64 k/\k<=N/\0<=c/\c<=1114300/\res=mA s' af p (N - k) c/\Bw w1 wr) (fun _ iv _=>N - (intOf iv).toNat)
    case atStart=>exact ⟨0,c0,rfl,rfl,by omega,ay.1,ay.2,V au,b0r⟩
    case round =>
     obtain ⟨k,c,rfl,rfl,hk,aK,aG,ab,hB⟩:=hrel;clear au y2;by_cases hlt:k<N
     ·obtain ⟨M,hM⟩:∃ M,N - k=M+1:=⟨N - k - 1,by omega⟩;rw [hM,mA] at ab;obtain ⟨x1,x2⟩:=V HX wr hB;obtain ⟨z0,z1,z2⟩:=V HY wr hB;by_cases hgt:af<c
      ·rw [if_pos hgt] at ab;subst ab;have dg:=d0t hgt;have HF:x0d w false (.returned (.bool false)) wr:=⟨rfl,x0b am hB⟩;clear KH HX HY hB hM;go_wp2;go_ret;exact HF
      ·rw [if_neg hgt] at ab;have dg:=d0f hgt;have KC:=O (V KH c wr ⟨by omega,by omega⟩);have ak:=O hB;clear KH hB
       cases hp:p c with
       | true =>
        rw [hp,if_pos rfl] at ab;subst ab;rw [hp] at KC;clear hM HX HY;go_wp2_with fail;refine (V KC).mono ?_;rintro e w2 ⟨rfl,ag⟩;have HF:x0d w true (.returned (.bool true)) w2:=⟨rfl,x0b (x0b am (V ak)) ag⟩;clear KC ag ak x1 x2 z0 z1 z2;go_wp2;go_ret;exact HF
       | false =>
        rw [hp,if_neg (by decide)] at ab;rw [hp] at KC;have aj:Hid (res=mA s' af p (N - (k+1)) (c+s')):=(by rw [show N - (k+1)=M by omega]; exact ab);have av:Hid (∀ W,Bw wr W->W.cell? ⟨w.heap.size,2,none⟩=some (.int .i64 s')):=fun W h=>(V HX W (x0b (V ak) h)).2;clear hM HX HY ab;go_wp2_with fail;refine (V KC).mono ?_;rintro e w2 ⟨rfl,ag⟩;have y:=V av w2 ag;have aB:=O (x0b (V ak) ag);have hw:IntKind.i64.wrap (c+s')=c+s':=IntWalk.i64_in _ ⟨by omega,by omega⟩;clear KC ag ak av x1 x2 z0 z1 z2;go_wp2;go_round
        case rel=>exact ⟨k+1,c+s',by go_num,by go_num,by omega,by omega,by omega,V aj,V aB⟩
        case measure=>simp [intOf]; omega
     ·have e0:N - k=0:=(by omega);rw [e0,mA] at ab;subst ab;have HF:x0d w false (.returned (.bool false)) wr:=⟨rfl,x0b am hB⟩;clear KH HX HY hB;go_wp2;go_ret;exact HF
   ·rw [if_neg hs];have d3:=d0f hs;have am:=x2i w (.cells #[.int .i64 lo,.int .i64 hi,.int .i64 s] 199) (.cells #[.int .i64 ad,.int .i64 af,.int .i64 s'] 199);have aw:=O (y0s lo hi s ad ((w.alloc (.cells #[.int .i64 lo,.int .i64 hi,.int .i64 s] 199)).alloc (.cells #[.int .i64 ad,.int .i64 af,.int .i64 s'] 199)) h ⟨h'.l0,by have:=h'.lh; have:=h'.h1; omega⟩);have KH:Hid (∀ c W,-10<=c/\c<=2000000->Calls prog 155 #[.agg #[.int .i64 ad,.int .i64 af,.int .i64 s'],.int .i64 c] W (x0d W (hasB ad af s' c))):=fun c W hc=>x9q ad af s' c W ⟨by have:=h'.l0; omega,by have:=h'.lh; have:=h'.h1; omega⟩ ⟨by have:=h'.l0; have:=h'.lh; omega,by have:=h'.h1; omega⟩ ⟨by have:=h'.s0; omega,by have:=h'.s1; omega⟩ ⟨by omega,by omega⟩
    have HX:Hid (∀ W,Below ((w.alloc (.cells #[.int .i64 lo,.int .i64 hi,.int .i64 s] 199)).alloc (.cells #[.int .i64 ad,.int .i64 af,.int .i64 s'] 199)).heap.size ((w.alloc (.cells #[.int .i64 lo,.int .i64 hi,.int .i64 s] 199)).alloc (.cells #[.int .i64 ad,.int .i64 af,.int .i64 s'] 199)) W->W.cell? ⟨w.heap.size,1,none⟩=some (.int .i64 hi)/\W.cell? ⟨w.heap.size,2,none⟩=some (.int .i64 s)):=fun W h=>by
     have h0:((w.alloc (.cells #[.int .i64 lo,.int .i64 hi,.int .i64 s] 199)).alloc (.cells #[.int .i64 ad,.int .i64 af,.int .i64 s'] 199)).heap[w.heap.size]?=some (.cells #[.int .i64 lo,.int .i64 hi,.int .i64 s] 199 (0,0)):=by
      show ((w.heap.push _).push _)[w.heap.size]?=_;rw [Array.getElem?_push_lt (by simp)];simp
     have h2:W.heap[w.heap.size]?=_:=(h.block _ (by simp; omega)).trans h0;exact ⟨cell_of (j:=1) h2 (by simp),cell_of (j:=2) h2 (by simp)⟩
    have HY:Hid (∀ W,Below ((w.alloc (.cells #[.int .i64 lo,.int .i64 hi,.int .i64 s] 199)).alloc (.cells #[.int .i64 ad,.int .i64 af,.int .i64 s'] 199)).heap.size ((w.alloc (.cells #[.int .i64 lo,.int .i64 hi,.int .i64 s] 199)).alloc (.cells #[.int .i64 ad,.int .i64 af,.int .i64 s'] 199)) W->W.cell? ⟨w.heap.size+1,0,none⟩=some (.int .i64 ad)/\W.cell? ⟨w.heap.size+1,1,none⟩=some (.int .i64 af)/\W.cell? ⟨w.heap.size+1,2,none⟩=some (.int .i64 s')):=fun W h=>⟨x0j (j:=0) h rfl,x0j (j:=1) h rfl,x0j (j:=2) h rfl⟩;obtain ⟨N,hN⟩:∃ N:Nat,s'=(N:Int):=⟨s'.toNat,by have:=h'.s0; omega⟩;have aJ:N<=64:=(by have:=h'.s1; omega);have ht:s'.toNat=N:=by omega
    have ay:0<=fromI lo s ad/\fromI lo s ad<=1114300:=by
     obtain ⟨a0,a1,a2,a3,a4⟩:=h;obtain ⟨b0,b1,b2,b3,b4⟩:=h';unfold fromI;split
     ·omega
     ·have:=Int.emod_nonneg (s - (ad - lo) % s) (show s≠0 by omega);have:=Int.emod_lt_of_pos (s - (ad - lo) % s) (show 0<s by omega);omega
    have aM:0<=hi/\hi<=1114111:=⟨by have:=h.l0; have:=h.lh; omega,h.h1⟩;have aL:1<=s/\s<=64:=⟨h.s0,h.s1⟩;rw [ht];have HN:=O hN;clear h h' ae ht hN;generalize hfm:fromI lo s ad=c0 at *;clear hfm;generalize hhas:hasB ad af s'=p at *;clear hhas;generalize hr0:mA s hi p N c0=res at *;have au:=O hr0.symm;clear hr0;unfold runV at *;go_enter func174,ntmps174;go_wp2_with fail;refine (V aw).mono ?_;rintro e w1 ⟨rfl,ac⟩;have y2:=(V HY w1 ac).2.2;rw [V HN] at y2;have am:=x0b am ac;have HX:=O (fun W (h:Bw w1 W)=>V HX W (x0b ac h));have HY:=O (fun W (h:Bw w1 W)=>V HY W (x0b ac h));clear aw ac HN;go_wp2;go_loopw [5,31] (fun cv iv wr=>∃ (k:Nat) (c:Int),cv=.int .i64 c/\iv=.int .i64 k/\k<=N/\0<=c/\c<=1114300/\res=mA s hi p (N - k) c/\Bw w1 wr) (fun _ iv _=>N - (intOf iv).toNat)
    case atStart=>exact ⟨0,c0,rfl,rfl,by omega,ay.1,ay.2,V au,b0r⟩
    case round =>
     obtain ⟨k,c,rfl,rfl,hk,aK,aG,ab,hB⟩:=hrel;clear au y2;by_cases hlt:k<N
     ·obtain ⟨M,hM⟩:∃ M,N - k=M+1:=⟨N - k - 1,by omega⟩;rw [hM,mA] at ab;obtain ⟨x1,x2⟩:=V HX wr hB;obtain ⟨z0,z1,z2⟩:=V HY wr hB;by_cases hgt:hi<c
      ·rw [if_pos hgt] at ab;subst ab;have dg:=d0t hgt;have HF:x0d w false (.returned (.bool false)) wr:=⟨rfl,x0b am hB⟩;clear KH HX HY hB hM;go_wp2;go_ret;exact HF
      ·rw [if_neg hgt] at ab;have dg:=d0f hgt;have KC:=O (V KH c wr ⟨by omega,by omega⟩);have ak:=O hB;clear KH hB
       cases hp:p c with
       | true =>
        rw [hp,if_pos rfl] at ab;subst ab;rw [hp] at KC;clear hM HX HY;go_wp2_with fail;refine (V KC).mono ?_;rintro e w2 ⟨rfl,ag⟩;have HF:x0d w true (.returned (.bool true)) w2:=⟨rfl,x0b (x0b am (V ak)) ag⟩;clear KC ag ak x1 x2 z0 z1 z2;go_wp2;go_ret;exact HF
       | false =>
        rw [hp,if_neg (by decide)] at ab;rw [hp] at KC;have aj:Hid (res=mA s hi p (N - (k+1)) (c+s)):=(by rw [show N - (k+1)=M by omega]; exact ab);have av:Hid (∀ W,Bw wr W->W.cell? ⟨w.heap.size,2,none⟩=some (.int .i64 s)):=fun W h=>(V HX W (x0b (V ak) h)).2;clear hM HX HY ab;go_wp2_with fail;refine (V KC).mono ?_;rintro e w2 ⟨rfl,ag⟩;have y:=V av w2 ag;have aB:=O (x0b (V ak) ag);have hw:IntKind.i64.wrap (c+s)=c+s:=IntWalk.i64_in _ ⟨by omega,by omega⟩;clear KC ag ak av x1 x2 z0 z1 z2;go_wp2;go_round
        case rel=>exact ⟨k+1,c+s,by go_num,by go_num,by omega,by omega,by omega,V aj,V aB⟩
        case measure=>simp [intOf]; omega
     ·have e0:N - k=0:=(by omega);rw [e0,mA] at ab;subst ab;have HF:x0d w false (.returned (.bool false)) wr:=⟨rfl,x0b am hB⟩;clear KH HX HY hB;go_wp2;go_ret;exact HF
