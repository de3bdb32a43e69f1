/- Le18 Ou12 Jg16 Bd17 Lf18 Lk18 Pb17 -/
import Derived.Lib.MinMaxS
import Derived.Test.YtkglkajjofidoaaGreatDoorU45
import Derived.Test.YtkglkajjofidoaaGreatDoorU46
import Derived.Test.YtkglkajjofidoaaGreatDoorU48
import Derived.Test.YtkglkajjofidoaaGreatDoorU6
import Derived.Test.YtkglkajjofidoaaGreatDoorU47
set_option maxHeartbeats 1000000
set_option maxRecDepth 8000
namespace Go.Proofs.YtkglkajjofidoaaGreatDoor
open Go.RowKit
theorem x7o (xv:Value) (xs:List Int) (m:Nat) (w:World) (hx:Sk .i32 w xv xs) (hm:m≤100000000):Calls Tryz.prog 8 #[xv,.int .i64 m] w (x0j w (xs.take m)):=by
 have ao:=hx.len;obtain ⟨ax,cx,ap,ae,hcx2⟩:=hx.shape;subst ap;obtain ⟨n,hn⟩:∃ n,n=min xs.length m:=⟨_,rfl⟩;have hmin:min (xs.length:Int) (m:Int)=(n:Int):=(by omega);have al:n≤xs.length:=(by omega);have hT:=hx.head al ae;have htl:(xs.take n).length=n:=(by rw [List.length_take]; omega);have ai:xs.take m=xs.take n:=(by rw [hn,List.take_eq_take_min,Nat.min_comm]);have hn2:n≤100000000:=(by omega);rw [ai];clear ai hx hn;generalize hys:xs.take n=ys at *;clear hys;have HT:=Hd hT;clear hT;rcases ax with _ | ax
 all_goals
  go_enter Tryz.func8,Tryz.ntmps8;go_wp2_with (at_builtin; refine x4b rfl (.tmp 6) (.tmp 12) rfl w.heap.size _ _ [] ys rfl rfl (Ok.nil _ _ _ _) (Uh HT) (by simp; omega) (Nat.le_refl _) ?_);intro v1 w1 h1 h2;have HF:Hid (x0j w ys (.returned v1) w1):=⟨v1,rfl,h1,(Below.refl w.heap.size w).grown h2 (Nat.le_refl _) (fun g hh=>by cases hh)⟩;clear h1 h2;go_wp2;go_ret;exact Uh HF
theorem x5c (s:ByteArray) (hs:s.size≤1000) (w:World):Calls Tryz.prog 23 #[.string s] w (x0j w (nums s)):=by
 have am:=nums_length s;have HB:Hid (∀ k,0≤(nums s).getD k 0∧(nums s).getD k 0≤255):=(x6J s).at;have HA:Hid (∀ k,k<s.size→∀ w,(Instr.index 9 (.string s) (.int .i64 (k:Int))).run Tryz.prog w=.ok (.int .u8 ((nums s).getD k 0)) w):=fun k hk w=>y7p s k k rfl hk w
 have HT:Hid (∀ k,k<s.size→(nums s).take (k+1)=(nums s).take k++[(nums s).getD k 0]):=fun k hk=>by
  rw [List.take_add_one]; simp [List.getD,am,hk]
 have HE:Hid ((nums s).take s.size=nums s):=List.take_of_length_le (by omega);go_enter Tryz.func23,Tryz.ntmps23;go_wp2;go_loopw [3,4] (fun xv iv wr=>∃ k:Nat,iv=.int .i64 k∧k≤s.size∧Ok .i32 21 wr w.heap.size xv ((nums s).take k)∧Below w.heap.size w wr) (fun _ iv _=>s.size - (intOf iv).toNat)
 case atStart=>exact ⟨0,rfl,by omega,Ok.nil _ _ _ _,Below.refl _ _⟩
 case round =>
  obtain ⟨k,rfl,hk,ab,ac⟩:=hrel;by_cases hlt:k<s.size
  ·have hL:(k:Int)<s.size:=by omega
   have ha:=(Uh HA) k hlt;have hb:=(Uh HB) k;have hw8:IntKind.i32.wrap ((nums s).getD k 0)=(nums s).getD k 0:=(by rw [IntKind.wrap_i32]; omega);have ah:Rune ((nums s).getD k 0):=⟨by omega,by omega⟩;have aj:=Hd ah;have hyl:((nums s).take k).length≤1000:=(by rw [List.length_take]; omega);have an:=ac.size;have aa:Hid (∀ (v':Value) (w':World),Ok .i32 21 w' w.heap.size v' ((nums s).take (k+1))→Below w.heap.size w w'→∃ n:Nat,Value.int .i64 ((k:Int)+1)=.int .i64 (n:Int)∧n≤s.size∧Ok .i32 21 w' w.heap.size v' ((nums s).take n)∧Below w.heap.size w w'):=fun v' w' h1 h2=>⟨k+1,by go_num,by omega,h1,h2⟩;rw [(Uh HT) k hlt] at aa;have ad:=Hd ab;have ag:=Hd ac;obtain ⟨yo,yc,af,_,_⟩:=ab.sk.shape;subst af;clear HA HB HT HE ah ab ac;generalize (nums s).take k=Y at *;generalize (nums s).getD k 0=c at *;go_wp2_with (at_builtin; refine x4b rfl (.tmp 11) (.tmp 16) rfl w.heap.size _ _ Y [c] rfl rfl (x1p (Uh ad) _) (x4K _ (by simp) c (Uh aj)) (by first | omega | (simp; omega)) (by rw [x0M]; omega) ?_);intro v' w' h4 h5;have HF:=Hd ((Uh aa) v' w' h4 (((Uh ag).alloc an _).grown h5 (by rw [x0M]; omega) (fun k hk=>((Uh ad).2.2.lt k hk).1)));obtain ⟨ao5,cap5,hv5,_,_⟩:=h4.sk.shape;subst hv5;clear aa h4 h5 ad ag;go_wp2
   go_roundw
   case rel=>exact Uh HF
   case measure=>simp [intOf]; omega
  ·obtain rfl:k=s.size:=by omega
   have HF:Hid (x0j w (nums s) (.returned u3) wr):=⟨u3,rfl,by rw [← Uh HE]; exact ab,ac⟩;obtain ⟨yo,yc,af,_,_⟩:=ab.sk.shape;subst af;clear ab ac HA HB HT HE;go_wp2;go_ret;exact Uh HF
open Ti
namespace Cn
theorem y8M {rs:List Rec} (hk:(check rs).2=0) (xs:List Int):(nfd rs xs).length≤32 * xs.length:=by
 unfold nfd;rw [Od.y3T (fun c=>x4v (x0S.1 hk).1 c)];exact x2D hk xs
end Cn
open Ti
theorem y5u {B p:Nat} {rs:List Rec} {w:World} (hD:x0o w B p rs) (h6:(Cn.check6 rs).2=0):x1I 134 w p (Cn.vget rs 2):=fun c hc W hW=>x5G c W (hD.below hW) h6 hc
theorem y8z {B p:Nat} {rs:List Rec} {w:World} (hD:x0o w B p rs) (h6:(Cn.check6 rs).2=0):x1I 237 w p (Cn.vget rs 5):=fun c hc W hW=>y3p c W (hD.below hW) h6 hc
namespace Cn
end Cn
open Ti
namespace Bd
end Bd
open Ti
namespace Cn
theorem y2v {rs:List Rec} (h6:(check6 rs).2=0) (a b:Int):Rune (cmp9 rs a b).1:=by
 unfold cmp9;split
 ·unfold sylOf
  split
  ·rename_i h
   unfold jl jv at h;simp only [Bool.and_eq_true,decide_eq_true_eq] at h;unfold Rune;show -2147483648≤44032+((a - 4352) * 21+b - 4449) * 28∧44032+((a - 4352) * 21+b - 4449) * 28≤2147483647;omega
  ·split
   ·rename_i h
    unfold bare2 jt syl at h;simp only [Bool.and_eq_true,decide_eq_true_eq] at h;unfold Rune;show -2147483648≤a+b - 4520+1∧a+b - 4520+1≤2147483647;omega
   ·exact ⟨by decide,by decide⟩
 ·cases hp:x2x rs a b with
  | none=>exact ⟨by decide,by decide⟩
  | some p =>
   unfold x2x at hp;obtain ⟨r,hr,rfl⟩:=Option.map_eq_some_iff.1 hp;have hm:=List.mem_reverse.1 (List.mem_of_find?_eq_some hr);have ak:isP a b r=true:=List.find?_some hr;have hi:r.kind=7∧r.to.getD 0 0=a∧r.to.getD 1 0=b:=of_decide_eq_true ak;have hs:=x0n ((x0m.1 h6).2.1 r hm) (by omega);unfold Rune;show -2147483648≤r.lo∧r.lo≤2147483647;omega
def of18 (rs:List Rec) (X:List Int):Lb.Of:=⟨decide (X=Nm.cps (cls rs) (cmp9 rs) (nfd rs X)),fun c=>vget rs 6 c != 0,vget rs 1,decide (0≤Jn.chk (vget rs 2) (vget rs 5) X),Bd.rules (X.map (vget rs 4)) != 0⟩
end Cn
def x9o:Prop:=∀ (B p:Nat) (rs:List Rec) (w:World) (xv:Value) (X:List Int) (fl:Int) (rtl dec:Bool),Glob w→x0o w B p rs→(Cn.check rs).2=0→Sk .i32 w xv X→X.length≤1000→Calls Tryz.prog 9 #[.pointer (some ⟨p,0,none⟩),xv,.int .i64 fl,.bool rtl,.bool dec] w (IntB w ((Lb.err (Cn.of18 rs X) fl rtl dec X:Nat):Int))
def y6Q:Prop:=∀ (w:World) (fl:Int) (rtl dec:Bool),Calls Tryz.prog 9 #[.pointer none,.slice none 0 0,.int .i64 fl,.bool rtl,.bool dec] w (IntB w 65535)
def y1Q:Prop:=∀ (w:World) (xv:Value) (X:List Int),Sk .i32 w xv X→X.length≤1000→Calls Tryz.prog 11 #[xv] w (x0d w (X.all Lb.ldh))
def y1N:Prop:=∀ (w:World) (xv:Value) (X:List Int),Sk .i32 w xv X→X.length≤1000→Calls Tryz.prog 13 #[xv] w (x0d w (Lb.coded X))
def x5Z:Prop:=∀ w,Glob w→Calls Tryz.prog 7 #[] w (y1U w true)
open Ti
theorem nmC18 {B p:Nat} {rs:List Rec} {w:World} (hD:x0o w B p rs) (hk:(Cn.check rs).2=0):NmC p (Cn.cls rs) (Cn.cmp9 rs) w:=by
 have h6:=x2O hk;exact ⟨Cn.x4v h6,fun a b _ _=>Cn.y2v h6 a b,fun c hc W hW=>(x4t hD h6 c W hc hW).mono fun _ _ h=>⟨h.1,x0l h.2⟩,fun a b ha hb W hW=>x7g a b W (hD.below hW) ha hb⟩
theorem z0C {B p:Nat} {rs:List Rec} {w:World} (hg:Glob w) (hD:x0o w B p rs) (hk:(Cn.check rs).2=0):NfdC p (Cn.nfd rs) w:=by
 refine ⟨fun X=>Cn.y8M hk X,fun xv X W hW hx hl=>?_⟩;have h:=y3K xv X W (hg.on hW) (hD.below hW) hk hx;rw [if_neg (by omega)] at h;exact h
theorem z0p {B p:Nat} {rs:List Rec} {w:World} (hg:Glob w) (hD:x0o w B p rs) (hk:(Cn.check rs).2=0) {xv:Value} {X:List Int} (hx:Sk .i32 w xv X) (ao:X.length≤1000):Calls Tryz.prog 15 #[.pointer (some ⟨p,0,none⟩),xv] w (fun e w'=>e=.returned (.tuple #[.bool (Cn.of18 rs X).nf,.int .i64 0])∧Below w.heap.size w w'):=isN18 (nmC18 hD hk) (z0C hg hD hk) hx (by omega)
open Ti
namespace Cn
theorem y1p {r:Rec} (h:right r=0) (hk:r.kind=9):0≤r.n∧r.n≤10:=by
 have hf:=x0D h;unfold right at h;rw [if_neg hf,if_neg (by omega)] at h;have hc:=x1M h;rw [Bool.and_eq_true] at hc;have h2:=hc.2;rw [if_neg (by omega),if_neg (by omega),if_neg (by omega),if_neg (by omega),if_neg (by omega),if_neg (by omega),if_neg (by omega),if_neg (by omega),if_pos hk] at h2;simp only [Bool.and_eq_true] at h2;exact of_decide_eq_true h2.2
theorem y5A {k:Int} (h:fam k=4):k=9:=by
 unfold fam at h;split at h
 ·omega
 ·split at h
  ·omega
  ·split at h
   ·omega
   ·split at h <;> omega
theorem y4P {rs:List Rec} (h6:(check6 rs).2=0) (c:Int):0≤vget rs 4 c∧vget rs 4 c≤10:=by
 unfold vget
 cases he:hit rs 4 c with
 | none=>exact ⟨by decide,by decide⟩
 | some r =>
  have hm:=(x1K h6 (by decide) r).1 he;have hk:=y5A hm.2.1;have hv:=y1p ((x0m.1 h6).2.1 r hm.1) hk;show 0≤value r∧value r≤10;unfold value;rw [if_neg (by omega),if_neg (by omega),if_neg (by omega),if_neg (by omega),if_neg (by omega)];exact hv
end Cn
theorem pbd17 {B p:Nat} {rs:List Rec} {w:World} (hD:x0o w B p rs) (h6:(Cn.check6 rs).2=0):x8r p (Cn.vget rs 4) w:=⟨Cn.y4P h6,fun c hc W hW=>(y2d c W (hD.below hW) h6 hc).mono fun _ _ h=>⟨h.1,x0l h.2⟩⟩
end Go.Proofs.YtkglkajjofidoaaGreatDoor
