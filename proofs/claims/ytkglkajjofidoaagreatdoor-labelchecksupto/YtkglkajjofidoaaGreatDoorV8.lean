/- Le18 Ou12 Jg16 Bd17 Lf18 Lk18 Pb17 -/
import Derived.Lib.MinMaxS
import Derived.Test.YtkglkajjofidoaaGreatDoorV45
import Derived.Test.YtkglkajjofidoaaGreatDoorV46
import Derived.Test.YtkglkajjofidoaaGreatDoorV48
import Derived.Test.YtkglkajjofidoaaGreatDoorV6
import Derived.Test.YtkglkajjofidoaaGreatDoorV47
set_option maxHeartbeats 2000000
set_option maxRecDepth 8000
namespace Go.Proofs.YtkglkajjofidoaaGreatDoor
open Go.Proofs.Tryz
open Go.RowKit
theorem y3G (xv:Value) (xs:List Int) (m:Nat) (w:World) (hx:Sk .i32 w xv xs) (hm:m<=100000000):Calls prog 8 #[xv,.int .i64 m] w (x0i w (xs.take m)):=by
 have ab:=hx.len;obtain ⟨ax,cx,az,ag,hcx2⟩:=hx.shape;subst az;obtain ⟨n,hn⟩:∃ n,n=min xs.length m:=⟨_,rfl⟩;have hmin:min (xs.length:Int) (m:Int)=(n:Int):=(by omega);have ar:n<=xs.length:=(by omega);have hT:=hx.head ar ag;have htl:(xs.take n).length=n:=(by rw [List.length_take]; omega);have am:xs.take m=xs.take n:=(by rw [hn,List.take_eq_take_min,Nat.min_comm]);have hn2:n<=100000000:=(by omega);rw [am];clear am hx hn;generalize hys:xs.take n=ys at *;clear hys;have HT:=O hT;clear hT;rcases ax with _ | ax
 all_goals
  go_enter func8,ntmps8;go_wp2_with (at_builtin; refine x1f rfl (.tmp 6) (.tmp 12) rfl w.heap.size _ _ [] ys rfl rfl (Ok.nil _ _ _ _) (V HT) (by simp; omega) (l0r _) ?_);intro v1 w1 h1 h2;have HF:Hid (x0i w ys (.returned v1) w1):=⟨v1,rfl,h1,(Below.refl w.heap.size w).grown h2 (l0r _) (fun g hh=>by cases hh)⟩;clear h1 h2;go_wp2;go_ret;exact V HF
theorem x5p (s:ByteArray) (hs:s.size<=1000) (w:World):Calls prog 23 #[.string s] w (x0i w (nums s)):=by
 have au:=nums_length s;have HB:Hid (∀ k,0<=(nums s).getD k 0/\(nums s).getD k 0<=255):=(x7a s).at;have HA:Hid (∀ k,k<s.size->∀ w,(Instr.index 9 (.string s) (.int .i64 (k:Int))).run prog w=.ok (.int .u8 ((nums s).getD k 0)) w):=fun k hk w=>y8A s k k rfl hk w
 have HT:Hid (∀ k,k<s.size->(nums s).take (k+1)=(nums s).take k++[(nums s).getD k 0]):=fun k hk=>by
  rw [List.take_add_one]; simp [List.getD,au,hk]
 have HE:Hid ((nums s).take s.size=nums s):=List.take_of_length_le (by omega);go_enter func23,ntmps23;go_wp2;go_loopw [3,4] (fun xv iv wr=>∃ k:Nat,iv=.int .i64 k/\k<=s.size/\Ok .i32 21 wr w.heap.size xv ((nums s).take k)/\Bw w wr) (fun _ iv _=>s.size - (intOf iv).toNat)
 case atStart=>exact ⟨0,rfl,by omega,Ok.nil _ _ _ _,b0r⟩
 case round =>
  obtain ⟨k,rfl,hk,ac,ad⟩:=hrel;by_cases hlt:k<s.size
  ·have hL:(k:Int)<s.size:=(by omega);have ha:=V HA k hlt;have hb:=V HB k;have hw8:IntKind.i32.wrap ((nums s).getD k 0)=(nums s).getD k 0:=(by rw [IntKind.wrap_i32]; omega);have al:Rune ((nums s).getD k 0):=⟨by omega,by omega⟩;have an:=O al;have hyl:((nums s).take k).length<=1000:=(by rw [List.length_take]; omega);have av:=ad.size;have aa:Hid (∀ (v':Value) (w':World),Ok .i32 21 w' w.heap.size v' ((nums s).take (k+1))->Bw w w'->∃ n:Nat,Value.int .i64 ((k:Int)+1)=.int .i64 (n:Int)/\n<=s.size/\Ok .i32 21 w' w.heap.size v' ((nums s).take n)/\Bw w w'):=fun v' w' h1 h2=>⟨k+1,by go_num,by omega,h1,h2⟩;rw [V HT k hlt] at aa;have af:=O ac;have ak:=O ad;obtain ⟨yo,yc,ae,_,_⟩:=ac.sk.shape;subst ae;clear HA HB HT HE al ac ad;generalize (nums s).take k=Y at *;generalize (nums s).getD k 0=c at *;go_wp2_with (at_builtin; refine x1f rfl (.tmp 11) (.tmp 16) rfl w.heap.size _ _ Y [c] rfl rfl (x0s (V af) _) (x0W _ (by simp) c (V an)) (by first | omega | (simp; omega)) (by rw [x0m]; omega) ?_);intro v' w' h4 h5;have HF:=O (V aa v' w' h4 (((V ak).alloc av _).grown h5 (by rw [x0m]; omega) (fun k hk=>((V af).2.2.lt k hk).1)));obtain ⟨ao5,cap5,hv5,_,_⟩:=h4.sk.shape;subst hv5;clear aa h4 h5 af ak;go_wp2
   go_roundw
   case rel=>exact V HF
   case measure=>simp [intOf]; omega
  ·obtain rfl:k=s.size:=(by omega);have HF:Hid (x0i w (nums s) (.returned u3) wr):=⟨u3,rfl,by rw [<- V HE]; exact ac,ad⟩;obtain ⟨yo,yc,ae,_,_⟩:=ac.sk.shape;subst ae;clear ac ad HA HB HT HE;go_wp2;go_ret;exact V HF
open Ti
namespace Cn
theorem y0y (rs:List Rec):∀ (n:Nat) (l:List Int),innerD rs n l=Od.x2G (cls rs) n l
 | 0,_=>rfl
 | n+1,l=>by rw [innerD,Od.x2G,y0y rs n]
theorem y0M (rs:List Rec):∀ (f i:Nat) (l:List Int),x5g rs f i l=Od.x5h (cls rs) f i l
 | 0,_,_=>rfl
 | f+1,i,l=>by rw [x5g,Od.x5h,y0y,y0M rs f]
theorem x9g {rs:List Rec} (h6:(check6 rs).2=0) (xs:List Int):docSort rs xs=Od.ord (cls rs) xs:=by
 unfold docSort;rw [y0M,Od.y4O (fun c=>x1M h6 c)]
theorem y4E {rs:List Rec} (hk:(check rs).2=0) (xs:List Int):(nfd rs xs).length<=32 * xs.length:=by
 unfold nfd;rw [Od.y4N (fun c=>x1M (x0D.1 hk).1 c)];exact x1A hk xs
end Cn
theorem y7w {rs:List Rec} (tv v:Value) (xs:List Int) (w:World) (ht:Rcs w tv rs) (hk:(Cn.check rs).2=0) (hx:Sk .i32 w v xs) (ab:xs.length<=65536):Calls prog 89 #[tv,v] w (x0i w (Cn.nfd rs xs)):=by
 have h6:=x1L hk;have K1:=O (x8v tv v xs w ht hk hx ab);have aq:=Cn.x1A hk xs
 have K2:Hid (∀ v1 w1,Sk .i32 w1 v1 (Cn.openAll rs xs)->Bw w w1->Calls prog 130 #[tv,v1] w1 (x0i w1 (Cn.nfd rs xs))):=fun v1 w1 h1 h2=>by
  have:=y5d tv v1 _ w1 (ht.below h2) h6 h1 (by omega);rw [Cn.x9g h6] at this;exact this
 obtain ⟨vo,vc,ay,hv1,hv2⟩:=hx.shape;subst ay;obtain ⟨ta,tcp,aw,_,_⟩:=ht.shape;subst aw;clear hk hx h6 aq ht;generalize Cn.openAll rs xs=zs at *;generalize Cn.nfd rs xs=ys at *;go_enter func89,ntmps89;go_wp2_with fail;refine (V K1).mono ?_;rintro e1 w1 ⟨v1,rfl,ah,b1⟩;have K3:=O (V K2 v1 w1 ah.sk b1);obtain ⟨yo,yc,ae,_,_⟩:=ah.sk.shape;subst ae;have aj:=O b1;clear K1 K2 ah b1;go_wp2_with fail;refine (V K3).mono ?_;rintro e2 w2 ⟨v2,rfl,ai,b2⟩;have HF:Hid (x0i w ys (.returned v2) w2):=⟨_,rfl,ai.lower (V aj).size,x0b (V aj) b2⟩;obtain ⟨zo,zc,aA,_,_⟩:=ai.sk.shape;subst aA;clear K3 ai b2;go_wp2;go_ret;exact V HF
open Ti
theorem y6r {B p:Nat} {rs:List Rec} {w:World} (hD:x0p w B p rs) (h6:(Cn.check6 rs).2=0):x1U 134 w p (Cn.vget rs 2):=fun c hc W hW=>x5W c W (hD.below hW) h6 hc
theorem y9L {B p:Nat} {rs:List Rec} {w:World} (hD:x0p w B p rs) (h6:(Cn.check6 rs).2=0):x1U 237 w p (Cn.vget rs 5):=fun c hc W hW=>y4k c W (hD.below hW) h6 hc
theorem y4X {tv:Value} {rs:List Rec} {w:World} (hR:Rcs w tv rs) (h6:(Cn.check6 rs).2=0):x2v 91 w tv (Cn.vget rs 2):=fun c hc W hW=>by
 rw [<- Cn.y1a h6]; exact x5l tv rs c W (hR.below hW) hc
theorem y7y {tv:Value} {rs:List Rec} {w:World} (hR:Rcs w tv rs) (h6:(Cn.check6 rs).2=0):x2v 92 w tv (Cn.vget rs 5):=fun c hc W hW=>by
 rw [<- Cn.y1b h6 5 c (.inr rfl)]; exact y7s tv rs c W (hR.below hW) hc
namespace Cn
end Cn
open Ti
theorem y7o {tv:Value} {rs:List Rec} {w:World} (hR:Rcs w tv rs) (h6:(Cn.check6 rs).2=0):x9Y 55 w tv (Cn.vget rs 4):=fun c hc W hW=>by
 rw [<- Cn.y1b h6 4 c (.inl rfl)]; exact y7q tv rs c W (hR.below hW) hc
theorem y2F {rs:List Rec} (h6:(Cn.check6 rs).2=0) (c:Int):-9223372036854775808<=Cn.vget rs 4 c/\Cn.vget rs 4 c<=9223372036854775807:=by
 unfold Cn.vget
 cases he:Cn.hit rs 4 c with
 | none =>
  show (-9223372036854775808:Int)<=0/\(0:Int)<=9223372036854775807;omega
 | some r =>
  have hm:=(Cn.x1b h6 (by decide) r).1 he
  have hv:=Cn.x2V ((Cn.x0n.1 h6).2.1 r hm.1) (fun e=>by
   have h4:=hm.2.1;rw [e] at h4
   revert h4; decide)
  show -9223372036854775808<=Cn.value r/\Cn.value r<=9223372036854775807;omega
namespace Bd
end Bd
open Ti
namespace Cn
theorem x7y {rs:List Rec} (h6:(check6 rs).2=0) (a b:Int):Rune (cmp9 rs a b).1:=by
 unfold cmp9;split
 ·unfold sylOf;split
  ·rename_i h
   unfold jl jv at h;simp only [Bool.and_eq_true,decide_eq_true_eq] at h;unfold Rune;show -2147483648<=44032+((a - 4352) * 21+b - 4449) * 28/\44032+((a - 4352) * 21+b - 4449) * 28<=2147483647;omega
  ·split
   ·rename_i h
    unfold bare2 jt syl at h;simp only [Bool.and_eq_true,decide_eq_true_eq] at h;unfold Rune;show -2147483648<=a+b - 4520+1/\a+b - 4520+1<=2147483647;omega
   ·exact ⟨by decide,by decide⟩
 ·cases hp:x0S rs a b with
  | none=>exact ⟨by decide,by decide⟩
  | some p =>
   unfold x0S at hp;obtain ⟨r,hr,rfl⟩:=Option.map_eq_some_iff.1 hp;have hm:=List.mem_reverse.1 (List.mem_of_find?_eq_some hr);have ap:isP a b r=true:=List.find?_some hr;have hi:r.kind=7/\r.to.getD 0 0=a/\r.to.getD 1 0=b:=o0d ap;have hs:=x0o ((x0n.1 h6).2.1 r hm) (by omega);unfold Rune;show -2147483648<=r.lo/\r.lo<=2147483647;omega
def of18 (rs:List Rec) (X:List Int):Lb.Of:=⟨decide (X=Nm.cps (cls rs) (cmp9 rs) (nfd rs X)),fun c=>vget rs 6 c != 0,vget rs 1,decide (0<=Jn.chk (vget rs 2) (vget rs 5) X),Bd.rules (X.map (vget rs 4)) != 0⟩
end Cn
def y2L:Prop:=∀ (B p:Nat) (rs:List Rec) (w:World) (xv:Value) (X:List Int) (fl:Int) (rtl dec:Bool),Glob w->x0p w B p rs->(Cn.check rs).2=0->Sk .i32 w xv X->X.length<=1000->Calls prog 9 #[.pointer (some ⟨p,0,none⟩),xv,.int .i64 fl,.bool rtl,.bool dec] w (IntB w ((Lb.err (Cn.of18 rs X) fl rtl dec X:Nat):Int))
def y7V:Prop:=∀ (w:World) (fl:Int) (rtl dec:Bool),Calls prog 9 #[.pointer none,.slice none 0 0,.int .i64 fl,.bool rtl,.bool dec] w (IntB w 65535)
def y2O:Prop:=∀ (w:World) (xv:Value) (X:List Int),Sk .i32 w xv X->X.length<=1000->Calls prog 11 #[xv] w (x0d w (X.all Lb.ldh))
def y2M:Prop:=∀ (w:World) (xv:Value) (X:List Int),Sk .i32 w xv X->X.length<=1000->Calls prog 13 #[xv] w (x0d w (Lb.coded X))
def x8V:Prop:=∀ w,Glob w->Calls prog 7 #[] w (y5V w true)
theorem rnm18 {tv:Value} {rs:List Rec} {w:World} (hR:Rcs w tv rs) (hk:(Cn.check rs).2=0):RNmC tv (Cn.cls rs) (Cn.cmp9 rs) w:=by
 have h6:=x1L hk;exact ⟨Cn.x1M h6,fun a b _ _=>Cn.x7y h6 a b,fun c hc W hW=>x5l tv rs c W (hR.below hW) hc,fun a b ha hb W hW=>x9F tv rs a b W (hR.below hW) hk ha hb⟩
theorem z2i {tv:Value} {rs:List Rec} {w:World} (hR:Rcs w tv rs) (hk:(Cn.check rs).2=0):y8Q tv (Cn.nfd rs) w:=⟨fun X=>Cn.y4E hk X,fun xv X W hW hx hl=>y7w tv xv X W (hR.below hW) hk hx (by omega)⟩
theorem rlb18 (ta:Option Addr) (tl tc:Nat) {rs:List Rec} {w:World} (hR:Rcs w (.slice ta tl tc) rs) (hk:(Cn.check rs).2=0) {xv:Value} {X:List Int} (hx:Sk .i32 w xv X) (ab:X.length<=1000):RLbC (.slice ta tl tc) xv X (Cn.of18 rs X) w:=by
 have h6:=x1L hk;refine ⟨fun W hW=>z0k ta tl tc ((rnm18 hR hk).on hW) ((z2i (hR.below hW) hk)) (hx.below hW) (by omega),fun c hc W hW=>?_,fun c hc W hW=>?_,⟨_,rfl,fun W hW=>?_⟩,⟨_,rfl,fun W hW=>?_⟩⟩
 ·have:=y7u (.slice ta tl tc) rs c W (hR.below hW) hc;rw [<- Cn.y5K h6] at this;exact this
 ·have:=y2l (.slice ta tl tc) rs c W (hR.below hW) hc;rw [Cn.x9T h6] at this;exact this
 ·exact x5N ta tl tc W (y4X (hR.below hW) h6) (y7y (hR.below hW) h6) (hx.below hW)
 ·exact y2k ta tl tc W (y7o (hR.below hW) h6) (y2F h6) (hx.below hW) (by omega)
theorem y7r (ta:Option Addr) (tl tc:Nat) {rs:List Rec} {w:World} (hR:Rcs w (.slice ta tl tc) rs) (hk:(Cn.check rs).2=0) {xv:Value} {X:List Int} (hx:Sk .i32 w xv X) (ab:X.length<=1000) (fl:Int) (rtl dec:Bool):Calls prog 10 #[.slice ta tl tc,xv,.int .i64 fl,.bool rtl,.bool dec] w (IntB w ((Lb.err (Cn.of18 rs X) fl rtl dec X:Nat):Int)):=by
 unfold Lb.err;rcases Nat.eq_zero_or_pos X.length with h0 | h0
 ·rw [if_pos h0];obtain ⟨ao,cap,rfl,_,_⟩:=hx.shape;rw [h0];clear hR hx;go_enter func10,ntmps10;go_wp2;go_ret;exact ⟨rfl,b0r⟩
 ·rw [if_neg (by omega)];exact y2h ta tl tc (rlb18 ta tl tc hR hk hx ab) hx h0 ab fl rtl dec
open Ti
theorem nmC18 {B p:Nat} {rs:List Rec} {w:World} (hD:x0p w B p rs) (hk:(Cn.check rs).2=0):NmC p (Cn.cls rs) (Cn.cmp9 rs) w:=by
 have h6:=x1L hk;exact ⟨Cn.x1M h6,fun a b _ _=>Cn.x7y h6 a b,fun c hc W hW=>(x4H hD h6 c W hc hW).mono fun _ _ h=>⟨h.1,x0k h.2⟩,fun a b ha hb W hW=>x7B a b W (hD.below hW) ha hb⟩
theorem z1P {B p:Nat} {rs:List Rec} {w:World} (hg:Glob w) (hD:x0p w B p rs) (hk:(Cn.check rs).2=0):NfdC p (Cn.nfd rs) w:=by
 refine ⟨fun X=>Cn.y4E hk X,fun xv X W hW hx hl=>?_⟩;have h:=y4D xv X W (hg.on hW) (hD.below hW) hk hx;rw [if_neg (by omega)] at h;exact h
theorem isP18 {B p:Nat} {rs:List Rec} {w:World} (hg:Glob w) (hD:x0p w B p rs) (hk:(Cn.check rs).2=0) {xv:Value} {X:List Int} (hx:Sk .i32 w xv X) (ab:X.length<=1000):Calls prog 15 #[.pointer (some ⟨p,0,none⟩),xv] w (fun e w'=>e=.returned (.tuple #[.bool (Cn.of18 rs X).nf,.int .i64 0])/\Bw w w'):=isN18 (nmC18 hD hk) (z1P hg hD hk) hx (by omega)
open Ti
namespace Cn
theorem y2m {r:Rec} (h:right r=0) (hk:r.kind=9):0<=r.n/\r.n<=10:=by
 have hf:=x0H h;unfold right at h;rw [if_neg hf,if_neg (by omega)] at h;have hc:=x1Y h;rw [Bool.and_eq_true] at hc;have h2:=hc.2;rw [if_neg (by omega),if_neg (by omega),if_neg (by omega),if_neg (by omega),if_neg (by omega),if_neg (by omega),if_neg (by omega),if_neg (by omega),if_pos hk] at h2;simp only [Bool.and_eq_true] at h2;exact o0d h2.2
theorem y6x {k:Int} (h:fam k=4):k=9:=by
 unfold fam at h;split at h
 ·omega
 ·split at h
  ·omega
  ·split at h
   ·omega
   ·split at h <;> omega
theorem y5J {rs:List Rec} (h6:(check6 rs).2=0) (c:Int):0<=vget rs 4 c/\vget rs 4 c<=10:=by
 unfold vget
 cases he:hit rs 4 c with
 | none=>exact ⟨by decide,by decide⟩
 | some r =>
  have hm:=(x1b h6 (by decide) r).1 he;have hk:=y6x hm.2.1;have hv:=y2m ((x0n.1 h6).2.1 r hm.1) hk;show 0<=value r/\value r<=10;unfold value;rw [if_neg (by omega),if_neg (by omega),if_neg (by omega),if_neg (by omega),if_neg (by omega)];exact hv
end Cn
theorem pbd17 {B p:Nat} {rs:List Rec} {w:World} (hD:x0p w B p rs) (h6:(Cn.check6 rs).2=0):x8T p (Cn.vget rs 4) w:=⟨Cn.y5J h6,fun c hc W hW=>(y3a c W (hD.below hW) h6 hc).mono fun _ _ h=>⟨h.1,x0k h.2⟩⟩
