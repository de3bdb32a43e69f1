import Derived.Test.YtbmckadcjdedcaaGreatDoorF1
import Derived.Test.YtbmckadcjdedcaaGreatDoorF26
set_option maxHeartbeats 2000000
set_option maxRecDepth 8000
namespace Go.Proofs.YtbmckadcjdedcaaGreatDoor
open Go.Proofs.Tryz
open Go.RowKit
section
variable{p:Prop}
theorem g7P(h:p:=by go_enter func54,ntmps54;go_wp2_with fail;refine c0m H fun Q K=>?_;have b1:=x0k K;have U:=O b1;clear K;clear H b1;go_wp2_with fail;refine(V o Q (V U)).mono ?_;rintro f d ⟨j,rfl,u,m⟩;have T:Hid (x0j w A (.returned j) d):=⟨j,rfl,x3x u (V U).size,x0b (V U) m⟩;obtain⟨P,y,E,_,_⟩:=u.sk.shape;subst E;clear o u m U;go_wp2;go_ret;exact V T):p:=h
theorem s4A(h:p:=by go_enter func54,ntmps54;go_wp2_with fail;refine c0m H fun Q K=>?_;have b1:=x0k K;have U:=O b1;clear K;clear H b1;have T:Hid (x0j w [c] (.returned (.slice (some ⟨Q.heap.size,0,none⟩) 1 1)) (Q.alloc (.cells #[.int .i32 c] 21))):=⟨_,rfl,x9w Q w.heap.size (V U).size c f6J,x0b (V U) ((b0r).alloc (l0r _) _)⟩;clear o U;go_wp2;go_ret;exact V T):p:=h
end
def stl15(ys:Int->List Int)(xs:List Int):Bool:=decide ((flat15 ys xs).length<=65536)&&decide (xs=flat15 ys xs)
theorem x9M p fl ys xv xs w(J:Sk .i32 w xv xs)(S:xs.length<=1000000000)(y:x9W w p fl ys) :
  Calls prog 16 #[.pointer (some ⟨p,0,none⟩),xv,.int .i64 fl] w (x2S w (stl15 ys xs)):=by
 have K:=O (y0L p fl ys xv xs w J S y);have r:=O J;obtain⟨R,M,rfl,_,_⟩:=J.shape;have A:(flat15 ys xs).length<=65536->stl15 ys xs=decide (xs=flat15 ys xs):=fun h=>(by unfold stl15;rw[d0t h,Bool.true_and]);have C:65536<(flat15 ys xs).length->stl15 ys xs=false:=fun h=>(by unfold stl15;rw[d0f f6J,Bool.false_and]);clear J y;generalize stl15 ys xs=sb,flat15 ys xs=F at *;go_enter func16,ntmps16;go_wp2_with fail;refine(V K).mono ?_;rintro e Q ⟨b1,⟨E,v,rfl,ok⟩|⟨q,rfl⟩⟩
 ·have o:=O (x8P _ v xs F Q ((V r).below b1) ok.sk);have Z:=A E;subst Z;have B:=O b1;obtain⟨L,j,x,_,_⟩:=ok.sk.shape;subst x;clear K ok b1 r A C;generalize decide (xs=F)=b at *;go_wp2_with fail;refine(V o).mono ?_;rintro f d ⟨rfl,G,rfl⟩;have T:=O (x0b (V B) (x0k ⟨G,rfl⟩));clear o;generalize Q.drewN G=d at *;exact i9r
 ·have Z:=C q;subst Z;have T:=O b1;clear K b1 r A C;exact i9r
open Ti
def tr15(fl:Int):Bool:=bits BinOp.and IntKind.i64 fl 16 != 0
namespace Cn
def one15(rs:List Rec)(t:Bool)(c:Int):List Int:=if vget rs 1 c=2 then[]else if vget rs 1 c=3 then mapping rs c else if vget rs 1 c=4/\t=true then mapping rs c else[c]
end Cn
theorem y9y{B p rs} c fl w(N:x0o w B p rs)(F:(Cn.check6 rs).2=0)(l:∀r∈rs,RecFit r)(I:Rune c):Calls prog 54 #[.pointer (some ⟨p,0,none⟩),.int .i32 c,.int .i64 fl] w (x0j w (Cn.one15 rs (tr15 fl) c)):=by
 have H:=O (x7h c w N F I);have o:Hid (∀W,Bw w W->Calls prog 95 #[.pointer (some ⟨p,0,none⟩),.int .i32 c] W (x0j W (Cn.mapping rs c))):=fun W t=>y0M c _ (N.below t) F l I;clear N F l;obtain⟨L,q⟩:=I;unfold Cn.one15;generalize Cn.vget rs 1 c=sv,Cn.mapping rs c=A at *;by_cases s:sv=2
 ·subst s;rw[if_pos rfl];go_enter func54,ntmps54;go_wp2_with fail;refine c0m H fun Q K=>?_;have b1:=x0k K;have U:=O b1;clear K;clear H b1;have T:Hid (x0j w [] (.returned (.slice none 0 0)) Q):=⟨_,rfl,Ok.nil _ _ _ _,V U⟩;clear o U;go_wp2;go_ret;exact V T
 rw[if_neg s];by_cases C:sv=3
 ·subst C;rw[if_pos rfl];exact g7P
 rw[if_neg C];have z:(sv==2)=false:=(by rw[beq_eq_false_iff_ne];exact s);have D:(sv==3)=false:=(by rw[beq_eq_false_iff_ne];exact C);by_cases R:sv=4
 ·subst R;clear s C z D;unfold tr15
  cases ht:(bits BinOp.and IntKind.i64 fl 16 != 0)with
  | true =>
   rw[if_pos ⟨rfl,rfl⟩];exact g7P
  | false =>
   rw[if_neg M7L];exact s4A
 ·rw[if_neg (fun h=>R h.1)];have G:(sv==4)=false:=(by rw[beq_eq_false_iff_ne];exact R);clear s C R;exact s4A
theorem z4a{B p rs} fl w(N:x0o w B p rs)(F:(Cn.check6 rs).2=0)(l:∀r∈rs,RecFit r):x9W w p fl (Cn.one15 rs (tr15 fl)):=fun c I W t=>y9y c fl W (N.below t) F l I
