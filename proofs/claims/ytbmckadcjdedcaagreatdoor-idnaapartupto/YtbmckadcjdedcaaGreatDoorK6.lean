/- Lemmas. -/
import Derived.Test.YtbmckadcjdedcaaGreatDoorK1
import Derived.Test.YtbmckadcjdedcaaGreatDoorK26
set_option maxHeartbeats 2000000
set_option maxRecDepth 8000
namespace Go.Proofs.YtbmckadcjdedcaaGreatDoor
open Go.Proofs.Tryz
open Go.RowKit
open Ti
section
variable{p:Prop}
theorem R2E(h:p:=by go_enter func54,ntmps54;go_wp2_with fail;refine c0m o fun I A=>?_;have b1:=x0k A;have Q:=O b1;clear A;clear o b1;go_wp2_with fail;refine(V g I (V Q)).mono ?_;rintro f d ⟨U,rfl,K,m⟩;have Y:Hid (x0j w H (.returned U) d):=⟨U,rfl,x3u K (V Q).size,x0b (V Q) m⟩;obtain⟨P,N,s,_,_⟩:=K.sk.shape;subst s;clear g K m Q;go_wp2;go_ret;exact V Y):p:=h
theorem u9B(h:p:=by go_enter func54,ntmps54;go_wp2_with fail;refine c0m o fun I A=>?_;have b1:=x0k A;have Q:=O b1;clear A;clear o b1;have Y:Hid (x0j w [c] (.returned (.slice (some ⟨I.heap.size,0,none⟩) 1 1)) (I.alloc (.cells #[.int .i32 c] 21))):=⟨_,rfl,x9q I w.heap.size (V Q).size c f6J,x0b (V Q) ((b0r).alloc (l0r _) _)⟩;clear g Q;go_wp2;go_ret;exact V Y):p:=h
end
def tr15(fl:Int):Bool:=bits BinOp.and IntKind.i64 fl 16 != 0
namespace Cn
def x9r(rs:List Rec)(t:Bool)(c:Int):List Int:=if vget rs 1 c=2 then[]else if vget rs 1 c=3 then mapping rs c else if vget rs 1 c=4/\t=true then mapping rs c else[c]
end Cn
theorem y9t{B p rs} c fl w(E:x0n w B p rs)(q:(Cn.check6 rs).2=0)(l:∀r∈rs,RecFit r)(T:Rune c):Calls prog 54 #[.pointer (some ⟨p,0,none⟩),.int .i32 c,.int .i64 fl] w (x0j w (Cn.x9r rs (tr15 fl) c)):=by
 have o:=O (x7g c w E q T);have g:Hid (∀W,Bw w W->Calls prog 95 #[.pointer (some ⟨p,0,none⟩),.int .i32 c] W (x0j W (Cn.mapping rs c))):=fun W M=>y0C c _ (E.below M) q l T;clear E q l;obtain⟨R,F⟩:=T;unfold Cn.x9r;generalize Cn.vget rs 1 c=sv,Cn.mapping rs c=H at *;by_cases L:sv=2
 ·subst L;rw[if_pos rfl];go_enter func54,ntmps54;go_wp2_with fail;refine c0m o fun I A=>?_;have b1:=x0k A;have Q:=O b1;clear A;clear o b1;have Y:Hid (x0j w [] (.returned (.slice none 0 0)) I):=⟨_,rfl,Ok.nil _ _ _ _,V Q⟩;clear g Q;go_wp2;go_ret;exact V Y
 rw[if_neg L];by_cases C:sv=3
 ·subst C;rw[if_pos rfl];exact R2E
 rw[if_neg C];have z:(sv==2)=false:=(by rw[beq_eq_false_iff_ne];exact L);have D:(sv==3)=false:=(by rw[beq_eq_false_iff_ne];exact C);by_cases y:sv=4
 ·subst y;clear L C z D;unfold tr15
  cases ht:(bits BinOp.and IntKind.i64 fl 16 != 0)with
  | true =>
   rw[if_pos ⟨rfl,rfl⟩];exact R2E
  | false =>
   rw[if_neg M7L];exact u9B
 ·rw[if_neg (fun h=>y h.1)];have G:(sv==4)=false:=(by rw[beq_eq_false_iff_ne];exact y);clear L C y;exact u9B
theorem z8Q{B p rs} fl w(E:x0n w B p rs)(q:(Cn.check6 rs).2=0)(l:∀r∈rs,RecFit r):y3c w p fl (Cn.x9r rs (tr15 fl)):=fun c T W U=>y9t c fl W (E.below U) q l T
