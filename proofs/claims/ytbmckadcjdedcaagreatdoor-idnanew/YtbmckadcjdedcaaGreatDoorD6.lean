/- Rg15 Rh15 -/
import Derived.Test.YtbmckadcjdedcaaGreatDoorD1
import Derived.Test.YtbmckadcjdedcaaGreatDoorD26
set_option maxHeartbeats 2000000
set_option maxRecDepth 8000
namespace Go.Proofs.YtbmckadcjdedcaaGreatDoor
open Go.Proofs.Tryz
open Go.RowKit
open Ti
section
variable{p:Prop}
theorem s9U(h:p:=by go_enter func54,ntmps54;go_wp2_with fail;refine c0m i fun Q E=>?_;have b1:=x0k E;have l:=O b1;clear E;clear i b1;go_wp2_with fail;refine(V j Q (V l)).mono ?_;rintro f A ⟨R,rfl,K,m⟩;have T:Hid (x0j w D (.returned R) A):=⟨R,rfl,x3q K (V l).size,x0b (V l) m⟩;obtain⟨J,s,C,_,_⟩:=K.sk.shape;subst C;clear j K m l;go_wp2;go_ret;exact V T):p:=h
theorem V9B(h:p:=by go_enter func54,ntmps54;go_wp2_with fail;refine c0m i fun Q E=>?_;have b1:=x0k E;have l:=O b1;clear E;clear i b1;have T:Hid (x0j w [c] (.returned (.slice (some ⟨Q.heap.size,0,none⟩) 1 1)) (Q.alloc (.cells #[.int .i32 c] 21))):=⟨_,rfl,x9o Q w.heap.size (V l).size c f6J,x0b (V l) ((b0r).alloc (l0r _) _)⟩;clear j l;go_wp2;go_ret;exact V T):p:=h
end
def tr15(fl:Int):Bool:=bits BinOp.and IntKind.i64 fl 16 != 0
namespace Cn
def y2k(rs:List Rec)(t:Bool)(c:Int):List Int:=if vget rs 1 c=2 then[]else if vget rs 1 c=3 then mapping rs c else if vget rs 1 c=4/\t=true then mapping rs c else[c]
end Cn
theorem y8X{B p:Nat}{rs:List Rec}(c fl:Int)(w:World)(b:x0n w B p rs)(L:(Cn.check6 rs).2=0)(o:∀r∈rs,RecFit r)(I:Rune c):Calls prog 54 #[.pointer (some ⟨p,0,none⟩),.int .i32 c,.int .i64 fl] w (x0j w (Cn.y2k rs (tr15 fl) c)):=by
 have i:=O (x6Z c w b L I);have j:Hid (∀W,Bw w W->Calls prog 95 #[.pointer (some ⟨p,0,none⟩),.int .i32 c] W (x0j W (Cn.mapping rs c))):=fun W t=>y0y c _ (b.below t) L o I;clear b L o;obtain⟨M,N⟩:=I;unfold Cn.y2k;generalize Cn.vget rs 1 c=sv,Cn.mapping rs c=D at *;by_cases d:sv=2
 ·subst d;rw[if_pos rfl];go_enter func54,ntmps54;go_wp2_with fail;refine c0m i fun Q E=>?_;have b1:=x0k E;have l:=O b1;clear E;clear i b1;have T:Hid (x0j w [] (.returned (.slice none 0 0)) Q):=⟨_,rfl,Ok.nil _ _ _ _,V l⟩;clear j l;go_wp2;go_ret;exact V T
 rw[if_neg d];by_cases Y:sv=3
 ·subst Y;rw[if_pos rfl];exact s9U
 rw[if_neg Y];have P:(sv==2)=false:=(by rw[beq_eq_false_iff_ne];exact d);have a:(sv==3)=false:=(by rw[beq_eq_false_iff_ne];exact Y);by_cases F:sv=4
 ·subst F;clear d Y P a;unfold tr15
  cases ht:(bits BinOp.and IntKind.i64 fl 16 != 0)with
  | true =>
   rw[if_pos ⟨rfl,rfl⟩];exact s9U
  | false =>
   rw[if_neg M7L];exact V9B
 ·rw[if_neg (fun h=>F h.1)];have G:(sv==4)=false:=(by rw[beq_eq_false_iff_ne];exact F);clear d Y F;exact V9B
theorem z8h{B p:Nat}{rs:List Rec}(fl:Int)(w:World)(b:x0n w B p rs)(F:(Cn.check6 rs).2=0)(o:∀r∈rs,RecFit r):y2O w p fl (Cn.y2k rs (tr15 fl)):=fun c I W t=>y8X c fl W (b.below t) F o I
