/- Lemmas. -/
import Derived.Test.YtkfcabdmkmljjaaGreatDoorG1
import Derived.Test.YtkfcabdmkmljjaaGreatDoorG23
set_option maxHeartbeats 2000000
set_option maxRecDepth 8000
namespace Go.Proofs.YtkfcabdmkmljjaaGreatDoor
open Go.Proofs.Tryz
open Go.RowKit
open Ti
section
variable{p:Prop}
theorem w3x(h:p:=by go_enter func166,ntmps166;go_wp2_with fail;refine c0m q fun Q j=>?_;have b1:=x0i j;have L:=O b1;clear j;clear q b1;go_wp2_with fail;refine(V g Q (V L)).mono ?_;rintro E T ⟨o,rfl,K,m⟩;have U:Hid (x0h w A (.returned o) T):=⟨o,rfl,x3e K (V L).size,bthen (V L) m⟩;obtain⟨f,D,X,_,_⟩:=K.sk.shape;subst X;clear g K m L;go_wp2;go_ret;exact V U):p:=h
theorem m5w(h:p:=by go_enter func166,ntmps166;go_wp2_with fail;refine c0m q fun Q j=>?_;have b1:=x0i j;have L:=O b1;clear j;clear q b1;have U:Hid (x0h w [c] (.returned (.slice (some ⟨Q.heap.size,0,none⟩) 1 1)) (Q.alloc (.cells #[.int .i32 c] 21))):=⟨_,rfl,x9W Q w.heap.size (V L).size c f6J,bthen (V L) ((b0r).alloc (l0r _) _)⟩;clear g L;go_wp2;go_ret;exact V U):p:=h
end
def tr15(fl:Int):Bool:=bits BinOp.and IntKind.i64 fl 16 != 0
namespace Cn
def x9X(rs:List Rec)(t:Bool)(c:Int):List Int:=if vget rs 1 c=2 then[]else if vget rs 1 c=3 then mapping rs c else if vget rs 1 c=4/\t=true then mapping rs c else[c]
end Cn
theorem z0u{B p rs} c fl w(F:x0m w B p rs)(N:(Cn.check6 rs).2=0)(s:∀r∈rs,RecFit r)(I:Rune c):Calls prog 166 #[.pointer (some ⟨p,0,none⟩),.int .i32 c,.int .i64 fl] w (x0h w (Cn.x9X rs (tr15 fl) c)):=by
 have q:=O (x7B c w F N I);have g:Hid (∀W,Bw w W->Calls prog 213 #[.pointer (some ⟨p,0,none⟩),.int .i32 c] W (x0h W (Cn.mapping rs c))):=fun W P=>y1s c _ (F.below P) N s I;clear F N s;obtain⟨H,R⟩:=I;unfold Cn.x9X;generalize Cn.vget rs 1 c=sv,Cn.mapping rs c=A at *;by_cases M:sv=2
 ·subst M;rw[if_pos rfl];go_enter func166,ntmps166;go_wp2_with fail;refine c0m q fun Q j=>?_;have b1:=x0i j;have L:=O b1;clear j;clear q b1;have U:Hid (x0h w [] (.returned (.slice none 0 0)) Q):=⟨_,rfl,Ok.nil _ _ _ _,V L⟩;clear g L;go_wp2;go_ret;exact V U
 rw[if_neg M];by_cases C:sv=3
 ·subst C;rw[if_pos rfl];exact w3x
 rw[if_neg C];have d:(sv==2)=false:=(by rw[beq_eq_false_iff_ne];exact M);have n:(sv==3)=false:=(by rw[beq_eq_false_iff_ne];exact C);by_cases u:sv=4
 ·subst u;clear M C d n;unfold tr15
  cases ht:(bits BinOp.and IntKind.i64 fl 16 != 0)with
  | true =>
   rw[if_pos ⟨rfl,rfl⟩];exact w3x
  | false =>
   rw[if_neg M7L];exact m5w
 ·rw[if_neg (fun h=>u h.1)];have G:(sv==4)=false:=(by rw[beq_eq_false_iff_ne];exact u);clear M C u;exact m5w
theorem q0L{B p rs} fl w(F:x0m w B p rs)(q:(Cn.check6 rs).2=0)(s:∀r∈rs,RecFit r):y3M w p fl (Cn.x9X rs (tr15 fl)):=fun c I W P=>z0u c fl W (F.below P) q s I
