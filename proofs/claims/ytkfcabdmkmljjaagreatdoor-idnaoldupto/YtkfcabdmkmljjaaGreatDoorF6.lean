/- Lemmas. -/
import Derived.Test.YtkfcabdmkmljjaaGreatDoorF1
import Derived.Test.YtkfcabdmkmljjaaGreatDoorF23
set_option maxHeartbeats 2000000
set_option maxRecDepth 8000
namespace Go.Proofs.YtkfcabdmkmljjaaGreatDoor
open Go.Proofs.Tryz
open Go.RowKit
open Ti
section
variable{p:Prop}
theorem N2o(h:p:=by go_enter func166,ntmps166;go_wp2_with fail;refine c0m l fun Q Z=>?_;have b1:=x0i Z;have R:=O b1;clear Z;clear l b1;go_wp2_with fail;refine(V j Q (V R)).mono ?_;rintro z u ⟨a,rfl,s,i⟩;have T:Hid (x0h w A (.returned a) u):=⟨a,rfl,x3i s (V R).size,bthen (V R) i⟩;obtain⟨P,N,C,_,_⟩:=s.sk.shape;subst C;clear j s i R;go_wp2;go_ret;exact V T):p:=h
theorem r1K(h:p:=by go_enter func166,ntmps166;go_wp2_with fail;refine c0m l fun Q Z=>?_;have b1:=x0i Z;have R:=O b1;clear Z;clear l b1;have T:Hid (x0h w [c] (.returned (.slice (some ⟨Q.heap.size,0,none⟩) 1 1)) (Q.alloc (.cells #[.int .i32 c] 21))):=⟨_,rfl,x9L Q w.heap.size (V R).size c f6J,bthen (V R) ((b0r).alloc (l0r _) _)⟩;clear j R;go_wp2;go_ret;exact V T):p:=h
end
def tr15(fl:Int):Bool:=bits BinOp.and IntKind.i64 fl 16 != 0
namespace Cn
def y1m(rs:List Rec)(t:Bool)(c:Int):List Int:=if vget rs 1 c=2 then[]else if vget rs 1 c=3 then mapping rs c else if vget rs 1 c=4/\t=true then mapping rs c else[c]
end Cn
theorem z0m{B p rs} c fl w(F:x0n w B p rs)(q:(Cn.check6 rs).2=0)(K:∀r∈rs,RecFit r)(G:Rune c):Calls prog 166 #[.pointer (some ⟨p,0,none⟩),.int .i32 c,.int .i64 fl] w (x0h w (Cn.y1m rs (tr15 fl) c)):=by
 have l:=O (x3N c w F q G);have j:Hid (∀W,Bw w W->Calls prog 213 #[.pointer (some ⟨p,0,none⟩),.int .i32 c] W (x0h W (Cn.mapping rs c))):=fun W U=>y1e c _ (F.below U) q K G;clear F q K;obtain⟨J,t⟩:=G;unfold Cn.y1m;generalize Cn.vget rs 1 c=sv,Cn.mapping rs c=A at *;by_cases H:sv=2
 ·subst H;rw[if_pos rfl];go_enter func166,ntmps166;go_wp2_with fail;refine c0m l fun Q Z=>?_;have b1:=x0i Z;have R:=O b1;clear Z;clear l b1;have T:Hid (x0h w [] (.returned (.slice none 0 0)) Q):=⟨_,rfl,Ok.nil _ _ _ _,V R⟩;clear j R;go_wp2;go_ret;exact V T
 rw[if_neg H];by_cases I:sv=3
 ·subst I;rw[if_pos rfl];exact N2o
 rw[if_neg I];have L:(sv==2)=false:=(by rw[beq_eq_false_iff_ne];exact H);have d:(sv==3)=false:=(by rw[beq_eq_false_iff_ne];exact I);by_cases b:sv=4
 ·subst b;clear H I L d;unfold tr15
  cases ht:(bits BinOp.and IntKind.i64 fl 16 != 0)with
  | true =>
   rw[if_pos ⟨rfl,rfl⟩];exact N2o
  | false =>
   rw[if_neg M7L];exact r1K
 ·rw[if_neg (fun h=>b h.1)];have D:(sv==4)=false:=(by rw[beq_eq_false_iff_ne];exact b);clear H I b;exact r1K
theorem q0v{B p rs} fl w(F:x0n w B p rs)(q:(Cn.check6 rs).2=0)(K:∀r∈rs,RecFit r):y3z w p fl (Cn.y1m rs (tr15 fl)):=fun c I W U=>z0m c fl W (F.below U) q K I
