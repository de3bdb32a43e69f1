/- Lemmas. -/
import Derived.Test.YtkfcabdmkmljjaaGreatDoorH1
import Derived.Test.YtkfcabdmkmljjaaGreatDoorH23
set_option maxHeartbeats 2000000
set_option maxRecDepth 8000
namespace Go.Proofs.YtkfcabdmkmljjaaGreatDoor
open Go.Proofs.Tryz
open Go.RowKit
open Ti
section
variable{p:Prop}
theorem I1q(h:p:=by go_enter func166,ntmps166;go_wp2_with fail;refine c0m i fun Q K=>?_;have b1:=x0i K;have l:=O b1;clear K;clear i b1;go_wp2_with fail;refine(V j Q (V l)).mono ?_;rintro E t ⟨A,rfl,M,u⟩;have U:Hid (x0h w J (.returned A) t):=⟨A,rfl,x3g M (V l).size,bthen (V l) u⟩;obtain⟨P,T,X,_,_⟩:=M.sk.shape;subst X;clear j M u l;go_wp2;go_ret;exact V U):p:=h
theorem W9B(h:p:=by go_enter func166,ntmps166;go_wp2_with fail;refine c0m i fun Q K=>?_;have b1:=x0i K;have l:=O b1;clear K;clear i b1;have U:Hid (x0h w [c] (.returned (.slice (some ⟨Q.heap.size,0,none⟩) 1 1)) (Q.alloc (.cells #[.int .i32 c] 21))):=⟨_,rfl,x9O Q w.heap.size (V l).size c f6J,bthen (V l) ((b0r).alloc (l0r _) _)⟩;clear j l;go_wp2;go_ret;exact V U):p:=h
end
def tr15(fl:Int):Bool:=bits BinOp.and IntKind.i64 fl 16 != 0
namespace Cn
def y2T(rs:List Rec)(t:Bool)(c:Int):List Int:=if vget rs 1 c=2 then[]else if vget rs 1 c=3 then mapping rs c else if vget rs 1 c=4/\t=true then mapping rs c else[c]
end Cn
theorem z0j{B p rs} c fl w(F:x0m w B p rs)(y:(Cn.check6 rs).2=0)(s:∀r∈rs,RecFit r)(I:Rune c):Calls prog 166 #[.pointer (some ⟨p,0,none⟩),.int .i32 c,.int .i64 fl] w (x0h w (Cn.y2T rs (tr15 fl) c)):=by
 have i:=O (x3O c w F y I);have j:Hid (∀W,Bw w W->Calls prog 213 #[.pointer (some ⟨p,0,none⟩),.int .i32 c] W (x0h W (Cn.mapping rs c))):=fun W R=>y1g c _ (F.below R) y s I;clear F y s;obtain⟨Y,H⟩:=I;unfold Cn.y2T;generalize Cn.vget rs 1 c=sv,Cn.mapping rs c=J at *;by_cases S:sv=2
 ·subst S;rw[if_pos rfl];go_enter func166,ntmps166;go_wp2_with fail;refine c0m i fun Q K=>?_;have b1:=x0i K;have l:=O b1;clear K;clear i b1;have U:Hid (x0h w [] (.returned (.slice none 0 0)) Q):=⟨_,rfl,Ok.nil _ _ _ _,V l⟩;clear j l;go_wp2;go_ret;exact V U
 rw[if_neg S];by_cases C:sv=3
 ·subst C;rw[if_pos rfl];exact I1q
 rw[if_neg C];have a:(sv==2)=false:=(by rw[beq_eq_false_iff_ne];exact S);have D:(sv==3)=false:=(by rw[beq_eq_false_iff_ne];exact C);by_cases N:sv=4
 ·subst N;clear S C a D;unfold tr15
  cases ht:(bits BinOp.and IntKind.i64 fl 16 != 0)with
  | true =>
   rw[if_pos ⟨rfl,rfl⟩];exact I1q
  | false =>
   rw[if_neg M7L];exact W9B
 ·rw[if_neg (fun h=>N h.1)];have G:(sv==4)=false:=(by rw[beq_eq_false_iff_ne];exact N);clear S C N;exact W9B
theorem q0s{B p rs} fl w(F:x0m w B p rs)(y:(Cn.check6 rs).2=0)(s:∀r∈rs,RecFit r):y3A w p fl (Cn.y2T rs (tr15 fl)):=fun c I W R=>z0j c fl W (F.below R) y s I
