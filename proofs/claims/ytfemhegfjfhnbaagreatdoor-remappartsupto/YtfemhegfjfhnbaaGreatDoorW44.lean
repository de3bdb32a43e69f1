/- Rh15 Ri15 Rj15 -/
import Derived.Test.YtfemhegfjfhnbaaGreatDoorW5
import Derived.Test.YtfemhegfjfhnbaaGreatDoorW43
namespace Go.Proofs.YtfemhegfjfhnbaaGreatDoor
open Go.RowKit
open Ti
def tr15 (fl:Int):Bool:=bits BinOp.and IntKind.i64 fl 16 != 0
namespace Cn
def one15 (rs:List Rec) (t:Bool) (c:Int):List Int:=if vget rs 1 c=2 then [] else if vget rs 1 c=3 then mapping rs c else if vget rs 1 c=4∧t=true then mapping rs c else [c]
end Cn
set_option maxRecDepth 8000 in
set_option maxHeartbeats 2000000 in
theorem one_any15 {B p:Nat} {rs:List Rec} (c fl:Int) (w:World) (hD:DataAt w B p rs) (h6:(Cn.check6 rs).2=0) (hfit:∀ r∈rs,RecFit r) (hc:Rune c):Calls Tryz.prog 15 #[.pointer (some ⟨p,0,none⟩),.int .i32 c,.int .i64 fl] w (RunesNew w (Cn.one15 rs (tr15 fl) c)):=by
 have K1:=Hd (status_any9 c w hD h6 hc)
 have K2:Hid (∀ W,Below w.heap.size w W→Calls Tryz.prog 25 #[.pointer (some ⟨p,0,none⟩),.int .i32 c] W (RunesNew W (Cn.mapping rs c))):=fun W hW=>mapping_any9 c _ (hD.below hW) h6 hfit hc
 clear hD h6 hfit
 obtain ⟨hc1,hc2⟩:=hc
 unfold Cn.one15
 generalize Cn.vget rs 1 c=sv at *
 generalize Cn.mapping rs c=mp at *
 by_cases s2:sv=2
 ·subst s2
  rw [if_pos rfl]
  go_enter Tryz.func15,Tryz.ntmps15
  go_wp2_with fail
  refine (Uh K1).mono ?_
  rintro e w1 ⟨rfl,hdr⟩
  have b1:=drewB hdr
  have HB1:=Hd b1
  clear hdr
  clear K1 b1
  have HF:Hid (RunesNew w [] (.returned (.slice none 0 0)) w1):=⟨_,rfl,Ok.nil _ _ _ _,Uh HB1⟩
  clear K2 HB1
  go_wp2
  go_ret
  exact Uh HF
 rw [if_neg s2]
 by_cases s3:sv=3
 ·subst s3
  rw [if_pos rfl]
  go_enter Tryz.func15,Tryz.ntmps15
  go_wp2_with fail
  refine (Uh K1).mono ?_
  rintro e w1 ⟨rfl,hdr⟩
  have b1:=drewB hdr
  have HB1:=Hd b1
  clear hdr
  clear K1 b1
  go_wp2_with fail
  refine ((Uh K2) w1 (Uh HB1)).mono ?_
  rintro e2 w2 ⟨v2,rfl,ok2,b2⟩
  have HF:Hid (RunesNew w mp (.returned v2) w2):=⟨v2,rfl,ok_lower15 ok2 (Uh HB1).size,bthen (Uh HB1) b2⟩
  obtain ⟨a2,cp2,hv2,_,_⟩:=ok2.sk.shape
  subst hv2
  clear K2 ok2 b2 HB1
  go_wp2
  go_ret
  exact Uh HF
 rw [if_neg s3]
 have n2:(sv==2)=false:=by rw [beq_eq_false_iff_ne]; exact s2
 have n3:(sv==3)=false:=by rw [beq_eq_false_iff_ne]; exact s3
 by_cases s4:sv=4
 ·subst s4
  clear s2 s3 n2 n3
  unfold tr15
  cases ht:(bits BinOp.and IntKind.i64 fl 16 != 0) with
  | true =>
   rw [if_pos ⟨rfl,rfl⟩]
   go_enter Tryz.func15,Tryz.ntmps15
   go_wp2_with fail
   refine (Uh K1).mono ?_
   rintro e w1 ⟨rfl,hdr⟩
   have b1:=drewB hdr
   have HB1:=Hd b1
   clear hdr
   clear K1 b1
   go_wp2_with fail
   refine ((Uh K2) w1 (Uh HB1)).mono ?_
   rintro e2 w2 ⟨v2,rfl,ok2,b2⟩
   have HF:Hid (RunesNew w mp (.returned v2) w2):=⟨v2,rfl,ok_lower15 ok2 (Uh HB1).size,bthen (Uh HB1) b2⟩
   obtain ⟨a2,cp2,hv2,_,_⟩:=ok2.sk.shape
   subst hv2
   clear K2 ok2 b2 HB1
   go_wp2
   go_ret
   exact Uh HF
  | false =>
   rw [if_neg (by simp)]
   go_enter Tryz.func15,Tryz.ntmps15
   go_wp2_with fail
   refine (Uh K1).mono ?_
   rintro e w1 ⟨rfl,hdr⟩
   have b1:=drewB hdr
   have HB1:=Hd b1
   clear hdr
   clear K1 b1
   have HF:Hid (RunesNew w [c] (.returned (.slice (some ⟨w1.heap.size,0,none⟩) 1 1)) (w1.alloc (.cells #[.int .i32 c] 21))):=⟨_,rfl,ok_one9 w1 w.heap.size (Uh HB1).size c (by omega),bthen (Uh HB1) ((Below.refl _ _).alloc (Nat.le_refl _) _)⟩
   clear K2 HB1
   go_wp2
   go_ret
   exact Uh HF
 ·rw [if_neg (fun h=>s4 h.1)]
  have n4:(sv==4)=false:=by rw [beq_eq_false_iff_ne]; exact s4
  clear s2 s3 s4
  go_enter Tryz.func15,Tryz.ntmps15
  go_wp2_with fail
  refine (Uh K1).mono ?_
  rintro e w1 ⟨rfl,hdr⟩
  have b1:=drewB hdr
  have HB1:=Hd b1
  clear hdr
  clear K1 b1
  have HF:Hid (RunesNew w [c] (.returned (.slice (some ⟨w1.heap.size,0,none⟩) 1 1)) (w1.alloc (.cells #[.int .i32 c] 21))):=⟨_,rfl,ok_one9 w1 w.heap.size (Uh HB1).size c (by omega),bthen (Uh HB1) ((Below.refl _ _).alloc (Nat.le_refl _) _)⟩
  clear K2 HB1
  go_wp2
  go_ret
  exact Uh HF
set_option maxRecDepth 8000 in
set_option maxHeartbeats 2000000 in
theorem refOne15 (ta:Option Addr) (tl tc:Nat) {rs:List Rec} (c fl:Int) (w:World) (hR:Rcs w (.slice ta tl tc) rs) (h6:(Cn.check6 rs).2=0) (hc:Rune c):Calls Tryz.prog 16 #[.slice ta tl tc,.int .i32 c,.int .i64 fl] w (RunesNew w (Cn.one15 rs (tr15 fl) c)):=by
 have K1:=Hd (refStatus9 _ rs c w hR hc)
 rw [Cn.vget_status h6] at K1
 have K2:Hid (∀ W,Below w.heap.size w W→Calls Tryz.prog 27 #[.slice ta tl tc,.int .i32 c] W (RunesNew W (Cn.mapping rs c))):=fun W hW=>refMapping9 _ rs c W (hR.below hW) hc h6
 clear hR h6
 obtain ⟨hc1,hc2⟩:=hc
 unfold Cn.one15
 generalize Cn.vget rs 1 c=sv at *
 generalize Cn.mapping rs c=mp at *
 by_cases s2:sv=2
 ·subst s2
  rw [if_pos rfl]
  go_enter Tryz.func16,Tryz.ntmps16
  go_wp2_with fail
  refine (Uh K1).mono ?_
  rintro e w1 ⟨rfl,b1⟩
  have HB1:=Hd b1
  clear K1 b1
  have HF:Hid (RunesNew w [] (.returned (.slice none 0 0)) w1):=⟨_,rfl,Ok.nil _ _ _ _,Uh HB1⟩
  clear K2 HB1
  go_wp2
  go_ret
  exact Uh HF
 rw [if_neg s2]
 by_cases s3:sv=3
 ·subst s3
  rw [if_pos rfl]
  go_enter Tryz.func16,Tryz.ntmps16
  go_wp2_with fail
  refine (Uh K1).mono ?_
  rintro e w1 ⟨rfl,b1⟩
  have HB1:=Hd b1
  clear K1 b1
  go_wp2_with fail
  refine ((Uh K2) w1 (Uh HB1)).mono ?_
  rintro e2 w2 ⟨v2,rfl,ok2,b2⟩
  have HF:Hid (RunesNew w mp (.returned v2) w2):=⟨v2,rfl,ok_lower15 ok2 (Uh HB1).size,bthen (Uh HB1) b2⟩
  obtain ⟨a2,cp2,hv2,_,_⟩:=ok2.sk.shape
  subst hv2
  clear K2 ok2 b2 HB1
  go_wp2
  go_ret
  exact Uh HF
 rw [if_neg s3]
 have n2:(sv==2)=false:=by rw [beq_eq_false_iff_ne]; exact s2
 have n3:(sv==3)=false:=by rw [beq_eq_false_iff_ne]; exact s3
 by_cases s4:sv=4
 ·subst s4
  clear s2 s3 n2 n3
  unfold tr15
  cases ht:(bits BinOp.and IntKind.i64 fl 16 != 0) with
  | true =>
   rw [if_pos ⟨rfl,rfl⟩]
   go_enter Tryz.func16,Tryz.ntmps16
   go_wp2_with fail
   refine (Uh K1).mono ?_
   rintro e w1 ⟨rfl,b1⟩
   have HB1:=Hd b1
   clear K1 b1
   go_wp2_with fail
   refine ((Uh K2) w1 (Uh HB1)).mono ?_
   rintro e2 w2 ⟨v2,rfl,ok2,b2⟩
   have HF:Hid (RunesNew w mp (.returned v2) w2):=⟨v2,rfl,ok_lower15 ok2 (Uh HB1).size,bthen (Uh HB1) b2⟩
   obtain ⟨a2,cp2,hv2,_,_⟩:=ok2.sk.shape
   subst hv2
   clear K2 ok2 b2 HB1
   go_wp2
   go_ret
   exact Uh HF
  | false =>
   rw [if_neg (by simp)]
   go_enter Tryz.func16,Tryz.ntmps16
   go_wp2_with fail
   refine (Uh K1).mono ?_
   rintro e w1 ⟨rfl,b1⟩
   have HB1:=Hd b1
   clear K1 b1
   have HF:Hid (RunesNew w [c] (.returned (.slice (some ⟨w1.heap.size,0,none⟩) 1 1)) (w1.alloc (.cells #[.int .i32 c] 21))):=⟨_,rfl,ok_one9 w1 w.heap.size (Uh HB1).size c (by omega),bthen (Uh HB1) ((Below.refl _ _).alloc (Nat.le_refl _) _)⟩
   clear K2 HB1
   go_wp2
   go_ret
   exact Uh HF
 ·rw [if_neg (fun h=>s4 h.1)]
  have n4:(sv==4)=false:=by rw [beq_eq_false_iff_ne]; exact s4
  clear s2 s3 s4
  go_enter Tryz.func16,Tryz.ntmps16
  go_wp2_with fail
  refine (Uh K1).mono ?_
  rintro e w1 ⟨rfl,b1⟩
  have HB1:=Hd b1
  clear K1 b1
  have HF:Hid (RunesNew w [c] (.returned (.slice (some ⟨w1.heap.size,0,none⟩) 1 1)) (w1.alloc (.cells #[.int .i32 c] 21))):=⟨_,rfl,ok_one9 w1 w.heap.size (Uh HB1).size c (by omega),bthen (Uh HB1) ((Below.refl _ _).alloc (Nat.le_refl _) _)⟩
  clear K2 HB1
  go_wp2
  go_ret
  exact Uh HF
theorem oneC15 {B p:Nat} {rs:List Rec} (fl:Int) (w:World) (hD:DataAt w B p rs) (h6:(Cn.check6 rs).2=0) (hfit:∀ r∈rs,RecFit r):OneC15 w p fl (Cn.one15 rs (tr15 fl)):=fun c hc W hW=>one_any15 c fl W (hD.below hW) h6 hfit hc
theorem roneC15 (ta:Option Addr) (tl tc:Nat) {rs:List Rec} (fl:Int) (w:World) (hR:Rcs w (.slice ta tl tc) rs) (h6:(Cn.check6 rs).2=0):RoneC15 w (.slice ta tl tc) fl (Cn.one15 rs (tr15 fl)):=fun c hc W hW=>refOne15 ta tl tc c fl W (hR.below hW) h6 hc
open Ti
namespace Cn
theorem lt_flat15:flat15 (one15 little (tr15 0)) [65,98,63]=[97,98,63]:=by decide +kernel
theorem lt_stl15:stl15 (one15 little (tr15 0)) [97,98,63]=true:=by decide +kernel
end Cn
set_option maxRecDepth 8000 in
set_option maxHeartbeats 1000000 in
theorem map_nil15 (w:World):Calls Tryz.prog 10 #[.pointer none,.slice none 0 0,.int .i64 0] w (fun e w'=>e=.returned (.tuple #[.slice none 0 0,.int .i64 1])∧Below w.heap.size w w'):=by
 have b2:Below w.heap.size w ((w.alloc (.cells #[.slice none 0 0] 23)).alloc (.cells #[.int .i64 1] 30)):=((Below.refl _ _).alloc (Nat.le_refl _) _).alloc (by simp) _
 have h1:((w.alloc (.cells #[.slice none 0 0] 23)).alloc (.cells #[.int .i64 1] 30)).cell? ⟨w.heap.size,0,none⟩=some (.slice none 0 0):=((Boxed.new w _ _).alloc _).cell
 have h2:((w.alloc (.cells #[.slice none 0 0] 23)).alloc (.cells #[.int .i64 1] 30)).cell? ⟨w.heap.size+1,0,none⟩=some (.int .i64 1):=by
  have:=(Boxed.new (w.alloc (.cells #[.slice none 0 0] 23)) 30 (.int .i64 1)).cell
  rw [alloc_size15] at this
  exact this
 have HF:=Hd b2
 have H1:=Hd h1
 have H2:=Hd h2
 clear b2 h1 h2
 go_enter Tryz.func10,Tryz.ntmps10
 go_wp2
 have h1:=Uh H1
 have h2:=Uh H2
 have h3:=Uh HF
 generalize (w.alloc (.cells #[.slice none 0 0] 23)).alloc (.cells #[.int .i64 1] 30)=WF at *
 refine bodyPost_ret (v:=.tuple #[.slice none 0 0,.int .i64 1]) (by simp [results,Tryz.results10,go_sem,h1,h2]) rfl ?_
 exact ⟨rfl,h3⟩
set_option maxRecDepth 8000 in
set_option maxHeartbeats 1000000 in
theorem one_nil15 (w:World):Calls Tryz.prog 15 #[.pointer none,.int .i32 65,.int .i64 0] w (fun e w'=>e=.returned (.slice none 0 0)∧w'=w):=by
 go_enter Tryz.func15,Tryz.ntmps15
 go_wp2
 go_ret
 exact ⟨rfl,rfl⟩
set_option maxRecDepth 8000 in
set_option maxHeartbeats 4000000 in
theorem told_any15 (w:World) (hg:Glob w):Calls Tryz.prog 8 #[] w (Tells w true):=by
 have K1:=Hd (little_any w)
 have HG:=Hd hg
 clear hg
 go_enter Tryz.func8,Tryz.ntmps8
 go_wp2_with fail
 refine (Uh K1).mono ?_
 rintro e1 w1 ⟨v1,ps1,rfl,p1,r1,b1⟩
 have R1:=rcs_new r1 p1 (by decide) lt_fit
 have K2:=Hd (made_any _ _ w1 ((Uh HG).on b1) R1)
 rw [Cn.lt_len] at K2
 obtain ⟨a1,cp1,hv1,_,hcp1⟩:=R1.shape
 subst hv1
 have HB1:=Hd b1
 clear K1 R1 r1 b1 p1
 go_wp2_with fail
 refine (Uh K2).mono ?_
 rintro e2 w2 ⟨b2,h2⟩
 have HB2:=Hd (bthen (Uh HB1) b2)
 clear K2 b2 HB1
 rcases h2 with ⟨hne,_⟩ | ⟨hck,p,v2,ps2,rfl,hD,r2,p2⟩
 ·exact absurd (by rw [Cn.little_check]) hne
 ·have R2:=rcs_new r2 p2 (by decide) lt_fit
  obtain ⟨a2,cp2,hv2,_,hcp2⟩:=R2.shape
  subst hv2
  obtain ⟨W3,hW3⟩:∃ W3,w2.alloc (.cells #[.int .i32 65,.int .i32 98,.int .i32 63] 21)=W3:=⟨_,rfl⟩
  have hb3:Below w2.heap.size w2 W3:=by rw [← hW3]; exact (Below.refl _ _).alloc (Nat.le_refl _) _
  have hs3:Sk .i32 W3 (.slice (some ⟨w2.heap.size,0,none⟩) 3 3) [65,98,63]:=by rw [← hW3]; exact lit15 w2 [65,98,63] 3 rfl (by omega) (by omega) _ rfl (by simp)
  have K3:=Hd (map_any15 p 0 _ _ [65,98,63] W3 hs3 (by decide) (oneC15 0 W3 (hD.below hb3) Cn.lt_six lt_fit))
  rw [Cn.lt_flat15] at K3
  have HB3:=Hd (bthen (Uh HB2) hb3)
  have HD3:=Hd (hD.below hb3)
  clear hD R2 r2 p2 hs3 hb3 HB2 HG
  go_wp2_with fail
  refine (Uh K3).mono ?_
  rintro e4 w4 ⟨b4,⟨_,v4,rfl,ok4⟩ | ⟨hgt,_⟩⟩
  rotate_left
  ·exact absurd hgt (by decide)
  have HB4:=Hd (bthen (Uh HB3) b4)
  have HD4:=Hd ((Uh HD3).below b4)
  have HO4:=Hd ok4
  obtain ⟨a4,cp4,hv4,_,hcp4⟩:=ok4.sk.shape
  subst hv4
  have K5:=Hd (map_nil15 w4)
  clear K3 ok4 b4 HB3 HD3 hW3
  go_wp2_with fail
  refine (Uh K5).mono ?_
  rintro e5 w5 ⟨rfl,b5⟩
  have HB5:=Hd (bthen (Uh HB4) b5)
  have HD5:=Hd ((Uh HD4).below b5)
  have HO5:=Hd ((Uh HO4).below b5)
  obtain ⟨W6,hW6⟩:∃ W6,w5.alloc (.cells #[.int .i32 97,.int .i32 98,.int .i32 63] 21)=W6:=⟨_,rfl⟩
  have hb6:Below w5.heap.size w5 W6:=by rw [← hW6]; exact (Below.refl _ _).alloc (Nat.le_refl _) _
  have hs6:Sk .i32 W6 (.slice (some ⟨w5.heap.size,0,none⟩) 3 3) [97,98,63]:=by rw [← hW6]; exact lit15 w5 [97,98,63] 3 rfl (by omega) (by omega) _ rfl (by simp)
  have K6:=Hd (same3_eq _ _ [97,98,63] W6 ((Uh HO5).below hb6).sk hs6 (by decide))
  have HB6:=Hd (bthen (Uh HB5) hb6)
  have HD6:=Hd ((Uh HD5).below hb6)
  have HO6:=Hd ((Uh HO5).below hb6).sk
  clear K5 b5 HB4 HD4 HO4 HB5 HD5 HO5 hb6 hs6
  go_wp2_with fail
  refine (Uh K6).mono ?_
  rintro e7 w7 ⟨rfl,m7,rfl⟩
  have hb7:Below W6.heap.size W6 (W6.drewN m7):=drewB ⟨m7,rfl⟩
  have K7:=Hd (settled_any15 p 0 _ _ [97,98,63] (W6.drewN m7) ((Uh HO6).below hb7) (by decide) (oneC15 0 _ ((Uh HD6).below hb7) Cn.lt_six lt_fit))
  rw [Cn.lt_stl15] at K7
  have HB7:=Hd (bthen (Uh HB6) hb7)
  clear K6 HB6 HD6 HO6 hb7 hW6
  generalize W6.drewN m7=w7 at *
  go_wp2_with fail
  refine (Uh K7).mono ?_
  rintro e8 w8 ⟨rfl,b8⟩
  have HB8:=Hd (bthen (Uh HB7) b8)
  have K9:=Hd (one_nil15 w8)
  clear K7 HB7 b8
  go_wp2_with fail
  refine (Uh K9).mono ?_
  rintro e9 w9 ⟨rfl,rfl⟩
  clear K9
  go_wp2
  go_ret
  exact ⟨rfl,Uh HB8⟩
open Ti
namespace Cn
theorem bare_len15 {r:Rec} {a b c d e:Bool} (h:bare r a b c d e=true):b=true∨r.to.length=0:=by
 unfold bare at h
 simp only [Bool.and_eq_true,Bool.or_eq_true,decide_eq_true_eq] at h
 exact h.1.1.1.2
theorem list_len15 {x:List Int} {a b:Nat} (h:list x a b=true):x.length≤b:=by
 unfold list at h
 simp only [Bool.and_eq_true,decide_eq_true_eq] at h
 exact h.1.2
theorem right_len15 {r:Rec} (h:right r=0):r.to.length≤24:=by
 have hf:=right_kind h
 unfold right at h
 rw [if_neg hf] at h
 by_cases k15:r.kind=15
 ·rw [if_pos k15] at h
  have hc:=if_zero h
  rcases bare_len15 hc.2.2.1 with h1 | h1
  ·exact absurd h1 (by decide)
  ·omega
 rw [if_neg k15] at h
 have hc:=if_zero h
 rw [Bool.and_eq_true] at hc
 have hc2:=hc.2
 clear hc h
 by_cases q0:r.kind=1∨r.kind=2∨r.kind=11
 ·rw [if_pos q0] at hc2
  rcases bare_len15 hc2 with h1 | h1
  ·exact absurd h1 (by decide)
  ·omega
 rw [if_neg q0] at hc2
 by_cases q1:r.kind=3
 ·rw [if_pos q1] at hc2
  rw [Bool.and_eq_true] at hc2
  have:=list_len15 hc2.2
  omega
 rw [if_neg q1] at hc2
 by_cases q2:r.kind=4
 ·rw [if_pos q2] at hc2
  rw [Bool.and_eq_true,Bool.and_eq_true] at hc2
  have:=list_len15 hc2.1.2
  omega
 rw [if_neg q2] at hc2
 by_cases q3:r.kind=5
 ·rw [if_pos q3] at hc2
  rw [Bool.and_eq_true] at hc2
  have:=list_len15 hc2.2
  omega
 rw [if_neg q3] at hc2
 by_cases q4:r.kind=13
 ·rw [if_pos q4] at hc2
  rw [Bool.and_eq_true] at hc2
  have:=list_len15 hc2.2
  omega
 rw [if_neg q4] at hc2
 by_cases q5:r.kind=6
 ·rw [if_pos q5] at hc2
  rw [Bool.and_eq_true] at hc2
  rcases bare_len15 hc2.1 with h1 | h1
  ·exact absurd h1 (by decide)
  ·omega
 rw [if_neg q5] at hc2
 by_cases q6:r.kind=7
 ·rw [if_pos q6] at hc2
  rw [Bool.and_eq_true] at hc2
  have:=list_len15 hc2.2
  omega
 rw [if_neg q6] at hc2
 by_cases q7:r.kind=8
 ·rw [if_pos q7] at hc2
  rw [Bool.and_eq_true] at hc2
  have:=list_len15 hc2.2
  omega
 rw [if_neg q7] at hc2
 by_cases q8:r.kind=9
 ·rw [if_pos q8] at hc2
  rw [Bool.and_eq_true] at hc2
  rcases bare_len15 hc2.1 with h1 | h1
  ·exact absurd h1 (by decide)
  ·omega
 rw [if_neg q8] at hc2
 by_cases q9:r.kind=10
 ·rw [if_pos q9] at hc2
  rw [Bool.and_eq_true] at hc2
  rcases bare_len15 hc2.1 with h1 | h1
  ·exact absurd h1 (by decide)
  ·omega
 rw [if_neg q9] at hc2
 by_cases q10:r.kind=12
 ·rw [if_pos q10] at hc2
  rw [Bool.and_eq_true] at hc2
  rcases bare_len15 hc2.1 with h1 | h1
  ·exact absurd h1 (by decide)
  ·omega
 rw [if_neg q10] at hc2
 rw [Bool.and_eq_true] at hc2
 rcases bare_len15 hc2.1 with h1 | h1
 ·exact absurd h1 (by decide)
 ·omega
theorem mapping_len15 {rs:List Rec} (h6:(check6 rs).2=0) (c:Int):(mapping rs c).length≤24:=by
 unfold mapping
 split
 ·simp
 ·rcases rget_cases h6 (f:=1) (by decide) c with ⟨_,e⟩ | ⟨_,_,_,_,hr⟩
  ·rw [e]; simp [none]
  ·exact right_len15 hr
theorem one_len15 {rs:List Rec} (h6:(check6 rs).2=0) (t:Bool) (c:Int):(one15 rs t c).length≤24:=by
 unfold one15
 have:=mapping_len15 h6 c
 repeat' split
 all_goals simp
 all_goals omega
theorem flat_len15 {rs:List Rec} (h6:(check6 rs).2=0) (t:Bool):∀ xs:List Int,(flat15 (one15 rs t) xs).length≤24 * xs.length
 | []=>by simp [flat15]
 | x :: xs=>by
  have h1:=flat_len15 h6 t xs
  have h2:=one_len15 h6 t x
  have h3:flat15 (one15 rs t) (x :: xs)=one15 rs t x++flat15 (one15 rs t) xs:=rfl
  rw [h3,List.length_append,List.length_cons]
  omega
theorem flat_valid15 {rs:List Rec} (t:Bool):∀ xs:List Int,(∀ x∈xs,vget rs 1 x=1)→flat15 (one15 rs t) xs=xs
 | [],_=>rfl
 | x :: xs,h=>by
  have h1:=flat_valid15 t xs (fun y hy=>h y (List.mem_cons_of_mem _ hy))
  have h2:one15 rs t x=[x]:=by
   have:=h x (List.mem_cons_self ..)
   unfold one15
   rw [this]
   simp
  have h3:flat15 (one15 rs t) (x :: xs)=one15 rs t x++flat15 (one15 rs t) xs:=rfl
  rw [h3,h1,h2]
  rfl
theorem stl_valid15 {rs:List Rec} (t:Bool) (xs:List Int) (h:∀ x∈xs,vget rs 1 x=1) (hl:xs.length≤65536):stl15 (one15 rs t) xs=true:=by
 unfold stl15
 rw [flat_valid15 t xs h]
 simp [hl]
def val15 (rs:List Rec) (xs:List Int):List Int:=xs.filter (fun x=>vget rs 1 x==1)
theorem val_step15 (rs:List Rec) (xs:List Int) {k:Nat} (hk:k<xs.length):val15 rs (xs.take (k+1))=val15 rs (xs.take k)++(if vget rs 1 (xs.getD k 0)=1 then [xs.getD k 0] else []):=by
 rw [List.take_add_one,List.getElem?_eq_getElem hk]
 unfold val15
 rw [List.filter_append]
 congr 1
 simp [List.getD,List.getElem?_eq_getElem hk]
 split <;> simp_all
theorem val_all15 (rs:List Rec) (xs:List Int):∀ x∈val15 rs xs,vget rs 1 x=1:=fun x hx=>by
 unfold val15 at hx
 simpa using (List.mem_filter.1 hx).2
theorem val_len15 (rs:List Rec) (xs:List Int):(val15 rs xs).length≤xs.length:=List.length_filter_le _ _
end Cn
theorem row_cell15 {W:World} {B g n cap k:Nat} {l:List Int} (h:Ok .i32 21 W B (.slice (some ⟨g,0,none⟩) n cap) l) (hk:k<l.length):W.cell? ⟨g,k,none⟩=some (.int .i32 (l.getD k 0))∧W.frozen? ⟨g,k,none⟩=false:=by
 rcases h.row.2 with ⟨e,_⟩ | ⟨g',cap',cur,e,_,e3,_,_,_,e7⟩
 ·simp at e
 ·simp only [Value.slice.injEq,Option.some.injEq,Addr.mk.injEq] at e
  obtain ⟨⟨e1,_⟩,_,_⟩:=e
  subst e1
  refine ⟨?_,frozen_of_row _ _ _ _ _ e3⟩
  rw [cell_of_row _ _ _ _ _ _ e3]
  have h1:(cur.toList.take (l.length * 1))[k]?=(l.map (Value.int .i32))[k]?:=by rw [e7]
  rw [List.getElem?_take,if_pos (by omega),Array.getElem?_toList,List.getElem?_map,List.getElem?_eq_getElem hk] at h1
  rw [h1]; simp [List.getD,hk]
theorem row_keep15 {W:World} {B g k:Nat} {v u:Value} {l:List Int} (h:Ok .i32 21 W B v l) (hne:v.ownBlock≠some g):Ok .i32 21 (W.setCell ⟨g,k,none⟩ u) B v l:=h.keep (fun j hj=>heap_setCell_other W ⟨g,k,none⟩ j u (fun e=>hne (by rw [hj]; exact congrArg some e)))
theorem own_some15 {W:World} {B n cap:Nat} {ao:Option Addr} {l:List Int} (h:Ok .i32 21 W B (.slice ao n cap) l) (hn:0<l.length):∃ g,ao=some ⟨g,0,none⟩:=by
 obtain ⟨g,c,e,_⟩:=own_shape h.row hn
 simp only [Value.slice.injEq] at e
 exact ⟨g,e.1⟩
end Go.Proofs.YtfemhegfjfhnbaaGreatDoor
