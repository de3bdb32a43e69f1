/- Jg16 -/
import Derived.Test.YthhekhkbbkemjaaGreatDoorW4
import Derived.Test.YthhekhkbbkemjaaGreatDoorW31
import Derived.Lib.MinMaxS
namespace Go.Proofs.YthhekhkbbkemjaaGreatDoor
open Go.RowKit
set_option maxRecDepth 8000 in
set_option maxHeartbeats 1000000 in
theorem few_any16 (xv:Value) (xs:List Int) (m:Nat) (w:World) (hx:Sk .i32 w xv xs) (hm:m≤100000000):Calls Tryz.prog 8 #[xv,.int .i64 m] w (RunesNew w (xs.take m)):=by
 have hxl:=hx.len
 obtain ⟨ax,cx,hxv,hcx1,hcx2⟩:=hx.shape
 subst hxv
 obtain ⟨n,hn⟩:∃ n,n=min xs.length m:=⟨_,rfl⟩
 have hmin:min (xs.length:Int) (m:Int)=(n:Int):=by omega
 have hn1:n≤xs.length:=by omega
 have hT:=hx.head hn1 hcx1
 have htl:(xs.take n).length=n:=by rw [List.length_take]; omega
 have htt:xs.take m=xs.take n:=by rw [hn,List.take_eq_take_min,Nat.min_comm]
 have hn2:n≤100000000:=by omega
 rw [htt]
 clear htt hx hn
 generalize hys:xs.take n=ys at *
 clear hys
 have HT:=Hd hT
 clear hT
 rcases ax with _ | ax
 ·go_enter Tryz.func8,Tryz.ntmps8
  go_wp2_with (at_builtin; refine app_sk15 rfl (.tmp 6) (.tmp 12) rfl w.heap.size _ _ [] ys rfl rfl (Ok.nil _ _ _ _) (Uh HT) (by simp; omega) (Nat.le_refl _) ?_)
  intro v1 w1 h1 h2
  have HF:Hid (RunesNew w ys (.returned v1) w1):=⟨v1,rfl,h1,(Below.refl w.heap.size w).grown h2 (Nat.le_refl _) (fun g hh=>by cases hh)⟩
  clear h1 h2
  go_wp2
  go_ret
  exact Uh HF
 ·go_enter Tryz.func8,Tryz.ntmps8
  go_wp2_with (at_builtin; refine app_sk15 rfl (.tmp 6) (.tmp 12) rfl w.heap.size _ _ [] ys rfl rfl (Ok.nil _ _ _ _) (Uh HT) (by simp; omega) (Nat.le_refl _) ?_)
  intro v1 w1 h1 h2
  have HF:Hid (RunesNew w ys (.returned v1) w1):=⟨v1,rfl,h1,(Below.refl w.heap.size w).grown h2 (Nat.le_refl _) (fun g hh=>by cases hh)⟩
  clear h1 h2
  go_wp2
  go_ret
  exact Uh HF
open Ti
theorem classC16 {B p:Nat} {rs:List Rec} {w:World} (hD:DataAt w B p rs) (h6:(Cn.check6 rs).2=0):PropC16 14 w p (Cn.vget rs 2):=fun c hc W hW=>class_any9 c W (hD.below hW) h6 hc
theorem joinC16 {B p:Nat} {rs:List Rec} {w:World} (hD:DataAt w B p rs) (h6:(Cn.check6 rs).2=0):PropC16 86 w p (Cn.vget rs 5):=fun c hc W hW=>join_any9 c W (hD.below hW) h6 hc
theorem rclassC16 {tv:Value} {rs:List Rec} {w:World} (hR:Rcs w tv rs) (h6:(Cn.check6 rs).2=0):RPropC16 21 w tv (Cn.vget rs 2):=fun c hc W hW=>by
 rw [← Cn.vget_cls h6]; exact refClass9 tv rs c W (hR.below hW) hc
theorem rjoinC16 {tv:Value} {rs:List Rec} {w:World} (hR:Rcs w tv rs) (h6:(Cn.check6 rs).2=0):RPropC16 13 w tv (Cn.vget rs 5):=fun c hc W hW=>by
 rw [← Cn.vget_num h6 5 c (.inr rfl)]; exact refJoin9 tv rs c W (hR.below hW) hc
namespace Cn
def arb:List Rec:=[⟨10,1576,1576,3,[],⟨#[]⟩,⟨#[]⟩,0⟩,⟨10,1614,1614,5,[],⟨#[]⟩,⟨#[]⟩,0⟩,⟨6,2381,2381,9,[],⟨#[]⟩,⟨#[]⟩,0⟩]
def arab:List Rec:=little++arb
set_option maxRecDepth 100000 in
theorem arab_check:check arab=(0,0):=by decide +kernel
theorem ar_six:(check6 arab).2=0:=(check_iff.1 (by rw [arab_check])).1
theorem ar_len:arab.take 150=arab:=rfl
theorem ar1:Jn.chk (vget arab 2) (vget arab 5) [1576,1614,8204,1576]=-1:=by decide +kernel
theorem ar2:Jn.chk (vget arab 2) (vget arab 5) [97,8205]=1:=by decide +kernel
theorem ar3:Jn.chk (vget arab 2) (vget arab 5) [2381,8205]=-1:=by decide +kernel
end Cn
theorem ar_fit:∀ r∈Cn.arab,RecFit r:=by
 intro r hr
 simp only [Cn.arab,Cn.little,Cn.arb,Cn.mk3,List.mem_append,List.mem_cons,List.mem_nil_iff,or_false] at hr
 rcases hr with (rfl | rfl | rfl | rfl | rfl | rfl | rfl | rfl | rfl | rfl) | (rfl | rfl | rfl)
 all_goals exact ⟨by unfold I64; decide,by unfold I64; decide,by unfold I64; decide,by unfold I64; decide,by decide,by decide⟩
def apsA:List (Rec × Value):=[(⟨10,1576,1576,3,[],⟨#[]⟩,⟨#[]⟩,0⟩,.slice none 0 0),(⟨10,1614,1614,5,[],⟨#[]⟩,⟨#[]⟩,0⟩,.slice none 0 0),(⟨6,2381,2381,9,[],⟨#[]⟩,⟨#[]⟩,0⟩,.slice none 0 0)]
set_option maxRecDepth 20000 in
set_option maxHeartbeats 4000000 in
theorem arab_any16 (w:World):Calls Tryz.prog 19 #[] w (RecsNew w Cn.arab):=by
 obtain ⟨i1,hj,hy0,hy1,hy2⟩:=info_parts Tryz.info47
 have K1:=Hd (little_any w)
 go_enter Tryz.func19,Tryz.ntmps19
 go_wp2_with fail
 refine (Uh K1).mono ?_
 rintro e1 w1 ⟨v1,ps1,rfl,p1,r1,b1⟩
 have hl1:ps1.length=10:=by rw [← List.length_map (f:=(·.1)),p1]; rfl
 obtain ⟨g1,cp1,hv1⟩:∃ g cap,v1=.slice (some ⟨g,0,none⟩) 10 cap:=by
  rcases r1.1.2 with ⟨_,h0⟩ | ⟨g,cap,cur,e,_⟩
  ·omega
  ·exact ⟨g,cap,by rw [e,hl1]⟩
 subst hv1
 obtain ⟨WA,hWA⟩:∃ WA,w1.alloc (.cells (rcells apsA).toArray 47)=WA:=⟨_,rfl⟩
 have hs1:=b1.size
 have hbA:Below w.heap.size w WA:=by rw [← hWA]; exact b1.alloc hs1 _
 have hlies:=lit_lies w1 apsA
 rw [hWA] at hlies
 have hRA:Rown WA w.heap.size (.slice (some ⟨g1,0,none⟩) 10 cp1) ps1:=by rw [← hWA]; exact r1.alloc9 _
 have hq:∀ q∈apsA,Ok .i32 21 WA w.heap.size q.2 q.1.to:=fun q hq=>by
  simp only [apsA,List.mem_cons,List.mem_nil_iff,or_false] at hq
  rcases hq with rfl | rfl | rfl <;> exact Ok.nil _ _ _ _
 have hone:=one_all apsA (fun p hp=>by
  simp only [apsA,List.mem_cons,List.mem_nil_iff,or_false] at hp
  rcases hp with rfl | rfl | rfl <;> rfl)
 have hrow:=hRA.1
 rw [hl1] at hrow
 have HRR:=Hd hRA
 have HROW:=Hd hrow
 have HQ:=Hd hq
 have HLIES:=Hd hlies
 have HONE:=Hd hone
 have HBA:=Hd hbA
 have HP:=Hd p1
 have HL:=Hd hl1
 have hsA:w.heap.size≤w1.heap.size:=hs1
 have hszA:WA.heap.size=w1.heap.size+1:=by rw [← hWA]; exact alloc_size15 _ _
 clear K1 r1 b1 hRA hq hlies hone hrow hbA p1 hl1 hs1
 replace hWA:w1.alloc (.cells #[.int .i64 10,.int .i64 1576,.int .i64 1576,.int .i64 3,.slice none 0 0,.string ⟨#[]⟩,.string ⟨#[]⟩,.float .f64 0,.int .i64 10,.int .i64 1614,.int .i64 1614,.int .i64 5,.slice none 0 0,.string ⟨#[]⟩,.string ⟨#[]⟩,.float .f64 0,.int .i64 6,.int .i64 2381,.int .i64 2381,.int .i64 9,.slice none 0 0,.string ⟨#[]⟩,.string ⟨#[]⟩,.float .f64 0] 47)=WA:=hWA
 go_wp2_with (at_builtin; refine wpList_append_own _ rfl (.tmp 1) (.tmp 5) 22 rfl w.heap.size 47 i1 (.agg #[.int .i64 0,.int .i64 0,.int .i64 0,.int .i64 0,.slice none 0 0,.string ⟨#[]⟩,.string ⟨#[]⟩,.float .f64 0]) 8 96 Tryz.underlying22 hj hy0 hy1 hy2 rfl (by decide) _ _ _ rfl (Uh HROW) ⟨w1.heap.size,0,none⟩ 3 3 (rcells apsA) rfl (by rw [rcells_length]; rfl) (Uh HLIES) (Uh HONE) (by unfold maxLen; omega) (by omega) (by omega) ?_)
 intro v2 w2 hrow2 hg2 _
 have hr2:w2.ownsRow w.heap.size 47 8 v2 (ps1.length+apsA.length) (rcells ps1++rcells apsA):=by rw [Uh HL]; exact hrow2
 have hR2:Rown w2 w.heap.size v2 (ps1++apsA):=rows_more (Uh HRR) (Uh HQ) hr2 hg2
 have hb2:Below w.heap.size w w2:=(Uh HBA).grown hg2 (by omega) (fun k hk=>((Uh HRR).1.lt k hk).1)
 have HF:Hid (RecsNew w Cn.arab (.returned v2) w2):=⟨v2,_,rfl,by rw [List.map_append,Uh HP]; rfl,hR2,hb2⟩
 clear HRR HROW HQ HLIES HONE HBA HP HL hrow2 hg2 hr2 hR2 hb2 hWA hszA
 go_wp2
 go_ret
 exact Uh HF
set_option maxRecDepth 8000 in
set_option maxHeartbeats 4000000 in
theorem told_any16 (w:World) (hg:Glob w):Calls Tryz.prog 7 #[] w (Tells w true):=by
 have K1:=Hd (arab_any16 w)
 have HG:=Hd hg
 clear hg
 go_enter Tryz.func7,Tryz.ntmps7
 go_wp2_with fail
 refine (Uh K1).mono ?_
 rintro e1 w1 ⟨v1,ps1,rfl,p1,r1,b1⟩
 have R1:=rcs_new r1 p1 (by decide) ar_fit
 have K2:=Hd (made_any _ _ w1 ((Uh HG).on b1) R1)
 rw [Cn.ar_len] at K2
 obtain ⟨a1,cp1,hv1,_,hcp1⟩:=R1.shape
 subst hv1
 have HB1:=Hd b1
 clear K1 R1 r1 b1 p1
 go_wp2_with fail
 refine (Uh K2).mono ?_
 rintro e2 w2 ⟨b2,h2⟩
 have HB2:=Hd (bthen (Uh HB1) b2)
 clear K2 b2 HB1
 rcases h2 with ⟨hne,_⟩ | ⟨hck,p,v2,ps2,rfl,hD,r2,p2⟩
 ·exact absurd (by rw [Cn.arab_check]) hne
 ·have R2:=rcs_new r2 p2 (by decide) ar_fit
  obtain ⟨a2,cp2,hv2,_,hcp2⟩:=R2.shape
  subst hv2
  obtain ⟨W3,hW3⟩:∃ W3,w2.alloc (.cells #[.int .i32 1576,.int .i32 1614,.int .i32 8204,.int .i32 1576] 21)=W3:=⟨_,rfl⟩
  have hb3:Below w2.heap.size w2 W3:=by rw [← hW3]; exact (Below.refl _ _).alloc (Nat.le_refl _) _
  have hs3:Sk .i32 W3 (.slice (some ⟨w2.heap.size,0,none⟩) 4 4) [1576,1614,8204,1576]:=by rw [← hW3]; exact lit15 w2 [1576,1614,8204,1576] 4 rfl (by omega) (by omega) _ rfl (by simp)
  have K3:=Hd (check_any16 (classC16 (hD.below hb3) Cn.ar_six) (joinC16 (hD.below hb3) Cn.ar_six) hs3)
  rw [Cn.ar1] at K3
  have HB3:=Hd (bthen (Uh HB2) hb3)
  have HD3:=Hd (hD.below hb3)
  clear hD R2 r2 p2 hs3 hb3 HB2 HG
  go_wp2_with fail
  refine (Uh K3).mono ?_
  rintro e4 w4 ⟨rfl,b4⟩
  have HB4:=Hd (bthen (Uh HB3) b4)
  have HD4:=Hd ((Uh HD3).below b4)
  obtain ⟨W5,hW5⟩:∃ W5,w4.alloc (.cells #[.int .i32 97,.int .i32 8205] 21)=W5:=⟨_,rfl⟩
  have hb5:Below w4.heap.size w4 W5:=by rw [← hW5]; exact (Below.refl _ _).alloc (Nat.le_refl _) _
  have hs5:Sk .i32 W5 (.slice (some ⟨w4.heap.size,0,none⟩) 2 2) [97,8205]:=by rw [← hW5]; exact lit15 w4 [97,8205] 2 rfl (by omega) (by omega) _ rfl (by simp)
  have K5:=Hd (check_any16 (classC16 ((Uh HD4).below hb5) Cn.ar_six) (joinC16 ((Uh HD4).below hb5) Cn.ar_six) hs5)
  rw [Cn.ar2] at K5
  have HB5:=Hd (bthen (Uh HB4) hb5)
  have HD5:=Hd ((Uh HD4).below hb5)
  clear K3 b4 HB3 HD3 HB4 HD4 hs5 hb5 hW3
  go_wp2_with fail
  refine (Uh K5).mono ?_
  rintro e6 w6 ⟨rfl,b6⟩
  have HB6:=Hd (bthen (Uh HB5) b6)
  have HD6:=Hd ((Uh HD5).below b6)
  obtain ⟨W7,hW7⟩:∃ W7,w6.alloc (.cells #[.int .i32 2381,.int .i32 8205] 21)=W7:=⟨_,rfl⟩
  have hb7:Below w6.heap.size w6 W7:=by rw [← hW7]; exact (Below.refl _ _).alloc (Nat.le_refl _) _
  have hs7:Sk .i32 W7 (.slice (some ⟨w6.heap.size,0,none⟩) 2 2) [2381,8205]:=by rw [← hW7]; exact lit15 w6 [2381,8205] 2 rfl (by omega) (by omega) _ rfl (by simp)
  have K7:=Hd (check_any16 (classC16 ((Uh HD6).below hb7) Cn.ar_six) (joinC16 ((Uh HD6).below hb7) Cn.ar_six) hs7)
  rw [Cn.ar3] at K7
  have HB7:=Hd (bthen (Uh HB6) hb7)
  clear K5 b6 HB5 HD5 HB6 HD6 hs7 hb7 hW5
  go_wp2_with fail
  refine (Uh K7).mono ?_
  rintro e8 w8 ⟨rfl,b8⟩
  have HB8:=Hd (bthen (Uh HB7) b8)
  obtain ⟨W9,hW9⟩:∃ W9,w8.alloc (.cells #[.int .i32 97] 21)=W9:=⟨_,rfl⟩
  have hb9:Below w8.heap.size w8 W9:=by rw [← hW9]; exact (Below.refl _ _).alloc (Nat.le_refl _) _
  have hs9:Sk .i32 W9 (.slice (some ⟨w8.heap.size,0,none⟩) 1 1) [97]:=by rw [← hW9]; exact lit15 w8 [97] 1 rfl (by omega) (by omega) _ rfl (by simp)
  have K9:=Hd (check_nil16 _ [97] W9 hs9 (by decide))
  have HB9:=Hd (bthen (Uh HB8) hb9)
  clear K7 b8 HB7 HB8 hs9 hb9 hW7
  go_wp2_with fail
  refine (Uh K9).mono ?_
  rintro e10 w10 ⟨rfl,b10⟩
  have HB10:=Hd (bthen (Uh HB9) b10)
  clear K9 b10 HB9 hW9
  go_wp2
  go_ret
  exact ⟨rfl,Uh HB10⟩
end Go.Proofs.YthhekhkbbkemjaaGreatDoor
