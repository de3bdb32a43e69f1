/- Bh17 -/
import Derived.Test.YtdjpjgjhiibpkaaGreatDoorW42
namespace Go.Proofs.YtdjpjgjhiibpkaaGreatDoor
open Go.RowKit
open Ti
def HasN17:Prop:=∀ (w:World) (xv:Value) (X:List Int),Sk .i32 w xv X→Calls Tryz.prog 9 #[.pointer none,xv] w (BoolB w false)
def RulN17:Prop:=∀ (w:World) (xv:Value) (X:List Int),Sk .i32 w xv X→Calls Tryz.prog 11 #[.pointer none,xv] w (IntB w 0)
namespace Cn
def hbr:List Rec:=[⟨9,1488,1514,1,[],⟨#[]⟩,⟨#[]⟩,0⟩,⟨9,48,57,4,[],⟨#[]⟩,⟨#[]⟩,0⟩,⟨9,768,768,10,[],⟨#[]⟩,⟨#[]⟩,0⟩]
def hebr:List Rec:=little++hbr
set_option maxRecDepth 100000 in
theorem hebr_check:check hebr=(0,0):=by decide +kernel
theorem hb_six:(check6 hebr).2=0:=(check_iff.1 (by rw [hebr_check])).1
theorem hb_len:hebr.take 150=hebr:=rfl
theorem hb1:Bd.rules ([1488,97].map (vget hebr 4))=6:=by decide +kernel
theorem hb2:Bd.rules ([1488,49,768].map (vget hebr 4))=0:=by decide +kernel
theorem hb3:Bd.rules ([49].map (vget hebr 4))=1:=by decide +kernel
theorem hb4:Bd.has ([97,1488].map (vget hebr 4))=true:=by decide +kernel
end Cn
theorem hb_fit:∀ r∈Cn.hebr,RecFit r:=by
 intro r hr
 simp only [Cn.hebr,Cn.little,Cn.hbr,Cn.mk3,List.mem_append,List.mem_cons,List.mem_nil_iff,or_false] at hr
 rcases hr with (rfl | rfl | rfl | rfl | rfl | rfl | rfl | rfl | rfl | rfl) | (rfl | rfl | rfl)
 all_goals exact ⟨by unfold I64; decide,by unfold I64; decide,by unfold I64; decide,by unfold I64; decide,by decide,by decide⟩
def hpsA:List (Rec × Value):=[(⟨9,1488,1514,1,[],⟨#[]⟩,⟨#[]⟩,0⟩,.slice none 0 0),(⟨9,48,57,4,[],⟨#[]⟩,⟨#[]⟩,0⟩,.slice none 0 0),(⟨9,768,768,10,[],⟨#[]⟩,⟨#[]⟩,0⟩,.slice none 0 0)]
set_option maxRecDepth 20000 in
set_option maxHeartbeats 4000000 in
theorem hebr_any17 (w:World):Calls Tryz.prog 20 #[] w (RecsNew w Cn.hebr):=by
 obtain ⟨i1,hj,hy0,hy1,hy2⟩:=info_parts Tryz.info50
 have K1:=Hd (little_any w)
 go_enter Tryz.func20,Tryz.ntmps20
 go_wp2_with fail
 refine (Uh K1).mono ?_
 rintro e1 w1 ⟨v1,ps1,rfl,p1,r1,b1⟩
 have hl1:ps1.length=10:=by rw [← List.length_map (f:=(·.1)),p1]; rfl
 obtain ⟨g1,cp1,hv1⟩:∃ g cap,v1=.slice (some ⟨g,0,none⟩) 10 cap:=by
  rcases r1.1.2 with ⟨_,h0⟩ | ⟨g,cap,cur,e,_⟩
  ·omega
  ·exact ⟨g,cap,by rw [e,hl1]⟩
 subst hv1
 obtain ⟨WA,hWA⟩:∃ WA,w1.alloc (.cells (rcells hpsA).toArray 50)=WA:=⟨_,rfl⟩
 have hs1:=b1.size
 have hbA:Below w.heap.size w WA:=by rw [← hWA]; exact b1.alloc hs1 _
 have hlies:=lit_lies w1 hpsA
 rw [hWA] at hlies
 have hRA:Rown WA w.heap.size (.slice (some ⟨g1,0,none⟩) 10 cp1) ps1:=by rw [← hWA]; exact r1.alloc9 _
 have hq:∀ q∈hpsA,Ok .i32 21 WA w.heap.size q.2 q.1.to:=fun q hq=>by
  simp only [hpsA,List.mem_cons,List.mem_nil_iff,or_false] at hq
  rcases hq with rfl | rfl | rfl <;> exact Ok.nil _ _ _ _
 have hone:=one_all hpsA (fun p hp=>by
  simp only [hpsA,List.mem_cons,List.mem_nil_iff,or_false] at hp
  rcases hp with rfl | rfl | rfl <;> rfl)
 have hrow:=hRA.1
 rw [hl1] at hrow
 have HRR:=Hd hRA
 have HROW:=Hd hrow
 have HQ:=Hd hq
 have HLIES:=Hd hlies
 have HONE:=Hd hone
 have HBA:=Hd hbA
 have HP:=Hd p1
 have HL:=Hd hl1
 have hsA:w.heap.size≤w1.heap.size:=hs1
 have hszA:WA.heap.size=w1.heap.size+1:=by rw [← hWA]; exact alloc_size15 _ _
 clear K1 r1 b1 hRA hq hlies hone hrow hbA p1 hl1 hs1
 replace hWA:w1.alloc (.cells #[.int .i64 9,.int .i64 1488,.int .i64 1514,.int .i64 1,.slice none 0 0,.string ⟨#[]⟩,.string ⟨#[]⟩,.float .f64 0,.int .i64 9,.int .i64 48,.int .i64 57,.int .i64 4,.slice none 0 0,.string ⟨#[]⟩,.string ⟨#[]⟩,.float .f64 0,.int .i64 9,.int .i64 768,.int .i64 768,.int .i64 10,.slice none 0 0,.string ⟨#[]⟩,.string ⟨#[]⟩,.float .f64 0] 50)=WA:=hWA
 go_wp2_with (at_builtin; refine wpList_append_own _ rfl (.tmp 1) (.tmp 5) 22 rfl w.heap.size 50 i1 (.agg #[.int .i64 0,.int .i64 0,.int .i64 0,.int .i64 0,.slice none 0 0,.string ⟨#[]⟩,.string ⟨#[]⟩,.float .f64 0]) 8 96 Tryz.underlying22 hj hy0 hy1 hy2 rfl (by decide) _ _ _ rfl (Uh HROW) ⟨w1.heap.size,0,none⟩ 3 3 (rcells hpsA) rfl (by rw [rcells_length]; rfl) (Uh HLIES) (Uh HONE) (by unfold maxLen; omega) (by omega) (by omega) ?_)
 intro v2 w2 hrow2 hg2 _
 have hr2:w2.ownsRow w.heap.size 50 8 v2 (ps1.length+hpsA.length) (rcells ps1++rcells hpsA):=by rw [Uh HL]; exact hrow2
 have hR2:Rown w2 w.heap.size v2 (ps1++hpsA):=rows_more (Uh HRR) (Uh HQ) hr2 hg2
 have hb2:Below w.heap.size w w2:=(Uh HBA).grown hg2 (by omega) (fun k hk=>((Uh HRR).1.lt k hk).1)
 have HF:Hid (RecsNew w Cn.hebr (.returned v2) w2):=⟨v2,_,rfl,by rw [List.map_append,Uh HP]; rfl,hR2,hb2⟩
 clear HRR HROW HQ HLIES HONE HBA HP HL hrow2 hg2 hr2 hR2 hb2 hWA hszA
 go_wp2
 go_ret
 exact Uh HF
set_option maxRecDepth 8000 in
set_option maxHeartbeats 4000000 in
theorem told_any17 (hHas:HasC17) (hRul:RulC17) (hHasN:HasN17) (hRulN:RulN17):ToldC17:=by
 intro w hg
 have K1:=Hd (hebr_any17 w)
 have HG:=Hd hg
 clear hg
 go_enter Tryz.func7,Tryz.ntmps7
 go_wp2_with fail
 refine (Uh K1).mono ?_
 rintro e1 w1 ⟨v1,ps1,rfl,p1,r1,b1⟩
 have R1:=rcs_new r1 p1 (by decide) hb_fit
 have K2:=Hd (made_any _ _ w1 ((Uh HG).on b1) R1)
 rw [Cn.hb_len] at K2
 obtain ⟨a1,cp1,hv1,_,hcp1⟩:=R1.shape
 subst hv1
 have HB:=Hd b1
 clear K1 R1 r1 b1 p1
 go_wp2_with fail
 refine (Uh K2).mono ?_
 rintro e2 w2 ⟨b2,h2⟩
 have HB2:=Hd (bthen (Uh HB) b2)
 clear K2 b2 HB HG
 rcases h2 with ⟨hne,_⟩ | ⟨hck,p,v2,ps2,rfl,hD,r2,p2⟩
 ·exact absurd (by rw [Cn.hebr_check]) hne
 ·have R2:=rcs_new r2 p2 (by decide) hb_fit
  obtain ⟨a2,cp2,hv2,_,hcp2⟩:=R2.shape
  subst hv2
  have HD2:=Hd hD
  clear R2 r2 p2 hD
  obtain ⟨W3,hW3⟩:∃ W3,w2.alloc (.cells #[.int .i32 1488,.int .i32 97] 21)=W3:=⟨_,rfl⟩
  have hb0:Below w2.heap.size w2 W3:=by rw [← hW3]; exact (Below.refl _ _).alloc (Nat.le_refl _) _
  have hs0:Sk .i32 W3 (.slice (some ⟨w2.heap.size,0,none⟩) 2 2) [1488,97]:=by rw [← hW3]; exact lit15 w2 [1488,97] 2 rfl (by omega) (by omega) _ rfl (by simp)
  have C0:=Hd (hRul _ p Cn.hebr W3 _ [1488,97] ((Uh HD2).below hb0) Cn.hb_six hs0 (by decide))
  rw [Cn.hb1] at C0
  have E0:=Hd (bthen (Uh HB2) hb0)
  have G0:=Hd ((Uh HD2).below hb0)
  clear hs0 hb0 HB2 HD2
  go_wp2_with fail
  refine (Uh C0).mono ?_
  rintro e0x w4 ⟨rfl,bx0⟩
  have HBx0:=Hd (bthen (Uh E0) bx0)
  have HDx0:=Hd ((Uh G0).below bx0)
  clear C0 bx0 E0 G0 hW3
  obtain ⟨W5,hW5⟩:∃ W5,w4.alloc (.cells #[.int .i32 1488,.int .i32 49,.int .i32 768] 21)=W5:=⟨_,rfl⟩
  have hb1:Below w4.heap.size w4 W5:=by rw [← hW5]; exact (Below.refl _ _).alloc (Nat.le_refl _) _
  have hs1:Sk .i32 W5 (.slice (some ⟨w4.heap.size,0,none⟩) 3 3) [1488,49,768]:=by rw [← hW5]; exact lit15 w4 [1488,49,768] 3 rfl (by omega) (by omega) _ rfl (by simp)
  have C1:=Hd (hRul _ p Cn.hebr W5 _ [1488,49,768] ((Uh HDx0).below hb1) Cn.hb_six hs1 (by decide))
  rw [Cn.hb2] at C1
  have E1:=Hd (bthen (Uh HBx0) hb1)
  have G1:=Hd ((Uh HDx0).below hb1)
  clear hs1 hb1 HBx0 HDx0
  go_wp2_with fail
  refine (Uh C1).mono ?_
  rintro e1x w6 ⟨rfl,bx1⟩
  have HBx1:=Hd (bthen (Uh E1) bx1)
  have HDx1:=Hd ((Uh G1).below bx1)
  clear C1 bx1 E1 G1 hW5
  obtain ⟨W7,hW7⟩:∃ W7,w6.alloc (.cells #[.int .i32 49] 21)=W7:=⟨_,rfl⟩
  have hb2:Below w6.heap.size w6 W7:=by rw [← hW7]; exact (Below.refl _ _).alloc (Nat.le_refl _) _
  have hs2:Sk .i32 W7 (.slice (some ⟨w6.heap.size,0,none⟩) 1 1) [49]:=by rw [← hW7]; exact lit15 w6 [49] 1 rfl (by omega) (by omega) _ rfl (by simp)
  have C2:=Hd (hRul _ p Cn.hebr W7 _ [49] ((Uh HDx1).below hb2) Cn.hb_six hs2 (by decide))
  rw [Cn.hb3] at C2
  have E2:=Hd (bthen (Uh HBx1) hb2)
  have G2:=Hd ((Uh HDx1).below hb2)
  clear hs2 hb2 HBx1 HDx1
  go_wp2_with fail
  refine (Uh C2).mono ?_
  rintro e2x w8 ⟨rfl,bx2⟩
  have HBx2:=Hd (bthen (Uh E2) bx2)
  have HDx2:=Hd ((Uh G2).below bx2)
  clear C2 bx2 E2 G2 hW7
  obtain ⟨W9,hW9⟩:∃ W9,w8.alloc (.cells #[.int .i32 97,.int .i32 1488] 21)=W9:=⟨_,rfl⟩
  have hb3:Below w8.heap.size w8 W9:=by rw [← hW9]; exact (Below.refl _ _).alloc (Nat.le_refl _) _
  have hs3:Sk .i32 W9 (.slice (some ⟨w8.heap.size,0,none⟩) 2 2) [97,1488]:=by rw [← hW9]; exact lit15 w8 [97,1488] 2 rfl (by omega) (by omega) _ rfl (by simp)
  have C3:=Hd (hHas _ p Cn.hebr W9 _ [97,1488] ((Uh HDx2).below hb3) Cn.hb_six hs3 (by decide))
  rw [Cn.hb4] at C3
  have E3:=Hd (bthen (Uh HBx2) hb3)
  have G3:=Hd ((Uh HDx2).below hb3)
  clear hs3 hb3 HBx2 HDx2
  go_wp2_with fail
  refine (Uh C3).mono ?_
  rintro e3x w10 ⟨rfl,bx3⟩
  have HBx3:=Hd (bthen (Uh E3) bx3)
  have HDx3:=Hd ((Uh G3).below bx3)
  clear C3 bx3 E3 G3 hW9
  obtain ⟨W11,hW11⟩:∃ W11,w10.alloc (.cells #[.int .i32 1488] 21)=W11:=⟨_,rfl⟩
  have hb4:Below w10.heap.size w10 W11:=by rw [← hW11]; exact (Below.refl _ _).alloc (Nat.le_refl _) _
  have hs4:Sk .i32 W11 (.slice (some ⟨w10.heap.size,0,none⟩) 1 1) [1488]:=by rw [← hW11]; exact lit15 w10 [1488] 1 rfl (by omega) (by omega) _ rfl (by simp)
  have C4:=Hd (hHasN W11 _ [1488] hs4)
  have E4:=Hd (bthen (Uh HBx3) hb4)
  have G4:=Hd ((Uh HDx3).below hb4)
  clear hs4 hb4 HBx3 HDx3
  go_wp2_with fail
  refine (Uh C4).mono ?_
  rintro e4x w12 ⟨rfl,bx4⟩
  have HBx4:=Hd (bthen (Uh E4) bx4)
  have HDx4:=Hd ((Uh G4).below bx4)
  clear C4 bx4 E4 G4 hW11
  obtain ⟨W13,hW13⟩:∃ W13,w12.alloc (.cells #[.int .i32 49] 21)=W13:=⟨_,rfl⟩
  have hb5:Below w12.heap.size w12 W13:=by rw [← hW13]; exact (Below.refl _ _).alloc (Nat.le_refl _) _
  have hs5:Sk .i32 W13 (.slice (some ⟨w12.heap.size,0,none⟩) 1 1) [49]:=by rw [← hW13]; exact lit15 w12 [49] 1 rfl (by omega) (by omega) _ rfl (by simp)
  have C5:=Hd (hRulN W13 _ [49] hs5)
  have E5:=Hd (bthen (Uh HBx4) hb5)
  have G5:=Hd ((Uh HDx4).below hb5)
  clear hs5 hb5 HBx4 HDx4
  go_wp2_with fail
  refine (Uh C5).mono ?_
  rintro e5x w14 ⟨rfl,bx5⟩
  have HBx5:=Hd (bthen (Uh E5) bx5)
  have HDx5:=Hd ((Uh G5).below bx5)
  clear C5 bx5 E5 G5 hW13
  go_wp2
  go_ret
  exact ⟨rfl,Uh HBx5⟩
end Go.Proofs.YtdjpjgjhiibpkaaGreatDoor
