/- Vk9 -/
import Derived.Test.YtfemhegfjfhnbaaGreatDoorW32
namespace Go.Proofs.YtfemhegfjfhnbaaGreatDoor
open Go.RowKit
namespace Cn
theorem bare_to {r:Rec} {a b c d:Bool} (h:bare r a false b c d=true):r.to=[]:=by
 unfold bare at h
 simp only [Bool.and_eq_true,Bool.false_or,decide_eq_true_eq] at h
 exact List.eq_nil_of_length_eq_zero h.1.1.1.2
theorem right_plain {r:Rec} (h:right r=0) (hk:r.kind=1∨r.kind=2):r.to=[]:=by
 have hf:=right_kind h
 unfold right at h
 rw [if_neg hf,if_neg (by omega)] at h
 have hc:=if_zero h
 rw [Bool.and_eq_true,if_pos (by omega)] at hc
 exact bare_to hc.2
end Cn
set_option maxRecDepth 8000 in
set_option maxHeartbeats 4000000 in
theorem refMapping9 (v:Value) (rs:List Rec) (c:Int) (w:World) (hv:Rcs w v rs) (hc:Rune c) (h6:(Cn.check6 rs).2=0):Calls Tryz.prog 27 #[v,.int .i32 c] w (RunesNew w (Cn.mapping rs c)):=by
 have K:=Hd (refFind_any v rs 1 c w hv (by unfold I64; omega) hc)
 have hsh:=Cn.mapping_shift h6 c
 have hpl:(Cn.rget rs 1 c).kind=1∨(Cn.rget rs 1 c).kind=2→(Cn.rget rs 1 c).to=[]:=fun hk=>by
  rcases Cn.rget_cases h6 (f:=1) (by decide) c with ⟨_,e⟩ | ⟨_,_,_,_,hr⟩
  ·rw [e]; rfl
  ·exact Cn.right_plain hr hk
 obtain ⟨c0,c1⟩:=hc
 unfold Cn.mapping
 unfold Cn.rget at *
 rcases hit_at hv 1 c with ⟨h1,h2⟩ | ⟨k,b,off,cap,h1,hkl,h2,rfl,hl,hm,hr,hf⟩
 ·rw [h2]
  rw [h1] at K
  obtain ⟨ao,cap,rfl,_,_⟩:=hv.shape
  clear hv h1 h2 hsh hpl
  go_enter Tryz.func27,Tryz.ntmps27
  go_wp2_with fail
  refine (Uh K).mono ?_
  rintro e w1 ⟨rfl,hb⟩
  have HF:Hid (RunesNew w [] (.returned (.slice none 0 0)) w1):=⟨_,rfl,Ok.nil _ _ _ _,hb⟩
  clear K hb
  go_wp2
  go_ret
  exact Uh HF
 ·rw [h2] at hsh hpl ⊢
  rw [h1] at K
  have hlen:=hv.1
  obtain ⟨i0,hi,hz0,hz1,hz2⟩:=info_parts Tryz.info21
  replace hsh:(rs.getD k Cn.none).kind=4→_:=hsh
  replace hpl:(rs.getD k Cn.none).kind=1∨(rs.getD k Cn.none).kind=2→(rs.getD k Cn.none).to=[]:=hpl
  show Calls _ _ _ _ (RunesNew w (if (rs.getD k Cn.none).kind=4 then [(rs.getD k Cn.none).to.getD 0 0+(c - (rs.getD k Cn.none).lo)] else (rs.getD k Cn.none).to))
  obtain ⟨q1,q2⟩:=hf.kind
  have hfl:=hf.len
  have HR:=Hd hr
  clear hv h1 h2 hr hf
  generalize rs.getD k Cn.none=r at *
  by_cases k1:r.kind=1
  ·have ht:=hpl (.inl k1)
   rw [if_neg (by omega),ht]
   clear hsh hpl
   go_enter Tryz.func27,Tryz.ntmps27
   go_wp2_with fail
   refine (Uh K).mono ?_
   rintro e w1 ⟨rfl,hb⟩
   have x0:=((Uh HR).below hb).kind
   rw [k1] at x0
   have HF:Hid (RunesNew w [] (.returned (.slice none 0 0)) w1):=⟨_,rfl,Ok.nil _ _ _ _,hb⟩
   clear K hb HR k1 q1 q2
   go_wp2
   go_ret
   exact Uh HF
  by_cases k2:r.kind=2
  ·have ht:=hpl (.inr k2)
   rw [if_neg (by omega),ht]
   clear hsh hpl
   go_enter Tryz.func27,Tryz.ntmps27
   go_wp2_with fail
   refine (Uh K).mono ?_
   rintro e w1 ⟨rfl,hb⟩
   have x0:=((Uh HR).below hb).kind
   rw [k2] at x0
   have HF:Hid (RunesNew w [] (.returned (.slice none 0 0)) w1):=⟨_,rfl,Ok.nil _ _ _ _,hb⟩
   clear K hb HR k2 k1 q1 q2
   go_wp2
   go_ret
   exact Uh HF
  have b1:(r.kind==1)=false:=by rw [beq_eq_false_iff_ne]; exact k1
  have b2:(r.kind==2)=false:=by rw [beq_eq_false_iff_ne]; exact k2
  by_cases k4:r.kind=4
  ·rw [if_pos k4]
   obtain ⟨s1,s2,s3,s4,s5,s6,s7⟩:=hsh k4
   clear hsh hpl b1 b2 k1 k2
   obtain ⟨x,hx⟩:∃ x,r.to=[x]:=by
    match r.to,s1 with
    | [x],_=>exact ⟨x,rfl⟩
   rw [hx] at s2 s3 s7 ⊢
   simp only [List.getD_cons_zero] at s2 s3 s7 ⊢
   have HX:=Hd hx
   have HK4:=Hd k4
   obtain ⟨lo,hlo⟩:∃ lo,r.lo=lo:=⟨_,rfl⟩
   have HLO:=Hd hlo
   rw [hlo] at s4 s5 s7 ⊢
   clear hx k4 hlo s1 hfl
   go_enter Tryz.func27,Tryz.ntmps27
   go_wp2_with fail
   refine (Uh K).mono ?_
   rintro e w1 ⟨rfl,hb⟩
   obtain ⟨z0,z1,z2,z3,⟨tv,z4,skt⟩,z5,z6,z7⟩:=(Uh HR).below hb
   rw [Uh HK4] at z0
   rw [Uh HLO] at z1
   rw [Uh HX] at skt
   obtain ⟨tb,tof,tcap,hte,ht1,ht2,htc⟩:=skt.place (by simp)
   have htc0:w1.cell? ⟨tb,tof,none⟩=some (.int .i32 x):=htc 0 (by simp)
   subst hte
   simp only [List.length_singleton] at z4
   have HS:Hid (∀ W,Below w1.heap.size w1 W→W.cell? ⟨b,off+k * 8+1,none⟩=some (.int .i64 lo)∧W.cell? ⟨b,off+k * 8+4,none⟩=some (.slice (some ⟨tb,tof,none⟩) 1 tcap)∧W.cell? ⟨tb,tof,none⟩=some (.int .i32 x)):=fun W hW=>⟨by rw [hW.cell (lt_of_cell? z1)]; exact z1,by rw [hW.cell (lt_of_cell? z4)]; exact z4,by rw [hW.cell (lt_of_cell? htc0)]; exact htc0⟩
   have HB:=Hd hb
   have htl:1≤tcap:=by simpa using ht1
   clear K hb HR z1 z2 z3 z4 z5 z6 z7 skt htc htc0 ht1 HX HK4 HLO hz0 hz1 hz2
   go_wp2
   clear z0
   refine wp_region_held_drew (S:=fun w'=>(w'.cell? ⟨b,off+k * 8+1,none⟩=some (.int .i64 lo)∧w'.cell? ⟨b,off+k * 8+4,none⟩=some (.slice (some ⟨tb,tof,none⟩) 1 tcap)∧w'.cell? ⟨tb,tof,none⟩=some (.int .i32 x))) (by kernel_rfl) ((Uh HS) _ (drewB ⟨1,rfl⟩)) (fun hHeld=>?_)
   refine tk9 0 ⟨some 34,_,_,_,_,_⟩ (.slice (some ⟨b,off,none⟩) rs.length cap) rfl ?_ hHeld ?_
   ·intro w hSw
    obtain ⟨s1,s4',s5'⟩:=hSw; go_simp
   try simp only [Act.put,sa9,sb9,sc9]
   refine tk9 1 ⟨some 35,_,_,_,_,_⟩ (.int .i64 (k:Int)) rfl ?_ hHeld ?_
   ·intro w hSw
    obtain ⟨s1,s4',s5'⟩:=hSw; go_simp
   try simp only [Act.put,sa9,sb9,sc9]
   refine tk9 2 ⟨some 36,_,_,_,_,_⟩ (.pointer (some ⟨b,off+k * 8,none⟩)) rfl ?_ hHeld ?_
   ·intro w hSw
    obtain ⟨s1,s4',s5'⟩:=hSw; go_simp
   try simp only [Act.put,sa9,sb9,sc9]
   refine tk9 3 ⟨some 37,_,_,_,_,_⟩ (.pointer (some ⟨b,off+k * 8+4,none⟩)) rfl ?_ hHeld ?_
   ·intro w hSw
    obtain ⟨s1,s4',s5'⟩:=hSw; go_simp
   try simp only [Act.put,sa9,sb9,sc9]
   refine tk9 4 ⟨some 38,_,_,_,_,_⟩ (.slice (some ⟨tb,tof,none⟩) 1 tcap) rfl ?_ hHeld ?_
   ·intro w hSw
    obtain ⟨s1,s4',s5'⟩:=hSw; go_simp
   try simp only [Act.put,sa9,sb9,sc9]
   refine tk9 5 ⟨some 39,_,_,_,_,_⟩ (.pointer (some ⟨tb,tof,none⟩)) rfl ?_ hHeld ?_
   ·intro w hSw
    obtain ⟨s1,s4',s5'⟩:=hSw; go_simp
   try simp only [Act.put,sa9,sb9,sc9]
   refine tk9 6 ⟨some 40,_,_,_,_,_⟩ (.int .i32 x) rfl ?_ hHeld ?_
   ·intro w hSw
    obtain ⟨s1,s4',s5'⟩:=hSw; go_simp
   try simp only [Act.put,sa9,sb9,sc9]
   refine tk9 7 ⟨some 41,_,_,_,_,_⟩ (.int .i32 c) rfl ?_ hHeld ?_
   ·intro w hSw
    obtain ⟨s1,s4',s5'⟩:=hSw; go_simp
   try simp only [Act.put,sa9,sb9,sc9]
   refine tk9 8 ⟨some 42,_,_,_,_,_⟩ (.int .i32 (x+c)) rfl ?_ hHeld ?_
   ·intro w hSw
    obtain ⟨s1,s4',s5'⟩:=hSw; go_simp; first | done | (rw [IntKind.wrap_i32]; omega) | (unfold wrap32; omega) | omega
   try simp only [Act.put,sa9,sb9,sc9]
   refine tk9 9 ⟨some 43,_,_,_,_,_⟩ (.slice (some ⟨b,off,none⟩) rs.length cap) rfl ?_ hHeld ?_
   ·intro w hSw
    obtain ⟨s1,s4',s5'⟩:=hSw; go_simp
   try simp only [Act.put,sa9,sb9,sc9]
   refine tk9 10 ⟨some 44,_,_,_,_,_⟩ (.int .i64 (k:Int)) rfl ?_ hHeld ?_
   ·intro w hSw
    obtain ⟨s1,s4',s5'⟩:=hSw; go_simp
   try simp only [Act.put,sa9,sb9,sc9]
   refine tk9 11 ⟨some 45,_,_,_,_,_⟩ (.pointer (some ⟨b,off+k * 8,none⟩)) rfl ?_ hHeld ?_
   ·intro w hSw
    obtain ⟨s1,s4',s5'⟩:=hSw; go_simp
   try simp only [Act.put,sa9,sb9,sc9]
   refine tk9 12 ⟨some 46,_,_,_,_,_⟩ (.pointer (some ⟨b,off+k * 8+1,none⟩)) rfl ?_ hHeld ?_
   ·intro w hSw
    obtain ⟨s1,s4',s5'⟩:=hSw; go_simp
   try simp only [Act.put,sa9,sb9,sc9]
   refine tk9 13 ⟨some 47,_,_,_,_,_⟩ (.int .i64 lo) rfl ?_ hHeld ?_
   ·intro w hSw
    obtain ⟨s1,s4',s5'⟩:=hSw; go_simp
   try simp only [Act.put,sa9,sb9,sc9]
   refine tk9 14 ⟨some 48,_,_,_,_,_⟩ (.int .i32 lo) rfl ?_ hHeld ?_
   ·intro w hSw
    obtain ⟨s1,s4',s5'⟩:=hSw; go_simp; first | done | (rw [IntKind.wrap_i32]; omega) | (unfold wrap32; omega) | omega
   try simp only [Act.put,sa9,sb9,sc9]
   refine tk9 15 ⟨some 49,_,_,_,_,_⟩ (.int .i32 (x+(c - lo))) rfl ?_ hHeld ?_
   ·intro w hSw
    obtain ⟨s1,s4',s5'⟩:=hSw; go_simp; first | done | (rw [IntKind.wrap_i32]; omega) | (unfold wrap32; omega) | omega
   try simp only [Act.put,sa9,sb9,sc9]
   refine wpAnyH_ready (rs:=[16]) (by kernel_rfl) (by simp) ?_
   refine AllReadyH.cons (o:=⟨some 50,_,_,_,_,_⟩) rfl (fun K hK=>?_) AllReadyH.nil
   have hb3:Below w1.heap.size w1 w1.drew:=drewB ⟨1,rfl⟩
   have hb4:=hb3.alloc hb3.size (.cells #[.int .i32 (x+(c - lo))] 21)
   have hS4:=(Uh HS) _ hb4
   have hF:RunesNew w [x+(c - lo)] (.returned (.slice (some ⟨w1.drew.heap.size,0,none⟩) 1 1)) (w1.drew.alloc (.cells #[.int .i32 (x+(c - lo))] 21)):=⟨_,rfl,ok_one9 w1.drew w.heap.size (Nat.le_trans (Uh HB).size hb3.size) _ (by omega),bthen (Uh HB) hb4⟩
   have HF:=Hd hF
   have HS4:=Hd hS4
   clear hF hb3 hb4 hS4 HS
   go_simp
   refine hK.out _ _ ?_ (fun hHeld=>?_)
   ·exact Uh HS4
   clear hK K HS4
   try simp only [Act.put,sa9,sb9,sc9]
   refine tk9 17 ⟨some 4,_,_,_,_,_⟩ (.slice (some ⟨w1.heap.size,0,none⟩) 1 1) rfl ?_ hHeld ?_
   ·intro w hSw
    go_simp
   try simp only [Act.put,sa9,sb9,sc9]
   refine wpAnyH_done (by kernel_rfl) ?_ _
   clear hHeld
   go_wp2
   go_ret
   exact Uh HF
  ·rw [if_neg k4]
   have b4:(r.kind==4)=false:=by rw [beq_eq_false_iff_ne]; exact k4
   clear hsh hpl k1 k2 k4
   go_enter Tryz.func27,Tryz.ntmps27
   go_wp2_with fail
   refine (Uh K).mono ?_
   rintro e w1 ⟨rfl,hb⟩
   obtain ⟨x0,z1,z2,z3,⟨tv,z4,skt⟩,z5,z6,z7⟩:=(Uh HR).below hb
   have HB:=Hd hb
   have hs1:=hb.size
   have HSK:=Hd skt
   have hF0:Fit .i32 r.to:=skt.1
   have HFIT:=Hd hF0
   rcases skt.2.src with ⟨hnil0,hte⟩ | ⟨ad,tcap,hte,hcells⟩
   ·subst hte
    have hnil:r.to=[]:=by simpa using hnil0
    have HNIL:=Hd hnil
    clear hnil0
    clear K hb HR z1 z2 z3 z5 z6 z7 skt hnil
    have HF:Hid (RunesNew w r.to (.returned (.slice none 0 0)) w1):=⟨_,rfl,by rw [Uh HNIL]; exact Ok.nil _ _ _ _,Uh HB⟩
    go_wp2_with (at_builtin; refine wpList_append_own_none rfl (.tmp 51) (.tmp 56) 23 rfl w.heap.size 21 i0 1 Tryz.underlying23 hi _ _ _ rfl (World.ownsRow_nil _ _ _ _) rfl ?_)
    go_wp2
    go_ret
    exact Uh HF
   ·have hml:(r.to.map (Value.int .i32)).length=r.to.length:=List.length_map _
    rw [hml] at hte
    subst hte
    have HC:=Hd hcells
    clear hml
    clear K hb HR z1 z2 z3 z5 z6 z7 skt hcells
    go_wp2_with (at_builtin; refine wpList_append_own _ rfl (.tmp 51) (.tmp 56) 23 rfl w.heap.size 21 i0 (.int .i32 0) 1 4 Tryz.underlying23 hi hz0 hz1 hz2 rfl (by decide) _ _ _ rfl (World.ownsRow_nil _ _ _ _) ad r.to.length tcap (r.to.map (Value.int .i32)) rfl (by simp) (Uh HC) (fun u hu=>by obtain ⟨z,_,rfl⟩:=List.mem_map.1 hu; rfl) (by unfold maxLen; omega) (by omega) (by omega) ?_)
    intro v2 w2 hrow2 hg2 _
    have HF:Hid (RunesNew w r.to (.returned v2) w2):=⟨v2,rfl,Ok.of (Uh HFIT) (by omega) hrow2 (by simp) (by simp),(Uh HB).grown hg2 hs1 (fun k hk=>by cases hk)⟩
    clear hrow2 hg2 HC
    go_wp2
    go_ret
    exact Uh HF
end Go.Proofs.YtfemhegfjfhnbaaGreatDoor
