/- Vk9 Vl9 -/
import Derived.Test.YtkbmhpinfmognaaGreatDoorZ29
namespace Go.Proofs.YtkbmhpinfmognaaGreatDoor
open Go.RowKit
def StrB (w : World) (s : ByteArray) (e : Ending) (w' : World) : Prop:=e = .returned (.string s) ∧ Below w.heap.size w w'
namespace Cn
theorem bare_to {r : Rec} {a b c d : Bool} (h : bare r a false b c d = true) : r.to = []:=by
 unfold bare at h
 simp only [Bool.and_eq_true,Bool.false_or,decide_eq_true_eq] at h
 exact List.eq_nil_of_length_eq_zero h.1.1.1.2
theorem right_plain {r : Rec} (h : right r = 0) (hk : r.kind = 1 ∨ r.kind = 2) : r.to = []:=by
 have hf:=right_kind h
 unfold right at h
 rw [if_neg hf,if_neg (by omega)] at h
 have hc:=if_zero h
 rw [Bool.and_eq_true,if_pos (by omega)] at hc
 exact bare_to hc.2
end Cn
set_option maxRecDepth 8000 in
set_option maxHeartbeats 2000000 in
theorem script_any9 {B p : Nat} {rs : List Rec} (c : Int) (w : World) (hD : DataAt w B p rs) (h6 : (Cn.check6 rs).2 = 0) (hc : Rune c) : Calls Tryz.prog 24 #[.pointer (some ⟨p,0,none⟩),.int .i32 c] w (StrB w (Cn.rget rs 7 c).name):=by
 obtain ⟨t1,t2,t3,t4,t5,a1,l1,a2,l2,a3,l3,a4,l4,a5,l5,c1,c2,x1,h1,h2,h3⟩:=hD
 have K1:=hide (of_any c w h3.q3 h6 (by decide) hc)
 have x5 : w.cell? ⟨p,9,none⟩ = some a3:=cell_of (j:=9) h1 (by show 9 < 18; omega)
 have x6 : w.cell? ⟨p,10,none⟩ = some l3:=cell_of (j:=10) h1 (by show 10 < 18; omega)
 obtain ⟨⟨aa,m,e,-⟩,ps,hR,-⟩:=h3.q3
 subst e
 obtain ⟨lo5,lc5,hle⟩ : ∃ ao cap,l3 = .slice ao ps.length cap:=by
  rcases hR.1.2 with ⟨e,h0⟩ | ⟨g,cap,cur,e,_⟩
  ·exact ⟨_,_,by rw [e,h0]⟩
  ·exact ⟨_,_,e⟩
 subst hle
 obtain ⟨hc1,hc2⟩:=hc
 clear h1 h2 h3 h6 hR
 generalize Cn.rget rs 7 c = r at *
 go_enter Tryz.func24,Tryz.ntmps24
 go_wp2_with fail
 refine (unhide K1).mono ?_
 rintro e1 w1 ⟨vt,rfl,hok,b1⟩
 have HB:=hide b1
 obtain ⟨ao,tc,rfl,_,_⟩:=hok.sk.shape
 clear K1 x5 x6 hok b1
 unfold recV
 have hfw:=field_nm r.kind r.lo r.hi r.n ao r.to.length tc r.name r.other r.wt w1
 go_wp2
 go_ret
 exact ⟨rfl,unhide HB⟩
set_option maxRecDepth 8000 in
set_option maxHeartbeats 1000000 in
theorem refScript9 (v : Value) (rs : List Rec) (c : Int) (w : World) (hv : Rcs w v rs) (hc : Rune c) : Calls Tryz.prog 25 #[v,.int .i32 c] w (StrB w (Cn.rget rs 7 c).name):=by
 have K:=hide (refFind_any v rs 7 c w hv (by unfold I64; omega) hc)
 obtain ⟨c0,c1⟩:=hc
 unfold Cn.rget
 rcases hit_at hv 7 c with ⟨h1,h2⟩ | ⟨k,b,off,cap,h1,hkl,h2,rfl,hl,hm,hr,hf⟩
 ·rw [h2]
  rw [h1] at K
  obtain ⟨ao,cap,rfl,_,_⟩:=hv.shape
  clear hv h1 h2
  go_enter Tryz.func25,Tryz.ntmps25
  go_wp2_with fail
  refine (unhide K).mono ?_
  rintro e w1 ⟨rfl,hb⟩
  have HF:=hide hb
  clear K hb
  go_wp2
  go_ret
  exact ⟨rfl,unhide HF⟩
 ·rw [h2]
  rw [h1] at K
  have HR:=hide hr
  have hlen:=hv.1
  clear hv h1 h2 hr hf
  show Calls _ _ _ _ (StrB w (rs.getD k Cn.none).name)
  generalize rs.getD k Cn.none = r at *
  go_enter Tryz.func25,Tryz.ntmps25
  go_wp2_with fail
  refine (unhide K).mono ?_
  rintro e w1 ⟨rfl,hb⟩
  have x3:=((unhide HR).below hb).name
  have HF:=hide hb
  clear K hb HR
  go_wp2
  go_ret
  exact ⟨rfl,unhide HF⟩
set_option maxRecDepth 8000 in
set_option maxHeartbeats 4000000 in
theorem refMapping9 (v : Value) (rs : List Rec) (c : Int) (w : World) (hv : Rcs w v rs) (hc : Rune c) (h6 : (Cn.check6 rs).2 = 0) : Calls Tryz.prog 15 #[v,.int .i32 c] w (RunesNew w (Cn.mapping rs c)):=by
 have K:=hide (refFind_any v rs 1 c w hv (by unfold I64; omega) hc)
 have hsh:=Cn.mapping_shift h6 c
 have hpl : (Cn.rget rs 1 c).kind = 1 ∨ (Cn.rget rs 1 c).kind = 2 → (Cn.rget rs 1 c).to = []:=fun hk => by
  rcases Cn.rget_cases h6 (f:=1) (by decide) c with ⟨_,e⟩ | ⟨_,_,_,_,hr⟩
  ·rw [e]; rfl
  ·exact Cn.right_plain hr hk
 obtain ⟨c0,c1⟩:=hc
 unfold Cn.mapping
 unfold Cn.rget at *
 rcases hit_at hv 1 c with ⟨h1,h2⟩ | ⟨k,b,off,cap,h1,hkl,h2,rfl,hl,hm,hr,hf⟩
 ·rw [h2]
  rw [h1] at K
  obtain ⟨ao,cap,rfl,_,_⟩:=hv.shape
  clear hv h1 h2 hsh hpl
  go_enter Tryz.func15,Tryz.ntmps15
  go_wp2_with fail
  refine (unhide K).mono ?_
  rintro e w1 ⟨rfl,hb⟩
  have HF : Hid (RunesNew w [] (.returned (.slice none 0 0)) w1):=⟨_,rfl,Ok.nil _ _ _ _,hb⟩
  clear K hb
  go_wp2
  go_ret
  exact unhide HF
 ·rw [h2] at hsh hpl ⊢
  rw [h1] at K
  have hlen:=hv.1
  obtain ⟨i0,hi,hz0,hz1,hz2⟩:=info_parts Tryz.info21
  replace hsh : (rs.getD k Cn.none).kind = 4 → _:=hsh
  replace hpl : (rs.getD k Cn.none).kind = 1 ∨ (rs.getD k Cn.none).kind = 2 → (rs.getD k Cn.none).to = []:=hpl
  show Calls _ _ _ _ (RunesNew w (if (rs.getD k Cn.none).kind = 4 then [(rs.getD k Cn.none).to.getD 0 0 + (c - (rs.getD k Cn.none).lo)] else (rs.getD k Cn.none).to))
  obtain ⟨q1,q2⟩:=hf.kind
  have hfl:=hf.len
  have HR:=hide hr
  clear hv h1 h2 hr hf
  generalize rs.getD k Cn.none = r at *
  by_cases k1 : r.kind = 1
  ·have ht:=hpl (.inl k1)
   rw [if_neg (by omega),ht]
   clear hsh hpl
   go_enter Tryz.func15,Tryz.ntmps15
   go_wp2_with fail
   refine (unhide K).mono ?_
   rintro e w1 ⟨rfl,hb⟩
   have x0:=((unhide HR).below hb).kind
   rw [k1] at x0
   have HF : Hid (RunesNew w [] (.returned (.slice none 0 0)) w1):=⟨_,rfl,Ok.nil _ _ _ _,hb⟩
   clear K hb HR k1 q1 q2
   go_wp2
   go_ret
   exact unhide HF
  by_cases k2 : r.kind = 2
  ·have ht:=hpl (.inr k2)
   rw [if_neg (by omega),ht]
   clear hsh hpl
   go_enter Tryz.func15,Tryz.ntmps15
   go_wp2_with fail
   refine (unhide K).mono ?_
   rintro e w1 ⟨rfl,hb⟩
   have x0:=((unhide HR).below hb).kind
   rw [k2] at x0
   have HF : Hid (RunesNew w [] (.returned (.slice none 0 0)) w1):=⟨_,rfl,Ok.nil _ _ _ _,hb⟩
   clear K hb HR k2 k1 q1 q2
   go_wp2
   go_ret
   exact unhide HF
  have b1 : (r.kind == 1) = false:=by rw [beq_eq_false_iff_ne]; exact k1
  have b2 : (r.kind == 2) = false:=by rw [beq_eq_false_iff_ne]; exact k2
  by_cases k4 : r.kind = 4
  ·rw [if_pos k4]
   obtain ⟨s1,s2,s3,s4,s5,s6,s7⟩:=hsh k4
   clear hsh hpl b1 b2 k1 k2
   obtain ⟨x,hx⟩ : ∃ x,r.to = [x]:=by
    match r.to,s1 with
    | [x],_ => exact ⟨x,rfl⟩
   rw [hx] at s2 s3 s7 ⊢
   simp only [List.getD_cons_zero] at s2 s3 s7 ⊢
   have HX:=hide hx
   have HK4:=hide k4
   obtain ⟨lo,hlo⟩ : ∃ lo,r.lo = lo:=⟨_,rfl⟩
   have HLO:=hide hlo
   rw [hlo] at s4 s5 s7 ⊢
   clear hx k4 hlo s1 hfl
   go_enter Tryz.func15,Tryz.ntmps15
   go_wp2_with fail
   refine (unhide K).mono ?_
   rintro e w1 ⟨rfl,hb⟩
   obtain ⟨z0,z1,z2,z3,⟨tv,z4,skt⟩,z5,z6,z7⟩:=(unhide HR).below hb
   rw [unhide HK4] at z0
   rw [unhide HLO] at z1
   rw [unhide HX] at skt
   obtain ⟨tb,tof,tcap,hte,ht1,ht2,htc⟩:=skt.place (by simp)
   have htc0 : w1.cell? ⟨tb,tof,none⟩ = some (.int .i32 x):=htc 0 (by simp)
   subst hte
   simp only [List.length_singleton] at z4
   have HS : Hid (∀ W,Below w1.heap.size w1 W → W.cell? ⟨b,off + k * 8 + 1,none⟩ = some (.int .i64 lo) ∧ W.cell? ⟨b,off + k * 8 + 4,none⟩ = some (.slice (some ⟨tb,tof,none⟩) 1 tcap) ∧ W.cell? ⟨tb,tof,none⟩ = some (.int .i32 x)):=fun W hW => ⟨by rw [hW.cell (lt_of_cell? z1)]; exact z1,by rw [hW.cell (lt_of_cell? z4)]; exact z4,by rw [hW.cell (lt_of_cell? htc0)]; exact htc0⟩
   have HB:=hide hb
   have htl : 1 ≤ tcap:=by simpa using ht1
   clear K hb HR z1 z2 z3 z4 z5 z6 z7 skt htc htc0 ht1 HX HK4 HLO hz0 hz1 hz2
   go_wp2
   clear z0
   refine wp_region_held_drew (S:=fun w' => (w'.cell? ⟨b,off + k * 8 + 1,none⟩ = some (.int .i64 lo) ∧ w'.cell? ⟨b,off + k * 8 + 4,none⟩ = some (.slice (some ⟨tb,tof,none⟩) 1 tcap) ∧ w'.cell? ⟨tb,tof,none⟩ = some (.int .i32 x))) (by kernel_rfl) ((unhide HS) _ (drewB ⟨1,rfl⟩)) (fun hHeld => ?_)
   refine wpAnyH_take (i:=0) (oi:=⟨some 34,_,_,_,_,_⟩) (v:=.slice (some ⟨b,off,none⟩) rs.length cap) rfl (by kernel_rfl) (by kernel_rfl) (by kernel_rfl) (fun _ _ _ h => h) (Or.inl ⟨by rfl,?_⟩) hHeld ?_
   ·intro w hSw
    obtain ⟨s1,s4',s5'⟩:=hSw; go_simp
   try simp only [Act.put,sa9,sb9,sc9]
   refine wpAnyH_take (i:=1) (oi:=⟨some 35,_,_,_,_,_⟩) (v:=.int .i64 (k : Int)) rfl (by kernel_rfl) (by kernel_rfl) (by kernel_rfl) (fun _ _ _ h => h) (Or.inl ⟨by rfl,?_⟩) hHeld ?_
   ·intro w hSw
    obtain ⟨s1,s4',s5'⟩:=hSw; go_simp
   try simp only [Act.put,sa9,sb9,sc9]
   refine wpAnyH_take (i:=2) (oi:=⟨some 36,_,_,_,_,_⟩) (v:=.pointer (some ⟨b,off + k * 8,none⟩)) rfl (by kernel_rfl) (by kernel_rfl) (by kernel_rfl) (fun _ _ _ h => h) (Or.inl ⟨by rfl,?_⟩) hHeld ?_
   ·intro w hSw
    obtain ⟨s1,s4',s5'⟩:=hSw; go_simp
   try simp only [Act.put,sa9,sb9,sc9]
   refine wpAnyH_take (i:=3) (oi:=⟨some 37,_,_,_,_,_⟩) (v:=.pointer (some ⟨b,off + k * 8 + 4,none⟩)) rfl (by kernel_rfl) (by kernel_rfl) (by kernel_rfl) (fun _ _ _ h => h) (Or.inl ⟨by rfl,?_⟩) hHeld ?_
   ·intro w hSw
    obtain ⟨s1,s4',s5'⟩:=hSw; go_simp
   try simp only [Act.put,sa9,sb9,sc9]
   refine wpAnyH_take (i:=4) (oi:=⟨some 38,_,_,_,_,_⟩) (v:=.slice (some ⟨tb,tof,none⟩) 1 tcap) rfl (by kernel_rfl) (by kernel_rfl) (by kernel_rfl) (fun _ _ _ h => h) (Or.inl ⟨by rfl,?_⟩) hHeld ?_
   ·intro w hSw
    obtain ⟨s1,s4',s5'⟩:=hSw; go_simp
   try simp only [Act.put,sa9,sb9,sc9]
   refine wpAnyH_take (i:=5) (oi:=⟨some 39,_,_,_,_,_⟩) (v:=.pointer (some ⟨tb,tof,none⟩)) rfl (by kernel_rfl) (by kernel_rfl) (by kernel_rfl) (fun _ _ _ h => h) (Or.inl ⟨by rfl,?_⟩) hHeld ?_
   ·intro w hSw
    obtain ⟨s1,s4',s5'⟩:=hSw; go_simp
   try simp only [Act.put,sa9,sb9,sc9]
   refine wpAnyH_take (i:=6) (oi:=⟨some 40,_,_,_,_,_⟩) (v:=.int .i32 x) rfl (by kernel_rfl) (by kernel_rfl) (by kernel_rfl) (fun _ _ _ h => h) (Or.inl ⟨by rfl,?_⟩) hHeld ?_
   ·intro w hSw
    obtain ⟨s1,s4',s5'⟩:=hSw; go_simp
   try simp only [Act.put,sa9,sb9,sc9]
   refine wpAnyH_take (i:=7) (oi:=⟨some 41,_,_,_,_,_⟩) (v:=.int .i32 c) rfl (by kernel_rfl) (by kernel_rfl) (by kernel_rfl) (fun _ _ _ h => h) (Or.inl ⟨by rfl,?_⟩) hHeld ?_
   ·intro w hSw
    obtain ⟨s1,s4',s5'⟩:=hSw; go_simp
   try simp only [Act.put,sa9,sb9,sc9]
   refine wpAnyH_take (i:=8) (oi:=⟨some 42,_,_,_,_,_⟩) (v:=.int .i32 (x + c)) rfl (by kernel_rfl) (by kernel_rfl) (by kernel_rfl) (fun _ _ _ h => h) (Or.inl ⟨by rfl,?_⟩) hHeld ?_
   ·intro w hSw
    obtain ⟨s1,s4',s5'⟩:=hSw; go_simp; first | done | (rw [IntKind.wrap_i32]; omega) | (unfold wrap32; omega) | omega
   try simp only [Act.put,sa9,sb9,sc9]
   refine wpAnyH_take (i:=9) (oi:=⟨some 43,_,_,_,_,_⟩) (v:=.slice (some ⟨b,off,none⟩) rs.length cap) rfl (by kernel_rfl) (by kernel_rfl) (by kernel_rfl) (fun _ _ _ h => h) (Or.inl ⟨by rfl,?_⟩) hHeld ?_
   ·intro w hSw
    obtain ⟨s1,s4',s5'⟩:=hSw; go_simp
   try simp only [Act.put,sa9,sb9,sc9]
   refine wpAnyH_take (i:=10) (oi:=⟨some 44,_,_,_,_,_⟩) (v:=.int .i64 (k : Int)) rfl (by kernel_rfl) (by kernel_rfl) (by kernel_rfl) (fun _ _ _ h => h) (Or.inl ⟨by rfl,?_⟩) hHeld ?_
   ·intro w hSw
    obtain ⟨s1,s4',s5'⟩:=hSw; go_simp
   try simp only [Act.put,sa9,sb9,sc9]
   refine wpAnyH_take (i:=11) (oi:=⟨some 45,_,_,_,_,_⟩) (v:=.pointer (some ⟨b,off + k * 8,none⟩)) rfl (by kernel_rfl) (by kernel_rfl) (by kernel_rfl) (fun _ _ _ h => h) (Or.inl ⟨by rfl,?_⟩) hHeld ?_
   ·intro w hSw
    obtain ⟨s1,s4',s5'⟩:=hSw; go_simp
   try simp only [Act.put,sa9,sb9,sc9]
   refine wpAnyH_take (i:=12) (oi:=⟨some 46,_,_,_,_,_⟩) (v:=.pointer (some ⟨b,off + k * 8 + 1,none⟩)) rfl (by kernel_rfl) (by kernel_rfl) (by kernel_rfl) (fun _ _ _ h => h) (Or.inl ⟨by rfl,?_⟩) hHeld ?_
   ·intro w hSw
    obtain ⟨s1,s4',s5'⟩:=hSw; go_simp
   try simp only [Act.put,sa9,sb9,sc9]
   refine wpAnyH_take (i:=13) (oi:=⟨some 47,_,_,_,_,_⟩) (v:=.int .i64 lo) rfl (by kernel_rfl) (by kernel_rfl) (by kernel_rfl) (fun _ _ _ h => h) (Or.inl ⟨by rfl,?_⟩) hHeld ?_
   ·intro w hSw
    obtain ⟨s1,s4',s5'⟩:=hSw; go_simp
   try simp only [Act.put,sa9,sb9,sc9]
   refine wpAnyH_take (i:=14) (oi:=⟨some 48,_,_,_,_,_⟩) (v:=.int .i32 lo) rfl (by kernel_rfl) (by kernel_rfl) (by kernel_rfl) (fun _ _ _ h => h) (Or.inl ⟨by rfl,?_⟩) hHeld ?_
   ·intro w hSw
    obtain ⟨s1,s4',s5'⟩:=hSw; go_simp; first | done | (rw [IntKind.wrap_i32]; omega) | (unfold wrap32; omega) | omega
   try simp only [Act.put,sa9,sb9,sc9]
   refine wpAnyH_take (i:=15) (oi:=⟨some 49,_,_,_,_,_⟩) (v:=.int .i32 (x + (c - lo))) rfl (by kernel_rfl) (by kernel_rfl) (by kernel_rfl) (fun _ _ _ h => h) (Or.inl ⟨by rfl,?_⟩) hHeld ?_
   ·intro w hSw
    obtain ⟨s1,s4',s5'⟩:=hSw; go_simp; first | done | (rw [IntKind.wrap_i32]; omega) | (unfold wrap32; omega) | omega
   try simp only [Act.put,sa9,sb9,sc9]
   refine wpAnyH_ready (rs:=[16]) (by kernel_rfl) (by simp) ?_
   refine AllReadyH.cons (o:=⟨some 50,_,_,_,_,_⟩) rfl (fun K hK => ?_) AllReadyH.nil
   have hb3 : Below w1.heap.size w1 w1.drew:=drewB ⟨1,rfl⟩
   have hb4:=hb3.alloc hb3.size (.cells #[.int .i32 (x + (c - lo))] 21)
   have hS4:=(unhide HS) _ hb4
   have hF : RunesNew w [x + (c - lo)] (.returned (.slice (some ⟨w1.drew.heap.size,0,none⟩) 1 1)) (w1.drew.alloc (.cells #[.int .i32 (x + (c - lo))] 21)):=⟨_,rfl,ok_one9 w1.drew w.heap.size (Nat.le_trans (unhide HB).size hb3.size) _ (by omega),bthen (unhide HB) hb4⟩
   have HF:=hide hF
   have HS4:=hide hS4
   clear hF hb3 hb4 hS4 HS
   go_simp
   refine hK.out _ _ ?_ (fun hHeld => ?_)
   ·exact unhide HS4
   clear hK K HS4
   try simp only [Act.put,sa9,sb9,sc9]
   refine wpAnyH_take (i:=17) (oi:=⟨some 4,_,_,_,_,_⟩) (v:=.slice (some ⟨w1.heap.size,0,none⟩) 1 1) rfl (by kernel_rfl) (by kernel_rfl) (by kernel_rfl) (fun _ _ _ h => h) (Or.inl ⟨by rfl,?_⟩) hHeld ?_
   ·intro w hSw
    go_simp
   try simp only [Act.put,sa9,sb9,sc9]
   refine wpAnyH_done (by kernel_rfl) ?_ _
   clear hHeld
   go_wp2
   go_ret
   exact unhide HF
  ·rw [if_neg k4]
   have b4 : (r.kind == 4) = false:=by rw [beq_eq_false_iff_ne]; exact k4
   clear hsh hpl k1 k2 k4
   go_enter Tryz.func15,Tryz.ntmps15
   go_wp2_with fail
   refine (unhide K).mono ?_
   rintro e w1 ⟨rfl,hb⟩
   obtain ⟨x0,z1,z2,z3,⟨tv,z4,skt⟩,z5,z6,z7⟩:=(unhide HR).below hb
   have HB:=hide hb
   have hs1:=hb.size
   have HSK:=hide skt
   have hF0 : Fit .i32 r.to:=skt.1
   have HFIT:=hide hF0
   rcases skt.2.src with ⟨hnil0,hte⟩ | ⟨ad,tcap,hte,hcells⟩
   ·subst hte
    have hnil : r.to = []:=by simpa using hnil0
    have HNIL:=hide hnil
    clear hnil0
    clear K hb HR z1 z2 z3 z5 z6 z7 skt hnil
    have HF : Hid (RunesNew w r.to (.returned (.slice none 0 0)) w1):=⟨_,rfl,by rw [unhide HNIL]; exact Ok.nil _ _ _ _,unhide HB⟩
    go_wp2_with (at_builtin; refine wpList_append_own_none rfl (.tmp 51) (.tmp 56) 23 rfl w.heap.size 21 i0 1 Tryz.underlying23 hi _ _ _ rfl (World.ownsRow_nil _ _ _ _) rfl ?_)
    go_wp2
    go_ret
    exact unhide HF
   ·have hml : (r.to.map (Value.int .i32)).length = r.to.length:=List.length_map _
    rw [hml] at hte
    subst hte
    have HC:=hide hcells
    clear hml
    clear K hb HR z1 z2 z3 z5 z6 z7 skt hcells
    go_wp2_with (at_builtin; refine wpList_append_own _ rfl (.tmp 51) (.tmp 56) 23 rfl w.heap.size 21 i0 (.int .i32 0) 1 4 Tryz.underlying23 hi hz0 hz1 hz2 rfl (by decide) _ _ _ rfl (World.ownsRow_nil _ _ _ _) ad r.to.length tcap (r.to.map (Value.int .i32)) rfl (by simp) (unhide HC) (fun u hu => by obtain ⟨z,_,rfl⟩:=List.mem_map.1 hu; rfl) (by unfold maxLen; omega) (by omega) (by omega) ?_)
    intro v2 w2 hrow2 hg2 _
    have HF : Hid (RunesNew w r.to (.returned v2) w2):=⟨v2,rfl,Ok.of (unhide HFIT) (by omega) hrow2 (by simp) (by simp),(unhide HB).grown hg2 hs1 (fun k hk => by cases hk)⟩
    clear hrow2 hg2 HC
    go_wp2
    go_ret
    exact unhide HF
end Go.Proofs.YtkbmhpinfmognaaGreatDoor
namespace Go.Proofs.YtkbmhpinfmognaaGreatDoor
open Go.RowKit
open Ti
namespace Cn
theorem mapping_len {rs : List Rec} (h6 : (check6 rs).2 = 0) (hfit : ∀ r ∈ rs,RecFit r) (c : Int) : (mapping rs c).length ≤ 1000000000:=by
 unfold mapping
 split
 ·simp
 ·rcases rget_cases h6 (f:=1) (by decide) c with ⟨_,e⟩ | ⟨_,hm,_⟩
  ·rw [e]; simp [none]
  ·exact (hfit _ hm).len
end Cn
set_option maxRecDepth 8000 in
set_option maxHeartbeats 8000000 in
theorem tells_any (v : Value) (rs0 : List Rec) (cv : Value) (cs : List Int) (w : World) (hg : Glob w) (hv : Rcs w v rs0) (hc : Sk .i32 w cv cs) : Calls Tryz.prog 3 #[v,cv] w (Tells w true):=by
 have K1:=hide (made_any v rs0 w hg hv)
 have hfit : ∀ r ∈ rs0.take 150,RecFit r:=fun r hr => hv.2.1 r (List.mem_of_mem_take hr)
 have hrl : (rs0.take 150).length ≤ 150:=by rw [List.length_take]; omega
 obtain ⟨ao,cap,rfl,_,hcap⟩:=hv.shape
 have HCV:=hide hc
 have hcl:=hc.len
 obtain ⟨co,ccap,hce,hcc1,hcc2⟩:=hc.shape
 subst hce
 have HG:=hide hg
 have HFIT:=hide hfit
 clear hg hv hc hfit
 generalize rs0.take 150 = rs at *
 generalize rs0.length = L at *
 go_enter Tryz.func3,Tryz.ntmps3
 go_wp2_with fail
 refine (unhide K1).mono ?_
 rintro e1 w1 ⟨b1,h1⟩
 have HB1:=hide b1
 clear K1 b1
 rcases h1 with ⟨hne,rfl⟩ | ⟨h0,p,v2,ps2,rfl,hD,r2,p2⟩
 ·have K2:=hide (told_any9 w1 ((unhide HG).on (unhide HB1)))
  clear hne
  go_wp2_with fail
  refine (unhide K2).mono ?_
  rintro e2 w2 ⟨rfl,b2⟩
  have HB2:=hide (bthen (unhide HB1) b2)
  clear K2 b2
  go_wp2
  go_ret
  exact ⟨rfl,unhide HB2⟩
 ·have h6:=(Cn.check_iff.1 h0).1
  have R2:=rcs_new r2 p2 (by omega) (unhide HFIT)
  obtain ⟨a2,cp2,hv2,_,hcp2⟩:=R2.shape
  have HR2:=hide R2
  subst hv2
  have HD:=hide hD
  have H6:=hide h6
  have hs1:=(unhide HB1).size
  clear hD R2 r2 p2 h0 h6
  go_wp2
  go_loopw [8,9,10,11] (fun ii _ _ _ wr => ∃ j : Nat,ii = .int .i64 j ∧ j ≤ cs.length ∧ j ≤ 80 ∧ Below w1.heap.size w1 wr) (fun ii _ _ _ _ => 80 - (intOf ii).toNat)
  case atStart => exact ⟨0,rfl,by omega,by omega,Below.refl _ _⟩
  case round =>
   obtain ⟨j,rfl,hj1,hj2,hb⟩:=hrel
   obtain ⟨wo,hwo⟩ : ∃ wo,wo = wr:=⟨_,rfl⟩
   subst hwo
   have HB:=hide hb
   by_cases hjl : j < cs.length
   ·by_cases hj80 : j < 80
    ·obtain ⟨bx,ox,cqx,hex,_,_,hclx⟩:=(unhide HCV).place (by omega)
     simp only [Value.slice.injEq] at hex
     obtain ⟨rfl,h9,rfl⟩:=hex
     clear h9
     have hcell : wo.cell? ⟨bx,ox + j,none⟩ = some (.int .i32 (cs.getD j 0)):=by
      have h3:=hclx j hjl
      have hbb:=bthen (unhide HB1) hb
      rw [hbb.cell (lt_of_cell? h3)]; exact h3
     have hrn : Rune (cs.getD j 0):=by
      have:=(unhide HCV).1 (cs.getD j 0) (by simp [List.getD,hjl])
      exact ⟨this.1,this.2⟩
     have HDW : Hid (∀ W,Below wo.heap.size wo W → DataAt W w.heap.size p rs ∧ Rcs W (.slice a2 rs.length cp2) rs):=fun W hW => ⟨(unhide HD).below (bthen hb hW),(unhide HR2).below (bthen hb hW)⟩
     have HMP : Hid (∀ W,Below wo.heap.size wo W → Calls Tryz.prog 11 #[.pointer (some ⟨p,0,none⟩),.int .i32 (cs.getD j 0)] W (RunesNew W (Cn.mapping rs (cs.getD j 0))) ∧ Calls Tryz.prog 15 #[.slice a2 rs.length cp2,.int .i32 (cs.getD j 0)] W (RunesNew W (Cn.mapping rs (cs.getD j 0)))):=fun W hW => ⟨mapping_any9 _ W ((unhide HDW) W hW).1 (unhide H6) (unhide HFIT) hrn,refMapping9 _ rs _ W ((unhide HDW) W hW).2 hrn (unhide H6)⟩
     have HST : Hid (∀ W,Below wo.heap.size wo W → Calls Tryz.prog 12 #[.pointer (some ⟨p,0,none⟩),.int .i32 (cs.getD j 0)] W (IntDraws W (Cn.vget rs 1 (cs.getD j 0))) ∧ Calls Tryz.prog 13 #[.slice a2 rs.length cp2,.int .i32 (cs.getD j 0)] W (IntB W (Cn.vget rs 1 (cs.getD j 0)))):=fun W hW => ⟨status_any9 _ W ((unhide HDW) W hW).1 (unhide H6) hrn,by rw [← Cn.vget_status (unhide H6)]; exact refStatus9 _ rs _ W ((unhide HDW) W hW).2 hrn⟩
     have HCL : Hid (∀ W,Below wo.heap.size wo W → Calls Tryz.prog 16 #[.pointer (some ⟨p,0,none⟩),.int .i32 (cs.getD j 0)] W (IntDraws W (Cn.vget rs 2 (cs.getD j 0))) ∧ Calls Tryz.prog 17 #[.slice a2 rs.length cp2,.int .i32 (cs.getD j 0)] W (IntB W (Cn.vget rs 2 (cs.getD j 0)))):=fun W hW => ⟨class_any9 _ W ((unhide HDW) W hW).1 (unhide H6) hrn,by rw [← Cn.vget_cls (unhide H6)]; exact refClass9 _ rs _ W ((unhide HDW) W hW).2 hrn⟩
     have HBI : Hid (∀ W,Below wo.heap.size wo W → Calls Tryz.prog 18 #[.pointer (some ⟨p,0,none⟩),.int .i32 (cs.getD j 0)] W (IntDraws W (Cn.vget rs 4 (cs.getD j 0))) ∧ Calls Tryz.prog 19 #[.slice a2 rs.length cp2,.int .i32 (cs.getD j 0)] W (IntB W (Cn.vget rs 4 (cs.getD j 0)))):=fun W hW => ⟨bidi_any9 _ W ((unhide HDW) W hW).1 (unhide H6) hrn,by rw [← Cn.vget_num (unhide H6) 4 _ (.inl rfl)]; exact refBidi9 _ rs _ W ((unhide HDW) W hW).2 hrn⟩
     have HJO : Hid (∀ W,Below wo.heap.size wo W → Calls Tryz.prog 20 #[.pointer (some ⟨p,0,none⟩),.int .i32 (cs.getD j 0)] W (IntDraws W (Cn.vget rs 5 (cs.getD j 0))) ∧ Calls Tryz.prog 21 #[.slice a2 rs.length cp2,.int .i32 (cs.getD j 0)] W (IntB W (Cn.vget rs 5 (cs.getD j 0)))):=fun W hW => ⟨join_any9 _ W ((unhide HDW) W hW).1 (unhide H6) hrn,by rw [← Cn.vget_num (unhide H6) 5 _ (.inr rfl)]; exact refJoin9 _ rs _ W ((unhide HDW) W hW).2 hrn⟩
     have HMK : Hid (∀ W,Below wo.heap.size wo W → Calls Tryz.prog 22 #[.pointer (some ⟨p,0,none⟩),.int .i32 (cs.getD j 0)] W (BoolDraws W (Cn.hit rs 6 (cs.getD j 0)).isSome) ∧ Calls Tryz.prog 23 #[.slice a2 rs.length cp2,.int .i32 (cs.getD j 0)] W (BoolB W (Cn.hit rs 6 (cs.getD j 0)).isSome)):=fun W hW => ⟨by rw [← Cn.vget_mark (unhide H6)]; exact mark_any9 _ W ((unhide HDW) W hW).1 (unhide H6) hrn,refMark9 _ rs _ W ((unhide HDW) W hW).2 hrn⟩
     have HSC : Hid (∀ W,Below wo.heap.size wo W → Calls Tryz.prog 24 #[.pointer (some ⟨p,0,none⟩),.int .i32 (cs.getD j 0)] W (StrB W (Cn.rget rs 7 (cs.getD j 0)).name) ∧ Calls Tryz.prog 25 #[.slice a2 rs.length cp2,.int .i32 (cs.getD j 0)] W (StrB W (Cn.rget rs 7 (cs.getD j 0)).name)):=fun W hW => ⟨script_any9 _ W ((unhide HDW) W hW).1 (unhide H6) hrn,refScript9 _ rs _ W ((unhide HDW) W hW).2 hrn⟩
     have hml:=Cn.mapping_len (unhide H6) (unhide HFIT) (cs.getD j 0)
     obtain ⟨hr1,hr2⟩:=hrn
     clear hclx hb
     generalize Cn.mapping rs (cs.getD j 0) = zs at *
     generalize Cn.vget rs 1 (cs.getD j 0) = q1 at *
     generalize Cn.vget rs 2 (cs.getD j 0) = q2 at *
     generalize Cn.vget rs 4 (cs.getD j 0) = q4 at *
     generalize Cn.vget rs 5 (cs.getD j 0) = q5 at *
     generalize (Cn.hit rs 6 (cs.getD j 0)).isSome = q6 at *
     generalize (Cn.rget rs 7 (cs.getD j 0)).name = q7 at *
     generalize cs.getD j 0 = c at *
     have K3:=hide ((unhide HMP) wo (Below.refl _ _)).1
     go_wp2_with fail
     refine (unhide K3).mono ?_
     rintro e3 w3 ⟨v3,rfl,ok3,b3⟩
     obtain ⟨vo,vc,hv3,hvl1,hvl2⟩:=ok3.sk.shape
     subst hv3
     have HO3:=hide ok3
     have HB3:=hide b3
     clear K3 ok3 b3
     have K4:=hide ((unhide HST) w3 (unhide HB3)).1
     go_wp2_with fail
     refine (unhide K4).mono ?_
     rintro e4 w4 ⟨rfl,m4,rfl⟩
     have hb4 : Below w3.heap.size w3 (w3.drewN m4):=drewB ⟨m4,rfl⟩
     have HO4:=hide ((unhide HO3).below hb4)
     have HB4:=hide (bthen (unhide HB3) hb4)
     clear K4 hb4 HO3 HB3
     generalize w3.drewN m4 = w4 at *
     have K5:=hide ((unhide HST) w4 (unhide HB4)).2
     go_wp2_with fail
     refine (unhide K5).mono ?_
     rintro e5 w5 ⟨rfl,b5⟩
     have HO5:=hide ((unhide HO4).below b5)
     have HB5:=hide (bthen (unhide HB4) b5)
     clear K5 b5 HO4 HB4
     have K6:=hide ((unhide HMP) w5 (unhide HB5)).2
     go_wp2_with fail
     refine (unhide K6).mono ?_
     rintro e6 w6 ⟨v6,rfl,ok6,b6⟩
     obtain ⟨vo6,vc6,hv6,_,_⟩:=ok6.sk.shape
     subst hv6
     have HO6:=hide ((unhide HO5).below b6)
     have HB6:=hide (bthen (unhide HB5) b6)
     have K7:=hide (same3_eq _ _ zs w6 (unhide HO6).sk ok6.sk hml)
     clear K6 b6 HO5 HB5 ok6
     go_wp2_with fail
     refine (unhide K7).mono ?_
     rintro e7 w7 ⟨rfl,m7,rfl⟩
     have hb7 : Below w6.heap.size w6 (w6.drewN m7):=drewB ⟨m7,rfl⟩
     have HO7:=hide ((unhide HO6).below hb7)
     have HB7:=hide (bthen (unhide HB6) hb7)
     clear K7 hb7 HO6 HB6
     generalize w6.drewN m7 = w7 at *
     have K8:=hide ((unhide HCL) w7 (unhide HB7)).1
     go_wp2_with fail
     refine (unhide K8).mono ?_
     rintro e8 w8 ⟨rfl,m8,rfl⟩
     have hb8 : Below w7.heap.size w7 (w7.drewN m8):=drewB ⟨m8,rfl⟩
     have HO8:=hide ((unhide HO7).below hb8)
     have HB8:=hide (bthen (unhide HB7) hb8)
     clear K8 hb8 HO7 HB7
     generalize w7.drewN m8 = w8 at *
     have K9:=hide ((unhide HCL) w8 (unhide HB8)).2
     go_wp2_with fail
     refine (unhide K9).mono ?_
     rintro e9 w9 ⟨rfl,b9⟩
     have HO9:=hide ((unhide HO8).below b9)
     have HB9:=hide (bthen (unhide HB8) b9)
     clear K9 b9 HO8 HB8
     have K10:=hide ((unhide HBI) w9 (unhide HB9)).1
     go_wp2_with fail
     refine (unhide K10).mono ?_
     rintro e10 w10 ⟨rfl,m10,rfl⟩
     have hb10 : Below w9.heap.size w9 (w9.drewN m10):=drewB ⟨m10,rfl⟩
     have HO10:=hide ((unhide HO9).below hb10)
     have HB10:=hide (bthen (unhide HB9) hb10)
     clear K10 hb10 HO9 HB9
     generalize w9.drewN m10 = w10 at *
     have K11:=hide ((unhide HBI) w10 (unhide HB10)).2
     go_wp2_with fail
     refine (unhide K11).mono ?_
     rintro e11 w11 ⟨rfl,b11⟩
     have HO11:=hide ((unhide HO10).below b11)
     have HB11:=hide (bthen (unhide HB10) b11)
     clear K11 b11 HO10 HB10
     have K12:=hide ((unhide HJO) w11 (unhide HB11)).1
     go_wp2_with fail
     refine (unhide K12).mono ?_
     rintro e12 w12 ⟨rfl,m12,rfl⟩
     have hb12 : Below w11.heap.size w11 (w11.drewN m12):=drewB ⟨m12,rfl⟩
     have HO12:=hide ((unhide HO11).below hb12)
     have HB12:=hide (bthen (unhide HB11) hb12)
     clear K12 hb12 HO11 HB11
     generalize w11.drewN m12 = w12 at *
     have K13:=hide ((unhide HJO) w12 (unhide HB12)).2
     go_wp2_with fail
     refine (unhide K13).mono ?_
     rintro e13 w13 ⟨rfl,b13⟩
     have HO13:=hide ((unhide HO12).below b13)
     have HB13:=hide (bthen (unhide HB12) b13)
     clear K13 b13 HO12 HB12
     have K14:=hide ((unhide HMK) w13 (unhide HB13)).1
     go_wp2_with fail
     refine (unhide K14).mono ?_
     rintro e14 w14 ⟨rfl,m14,rfl⟩
     have hb14 : Below w13.heap.size w13 (w13.drewN m14):=drewB ⟨m14,rfl⟩
     have HO14:=hide ((unhide HO13).below hb14)
     have HB14:=hide (bthen (unhide HB13) hb14)
     clear K14 hb14 HO13 HB13
     generalize w13.drewN m14 = w14 at *
     have K15:=hide ((unhide HMK) w14 (unhide HB14)).2
     go_wp2_with fail
     refine (unhide K15).mono ?_
     rintro e15 w15 ⟨rfl,b15⟩
     have HO15:=hide ((unhide HO14).below b15)
     have HB15:=hide (bthen (unhide HB14) b15)
     clear K15 b15 HO14 HB14
     have K16:=hide ((unhide HSC) w15 (unhide HB15)).1
     go_wp2_with fail
     refine (unhide K16).mono ?_
     rintro e16 w16 ⟨rfl,b16⟩
     have HO16:=hide ((unhide HO15).below b16)
     have HB16:=hide (bthen (unhide HB15) b16)
     clear K16 b16 HO15 HB15
     have K17:=hide ((unhide HSC) w16 (unhide HB16)).2
     go_wp2_with fail
     refine (unhide K17).mono ?_
     rintro e17 w17 ⟨rfl,b17⟩
     have HO17:=hide ((unhide HO16).below b17)
     have HB17:=hide (bthen (unhide HB16) b17)
     clear K17 b17 HO16 HB16
     have hmm : ∀ b : Bool,(b != b) = false:=fun b => by cases b <;> rfl
     clear HST HCL HBI HJO HMK HSC
     go_upto_block 2 with fail
     go_cut [11] (fun _ wc => Below wo.heap.size wo wc)
     case first =>
      go_wp2
      go_loopw [11] (fun jj wd => ∃ (t : Nat) (us : List Int),jj = .int .i64 t ∧ t ≤ zs.length ∧ us.length = zs.length ∧ Ok .i32 21 wd wo.heap.size (.slice vo zs.length vc) us ∧ Below wo.heap.size wo wd) (fun jj _ => zs.length - (intOf jj).toNat)
      case atStart => exact ⟨0,zs,rfl,by omega,rfl,unhide HO17,unhide HB17⟩
      case round =>
       obtain ⟨t,us,rfl,ht,hul,hok,hbd⟩:=hrel
       by_cases htl : t < zs.length
       ·obtain ⟨gt,got,gcap,hge,_,_,hgc⟩:=hok.sk.place (by omega)
        simp only [Value.slice.injEq] at hge
        obtain ⟨hge1,hge2,hge3⟩:=hge
        have hot : got = 0:=by
         rcases hok.row.2 with ⟨e,_⟩ | ⟨g',cap',cur,e,_⟩
         ·rw [hge1] at e; simp at e
         ·rw [hge1] at e
          simp only [Value.slice.injEq,Option.some.injEq,Addr.mk.injEq] at e
          exact e.1.2.1
        subst hge1 hot
        have hct:=hgc t (by omega)
        rw [Nat.zero_add] at hct
        obtain ⟨hk1,hk2⟩:=hok.setAt9 t (-9) (fun z hz => by rw [List.mem_singleton] at hz; rw [hz]; exact i32_fit (by omega))
        have hgw : wo.heap.size ≤ gt:=(hok.row.lt gt rfl).1
        have HK1:=hide hk1
        have HBD : Hid (Below wo.heap.size wo (wr.setCell ⟨gt,t,none⟩ (.int .i32 (-9)))):=below_set hbd hgw _
        have HUL : Hid ((us.set t (-9)).length = zs.length):=by show _ = _; rw [List.length_set]; exact hul
        clear hgc hok hk1 hbd hge2 hge3 hul
        generalize us.getD t 0 = ut at *
        go_wp2
        go_roundw
        case rel => exact ⟨t + 1,us.set t (-9),by go_num,by omega,unhide HUL,unhide HK1,unhide HBD⟩
        case measure => simp [intOf]; omega
       ·have HBD:=hide hbd
        clear hok hbd hul
        go_wp2
        go_meet
        case rel => exact unhide HBD
     case rest =>
      have HB20:=hide hcut
      clear HO17 HB17
      have K21:=hide ((unhide HMP) wc (unhide HB20)).1
      go_wp2_with fail
      refine (unhide K21).mono ?_
      rintro e21 w21 ⟨v21,rfl,ok21,b21⟩
      obtain ⟨vo21,vc21,hv21,_,_⟩:=ok21.sk.shape
      subst hv21
      have HO21:=hide ok21
      have HB21:=hide (bthen (unhide HB20) b21)
      have K22:=hide ((unhide HMP) w21 (unhide HB21)).2
      clear K21 ok21 b21 hcut
      go_wp2_with fail
      refine (unhide K22).mono ?_
      rintro e22 w22 ⟨v22,rfl,ok22,b22⟩
      obtain ⟨vo22,vc22,hv22,_,_⟩:=ok22.sk.shape
      subst hv22
      have K23:=hide (same3_eq _ _ zs w22 ((unhide HO21).below b22).sk ok22.sk hml)
      have HB22:=hide (bthen (unhide HB21) b22)
      clear K22 ok22 b22 HO21 HB20 HB21
      go_wp2_with fail
      refine (unhide K23).mono ?_
      rintro e23 w23 ⟨rfl,m23,rfl⟩
      have HB23:=hide (bthen (unhide HB) (bthen (unhide HB22) (drewB ⟨m23,rfl⟩)))
      clear K23 HB22
      generalize w22.drewN m23 = w23 at *
      go_wp2
      go_roundw
      case rel => exact ⟨j + 1,by go_num,by omega,by omega,unhide HB23⟩
      case measure => simp [intOf]; omega
    ·obtain rfl : j = 80:=by omega
     have HF:=hide (bthen (unhide HB1) (unhide HB))
     clear HB HB1 HCV HR2
     go_wp2
     go_ret
     exact ⟨rfl,unhide HF⟩
   ·have HF:=hide (bthen (unhide HB1) (unhide HB))
    clear HB HB1 HCV HR2
    go_wp2
    go_ret
    exact ⟨rfl,unhide HF⟩
end Go.Proofs.YtkbmhpinfmognaaGreatDoor
