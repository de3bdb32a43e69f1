/- Ry7 -/
import Derived.Test.YtihhhjodonkkcaaGreatDoorX34
import Derived.Deep.DeepCutAuto
namespace Go.Proofs.YtihhhjodonkkcaaGreatDoor
open Go.RowKit
def recG (f:Int) (v0 v1 v2 v3 v4 k7 hg:Bool) (fe:Int) (fl pb:Bool):Int :=
 if f≠2∧f≠3 then 0 else if v0=true then 70 else if (v1 || v2 || v3 || v4)=true then 71 else if (k7 && hg)=true then 71 else if f=2 then 0 else if fe≠0 then fe else if fl=true then 75 else if (k7 && !pb)=true then 74 else 0
def hanG (jlb jvb syb md jtb:Bool):Bool:=(jlb && jvb) || (syb && md && jtb)
theorem record_eq l i r:Cn.record l i r=recG (Cn.fam r.kind) (Cn.covers r 0 127) (Cn.covers r 4352 4370) (Cn.covers r 4449 4469) (Cn.covers r 4520 4546) (Cn.covers r 44032 55203) (decide (r.kind=7)) (hanG (Cn.jl (r.to.getD 0 0)) (Cn.jv (r.to.getD 1 0)) (Cn.syl (r.to.getD 0 0)) (decide ((r.to.getD 0 0 - 44032) % 28=0)) (Cn.jt (r.to.getD 1 0))) (Cn.full l r.lo).2 (Cn.fallsA l (Cn.full l r.lo).1) (Cn.pair l i r):=by
 unfold Cn.record recG hanG
 by_cases h7:r.kind=7
 ·grind
 ·grind
theorem recG_other {f v0 v1 v2 v3 v4 k7 hg fe fl pb} (h2:f≠2) (h3:f≠3):Ending.returned (.int .i64 0)=Ending.returned (.int .i64 (recG f v0 v1 v2 v3 v4 k7 hg fe fl pb)):=by
 unfold recG
 rw [if_pos ⟨h2,h3⟩]
theorem recG_full {k7 hg fe fl pb} (h:(k7 && hg)=false) (he:¬ fe=0):Ending.returned (.int .i64 fe)=Ending.returned (.int .i64 (recG 3 false false false false false k7 hg fe fl pb)):=by
 unfold recG
 rw [h,if_neg (by decide),if_neg (by decide),if_neg (by decide),if_neg (by decide),if_neg (by decide),if_pos he]
set_option maxRecDepth 8000 in
set_option maxHeartbeats 8000000 in
theorem refRecord7 v rs i w (hv:Rcs w v rs) (hck:(Cn.check6 rs).2=0) (hi:i<rs.length) (h7:(rs.getD i Cn.none).kind=7):Calls Tryz.prog 45 #[v,.int .i64 i] w (IntB w (Cn.record rs i (rs.getD i Cn.none))):=by
 have hall:=(Cn.check6_all hck).2
 have hr:=hall (rs.getD i Cn.none) (by simp [List.getD,hi])
 rw [record_eq]
 have hch:ChIn w v rs w:=⟨hv,Below.refl _ _⟩
 have hfit:=hv.fit hi
 have hlen:=hv.1
 have KP:Hid (∀ W,ChIn w v rs W→Calls Tryz.prog 73 #[v,.int .i64 i] W (BoolB W (Cn.pair rs i (rs.getD i Cn.none)))):=fun W hW=>refPair_any v rs i W hW.1 hck hi h7
 have KU:Hid (∀ W c,ChIn w v rs W→Rune c→Calls Tryz.prog 71 #[v,.int .i32 c] W (FullB W (Cn.full rs c))):=fun W c hW hc=>refFull_any v rs c W hW.1 hc
 have KL:Hid (∀ W u,ChIn w v rs W→Sk .i32 W u (Cn.full rs (rs.getD i Cn.none).lo).1→Calls Tryz.prog 72 #[v,u] W (BoolB W (Cn.fallsA rs (Cn.full rs (rs.getD i Cn.none).lo).1))):=fun W u hW hu=>refFalls_any v u rs _ W hW.1 hu (Nat.le_trans (Cn.full_len rs _) (by omega))
 have KF:Hid (∀ W,Calls Tryz.prog 65 #[.int .i64 (rs.getD i Cn.none).kind] W fun e w'=>e=.returned (.int .i64 (Cn.fam (rs.getD i Cn.none).kind))∧w'=W):=fun W=>refFamily_any _ W hfit.kind
 obtain ⟨b,off,cap,rfl,hc1,hc2,hc⟩:=hv.place (by omega)
 obtain ⟨x0,x1,x2,x3,⟨va,x4,ska⟩,x5,x6,x7⟩:=hc i hi
 have KV:∀ a c T,I64 a→I64 c→Hid T→Hid (Hid (∀ W,Calls Tryz.prog 66 #[recV (rs.getD i Cn.none) va,.int .i64 a,.int .i64 c] W (BoolB W (Cn.covers (rs.getD i Cn.none) a c)))∧(Cn.covers (rs.getD i Cn.none) a c=true∨Cn.covers (rs.getD i Cn.none) a c=false)∧Hid T):=fun a c T ha hc t=>Hd ⟨Hd fun W=>refCovers_any _ va a c W hfit ha hc,Bool.eq_false_or_eq_true _,t⟩
 unfold recV at KV
 have KW:=KV 0 127 _ ⟨by omega,by omega⟩ ⟨by omega,by omega⟩ (KV 4352 4370 _ ⟨by omega,by omega⟩ ⟨by omega,by omega⟩ (KV 4449 4469 _ ⟨by omega,by omega⟩ ⟨by omega,by omega⟩ (KV 4520 4546 _ ⟨by omega,by omega⟩ ⟨by omega,by omega⟩ (KV 44032 55203 _ ⟨by omega,by omega⟩ ⟨by omega,by omega⟩ (Hd trivial)))))
 clear KV
 obtain ⟨t1,t2,t3,p1,p2⟩:=Cn.decomp_two hr h7
 have ra:=rune_scalar t2
 have rb:=rune_scalar t3
 have HT:Hid (∀ W,Below w.heap.size w W→Sk .i32 W va (rs.getD i Cn.none).to):=fun W hW=>ska.below hW
 obtain ⟨tb,toff,sc,rfl,tc1,tc2,y0,y1⟩:=two_cells ska t1
 have HT2:Hid (∀ W,Below w.heap.size w W→W.cell? ⟨tb,toff,none⟩=some (.int .i32 ((rs.getD i Cn.none).to.getD 0 0))∧W.cell? ⟨tb,toff+1,none⟩=some (.int .i32 ((rs.getD i Cn.none).to.getD 1 0))):=fun W hW=>⟨by rw [hW.cell (lt_of_cell? y0)]; exact y0,by rw [hW.cell (lt_of_cell? y1)]; exact y1⟩
 rw [decide_eq_true h7]
 rw [h7] at KF KW x0 ⊢
 have hf3:Cn.fam 7=3:=by decide
 rw [hf3] at KF ⊢
 have i0:(0:Int)≤(i:Int):=by omega
 have i1:(i:Int)<rs.length:=by omega
 generalize Cn.covers (rs.getD i Cn.none) 0 127=v0 at *
 generalize Cn.covers (rs.getD i Cn.none) 4352 4370=v1 at *
 generalize Cn.covers (rs.getD i Cn.none) 4449 4469=v2 at *
 generalize Cn.covers (rs.getD i Cn.none) 4520 4546=v3 at *
 generalize Cn.covers (rs.getD i Cn.none) 44032 55203=v4 at *
 have J1:Hid (∀ W,Calls Tryz.prog 67 #[.int .i32 ((rs.getD i Cn.none).to.getD 0 0)] W fun e w'=>e=.returned (.bool (Cn.jl ((rs.getD i Cn.none).to.getD 0 0)))∧w'=W):=fun W=>refJl_any _ W ra
 have J2:Hid (∀ W,Calls Tryz.prog 68 #[.int .i32 ((rs.getD i Cn.none).to.getD 1 0)] W fun e w'=>e=.returned (.bool (Cn.jv ((rs.getD i Cn.none).to.getD 1 0)))∧w'=W):=fun W=>refJv_any _ W rb
 have J3:Hid (∀ W,Calls Tryz.prog 69 #[.int .i32 ((rs.getD i Cn.none).to.getD 0 0)] W fun e w'=>e=.returned (.bool (Cn.syl ((rs.getD i Cn.none).to.getD 0 0)))∧w'=W):=fun W=>refSyl_any _ W ra
 have J4:Hid (∀ W,Calls Tryz.prog 70 #[.int .i32 ((rs.getD i Cn.none).to.getD 1 0)] W fun e w'=>e=.returned (.bool (Cn.jt ((rs.getD i Cn.none).to.getD 1 0)))∧w'=W):=fun W=>refJt_any _ W rb
 have HS:Hid (Cn.syl ((rs.getD i Cn.none).to.getD 0 0)=true→44032≤(rs.getD i Cn.none).to.getD 0 0∧(rs.getD i Cn.none).to.getD 0 0≤55203):=fun h=>of_decide_eq_true h
 generalize Cn.jl ((rs.getD i Cn.none).to.getD 0 0)=jlb at *
 generalize Cn.jv ((rs.getD i Cn.none).to.getD 1 0)=jvb at *
 generalize Cn.syl ((rs.getD i Cn.none).to.getD 0 0)=syb at *
 generalize Cn.jt ((rs.getD i Cn.none).to.getD 1 0)=jtb at *
 obtain ⟨md,hmd⟩:∃ md,decide (((rs.getD i Cn.none).to.getD 0 0 - 44032) % 28=0)=md:=⟨_,rfl⟩
 rw [hmd]
 have HM1:Hid (md=true→((rs.getD i Cn.none).to.getD 0 0 - 44032) % 28=0):=fun h=>of_decide_eq_true (hmd.trans h)
 have HM2:Hid (md=false→¬ ((rs.getD i Cn.none).to.getD 0 0 - 44032) % 28=0):=fun h=>of_decide_eq_false (hmd.trans h)
 generalize (rs.getD i Cn.none).to.getD 0 0=a at *
 generalize (rs.getD i Cn.none).to.getD 1 0=c at *
 generalize Cn.pair rs i (rs.getD i Cn.none)=pb at *
 have K1:Hid (∀ W,ChIn w (.slice (some ⟨b,off,none⟩) rs.length cap) rs W→0≤(rs.getD i Cn.none).lo→(rs.getD i Cn.none).lo≤1114111→Calls Tryz.prog 71 #[.slice (some ⟨b,off,none⟩) rs.length cap,.int .i32 (rs.getD i Cn.none).lo] W (FullB W (Cn.full rs (rs.getD i Cn.none).lo))):=fun W hW a1 a2=>(Uh KU) W _ hW ⟨by omega,by omega⟩
 generalize Cn.full rs (rs.getD i Cn.none).lo=fu at *
 generalize Cn.fallsA rs fu.1=fl at *
 generalize rs.getD i Cn.none=r at *
 generalize r.lo=lo at *
 generalize r.hi=hi2 at *
 generalize r.n=n at *
 generalize r.name=nm at *
 generalize r.other=ot at *
 generalize r.wt=wt at *
 have hfl:∀ W a m,(store a (.float .f64 wt) m).run Tryz.prog W=stored Tryz.prog W a (.float .f64 wt) m:=fun W a m=>run_store Tryz.prog W a _ m rfl
 obtain ⟨W0,hW0,hbx,hb0⟩:=box_one w 7 lo hi2 n (.slice (some ⟨tb,toff,none⟩) 2 sc) nm ot wt
 have HB:=Hd hbx
 have HC:=Hd (hch.on hb0)
 obtain ⟨fu1,fe⟩:=fu
 go_enter Tryz.func45,Tryz.ntmps45
 go_upto_region 2 with fail
 obtain ⟨x0,x1,x2,x3,x4,x5,x6,x7⟩:=hbx
 go_wp2_with fail
 refine ((Uh KF) _).mono ?_
 rintro e W0 ⟨rfl,rfl⟩
 iterate 5
  have Z:=Uh KW
  clear KW
  obtain ⟨K,D,KW⟩:=Z
  go_wp2_with fail
  refine ((Uh K) _).mono ?_
  rintro e w1 ⟨rfl,hb1⟩
  replace HC:=Hd ((Uh HC).on hb1)
  replace HB:=Hd ((Uh HB).keep hb1)
  clear K hb1 x0 x1 x2 x3 x4 x5 x6 x7
  obtain ⟨x0,x1,x2,x3,x4,x5,x6,x7⟩:=Uh HB
  rcases D with rfl | rfl
  ·go_wp2
   go_ret
   exact ⟨rfl,(Uh HC).2⟩
 obtain ⟨y0,y1⟩:=(Uh HT2) _ (Uh HC).2
 obtain ⟨a1,a2⟩:=ra
 obtain ⟨c1,c2⟩:=rb
 go_wp2_with fail
 refine ((Uh J1) _).mono ?_
 rintro e W1 ⟨rfl,rfl⟩
 cases jlb
 rotate_left
 go_wp2_with fail
 refine ((Uh J2) _).mono ?_
 rintro e W1 ⟨rfl,rfl⟩
 cases jvb
 rotate_left
 ·go_wp2
  go_ret
  exact ⟨rfl,(Uh HC).2⟩
 all_goals
  go_wp2_with fail
  refine ((Uh J3) _).mono ?_
  rintro e W1 ⟨rfl,rfl⟩
  cases syb
  rotate_left
  obtain ⟨s0,s1⟩:=(Uh HS) rfl
  have e1:(a - 44032).tmod 28=(a - 44032) % 28:=Int.tmod_eq_emod_of_nonneg (by omega)
  cases md
  have h28b:((a - 44032) % 28==0)=false:=beq_eq_false_iff_ne.2 ((Uh HM2) rfl)
  rotate_left
  have h28b:((a - 44032) % 28==0)=true:=beq_iff_eq.2 ((Uh HM1) rfl)
  go_wp2_with fail
  refine ((Uh J4) _).mono ?_
  rintro e W1 ⟨rfl,rfl⟩
  cases jtb
  rotate_left
  ·go_wp2
   go_ret
   exact ⟨rfl,(Uh HC).2⟩
  all_goals
   go_wp2_with fail
   refine ((Uh K1) _ (Uh HC) p1 p2).mono ?_
   rintro e w1 ⟨fv,rfl,hfv,hb1⟩
   have KL1:=Hd ((Uh KL) _ fv ((Uh HC).on hb1) hfv.sk)
   obtain ⟨fo,fc,rfl,_,_⟩:=hfv.sk.shape
   replace HC:=Hd ((Uh HC).on hb1)
   replace HB:=Hd ((Uh HB).keep hb1)
   clear hb1 x0 x1 x2 x3 x4 x5 x6 x7
   obtain ⟨x0,x1,x2,x3,x4,x5,x6,x7⟩:=Uh HB
   by_cases he:fe=0
   ·subst he
    go_wp2_with fail
    refine (Uh KL1).mono ?_
    rintro e w1 ⟨rfl,hb1⟩
    replace HC:=Hd ((Uh HC).on hb1)
    replace HB:=Hd ((Uh HB).keep hb1)
    clear hb1 x0 x1 x2 x3 x4 x5 x6 x7
    obtain ⟨x0,x1,x2,x3,x4,x5,x6,x7⟩:=Uh HB
    cases fl
    rotate_left
    ·go_wp2
     go_ret
     exact ⟨rfl,(Uh HC).2⟩
    go_wp2_with fail
    refine ((Uh KP) _ (Uh HC)).mono ?_
    rintro e w1 ⟨rfl,hb1⟩
    replace HC:=Hd ((Uh HC).on hb1)
    replace HB:=Hd ((Uh HB).keep hb1)
    clear hb1 x0 x1 x2 x3 x4 x5 x6 x7
    obtain ⟨x0,x1,x2,x3,x4,x5,x6,x7⟩:=Uh HB
    cases pb
    all_goals
     go_wp2
     go_ret
     exact ⟨rfl,(Uh HC).2⟩
   ·have d1:(fe != 0)=true:=by simp [he]
    go_wp2
    go_ret
    exact ⟨recG_full (by simp [hanG]) he,(Uh HC).2⟩
set_option maxRecDepth 8000 in
set_option maxHeartbeats 8000000 in
theorem refRecordN v rs i w (hv:Rcs w v rs) (hck:(Cn.check6 rs).2=0) (hi:i<rs.length) (h7:¬ (rs.getD i Cn.none).kind=7):Calls Tryz.prog 45 #[v,.int .i64 i] w (IntB w (Cn.record rs i (rs.getD i Cn.none))):=by
 have hall:=(Cn.check6_all hck).2
 have hr:=hall (rs.getD i Cn.none) (by simp [List.getD,hi])
 rw [record_eq]
 have hch:ChIn w v rs w:=⟨hv,Below.refl _ _⟩
 have hfit:=hv.fit hi
 have hlen:=hv.1
 have KU:Hid (∀ W c,ChIn w v rs W→Rune c→Calls Tryz.prog 71 #[v,.int .i32 c] W (FullB W (Cn.full rs c))):=fun W c hW hc=>refFull_any v rs c W hW.1 hc
 have KL:Hid (∀ W u,ChIn w v rs W→Sk .i32 W u (Cn.full rs (rs.getD i Cn.none).lo).1→Calls Tryz.prog 72 #[v,u] W (BoolB W (Cn.fallsA rs (Cn.full rs (rs.getD i Cn.none).lo).1))):=fun W u hW hu=>refFalls_any v u rs _ W hW.1 hu (Nat.le_trans (Cn.full_len rs _) (by omega))
 have KF:Hid (∀ W,Calls Tryz.prog 65 #[.int .i64 (rs.getD i Cn.none).kind] W fun e w'=>e=.returned (.int .i64 (Cn.fam (rs.getD i Cn.none).kind))∧w'=W):=fun W=>refFamily_any _ W hfit.kind
 obtain ⟨b,off,cap,rfl,hc1,hc2,hc⟩:=hv.place (by omega)
 obtain ⟨x0,x1,x2,x3,⟨va,x4,ska⟩,x5,x6,x7⟩:=hc i hi
 have KV:∀ a c T,I64 a→I64 c→Hid T→Hid (Hid (∀ W,Calls Tryz.prog 66 #[recV (rs.getD i Cn.none) va,.int .i64 a,.int .i64 c] W (BoolB W (Cn.covers (rs.getD i Cn.none) a c)))∧(Cn.covers (rs.getD i Cn.none) a c=true∨Cn.covers (rs.getD i Cn.none) a c=false)∧Hid T):=fun a c T ha hc t=>Hd ⟨Hd fun W=>refCovers_any _ va a c W hfit ha hc,Bool.eq_false_or_eq_true _,t⟩
 unfold recV at KV
 have KW:=KV 0 127 _ ⟨by omega,by omega⟩ ⟨by omega,by omega⟩ (KV 4352 4370 _ ⟨by omega,by omega⟩ ⟨by omega,by omega⟩ (KV 4449 4469 _ ⟨by omega,by omega⟩ ⟨by omega,by omega⟩ (KV 4520 4546 _ ⟨by omega,by omega⟩ ⟨by omega,by omega⟩ (KV 44032 55203 _ ⟨by omega,by omega⟩ ⟨by omega,by omega⟩ (Hd trivial)))))
 clear KV
 obtain ⟨so,sc,rfl,_,_⟩:=ska.shape
 rw [decide_eq_false h7]
 have hp:Hid (Cn.fam (rs.getD i Cn.none).kind=3→0≤(rs.getD i Cn.none).lo∧(rs.getD i Cn.none).lo≤1114111):=fun e=>by
  have:=Cn.right_span hr (fun e2=>by rw [e2] at e; exact absurd e (by decide))
  omega
 have i0:(0:Int)≤(i:Int):=by omega
 have i1:(i:Int)<rs.length:=by omega
 generalize Cn.covers (rs.getD i Cn.none) 0 127=v0 at *
 generalize Cn.covers (rs.getD i Cn.none) 4352 4370=v1 at *
 generalize Cn.covers (rs.getD i Cn.none) 4449 4469=v2 at *
 generalize Cn.covers (rs.getD i Cn.none) 4520 4546=v3 at *
 generalize Cn.covers (rs.getD i Cn.none) 44032 55203=v4 at *
 generalize Cn.fam (rs.getD i Cn.none).kind=f at *
 generalize Cn.pair rs i (rs.getD i Cn.none)=pb at *
 generalize hanG _ _ _ _ _=hg at *
 have K1:Hid (∀ W,ChIn w (.slice (some ⟨b,off,none⟩) rs.length cap) rs W→0≤(rs.getD i Cn.none).lo→(rs.getD i Cn.none).lo≤1114111→Calls Tryz.prog 71 #[.slice (some ⟨b,off,none⟩) rs.length cap,.int .i32 (rs.getD i Cn.none).lo] W (FullB W (Cn.full rs (rs.getD i Cn.none).lo))):=fun W hW a1 a2=>(Uh KU) W _ hW ⟨by omega,by omega⟩
 generalize Cn.full rs (rs.getD i Cn.none).lo=fu at *
 generalize Cn.fallsA rs fu.1=fl at *
 generalize (rs.getD i Cn.none).to.length=tl at *
 generalize rs.getD i Cn.none=r at *
 generalize r.kind=kd at *
 generalize r.lo=lo at *
 generalize r.hi=hi2 at *
 generalize r.n=n at *
 generalize r.name=nm at *
 generalize r.other=ot at *
 generalize r.wt=wt at *
 have hfl:∀ W a m,(store a (.float .f64 wt) m).run Tryz.prog W=stored Tryz.prog W a (.float .f64 wt) m:=fun W a m=>run_store Tryz.prog W a _ m rfl
 obtain ⟨W0,hW0,hbx,hb0⟩:=box_one w kd lo hi2 n (.slice so tl sc) nm ot wt
 have HB:=Hd hbx
 have HC:=Hd (hch.on hb0)
 have hk7:(kd==7)=false:=beq_eq_false_iff_ne.2 h7
 obtain ⟨fu1,fe⟩:=fu
 go_enter Tryz.func45,Tryz.ntmps45
 go_upto_region 2 with fail
 obtain ⟨x0,x1,x2,x3,x4,x5,x6,x7⟩:=hbx
 go_wp2_with fail
 refine ((Uh KF) _).mono ?_
 rintro e W0 ⟨rfl,rfl⟩
 by_cases f2:f=2
 subst f2
 rotate_left
 by_cases f3:f=3
 subst f3
 replace hp:=Hd ((Uh hp) rfl)
 rotate_left
 ·have d2:(f != 2)=true:=by simp [f2]
  have d3:(f != 3)=true:=by simp [f3]
  go_wp2
  go_ret
  exact ⟨recG_other f2 f3,(Uh HC).2⟩
 all_goals
  iterate 5
   have Z:=Uh KW
   clear KW
   obtain ⟨K,D,KW⟩:=Z
   go_wp2_with fail
   refine ((Uh K) _).mono ?_
   rintro e w1 ⟨rfl,hb1⟩
   replace HC:=Hd ((Uh HC).on hb1)
   replace HB:=Hd ((Uh HB).keep hb1)
   clear K hb1 x0 x1 x2 x3 x4 x5 x6 x7
   obtain ⟨x0,x1,x2,x3,x4,x5,x6,x7⟩:=Uh HB
   rcases D with rfl | rfl
   ·go_wp2
    go_ret
    exact ⟨rfl,(Uh HC).2⟩
 ·go_wp2
  go_ret
  exact ⟨rfl,(Uh HC).2⟩
 obtain ⟨p1,p2⟩:=Uh hp
 go_wp2_with fail
 refine ((Uh K1) _ (Uh HC) p1 p2).mono ?_
 rintro e w1 ⟨fv,rfl,hfv,hb1⟩
 have KL1:=Hd ((Uh KL) _ fv ((Uh HC).on hb1) hfv.sk)
 obtain ⟨fo,fc,rfl,_,_⟩:=hfv.sk.shape
 replace HC:=Hd ((Uh HC).on hb1)
 replace HB:=Hd ((Uh HB).keep hb1)
 clear hb1 x0 x1 x2 x3 x4 x5 x6 x7
 obtain ⟨x0,x1,x2,x3,x4,x5,x6,x7⟩:=Uh HB
 by_cases he:fe=0
 ·subst he
  go_wp2_with fail
  refine (Uh KL1).mono ?_
  rintro e w1 ⟨rfl,hb1⟩
  replace HC:=Hd ((Uh HC).on hb1)
  replace HB:=Hd ((Uh HB).keep hb1)
  clear hb1 x0 x1 x2 x3 x4 x5 x6 x7
  obtain ⟨x0,x1,x2,x3,x4,x5,x6,x7⟩:=Uh HB
  cases fl
  all_goals
   go_wp2
   go_ret
   exact ⟨rfl,(Uh HC).2⟩
 ·have d1:(fe != 0)=true:=by simp [he]
  go_wp2
  go_ret
  exact ⟨recG_full rfl he,(Uh HC).2⟩
theorem refRecord_any:RecordR:=by
 intro v rs i w hv hck hi
 by_cases h7:(rs.getD i Cn.none).kind=7
 ·exact refRecord7 v rs i w hv hck hi h7
 ·exact refRecordN v rs i w hv hck hi h7
end Go.Proofs.YtihhhjodonkkcaaGreatDoor
