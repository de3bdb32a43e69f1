/- Ul9 Us9 Ut9 Uv9 Uw9 Uy9 -/
import Derived.Test.YtihhhjodonkkcaaGreatDoorX19
import Derived.Test.YtihhhjodonkkcaaGreatDoorX22
namespace Go.Proofs.YtihhhjodonkkcaaGreatDoor
open Go.RowKit
open Ti
set_option maxRecDepth 8000 in
set_option maxHeartbeats 8000000 in
theorem speakersOf_any v rs kind w (hg:Glob w) (hv:Rcs w v rs) (hk:I64 kind) (hok:∀ r∈Cn.famOf (Cn.fam kind) rs,Cn.right r=0∧r.kind≠15) (hl:(Cn.famOf (Cn.fam kind) rs).length≤4096) (hval:∀ m:List Tri.Rg,m.Perm (Cn.rangesA (fun i _=>(i:Int)) 1 (Cn.famOf (Cn.fam kind) rs))→(m.Pairwise fun x y=>Tri.lo x≤Tri.lo y)→Tri.Val 0 m):Calls Tryz.prog 79 #[v,.int .i64 kind] w (SpkB w (Cn.famOf (Cn.fam kind) rs)):=by
 obtain ⟨i0,hi0,hz0,hz1,hz2⟩:=info_parts Tryz.info218
 obtain ⟨i1,hj1,hy0,hy1,hy2⟩:=info_parts Tryz.info59
 obtain ⟨W1,W2,hW1,hW2,hB2,hs1,hs2,hNEW⟩:=spk_new w
 have K1:=Hd (familyOf_any v rs kind W2 (hg.on hB2) (hv.below hB2) hk)
 unfold FamB at K1
 have hemp:W2.heap[w.heap.size+1]?=some (.cells #[.int .i64 0,.int .i64 0,.int .i64 0,.int .i64 0,.slice none 0 0,.string ⟨#[]⟩,.string ⟨#[]⟩,.float .f64 0] 59 (0,0)):=by
  rw [← hW2,← hs1]
  show (W1.heap.push _)[W1.heap.size]?=_
  simp
 obtain ⟨ao,cap,hve,_,_⟩:=hv.shape
 generalize Cn.famOf (Cn.fam kind) rs=fs at *
 have HOK:=Hd hok
 have HVAL:=Hd hval
 have HN2:=Hd hNEW
 have HE2:=Hd hemp
 have HB2:=Hd hB2
 have HS2:=Hd hs2
 subst hve
 go_enter Tryz.func79,Tryz.ntmps79
 go_wp2_with fail
 refine (Uh K1).mono ?_
 rintro e1 w1 ⟨v1,qs,rfl,hqs,hR,hb1⟩
 have hql:qs.length=fs.length:=by rw [← hqs,List.length_map]
 have hrc:Rcs w1 v1 fs:=by rw [← hqs]; exact hR.rsx.rcs hb1 (by omega)
 have HSP0:=Hd ((Uh HN2) w1 hb1)
 have hemp1:w1.heap[w.heap.size+1]?=some (.cells #[.int .i64 0,.int .i64 0,.int .i64 0,.int .i64 0,.slice none 0 0,.string ⟨#[]⟩,.string ⟨#[]⟩,.float .f64 0] 59 (0,0)):=by
  rw [hb1.block _ (by have:=Uh HS2; omega)]; exact Uh HE2
 have HRL:Hid (∀ k,(Cn.rangesA (fun i _=>(i:Int)) 1 (fs.take k)).length≤4563402752):=fun k=>by
  have h1:=Cn.rangesA_len (g:=fun i _=>(i:Int)) (fs.take k) 1 (fun r hr=>(Uh HOK) r (List.mem_of_mem_take hr))
  have h2:(fs.take k).length≤fs.length:=List.length_take_le' _ _
  omega
 have HREC:Hid (∀ k,k<fs.length→∃ b off cap va,v1=.slice (some ⟨b,off,none⟩) fs.length cap∧RecFit (fs.getD k Cn.none)∧∀ W:World,(∀ g,g<w1.heap.size→g≠w.heap.size+1→W.heap[g]?=w1.heap[g]?)→(W.cell? ⟨b,off+k * 8,none⟩=some (.int .i64 (fs.getD k Cn.none).kind)∧W.cell? ⟨b,off+k * 8+1,none⟩=some (.int .i64 (fs.getD k Cn.none).lo)∧W.cell? ⟨b,off+k * 8+2,none⟩=some (.int .i64 (fs.getD k Cn.none).hi)∧W.cell? ⟨b,off+k * 8+3,none⟩=some (.int .i64 (fs.getD k Cn.none).n)∧W.cell? ⟨b,off+k * 8+4,none⟩=some va∧W.cell? ⟨b,off+k * 8+5,none⟩=some (.string (fs.getD k Cn.none).name)∧W.cell? ⟨b,off+k * 8+6,none⟩=some (.string (fs.getD k Cn.none).other)∧W.cell? ⟨b,off+k * 8+7,none⟩=some (.float .f64 (fs.getD k Cn.none).wt))∧Sk .i32 W va (fs.getD k Cn.none).to):=fun k hk=>by
  obtain ⟨b,off,cap,he,_,_,hc⟩:=hrc.place (by omega)
  have hbb:W2.heap.size≤b:=(hR.1.lt b (by rw [he]; rfl)).1
  have hb2:b≠w.heap.size+1:=by have:=Uh HS2; omega
  obtain ⟨y0,y1,y2,y3,⟨va,y4,ska⟩,y5,y6,y7⟩:=hc k hk
  refine ⟨b,off,cap,va,he,hrc.fit hk,fun W hW=>?_⟩
  have e:∀ j,W.cell? ⟨b,j,none⟩=w1.cell? ⟨b,j,none⟩:=fun j=>World.cell?_of_block (hW b (lt_of_cell? y0) hb2)
  exact ⟨⟨by rw [e]; exact y0,by rw [e]; exact y1,by rw [e]; exact y2,by rw [e]; exact y3,by rw [e]; exact y4,by rw [e]; exact y5,by rw [e]; exact y6,by rw [e]; exact y7⟩,sk_far hemp1 hW ska⟩
 have HST:Hid (∀ k,k<fs.length→Cn.rangesA (fun i _=>(i:Int)) 1 (fs.take (k+1))=Cn.rangesA (fun i _=>(i:Int)) 1 (fs.take k)++Cn.spoken (fs.getD k Cn.none) ((1+k:Nat):Int)∧fs.take (k+1)=fs.take k++[fs.getD k Cn.none]):=fun k hk=>by
  have e:fs.take (k+1)=fs.take k++[fs.getD k Cn.none]:=by
   rw [List.take_add_one]
   simp [List.getD,hk]
  rw [e,Cn.rangesA_snoc,List.length_take,Nat.min_eq_left (by omega)]
  exact ⟨rfl,rfl⟩
 obtain ⟨ao1,cap1,hve1,_,_⟩:=hrc.shape
 subst hve1
 go_wp2
 go_loopw [5,6,8,15] (fun lv rv _ iv wr=>∃ (k:Nat) (ps:List (Rec × Value)),iv=.int .i64 k∧k≤fs.length∧ps.map (·.1)=Cn.none :: fs.take k∧ps.length=k+1∧(∃ lo cap,lv=.slice lo (k+1) cap∧cap≤9223372036854775807)∧Spst w w1 wr rv lv (Cn.rangesA (fun i _=>(i:Int)) 1 (fs.take k)) ps) (fun _ _ _ iv _=>fs.length - (intOf iv).toNat)
 case atStart=>exact ⟨0,[(Cn.none,.slice none 0 0)],rfl,by omega,rfl,rfl,⟨_,_,by first | rfl | (rw [hs1]; rfl),by omega⟩,by first | exact Uh HSP0 | (rw [hs1]; exact Uh HSP0)⟩
 case round =>
  obtain ⟨k,ps,rfl,hk,hps,hpl,⟨lo5,cap5,rfl,hc5⟩,hS⟩:=hrel
  by_cases hlt:k<fs.length
  ·obtain ⟨b,off,cap',va,he,hfit,hAT⟩:=(Uh HREC) k hlt
   obtain ⟨q1,q2,q3⟩:=Value.slice.inj he
   subst q1
   obtain ⟨hr1,hr2⟩:=(Uh HOK) (fs.getD k Cn.none) (by simp [List.getD,hlt])
   obtain ⟨HX1,HX2⟩:=(Uh HST) k hlt
   have hxl:=(Uh HRL) k
   obtain ⟨⟨x0,x1,x2,x3,x4,x5,x6,x7⟩,ska⟩:=hAT wr hS.old
   obtain ⟨tao,tcap,rfl,_,_⟩:=ska.shape
   generalize fs.getD k Cn.none=r at *
   have hv0:Fi (((1+k:Nat):Int)):=⟨by omega,by omega⟩
   have hsn:=spoken_ne r ((1+k:Nat):Int) hr1 hr2
   have hsl:=Cn.spoken_len hr1 hr2 ((1+k:Nat):Int)
   have hkk:(((1+k:Nat):Int))=(k:Int)+1:=by omega
   have hbel:=hS.bel
   obtain ⟨V1,hV1⟩:∃ V1,wr.alloc (.cells #[.int .i64 r.kind,.int .i64 r.lo,.int .i64 r.hi,.int .i64 r.n,.slice tao r.to.length tcap,.string r.name,.string r.other,.float .f64 r.wt] 59)=V1:=⟨_,rfl⟩
   have hbw:Below wr.heap.size wr V1:=by rw [← hV1]; exact (Below.refl _ _).alloc (Nat.le_refl _) _
   have hbox:V1.heap[wr.heap.size]?=some (.cells #[.int .i64 r.kind,.int .i64 r.lo,.int .i64 r.hi,.int .i64 r.n,.slice tao r.to.length tcap,.string r.name,.string r.other,.float .f64 r.wt] 59 (0,0)):=by
    rw [← hV1]
    show (wr.heap.push _)[wr.heap.size]?=_
    simp
   have hvs:V1.heap.size=wr.heap.size+1:=by rw [← hV1]; exact World.size_alloc _ _
   have hS1:=hS.below hbw
   have KS:=Hd (uspoken_any r (.slice tao r.to.length tcap) _ V1 hfit (ska.below hbw) hr1 hr2 hv0)
   unfold recV at KS
   rw [hkk] at KS HX1 hsn hsl
   have KC:Hid (∀ W,(∀ g,g<w1.heap.size→g≠w.heap.size+1→W.heap[g]?=w1.heap[g]?)→Calls Tryz.prog 83 #[.slice tao r.to.length tcap] W (RunesNew W r.to)):=fun W h=>clone_any _ r.to W (hAT W h).2 hfit.len
   unfold RunesNew at KC
   have HLV:Hid (∀ g,(Value.slice lo5 (k+1) cap5).ownBlock=some g→g<wr.heap.size):=fun g hg'=>(hS.rcs.1.lt g hg').2
   have HPS:Hid (∀ p∈ps,∀ g,p.2.ownBlock=some g→g<wr.heap.size):=fun p hp g hg'=>((hS.rcs.2 p hp).2.2.lt g hg').2
   have HRV:Hid (∀ g,u6.ownBlock=some g→g<wr.heap.size):=fun g hg'=>(hS.rng.2.2.lt g hg').2
   obtain ⟨z0,z1,z2,z3,z4,z5,z6,z7⟩:=cells8u hbox
   have hfl:∀ W a m,(store a (.float .f64 r.wt) m).run Tryz.prog W=stored Tryz.prog W a (.float .f64 r.wt) m:=fun W a m=>run_store Tryz.prog W a _ m rfl
   have HS1:=Hd hS1
   have HBOX:=Hd hbox
   have hszr:=hS.sz
   have hs1r:=hS.s1
   generalize hys:Cn.spoken r ((k:Int)+1)=ys at *
   generalize Cn.rangesA (fun i _=>(i:Int)) 1 (fs.take k)=xs at *
   obtain ⟨kd,lo,hi,nn,tt,nm,ot,wt⟩:=r
   simp only at *
   go_wp2_with fail
   refine (Uh KS).mono ?_
   rintro e3 w3 ⟨v3,rfl,hO3,hb3⟩
   obtain ⟨g3,cap3,rfl,hsrc⟩:=or4_src hO3 hsn
   have hS3:=(Uh HS1).below hb3
   have hsz3:=hS3.sz
   have hb3s:=hb3.size
   have HM:=Hd hS3.rng.2.2
   have HSRC:=Hd hsrc
   have HONE:=Hd (Ti.rcells_one ys)
   have HMORE:Hid (∀ v4 w4,w4.ownsRow w1.heap.size 218 3 v4 (xs.length+ys.length) (Ti.rcells xs++Ti.rcells ys)→w3.grownBy w4 u6.ownBlock→Spst w w1 w4 v4 (.slice lo5 (k+1) cap5) (xs++ys) ps):=fun v4 w4 h1 h2=>hS3.ranges hO3.1 (by omega) h1 h2
   have HBX3:Hid (w3.heap[wr.heap.size]?=some (.cells #[.int .i64 kd,.int .i64 lo,.int .i64 hi,.int .i64 nn,.slice tao tt.length tcap,.string nm,.string ot,.float .f64 wt] 59 (0,0))):=(hb3.block _ (by omega)).trans (Uh HBOX)
   go_wp2_with (at_builtin; refine wpList_append_own _ rfl (.tmp 19) (.tmp 23) 176 rfl w1.heap.size 218 i0 (.agg #[.int .i64 0,.int .i64 0,.int .i64 0]) 3 24 Tryz.underlying176 hi0 hz0 hz1 hz2 rfl (by decide) _ _ _ rfl (Uh HM) ⟨g3,0,none⟩ ys.length cap3 (Ti.rcells ys) rfl (by rw [Ti.rcells_len]) (Uh HSRC) (Uh HONE) (by unfold maxLen; omega) (by omega) (by omega) ?_)
   intro v4 w4 hr4 hg4 _
   have hS4:=(Uh HMORE) v4 w4 hr4 hg4
   have hbx4:w4.heap[wr.heap.size]?=some (.cells #[.int .i64 kd,.int .i64 lo,.int .i64 hi,.int .i64 nn,.slice tao tt.length tcap,.string nm,.string ot,.float .f64 wt] 59 (0,0)):=by
    rw [hg4.block _ (by omega) (fun e=>by have:=(Uh HRV) _ e.symm; omega)]; exact Uh HBX3
   have hsz4:=hg4.size
   have z4:=(cells8u hbx4).2.2.2.2.1
   have K5:=Hd ((Uh KC) w4 hS4.old)
   have HS4:=Hd hS4
   have HBX4:=Hd hbx4
   go_wp2_with fail
   refine (Uh K5).mono ?_
   rintro e5 w5 ⟨v5,rfl,hok5,hb5⟩
   obtain ⟨t5,c5,hv5,_,_⟩:=hok5.sk.shape
   subst hv5
   have hsz5:=hb5.size
   have hS5:=(Uh HS4).below hb5
   have hbx5:w5.heap[wr.heap.size]?=some (.cells #[.int .i64 kd,.int .i64 lo,.int .i64 hi,.int .i64 nn,.slice tao tt.length tcap,.string nm,.string ot,.float .f64 wt] 59 (0,0)):=(hb5.block _ (by omega)).trans (Uh HBX4)
   have y4:=(cells8u hbx5).2.2.2.2.1
   have f4:=frozen_of (j:=4) hbx5
   obtain ⟨w6,hw6⟩:∃ w6,w5.setCell ⟨wr.heap.size,4,none⟩ (.slice t5 tt.length c5)=w6:=⟨_,rfl⟩
   have hbx6:w6.heap[wr.heap.size]?=some (.cells #[.int .i64 kd,.int .i64 lo,.int .i64 hi,.int .i64 nn,.slice t5 tt.length c5,.string nm,.string ot,.float .f64 wt] 59 (0,0)):=by
    rw [← hw6,set_block hbx5]; rfl
   have hsz6:w6.heap.size=w5.heap.size:=by rw [← hw6]; exact set_size _ _ _ _
   have hS6:Spst w w1 w6 v4 (.slice lo5 (k+1) cap5) (xs++ys) ps:=by
    refine hS5.keep (B:=wr.heap.size) (by omega) (by rw [← hw6]; exact below_set hS5.bel hbel.size _) (by omega) (fun g _ hne=>by rw [← hw6]; exact set_other _ hne) (tag_ne hS5.rng.2.2 hbx5 (by decide)) (fun e=>by have:=(Uh HLV) _ e; omega) (fun p hp e=>by have:=(Uh HPS) p hp _ e; omega)
   have ht6:Ok .i32 21 w6 w.heap.size (.slice t5 tt.length c5) tt:=by
    refine (hok5.lower (by have:=hbel.size; omega)).keep fun g hg'=>?_
    rw [← hw6]
    exact set_other _ (fun e=>by have:=(hok5.2.2.lt g hg').1; omega)
   obtain ⟨s0,s1,s2,s3,s4,s5,s6,s7⟩:=cells8u hbx6
   have HM6:Hid (∀ o,(w6.alloc o).ownsRow w.heap.size 59 8 (.slice lo5 (k+1) cap5) (k+1) (rcells ps)):=fun o=>by have:=hS6.rcs.1.alloc o; rw [hpl] at this; exact this
   have HNEW:Hid (∀ j u,(rcell (⟨kd,lo,hi,nn,tt,nm,ot,wt⟩,.slice t5 tt.length c5))[j]?=some u→(w6.alloc (.cells #[.int .i64 kd,.int .i64 lo,.int .i64 hi,.int .i64 nn,.slice t5 tt.length c5,.string nm,.string ot,.float .f64 wt] 59)).cell? ((⟨w6.heap.size,0,none⟩:Addr).add j)=some u):=rec_new2 w6 w6.heap.size rfl ⟨kd,lo,hi,nn,tt,nm,ot,wt⟩ _
   have HONE6:=Hd (rec_one ⟨kd,lo,hi,nn,tt,nm,ot,wt⟩ (vt:=.slice t5 tt.length c5) rfl)
   have HMORE6:Hid (∀ o gg cap8 w8,w8.ownsRow w.heap.size 59 8 (.slice (some ⟨gg,0,none⟩) (k+1+1) cap8) (k+1+1) (rcells ps++rcell (⟨kd,lo,hi,nn,tt,nm,ot,wt⟩,.slice t5 tt.length c5))→(w6.alloc o).grownBy w8 (Value.slice lo5 (k+1) cap5).ownBlock→((Value.slice lo5 (k+1) cap5).ownBlock=some gg∨gg=w6.heap.size+1)→Spst w w1 w8 v4 (.slice (some ⟨gg,0,none⟩) (k+1+1) cap8) (xs++ys) (ps++[(⟨kd,lo,hi,nn,tt,nm,ot,wt⟩,.slice t5 tt.length c5)])):=fun o gg cap8 w8 h1 h2 h3=>by
    have h:=hS6.more (r:=⟨kd,lo,hi,nn,tt,nm,ot,wt⟩) ht6 (gg:=gg) (cap:=cap8) (by rw [hpl]; exact h1) h2 h3
    rw [hpl] at h
    exact h
   have hsw6:=hS6.bel.size
   clear K5 hok5 hb5 hS5 hbx5 hbx6 hS6 ht6 HS4 HBX4 HLV HPS hsz6
   go_wp2_with (at_builtin; refine wpList_append_lies _ rfl (.tmp 29) (.tmp 31) 22 rfl w.heap.size 59 i1 (.agg #[.int .i64 0,.int .i64 0,.int .i64 0,.int .i64 0,.slice none 0 0,.string ⟨#[]⟩,.string ⟨#[]⟩,.float .f64 0]) 8 96 Tryz.underlying22 hj1 hy0 hy1 hy2 rfl (by decide) _ _ _ rfl ((Uh HM6) _) ⟨w6.heap.size,0,none⟩ 1 1 (rcell (⟨kd,lo,hi,nn,tt,nm,ot,wt⟩,.slice t5 tt.length c5)) rfl rfl (Uh HNEW) (Uh HONE6) (by omega) (by unfold maxLen; omega) (by omega) (by simp; omega) (w6.heap.size+1) (by simp) ?_)
   intro gg cap8 w8 hr8 hg8 hat8 hlt8
   have hS8:=(Uh HMORE6) _ gg cap8 w8 hr8 hg8 hat8
   have hcap8:cap8≤9223372036854775807:=by
    rcases hr8.2 with ⟨h0,_⟩ | ⟨_,_,_,h0,_,_,_,h1,_⟩
    ·cases h0
    ·obtain ⟨_,_,e3⟩:=Value.slice.inj h0
     rw [e3]
     unfold maxLen at h1
     omega
   have HS8:=Hd hS8
   clear HM6 HNEW HONE6 HMORE6 hr8 hg8 hat8 hS8 s0 s1 s2 s3 s4 s5 s6 s7 y4 f4 z4
   go_wp2
   go_roundw
   case rel=>exact ⟨k+1,ps++[(⟨kd,lo,hi,nn,tt,nm,ot,wt⟩,.slice t5 tt.length c5)],by go_num,by omega,by rw [List.map_append,hps,HX2]; rfl,by rw [List.length_append,hpl]; rfl,⟨_,_,rfl,hcap8⟩,by rw [HX1]; exact Uh HS8⟩
   case measure=>simp [intOf]; omega
  ·obtain rfl:k=fs.length:=by omega
   rw [List.take_of_length_le (Nat.le_refl _)] at hS hps
   have hxl:=(Uh HRL) fs.length
   rw [List.take_of_length_le (Nat.le_refl _)] at hxl
   have KB:=Hd (builtG_any _ wr u6 _ hS.rng (by omega) (Uh HVAL))
   unfold BuiltG at KB
   have HS:=Hd hS
   obtain ⟨ro,rcap,hre,_,_⟩:=hS.rng.sr.shape
   subst hre
   clear hS HREC HST HOK HRL HVAL
   go_wp2_with fail
   refine (Uh KB).mono ?_
   rintro e9 w9 ⟨a,m,rfl,p1,p2,hT,hg9⟩
   obtain ⟨F1,F2,F3,F4,F5⟩:=(Uh HS).fin hg9 hT
   have y0:=cell_of (j:=0) F1 (by show 0<2; omega)
   have y1:=cell_of (j:=1) F1 (by show 1<2; omega)
   have f0:=fun j=>frozen_of (j:=j) F1
   have HF2:=Hd F2
   have HF:SpkB w fs (.returned (.agg #[.pointer (some a),.slice lo5 (fs.length+1) cap5])) _:=⟨a,m,_,ps,rfl,p1,p2,F3,F4,hps,F5⟩
   have HFF:=Hd HF
   clear KB hT hg9 F1 F2 F3 F4 F5 HF HS p1 p2
   go_wp2
   have hnew:=Uh HF2
   have hfin:=Uh HFF
   clear HF2 HFF y0 y1 f0
   generalize (w9.setCell ⟨w.heap.size,0,none⟩ (.pointer (some a))).setCell ⟨w.heap.size,1,none⟩ (.slice lo5 (fs.length+1) cap5)=w10 at *
   have z0:=cell_of (j:=0) hnew (by show 0<2; omega)
   have z1:=cell_of (j:=1) hnew (by show 1<2; omega)
   refine bodyPost_ret (v:=.agg #[.pointer (some a),.slice lo5 (fs.length+1) cap5]) (by simp [results,Tryz.results79,go_sem,z0,z1]) rfl hfin
open Ti
def TrP (W:World) (B:Nat) (v:Value) (xs:List Tri.Rg):Prop:=∃ a m,v=.pointer (some a)∧m.Perm xs∧(m.Pairwise fun x y=>Tri.lo x≤Tri.lo y)∧T4 W B v m 0
def SpP (W:World) (B:Nat) (v vl:Value) (fs:List Rec):Prop:=TrP W B v (Cn.rangesA (fun i _=>(i:Int)) 1 fs)∧∃ ps,Rown W B vl ps∧ps.map (·.1)=Cn.none :: fs
def CoP (W:World) (B:Nat) (c1 c2:Value) (rs:List Rec):Prop:=∃ r1 r2,c1=.map (some r1)∧c2=.map (some r2)∧B≤r1∧B≤r2∧GAt KP W r1 (pairC rs)∧GAt KR W r2 (secC rs)
def MiP (W:World) (B:Nat) (x:Value):Prop:=∃ r,x=.map (some r)∧B≤r∧MxAt W r
theorem heap_in {W:World} {g o} (h:W.heap[g]?=some o):g<W.heap.size:=by grind
section
variable {W W':World} {B B':Nat} {v vl c1 c2 x:Value} {xs:List Tri.Rg} {fs rs:List Rec}
theorem TrP.below (h:TrP W B v xs) (hb:Below W.heap.size W W'):TrP W' B v xs:=by
 obtain ⟨a,m,e,p,s,t⟩:=h
 exact ⟨a,m,e,p,s,t.below hb⟩
theorem TrP.lower (h:TrP W B v xs) (hb:B'≤B):TrP W B' v xs:=by
 obtain ⟨a,m,e,p,s,t⟩:=h
 exact ⟨a,m,e,p,s,T4.lower t hb⟩
theorem row_low {w:World} {B B' e sz n:Nat} {v us} (h:w.ownsRow B e sz v n us) (hb:B'≤B):w.ownsRow B' e sz v n us:=by
 refine ⟨h.1,?_⟩
 rcases h.2 with h4 | ⟨g,cap,cur,hv,hg,r⟩
 ·exact .inl h4
 ·exact .inr ⟨g,cap,cur,hv,by omega,r⟩
theorem SpP.below (h:SpP W B v vl fs) (hb:Below W.heap.size W W'):SpP W' B v vl fs:=by
 obtain ⟨t,ps,hr,e⟩:=h
 exact ⟨t.below hb,ps,⟨own_keep hr.1 fun g hg=>hb.block g (hr.1.lt g hg).2,fun p hp=>(hr.2 p hp).below hb⟩,e⟩
theorem SpP.lower (h:SpP W B v vl fs) (hb:B'≤B):SpP W B' v vl fs:=by
 obtain ⟨t,ps,hr,e⟩:=h
 exact ⟨t.lower hb,ps,⟨row_low hr.1 hb,fun p hp=>(hr.2 p hp).lower hb⟩,e⟩
theorem GAt.below {K:Value→Prop} {r} {c:Value→Option Value} (h:GAt K W r c) (hb:Below W.heap.size W W'):GAt K W' r c:=by
 obtain ⟨es,cl,h1,h2⟩:=h
 exact ⟨es,cl,by rw [hb.block r (heap_in h1)]; exact h1,h2⟩
theorem CoP.below (h:CoP W B c1 c2 rs) (hb:Below W.heap.size W W'):CoP W' B c1 c2 rs:=by
 obtain ⟨r1,r2,e1,e2,b1,b2,g1,g2⟩:=h
 exact ⟨r1,r2,e1,e2,b1,b2,g1.below hb,g2.below hb⟩
theorem CoP.lower (h:CoP W B c1 c2 rs) (hb:B'≤B):CoP W B' c1 c2 rs:=by
 obtain ⟨r1,r2,e1,e2,b1,b2,g1,g2⟩:=h
 exact ⟨r1,r2,e1,e2,by omega,by omega,g1,g2⟩
theorem MiP.below (h:MiP W B x) (hb:Below W.heap.size W W'):MiP W' B x:=by
 obtain ⟨r,e,b,c,g⟩:=h
 exact ⟨r,e,b,c,g.below hb⟩
theorem MiP.lower (h:MiP W B x) (hb:B'≤B):MiP W B' x:=by
 obtain ⟨r,e,b,c⟩:=h
 exact ⟨r,e,by omega,c⟩
end
structure DataV (W:World) (B:Nat) (rs:List Rec) (t1 t2 t3 t4 t5 a1 l1 a2 l2 a3 l3 a4 l4 a5 l5 c1 c2 x1:Value):Prop where
 p1:TrP W B t1 (Cn.rangesA (fun _ r=>Cn.value r) 1 (Cn.famOf 1 rs))
 p2:TrP W B t2 (Cn.rangesA (fun _ r=>Cn.value r) 1 (Cn.famOf 2 rs))
 p3:TrP W B t3 (Cn.rangesA (fun _ r=>Cn.value r) 1 (Cn.famOf 4 rs))
 p4:TrP W B t4 (Cn.rangesA (fun _ r=>Cn.value r) 1 (Cn.famOf 5 rs))
 p5:TrP W B t5 (Cn.rangesA (fun _ r=>Cn.value r) 1 (Cn.famOf 6 rs))
 q1:SpP W B a1 l1 (Cn.famOf 1 rs)
 q2:SpP W B a2 l2 (Cn.famOf 3 rs)
 q3:SpP W B a3 l3 (Cn.famOf 7 rs)
 q4:SpP W B a4 l4 (Cn.famOf 8 rs)
 q5:SpP W B a5 l5 (Cn.famOf 9 rs)
 co:CoP W B c1 c2 rs
 mi:MiP W B x1
theorem DataV.below {W W' B rs t1 t2 t3 t4 t5 a1 l1 a2 l2 a3 l3 a4 l4 a5 l5 c1 c2 x1} (h:DataV W B rs t1 t2 t3 t4 t5 a1 l1 a2 l2 a3 l3 a4 l4 a5 l5 c1 c2 x1) (hb:Below W.heap.size W W'):DataV W' B rs t1 t2 t3 t4 t5 a1 l1 a2 l2 a3 l3 a4 l4 a5 l5 c1 c2 x1:=⟨h.p1.below hb,h.p2.below hb,h.p3.below hb,h.p4.below hb,h.p5.below hb,h.q1.below hb,h.q2.below hb,h.q3.below hb,h.q4.below hb,h.q5.below hb,h.co.below hb,h.mi.below hb⟩
def DataAt (W:World) (B p:Nat) (rs:List Rec):Prop:=∃ t1 t2 t3 t4 t5 a1 l1 a2 l2 a3 l3 a4 l4 a5 l5 c1 c2 x1:Value,W.heap[p]?=some (.cells #[t1,t2,t3,t4,t5,a1,l1,a2,l2,a3,l3,a4,l4,a5,l5,c1,c2,x1] 92 (0,0))∧B≤p∧DataV W B rs t1 t2 t3 t4 t5 a1 l1 a2 l2 a3 l3 a4 l4 a5 l5 c1 c2 x1
theorem DataAt.below {W W' B p rs} (h:DataAt W B p rs) (hb:Below W.heap.size W W'):DataAt W' B p rs:=by
 obtain ⟨t1,t2,t3,t4,t5,a1,l1,a2,l2,a3,l3,a4,l4,a5,l5,c1,c2,x1,h1,h2,h3⟩:=h
 exact ⟨t1,t2,t3,t4,t5,a1,l1,a2,l2,a3,l3,a4,l4,a5,l5,c1,c2,x1,by rw [hb.block p (heap_in h1)]; exact h1,h2,h3.below hb⟩
def CmdB (w:World) (rs:List Rec) (e:Ending) (w':World):Prop:=∃ p,e=.returned (.pointer (some ⟨p,0,none⟩))∧DataAt w' w.heap.size p rs∧Below w.heap.size w w'
set_option maxRecDepth 8000 in
set_option maxHeartbeats 8000000 in
theorem compiled_any v rs w (hg:Glob w) (hv:Rcs w v rs) (hc:(Cn.check6 rs).2=0) (hvv:∀ r∈rs,r.kind≠15→0≤Cn.value r∧Cn.value r≤65535) (h7:∀ r∈rs,r.kind=7→r.to.length=2∧0≤r.lo∧r.lo≤1114111) (h15:∀ r∈rs,r.kind=15→Sh r.name∧Sh r.other):Calls Tryz.prog 48 #[v] w (CmdB w rs):=by
 obtain ⟨hl,hall,_⟩:=Cn.check6_iff.1 hc
 have hk15:∀ f:Int,f≠10→∀ r∈Cn.famOf f rs,r.kind≠15:=fun f hf r hr e=>hf (by rw [← (Cn.famOf_mem.1 hr).2,e]; decide)
 have hlf:∀ f,(Cn.famOf f rs).length≤4096:=fun f=>Nat.le_trans (List.length_filter_le _ _) hl
 have KV:∀ (kind f:Int),Cn.fam kind=f→f≠10→f≠0→I64 kind→Hid (∀ W,Below w.heap.size w W→Calls Tryz.prog 78 #[v,.int .i64 kind] W (BuiltB W (Cn.rangesA (fun _ r=>Cn.value r) 1 (Cn.famOf f rs)))):=fun kind f e1 e2 e3 e4 W hW=>by
  subst e1
  refine valuesOf_any v rs kind W (hg.on hW) (hv.below hW) e4 (fun r hr=>?_) (hlf _) (fun m hp hs=>(Cn.trie_of (Cn.fine_of hc ⟨e2,e3⟩) (fun k hk=>?_) hp hs).1)
  ·have:=hvv r (Cn.famOf_mem.1 hr).1 (hk15 _ e2 r hr)
   exact ⟨hall r (Cn.famOf_mem.1 hr).1,hk15 _ e2 r hr,by omega,by omega⟩
  ·exact hvv _ (Cn.famOf_mem.1 (List.getElem_mem hk)).1 (hk15 _ e2 _ (List.getElem_mem hk))
 have KP5:∀ (kind f:Int),Cn.fam kind=f→f≠10→f≠0→I64 kind→Hid (∀ W,Below w.heap.size w W→Calls Tryz.prog 79 #[v,.int .i64 kind] W (SpkB W (Cn.famOf f rs))):=fun kind f e1 e2 e3 e4 W hW=>by
  subst e1
  refine speakersOf_any v rs kind W (hg.on hW) (hv.below hW) e4 (fun r hr=>⟨hall r (Cn.famOf_mem.1 hr).1,hk15 _ e2 r hr⟩) (hlf _) (fun m hp hs=>(Cn.places_get hc ⟨e2,e3⟩ hp hs).1)
 have KC:Hid (∀ W,Below w.heap.size w W→Calls Tryz.prog 80 #[v] W (CmpB W rs)):=fun W hW=>compositionsOf_any v rs W (hv.below hW) h7 hl
 have KM:Hid (∀ W,Below w.heap.size w W→Calls Tryz.prog 81 #[v] W (MxtB W)):=fun W hW=>mixturesOf_any v rs W (hv.below hW) h15
 have V1:=KV 1 1 (by decide) (by decide) (by decide) ⟨by omega,by omega⟩
 have V2:=KV 6 2 (by decide) (by decide) (by decide) ⟨by omega,by omega⟩
 have V3:=KV 9 4 (by decide) (by decide) (by decide) ⟨by omega,by omega⟩
 have V4:=KV 10 5 (by decide) (by decide) (by decide) ⟨by omega,by omega⟩
 have V5:=KV 11 6 (by decide) (by decide) (by decide) ⟨by omega,by omega⟩
 have P1:=KP5 3 1 (by decide) (by decide) (by decide) ⟨by omega,by omega⟩
 have P2:=KP5 7 3 (by decide) (by decide) (by decide) ⟨by omega,by omega⟩
 have P3:=KP5 12 7 (by decide) (by decide) (by decide) ⟨by omega,by omega⟩
 have P4:=KP5 13 8 (by decide) (by decide) (by decide) ⟨by omega,by omega⟩
 have P5:=KP5 14 9 (by decide) (by decide) (by decide) ⟨by omega,by omega⟩
 obtain ⟨ao,cap,hve,_,_⟩:=hv.shape
 subst hve
 have HB0:=Hd (Below.refl w.heap.size w)
 go_enter Tryz.func48,Tryz.ntmps48
 go_wp2_with fail
 refine ((Uh V1) _ (Uh HB0)).mono ?_
 rintro e1 w1 ⟨b1,m1,rfl,u1,u2,u3,hb1⟩
 have HB1:=Hd (bthen (Uh HB0) hb1)
 have HT1:Hid (TrP w1 w.heap.size (.pointer (some b1)) (Cn.rangesA (fun _ r=>Cn.value r) 1 (Cn.famOf 1 rs))):=TrP.lower ⟨_,_,rfl,u1,u2,u3⟩ (Uh HB0).size
 go_wp2_with fail
 refine ((Uh V2) _ (Uh HB1)).mono ?_
 rintro e2 w2 ⟨b2,m2,rfl,u1,u2,u3,hb2⟩
 have HB2:=Hd (bthen (Uh HB1) hb2)
 have HT2:Hid (TrP w2 w.heap.size (.pointer (some b2)) (Cn.rangesA (fun _ r=>Cn.value r) 1 (Cn.famOf 2 rs))):=TrP.lower ⟨_,_,rfl,u1,u2,u3⟩ (Uh HB1).size
 replace HT1:=Hd ((Uh HT1).below hb2)
 go_wp2_with fail
 refine ((Uh V3) _ (Uh HB2)).mono ?_
 rintro e3 w3 ⟨b3,m3,rfl,u1,u2,u3,hb3⟩
 have HB3:=Hd (bthen (Uh HB2) hb3)
 have HT3:Hid (TrP w3 w.heap.size (.pointer (some b3)) (Cn.rangesA (fun _ r=>Cn.value r) 1 (Cn.famOf 4 rs))):=TrP.lower ⟨_,_,rfl,u1,u2,u3⟩ (Uh HB2).size
 replace HT1:=Hd ((Uh HT1).below hb3)
 replace HT2:=Hd ((Uh HT2).below hb3)
 go_wp2_with fail
 refine ((Uh V4) _ (Uh HB3)).mono ?_
 rintro e4 w4 ⟨b4,m4,rfl,u1,u2,u3,hb4⟩
 have HB4:=Hd (bthen (Uh HB3) hb4)
 have HT4:Hid (TrP w4 w.heap.size (.pointer (some b4)) (Cn.rangesA (fun _ r=>Cn.value r) 1 (Cn.famOf 5 rs))):=TrP.lower ⟨_,_,rfl,u1,u2,u3⟩ (Uh HB3).size
 replace HT1:=Hd ((Uh HT1).below hb4)
 replace HT2:=Hd ((Uh HT2).below hb4)
 replace HT3:=Hd ((Uh HT3).below hb4)
 go_wp2_with fail
 refine ((Uh V5) _ (Uh HB4)).mono ?_
 rintro e5 w5 ⟨b5,m5,rfl,u1,u2,u3,hb5⟩
 have HB5:=Hd (bthen (Uh HB4) hb5)
 have HT5:Hid (TrP w5 w.heap.size (.pointer (some b5)) (Cn.rangesA (fun _ r=>Cn.value r) 1 (Cn.famOf 6 rs))):=TrP.lower ⟨_,_,rfl,u1,u2,u3⟩ (Uh HB4).size
 replace HT1:=Hd ((Uh HT1).below hb5)
 replace HT2:=Hd ((Uh HT2).below hb5)
 replace HT3:=Hd ((Uh HT3).below hb5)
 replace HT4:=Hd ((Uh HT4).below hb5)
 go_wp2_with fail
 refine ((Uh P1) _ (Uh HB5)).mono ?_
 rintro e6 w6 ⟨g1,n1,y1,ps1,rfl,u1,u2,u3,u4,u5,hb6⟩
 have HB6:=Hd (bthen (Uh HB5) hb6)
 have HQ1:Hid (SpP w6 w.heap.size (.pointer (some g1)) y1 (Cn.famOf 1 rs)):=SpP.lower ⟨⟨_,_,rfl,u1,u2,u3⟩,_,u4,u5⟩ (Uh HB5).size
 obtain ⟨yo1,yl1,yc1,hy1⟩:∃ o l c,y1=.slice o l c:=by
  rcases u4.1.2 with ⟨e,_⟩ | ⟨_,_,_,e,_⟩
  ·exact ⟨_,_,_,e⟩
  ·exact ⟨_,_,_,e⟩
 subst hy1
 replace HT1:=Hd ((Uh HT1).below hb6)
 replace HT2:=Hd ((Uh HT2).below hb6)
 replace HT3:=Hd ((Uh HT3).below hb6)
 replace HT4:=Hd ((Uh HT4).below hb6)
 replace HT5:=Hd ((Uh HT5).below hb6)
 go_wp2_with fail
 refine ((Uh P2) _ (Uh HB6)).mono ?_
 rintro e7 w7 ⟨g2,n2,y2,ps2,rfl,u1,u2,u3,u4,u5,hb7⟩
 have HB7:=Hd (bthen (Uh HB6) hb7)
 have HQ2:Hid (SpP w7 w.heap.size (.pointer (some g2)) y2 (Cn.famOf 3 rs)):=SpP.lower ⟨⟨_,_,rfl,u1,u2,u3⟩,_,u4,u5⟩ (Uh HB6).size
 obtain ⟨yo2,yl2,yc2,hy2⟩:∃ o l c,y2=.slice o l c:=by
  rcases u4.1.2 with ⟨e,_⟩ | ⟨_,_,_,e,_⟩
  ·exact ⟨_,_,_,e⟩
  ·exact ⟨_,_,_,e⟩
 subst hy2
 replace HT1:=Hd ((Uh HT1).below hb7)
 replace HT2:=Hd ((Uh HT2).below hb7)
 replace HT3:=Hd ((Uh HT3).below hb7)
 replace HT4:=Hd ((Uh HT4).below hb7)
 replace HT5:=Hd ((Uh HT5).below hb7)
 replace HQ1:=Hd ((Uh HQ1).below hb7)
 go_wp2_with fail
 refine ((Uh P3) _ (Uh HB7)).mono ?_
 rintro e8 w8 ⟨g3,n3,y3,ps3,rfl,u1,u2,u3,u4,u5,hb8⟩
 have HB8:=Hd (bthen (Uh HB7) hb8)
 have HQ3:Hid (SpP w8 w.heap.size (.pointer (some g3)) y3 (Cn.famOf 7 rs)):=SpP.lower ⟨⟨_,_,rfl,u1,u2,u3⟩,_,u4,u5⟩ (Uh HB7).size
 obtain ⟨yo3,yl3,yc3,hy3⟩:∃ o l c,y3=.slice o l c:=by
  rcases u4.1.2 with ⟨e,_⟩ | ⟨_,_,_,e,_⟩
  ·exact ⟨_,_,_,e⟩
  ·exact ⟨_,_,_,e⟩
 subst hy3
 replace HT1:=Hd ((Uh HT1).below hb8)
 replace HT2:=Hd ((Uh HT2).below hb8)
 replace HT3:=Hd ((Uh HT3).below hb8)
 replace HT4:=Hd ((Uh HT4).below hb8)
 replace HT5:=Hd ((Uh HT5).below hb8)
 replace HQ1:=Hd ((Uh HQ1).below hb8)
 replace HQ2:=Hd ((Uh HQ2).below hb8)
 go_wp2_with fail
 refine ((Uh P4) _ (Uh HB8)).mono ?_
 rintro e9 w9 ⟨g4,n4,y4,ps4,rfl,u1,u2,u3,u4,u5,hb9⟩
 have HB9:=Hd (bthen (Uh HB8) hb9)
 have HQ4:Hid (SpP w9 w.heap.size (.pointer (some g4)) y4 (Cn.famOf 8 rs)):=SpP.lower ⟨⟨_,_,rfl,u1,u2,u3⟩,_,u4,u5⟩ (Uh HB8).size
 obtain ⟨yo4,yl4,yc4,hy4⟩:∃ o l c,y4=.slice o l c:=by
  rcases u4.1.2 with ⟨e,_⟩ | ⟨_,_,_,e,_⟩
  ·exact ⟨_,_,_,e⟩
  ·exact ⟨_,_,_,e⟩
 subst hy4
 replace HT1:=Hd ((Uh HT1).below hb9)
 replace HT2:=Hd ((Uh HT2).below hb9)
 replace HT3:=Hd ((Uh HT3).below hb9)
 replace HT4:=Hd ((Uh HT4).below hb9)
 replace HT5:=Hd ((Uh HT5).below hb9)
 replace HQ1:=Hd ((Uh HQ1).below hb9)
 replace HQ2:=Hd ((Uh HQ2).below hb9)
 replace HQ3:=Hd ((Uh HQ3).below hb9)
 go_wp2_with fail
 refine ((Uh P5) _ (Uh HB9)).mono ?_
 rintro e10 w10 ⟨g5,n5,y5,ps5,rfl,u1,u2,u3,u4,u5,hb10⟩
 have HB10:=Hd (bthen (Uh HB9) hb10)
 have HQ5:Hid (SpP w10 w.heap.size (.pointer (some g5)) y5 (Cn.famOf 9 rs)):=SpP.lower ⟨⟨_,_,rfl,u1,u2,u3⟩,_,u4,u5⟩ (Uh HB9).size
 obtain ⟨yo5,yl5,yc5,hy5⟩:∃ o l c,y5=.slice o l c:=by
  rcases u4.1.2 with ⟨e,_⟩ | ⟨_,_,_,e,_⟩
  ·exact ⟨_,_,_,e⟩
  ·exact ⟨_,_,_,e⟩
 subst hy5
 replace HT1:=Hd ((Uh HT1).below hb10)
 replace HT2:=Hd ((Uh HT2).below hb10)
 replace HT3:=Hd ((Uh HT3).below hb10)
 replace HT4:=Hd ((Uh HT4).below hb10)
 replace HT5:=Hd ((Uh HT5).below hb10)
 replace HQ1:=Hd ((Uh HQ1).below hb10)
 replace HQ2:=Hd ((Uh HQ2).below hb10)
 replace HQ3:=Hd ((Uh HQ3).below hb10)
 replace HQ4:=Hd ((Uh HQ4).below hb10)
 go_wp2_with fail
 refine ((Uh KC) _ (Uh HB10)).mono ?_
 rintro e11 w11 ⟨r1,r2,rfl,u1,u2,u3,u4,hb11⟩
 have HB11:=Hd (bthen (Uh HB10) hb11)
 have HCO:Hid (CoP w11 w.heap.size (.map (some r1)) (.map (some r2)) rs):=CoP.lower ⟨_,_,rfl,rfl,u1,u2,u3,u4⟩ (Uh HB10).size
 replace HT1:=Hd ((Uh HT1).below hb11)
 replace HT2:=Hd ((Uh HT2).below hb11)
 replace HT3:=Hd ((Uh HT3).below hb11)
 replace HT4:=Hd ((Uh HT4).below hb11)
 replace HT5:=Hd ((Uh HT5).below hb11)
 replace HQ1:=Hd ((Uh HQ1).below hb11)
 replace HQ2:=Hd ((Uh HQ2).below hb11)
 replace HQ3:=Hd ((Uh HQ3).below hb11)
 replace HQ4:=Hd ((Uh HQ4).below hb11)
 replace HQ5:=Hd ((Uh HQ5).below hb11)
 go_wp2_with fail
 refine ((Uh KM) _ (Uh HB11)).mono ?_
 rintro e12 w12 ⟨r3,rfl,u1,u2,hb12⟩
 have HB12:=Hd (bthen (Uh HB11) hb12)
 have HMI:Hid (MiP w12 w.heap.size (.map (some r3))):=MiP.lower ⟨_,rfl,u1,u2⟩ (Uh HB11).size
 replace HT1:=Hd ((Uh HT1).below hb12)
 replace HT2:=Hd ((Uh HT2).below hb12)
 replace HT3:=Hd ((Uh HT3).below hb12)
 replace HT4:=Hd ((Uh HT4).below hb12)
 replace HT5:=Hd ((Uh HT5).below hb12)
 replace HQ1:=Hd ((Uh HQ1).below hb12)
 replace HQ2:=Hd ((Uh HQ2).below hb12)
 replace HQ3:=Hd ((Uh HQ3).below hb12)
 replace HQ4:=Hd ((Uh HQ4).below hb12)
 replace HQ5:=Hd ((Uh HQ5).below hb12)
 replace HCO:=Hd ((Uh HCO).below hb12)
 have HF:Hid (CmdB w rs (.returned (.pointer (some ⟨w12.heap.size,0,none⟩))) (w12.alloc (.cells #[.pointer (some b1),.pointer (some b2),.pointer (some b3),.pointer (some b4),.pointer (some b5),.pointer (some g1),.slice yo1 yl1 yc1,.pointer (some g2),.slice yo2 yl2 yc2,.pointer (some g3),.slice yo3 yl3 yc3,.pointer (some g4),.slice yo4 yl4 yc4,.pointer (some g5),.slice yo5 yl5 yc5,.map (some r1),.map (some r2),.map (some r3)] 92))):=by
  have hal:Below w12.heap.size w12 (w12.alloc (.cells #[.pointer (some b1),.pointer (some b2),.pointer (some b3),.pointer (some b4),.pointer (some b5),.pointer (some g1),.slice yo1 yl1 yc1,.pointer (some g2),.slice yo2 yl2 yc2,.pointer (some g3),.slice yo3 yl3 yc3,.pointer (some g4),.slice yo4 yl4 yc4,.pointer (some g5),.slice yo5 yl5 yc5,.map (some r1),.map (some r2),.map (some r3)] 92)):=(Below.refl _ _).alloc (Nat.le_refl _) _
  refine ⟨_,rfl,⟨_,_,_,_,_,_,_,_,_,_,_,_,_,_,_,_,_,_,?_,(Uh HB12).size,(Uh HT1).below hal,(Uh HT2).below hal,(Uh HT3).below hal,(Uh HT4).below hal,(Uh HT5).below hal,(Uh HQ1).below hal,(Uh HQ2).below hal,(Uh HQ3).below hal,(Uh HQ4).below hal,(Uh HQ5).below hal,(Uh HCO).below hal,(Uh HMI).below hal⟩,bthen (Uh HB12) hal⟩
  show (w12.heap.push _)[w12.heap.size]?=_
  simp
 go_wp2
 go_ret
 exact Uh HF
def CpB (w:World) (rs:List Rec) (e:Ending) (w':World):Prop:=Below w.heap.size w w'∧((¬ (Cn.check rs).2=0∧e=.returned (.tuple #[.pointer none,.int .i64 ((Cn.check rs).1:Int),.int .i64 (Cn.check rs).2]))∨((Cn.check rs).2=0∧∃ p,e=.returned (.tuple #[.pointer (some ⟨p,0,none⟩),.int .i64 0,.int .i64 0])∧DataAt w' w.heap.size p rs))
set_option maxRecDepth 8000 in
set_option maxHeartbeats 2000000 in
theorem compile_core v rs w (hv:Rcs w v rs) (KC:Calls Tryz.prog 47 #[v] w (CheckB w (Cn.check rs))) (KD:(Cn.check rs).2=0→∀ W,Below w.heap.size w W→Calls Tryz.prog 48 #[v] W (CmdB W rs)):Calls Tryz.prog 28 #[v] w (CpB w rs):=by
 have K1:=Hd KC
 unfold CheckB at K1
 have KD:=Hd KD
 obtain ⟨ao,cap,hve,_,_⟩:=hv.shape
 unfold CpB
 by_cases h:(Cn.check rs).2=0
 ·have KD1:=Hd ((Uh KD) h)
  have HX:=Hd h
  generalize hck:Cn.check rs=q at *
  obtain ⟨q1,q2⟩:=q
  simp only at h
  subst h
  subst hve
  go_enter Tryz.func28,Tryz.ntmps28
  go_wp2_with fail
  refine (Uh K1).mono ?_
  rintro e1 w1 ⟨rfl,hb1⟩
  have K2:=Hd ((Uh KD1) w1 hb1)
  have HB1:=Hd hb1
  go_wp2_with fail
  refine (Uh K2).mono ?_
  rintro e2 w2 ⟨p,rfl,hD,hb2⟩
  have HB2:=Hd (bthen (Uh HB1) hb2)
  have HD:Hid (DataAt w2 w.heap.size p rs):=by
   obtain ⟨t1,t2,t3,t4,t5,a1,l1,a2,l2,a3,l3,a4,l4,a5,l5,c1,c2,x1,h1,h2,h3⟩:=hD
   have hs:=(Uh HB1).size
   exact ⟨t1,t2,t3,t4,t5,a1,l1,a2,l2,a3,l3,a4,l4,a5,l5,c1,c2,x1,h1,by omega,h3.p1.lower hs,h3.p2.lower hs,h3.p3.lower hs,h3.p4.lower hs,h3.p5.lower hs,h3.q1.lower hs,h3.q2.lower hs,h3.q3.lower hs,h3.q4.lower hs,h3.q5.lower hs,h3.co.lower hs,h3.mi.lower hs⟩
  go_wp2
  go_ret3
  exact ⟨Uh HB2,.inr ⟨Uh HX,p,rfl,Uh HD⟩⟩
 ·have HX:=Hd h
  generalize hck:Cn.check rs=q at *
  obtain ⟨q1,q2⟩:=q
  simp only at h
  have hq:(q2 != 0)=true:=bne_iff_ne.2 h
  subst hve
  go_enter Tryz.func28,Tryz.ntmps28
  go_wp2_with fail
  refine (Uh K1).mono ?_
  rintro e1 w1 ⟨rfl,hb1⟩
  have HB1:=Hd hb1
  go_wp2
  go_ret3
  exact ⟨Uh HB1,.inl ⟨Uh HX,rfl⟩⟩
open Ti
namespace Cn
theorem bare_n {r a b c d} (h:bare r false a b c d=true):r.n=0:=by
 unfold bare at h
 simp only [Bool.and_eq_true,Bool.false_or,decide_eq_true_eq] at h
 exact h.1.1.1.1
theorem right_num {r} (h:right r=0) (hk:r.kind≠15) (h1:r.kind≠4):0≤r.n∧r.n≤254:=by
 have hf:=right_kind h
 have hkk:1≤r.kind∧r.kind≤15:=by
  unfold fam at hf
  split at hf
  ·exact absurd rfl hf
  ·omega
 unfold right at h
 rw [if_neg hf,if_neg hk] at h
 have hc:=if_zero h
 rw [Bool.and_eq_true] at hc
 have h2:=hc.2
 by_cases k1:r.kind=1∨r.kind=2∨r.kind=11
 ·rw [if_pos k1] at h2
  have:=bare_n h2; omega
 rw [if_neg k1] at h2
 by_cases k3:r.kind=3
 ·rw [if_pos k3] at h2
  simp only [Bool.and_eq_true] at h2
  have:=bare_n h2.1; omega
 rw [if_neg k3,if_neg h1] at h2
 by_cases k5:r.kind=5
 ·rw [if_pos k5] at h2
  simp only [Bool.and_eq_true] at h2
  have:=bare_n h2.1.2; omega
 rw [if_neg k5] at h2
 by_cases k13:r.kind=13
 ·rw [if_pos k13] at h2
  simp only [Bool.and_eq_true] at h2
  have:=bare_n h2.1.2; omega
 rw [if_neg k13] at h2
 by_cases k6:r.kind=6
 ·grind
 rw [if_neg k6] at h2
 by_cases k7:r.kind=7
 ·rw [if_pos k7] at h2
  simp only [Bool.and_eq_true] at h2
  have:=bare_n h2.1.2; omega
 rw [if_neg k7] at h2
 by_cases k8:r.kind=8
 ·rw [if_pos k8] at h2
  simp only [Bool.and_eq_true] at h2
  have:=bare_n h2.1.2; omega
 rw [if_neg k8] at h2
 by_cases k9:r.kind=9
 ·grind
 rw [if_neg k9] at h2
 by_cases k10:r.kind=10
 ·grind
 rw [if_neg k10] at h2
 by_cases k12:r.kind=12
 ·rw [if_pos k12] at h2
  simp only [Bool.and_eq_true] at h2
  have:=bare_n h2.1; omega
 rw [if_neg k12] at h2
 simp only [Bool.and_eq_true] at h2
 have:=bare_n h2.1; omega
theorem right_value {r} (h:right r=0) (hk:r.kind≠15):0≤value r∧value r≤65535:=by
 unfold value
 split
 ·omega
 ·split
  ·omega
  ·split
   ·omega
   ·rename_i h34
    split
    ·omega
    ·split
     ·omega
     ·have:=right_num h hk (fun e=>h34 (.inr e)); omega
theorem nameL_size {b} (h:nameL b=true):b.size=4:=by
 unfold nameL at h
 split at h
 ·rename_i a b c d he
  have:=congrArg List.length he
  simpa using this
 ·cases h
theorem right_mix {r} (h:right r=0) (h15:r.kind=15):r.name.size=4∧r.other.size=4:=by
 have hf:=right_kind h
 unfold right at h
 rw [if_neg hf,if_pos h15] at h
 obtain ⟨_,_,_,h1,h2,_⟩:=if_zero h
 exact ⟨nameL_size h1,nameL_size h2⟩
theorem scalar_reach {c} (h:scalar c=true):0≤c∧c≤1114111:=by
 unfold scalar at h
 have:=of_decide_eq_true h
 omega
end Cn
theorem compile_any v rs w (hg:Glob w) (hv:Rcs w v rs):Calls Tryz.prog 28 #[v] w (CpB w rs):=by
 refine compile_core v rs w hv (checkC v rs w hg hv) fun h0 W hW=>?_
 have h6:=(Cn.check_iff.1 h0).1
 obtain ⟨_,hall,_⟩:=Cn.check6_iff.1 h6
 refine compiled_any v rs W (hg.on hW) (hv.below hW) h6 (fun r hr hk=>Cn.right_value (hall r hr) hk) (fun r hr h7=>?_) (fun r hr h15=>?_)
 ·obtain ⟨_,h2,h3⟩:=Cn.right_decomp (hall r hr) h7
  have h4:=(Cn.list_parts h3).1
  have h5:=Cn.scalar_reach h2
  exact ⟨by omega,h5.1,h5.2⟩
 ·obtain ⟨h1,h2⟩:=Cn.right_mix (hall r hr) h15
  exact ⟨by unfold Sh; omega,by unfold Sh; omega⟩
section
variable {W W':World} {B p:Nat} {v vl c1 c2 x:Value} {xs:List Tri.Rg} {fs rs:List Rec}
theorem TrP.keep (h:TrP W B v xs) (hs:W.heap.size≤W'.heap.size) (hk:∀ k,B≤k→k<W.heap.size→W'.heap[k]?=W.heap[k]?):TrP W' B v xs:=by
 obtain ⟨a,m,e,p,s,t⟩:=h
 exact ⟨a,m,e,p,s,T4.keep t hs hk⟩
theorem SpP.keep (h:SpP W B v vl fs) (hs:W.heap.size≤W'.heap.size) (hk:∀ k,B≤k→k<W.heap.size→W'.heap[k]?=W.heap[k]?):SpP W' B v vl fs:=by
 obtain ⟨t,ps,hr,e⟩:=h
 exact ⟨t.keep hs hk,ps,⟨row_keep hr.1 hk,fun p hp=>⟨(hr.2 p hp).1,(hr.2 p hp).2.1,row_keep (hr.2 p hp).2.2 hk⟩⟩,e⟩
theorem GAt.keep {K:Value→Prop} {r} {c:Value→Option Value} (h:GAt K W r c) (hr:B≤r) (hk:∀ k,B≤k→k<W.heap.size→W'.heap[k]?=W.heap[k]?):GAt K W' r c:=by
 obtain ⟨es,cl,h1,h2⟩:=h
 exact ⟨es,cl,by rw [hk r hr (heap_in h1)]; exact h1,h2⟩
theorem DataAt.keep (h:DataAt W B p rs) (hs:W.heap.size≤W'.heap.size) (hk:∀ k,B≤k→k<W.heap.size→W'.heap[k]?=W.heap[k]?):DataAt W' B p rs:=by
 obtain ⟨t1,t2,t3,t4,t5,a1,l1,a2,l2,a3,l3,a4,l4,a5,l5,c1,c2,x1,h1,h2,h3⟩:=h
 refine ⟨t1,t2,t3,t4,t5,a1,l1,a2,l2,a3,l3,a4,l4,a5,l5,c1,c2,x1,by rw [hk p h2 (heap_in h1)]; exact h1,h2,⟨h3.p1.keep hs hk,h3.p2.keep hs hk,h3.p3.keep hs hk,h3.p4.keep hs hk,h3.p5.keep hs hk,h3.q1.keep hs hk,h3.q2.keep hs hk,h3.q3.keep hs hk,h3.q4.keep hs hk,h3.q5.keep hs hk,?_,?_⟩⟩
 ·obtain ⟨r1,r2,e1,e2,b1,b2,g1,g2⟩:=h3.co
  exact ⟨r1,r2,e1,e2,b1,b2,g1.keep b1 hk,g2.keep b2 hk⟩
 ·obtain ⟨r,e,b,c,g⟩:=h3.mi
  exact ⟨r,e,b,c,g.keep b hk⟩
theorem DataAt.lower {B'} (h:DataAt W B p rs) (hs:B'≤B):DataAt W B' p rs:=by
 obtain ⟨t1,t2,t3,t4,t5,a1,l1,a2,l2,a3,l3,a4,l4,a5,l5,c1,c2,x1,h1,h2,h3⟩:=h
 exact ⟨t1,t2,t3,t4,t5,a1,l1,a2,l2,a3,l3,a4,l4,a5,l5,c1,c2,x1,h1,by omega,h3.p1.lower hs,h3.p2.lower hs,h3.p3.lower hs,h3.p4.lower hs,h3.p5.lower hs,h3.q1.lower hs,h3.q2.lower hs,h3.q3.lower hs,h3.q4.lower hs,h3.q5.lower hs,h3.co.lower hs,h3.mi.lower hs⟩
end
open Ti
namespace Cn
def vget (rs:List Rec) (f c:Int):Int:=match hit rs f c with | some r=>value r | Option.none=>0
def rget (rs:List Rec) (f c:Int):Rec:=match hit rs f c with | some r=>r | Option.none=>none
end Cn
theorem tget {W B t rs} {f} (hT:TrP W B t (Cn.rangesA (fun _ r=>Cn.value r) 1 (Cn.famOf f rs))) (h6:(Cn.check6 rs).2=0) (hf:f≠10∧f≠0) c (hc:Fi c):Calls Tryz.prog 42 #[t,.int .i64 c] W (IntDraws W (Cn.vget rs f c)):=by
 obtain ⟨a,m,e,hp,hs,t4⟩:=hT
 have hall:=(Cn.check6_iff.1 h6).2.1
 have hv:=Cn.values_get h6 hf (fun r hr hfr=>Cn.right_value (hall r hr) (fun e=>hf.1 (by rw [← hfr,e]; decide))) hp hs
 have:=get4 t m 0 c W ⟨B,t4⟩ hc
 rw [hv.2 c] at this
 exact this
set_option maxRecDepth 8000 in
set_option maxHeartbeats 1000000 in
theorem class_any9 {B p rs} c w (hD:DataAt w B p rs) (h6:(Cn.check6 rs).2=0) (hc:Rune c):Calls Tryz.prog 23 #[.pointer (some ⟨p,0,none⟩),.int .i32 c] w (IntDraws w (Cn.vget rs 2 c)):=by
 obtain ⟨t1,t2,t3,t4,t5,a1,l1,a2,l2,a3,l3,a4,l4,a5,l5,c1,c2,x1,h1,h2,h3⟩:=hD
 obtain ⟨hc1,hc2⟩:=hc
 have K:=Hd (tget h3.p2 h6 (by decide) c ⟨by omega,by omega⟩)
 have x:w.cell? ⟨p,1,none⟩=some t2:=cell_of (j:=1) h1 (by show 1<18; omega)
 obtain ⟨a,m,e,-⟩:=h3.p2
 subst e
 go_enter Tryz.func23,Tryz.ntmps23
 go_wp2_with (go_at_call 42; refine (Uh K).mono ?_; rintro e wq ⟨rfl,mm,rfl⟩; clear K)
 go_ret
 exact ⟨rfl,mm,rfl⟩
namespace Cn
theorem kind_of {k f} (h:fam k=f):(f=1→1≤k∧k≤5)∧(f=2→k=6)∧(3<f→k=f+5):=by
 subst h
 unfold fam
 split
 ·omega
 ·omega
variable {rs:List Rec}
theorem value_num {r} (h:6≤r.kind) (h2:r.kind≠11):value r=r.n:=by
 unfold value
 rw [if_neg (by omega),if_neg (by omega),if_neg (by omega),if_neg (by omega),if_neg h2]
theorem vget_cls (h6:(check6 rs).2=0) c:cls rs c=vget rs 2 c:=by
 unfold cls vget
 cases he:hit rs 2 c with
 | none=>rfl
 | some r =>
  have hk:=(kind_of ((hit_iff h6 (by decide) r).1 he).2.1).2.1 rfl
  exact (value_num (by omega) (by omega)).symm
end Cn
set_option maxHeartbeats 1000000 in
theorem refClass9 (v:Value) (rs:List Rec) (c:Int) (w:World) (hv:Rcs w v rs) (hc:Rune c):Calls Tryz.prog 84 #[v,.int .i32 c] w (IntB w (Cn.cls rs c)):=by
 have K:=Hd (refClass_any v rs c w hv hc)
 obtain ⟨c0,c1⟩:=hc
 obtain ⟨ao,cap,rfl,_,_⟩:=hv.shape
 go_enter Tryz.func84,Tryz.ntmps84
 go_wp2_with fail
 refine (Uh K).mono ?_
 rintro e w1 ⟨rfl,hb⟩
 have HF:=Hd hb
 go_wp2
 go_ret
 exact ⟨rfl,Uh HF⟩
end Go.Proofs.YtihhhjodonkkcaaGreatDoor
