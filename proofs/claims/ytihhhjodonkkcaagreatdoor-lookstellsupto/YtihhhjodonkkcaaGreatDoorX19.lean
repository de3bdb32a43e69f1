/- Ui9 Uj9 Uq9 Up9 Ur9 -/
import Derived.Test.YtihhhjodonkkcaaGreatDoorX10
import Derived.Deep.RegionHeld
import Derived.Deep.AppendLies
import Derived.Test.YtihhhjodonkkcaaGreatDoorX20
namespace Go.Proofs.YtihhhjodonkkcaaGreatDoor
open Go.RowKit
open Ti
namespace Cn
theorem rangesA_snoc {g:Nat→Rec→Int}:∀ (l:List Rec) (i:Nat) (r:Rec),rangesA g i (l++[r])=rangesA g i l++spoken r (g (i+l.length) r)
 | [],i,r=>by simp [rangesA]
 | x :: l,i,r=>by
  rw [List.cons_append,rangesA,rangesA_snoc l (i+1) r,rangesA,List.append_assoc,List.length_cons,show i+1+l.length=i+(l.length+1) by omega]
theorem spoken_len {r:Rec} (h:right r=0) (hk:r.kind≠15) (v:Int):(spoken r v).length≤1114112:=by
 obtain ⟨s1,s2,s3⟩:=right_span h hk
 unfold spoken
 split
 ·simp
 ·rw [dots_len]
  rename_i hc
  have hst:=right_step h
  have h4:r.kind=4:=Decidable.byContradiction fun e=>hc (.inl e)
  unfold step at hst
  rw [if_pos h4] at hst
  have:(r.hi - r.lo) / r.n≤r.hi - r.lo:=Int.ediv_le_self _ (by omega)
  omega
theorem rangesA_len {g:Nat→Rec→Int}:∀ (l:List Rec) (i:Nat),(∀ r∈l,right r=0∧r.kind≠15)→(rangesA g i l).length≤1114112 * l.length
 | [],_,_=>by simp [rangesA]
 | r :: l,i,h=>by
  rw [rangesA,List.length_append,List.length_cons]
  have h1:=spoken_len (h r (by simp)).1 (h r (by simp)).2 (g i r)
  have h2:=rangesA_len (g:=g) l (i+1) (fun x hx=>h x (List.mem_cons_of_mem _ hx))
  omega
end Cn
theorem spoken_ne (r:Rec) (v:Int) (h:Cn.right r=0) (hk:r.kind≠15):0<(Cn.spoken r v).length:=by
 unfold Cn.spoken
 split
 ·simp
 ·rw [Cn.dots_len]
  rename_i hc
  obtain ⟨s1,s2,s3⟩:=Cn.right_span h hk
  have hst:=Cn.right_step h
  have h4:r.kind=4:=Decidable.byContradiction fun e=>hc (.inl e)
  unfold Cn.step at hst
  rw [if_pos h4] at hst
  have:=Int.ediv_nonneg (a:=r.hi - r.lo) (b:=r.n) (by omega) (by omega)
  omega
theorem or4_more {W0 w2 w4:World} {bv v4:Value} {xs ys:List Tri.Rg} (hB:Below W0.heap.size W0 w2) (hm:Or4 w2 W0.heap.size bv xs) (hy:FitR ys) (hl:xs.length+ys.length≤5000000000) (hr:w4.ownsRow W0.heap.size 218 3 v4 (xs.length+ys.length) (Ti.rcells xs++Ti.rcells ys)) (hg:w2.grownBy w4 bv.ownBlock):Or4 w4 W0.heap.size v4 (xs++ys)∧Below W0.heap.size W0 w4 :=
 ⟨⟨fun r h=>by
  rcases List.mem_append.1 h with h | h
  ·exact hm.1 r h
  ·exact hy r h,by rw [List.length_append]; omega,by rw [List.length_append,Ti.rcells_app]; exact hr⟩,hB.grown hg hB.size (fun g hg'=>(hm.2.2.lt g hg').1)⟩
theorem or4_src {w:World} {B:Nat} {v:Value} {ys:List Tri.Rg} (h:Or4 w B v ys) (hn:0<ys.length):∃ g cap,v=.slice (some ⟨g,0,none⟩) ys.length cap∧∀ j u,(Ti.rcells ys)[j]?=some u→w.cell? ((⟨g,0,none⟩:Addr).add j)=some u:=by
 rcases h.2.2.2 with ⟨_,h0⟩ | ⟨g,cap,cur,rfl,_⟩
 ·omega
 ·exact ⟨g,cap,rfl,fun j u hj=>h.2.2.cells (g:=g) rfl j u hj⟩
theorem boxKeep {w w':World} {b:Nat} {kd lo hi n:Int} {vt:Value} {nm ot:ByteArray} {wt:Nat} (h:BoxAt w b kd lo hi n vt nm ot wt) (hb:w'.heap[b]?=w.heap[b]?):BoxAt w' b kd lo hi n vt nm ot wt:=by
 have e:∀ j,w'.cell? ⟨b,j,none⟩=w.cell? ⟨b,j,none⟩:=fun j=>World.cell?_of_block hb
 exact ⟨by rw [e]; exact h.1,by rw [e]; exact h.2,by rw [e]; exact h.3,by rw [e]; exact h.4,by rw [e]; exact h.5,by rw [e]; exact h.6,by rw [e]; exact h.7,by rw [e]; exact h.8⟩
set_option maxRecDepth 8000 in
set_option maxHeartbeats 8000000 in
theorem valuesOf_any (v:Value) (rs:List Rec) (kind:Int) (w:World) (hg:Glob w) (hv:Rcs w v rs) (hk:I64 kind) (hok:∀ r∈Cn.famOf (Cn.fam kind) rs,Cn.right r=0∧r.kind≠15∧Fi (Cn.value r)) (hl:(Cn.famOf (Cn.fam kind) rs).length≤4096) (hval:∀ m:List Tri.Rg,m.Perm (Cn.rangesA (fun _ r=>Cn.value r) 1 (Cn.famOf (Cn.fam kind) rs))→(m.Pairwise fun x y=>Tri.lo x≤Tri.lo y)→Tri.Val 0 m):Calls Tryz.prog 78 #[v,.int .i64 kind] w (BuiltB w (Cn.rangesA (fun _ r=>Cn.value r) 1 (Cn.famOf (Cn.fam kind) rs))):=by
 obtain ⟨i0,hi0,hz0,hz1,hz2⟩:=info_parts Tryz.info218
 have K1:=Hd (familyOf_any v rs kind w hg hv hk)
 unfold FamB at K1
 obtain ⟨ao,cap,hve,_,_⟩:=hv.shape
 generalize Cn.famOf (Cn.fam kind) rs=fs at *
 have HOK:=Hd hok
 have HVAL:=Hd hval
 clear hv hg hok hval
 subst hve
 go_enter Tryz.func78,Tryz.ntmps78
 go_wp2_with fail
 refine (Uh K1).mono ?_
 rintro e1 w1 ⟨v1,ps,rfl,hps,hR,hb1⟩
 have hpl:ps.length=fs.length:=by rw [← hps,List.length_map]
 have hrc:Rcs w1 v1 fs:=by rw [← hps]; exact hR.rsx.rcs hb1 (by omega)
 have HRL:Hid (∀ k,(Cn.rangesA (fun _ r=>Cn.value r) 1 (fs.take k)).length≤4563402752):=fun k=>by
  have h1:=Cn.rangesA_len (g:=fun _ r=>Cn.value r) (fs.take k) 1 (fun r hr=>⟨((Uh HOK) r (List.mem_of_mem_take hr)).1,((Uh HOK) r (List.mem_of_mem_take hr)).2.1⟩)
  have h2:(fs.take k).length≤fs.length:=List.length_take_le' _ _
  omega
 have HREC:Hid (∀ k,k<fs.length→∃ b off cap,v1=.slice (some ⟨b,off,none⟩) fs.length cap∧RecAt w1 b (off+k * 8) (fs.getD k Cn.none)∧RecFit (fs.getD k Cn.none)):=fun k hk=>by
  obtain ⟨b,off,cap,he,_,_,hc⟩:=hrc.place (by omega)
  exact ⟨b,off,cap,he,hc k hk,hrc.fit hk⟩
 have HST:Hid (∀ k,k<fs.length→Cn.rangesA (fun _ r=>Cn.value r) 1 (fs.take (k+1))=Cn.rangesA (fun _ r=>Cn.value r) 1 (fs.take k)++Cn.spoken (fs.getD k Cn.none) (Cn.value (fs.getD k Cn.none))):=fun k hk=>by
  have e:fs.take (k+1)=fs.take k++[fs.getD k Cn.none]:=by
   rw [List.take_add_one]
   simp [List.getD,hk]
  rw [e,Cn.rangesA_snoc]
 have HEND:Hid (∀ e w',BuiltB w1 (Cn.rangesA (fun _ r=>Cn.value r) 1 fs) e w'→BuiltB w (Cn.rangesA (fun _ r=>Cn.value r) 1 fs) e w'):=fun e w' h=>by
  obtain ⟨a,m,h1,h2,h3,h4,h5⟩:=h
  exact ⟨a,m,h1,h2,h3,h4.lower hb1.size,bthen hb1 h5⟩
 obtain ⟨ao1,cap1,hve1,_,_⟩:=hrc.shape
 subst hve1
 clear K1 hps hR hrc hpl hb1
 go_wp2
 go_loopw [5,7,12] (fun rv _ iv wr=>∃ k:Nat,iv=.int .i64 k∧k≤fs.length∧Or4 wr w1.heap.size rv (Cn.rangesA (fun _ r=>Cn.value r) 1 (fs.take k))∧Below w1.heap.size w1 wr) (fun _ _ iv _=>fs.length - (intOf iv).toNat)
 case atStart=>exact ⟨0,rfl,by omega,Or4.nil _ _,Below.refl _ _⟩
 case round =>
  obtain ⟨k,rfl,hk,hor,hbel⟩:=hrel
  by_cases hlt:k<fs.length
  ·obtain ⟨b,off,cap',he,hA,hfit⟩:=(Uh HREC) k hlt
   obtain ⟨e1,e2,e3⟩:=Value.slice.inj he
   clear e2 e3 he
   subst e1
   obtain ⟨hr1,hr2,hr3⟩:=(Uh HOK) (fs.getD k Cn.none) (by simp [List.getD,hlt])
   have HNX:=Hd ((Uh HST) k hlt)
   have hxl:=(Uh HRL) k
   obtain ⟨y0,y1,y2,y3,⟨va,y4,ska⟩,y5,y6,y7⟩:=hA
   obtain ⟨tao,tcap,rfl,_,_⟩:=ska.shape
   have hold:∀ j u,w1.cell? ⟨b,off+k * 8+j,none⟩=some u→wr.cell? ⟨b,off+k * 8+j,none⟩=some u:=fun j u h=>by rw [hbel.cell (lt_of_cell? h)]; exact h
   have x0:wr.cell? ⟨b,off+k * 8,none⟩=_:=hold 0 _ y0
   have x1:=hold 1 _ y1
   have x2:=hold 2 _ y2
   have x3:=hold 3 _ y3
   have x4:=hold 4 _ y4
   have x5:=hold 5 _ y5
   have x6:=hold 6 _ y6
   have x7:=hold 7 _ y7
   clear hold y0 y1 y2 y3 y4 y5 y6 y7 HREC HST HVAL HEND
   generalize fs.getD k Cn.none=r at *
   have hfl:∀ W a m,(store a (.float .f64 r.wt) m).run Tryz.prog W=stored Tryz.prog W a (.float .f64 r.wt) m:=fun W a m=>run_store Tryz.prog W a _ m rfl
   obtain ⟨W1,hW1,hbx,hbw⟩:=box_one wr r.kind r.lo r.hi r.n (.slice tao r.to.length tcap) r.name r.other r.wt
   have HB1:=Hd (bthen hbel hbw)
   have HBX:Hid (∀ W,Below W1.heap.size W1 W→BoxAt W wr.heap.size r.kind r.lo r.hi r.n (.slice tao r.to.length tcap) r.name r.other r.wt):=fun W h=>hbx.keep h
   have HOR:Hid (∀ W,Below W1.heap.size W1 W→Or4 W w1.heap.size u5 (Cn.rangesA (fun _ r=>Cn.value r) 1 (fs.take k))∧Below w1.heap.size w1 W):=fun W h=>⟨(hor.below hbw).below h,bthen (Uh HB1) h⟩
   have KV:Hid (∀ W,Below W1.heap.size W1 W→Calls Tryz.prog 125 #[recV r (.slice tao r.to.length tcap)] W (IntB W (Cn.value r))):=fun W h=>uvalue_any r _ W hfit (ska.below (bthen (Uh HB1) h))
   have KS:Hid (∀ W,Below W1.heap.size W1 W→Calls Tryz.prog 124 #[recV r (.slice tao r.to.length tcap),.int .i64 (Cn.value r)] W (RgsPost W (Cn.spoken r (Cn.value r)))):=fun W h=>uspoken_any r _ _ W hfit (ska.below (bthen (Uh HB1) h)) hr1 hr2 hr3
   have hsn:=spoken_ne r (Cn.value r) hr1 hr2
   have hsl:=Cn.spoken_len hr1 hr2 (Cn.value r)
   unfold recV at KV KS
   obtain ⟨z0,z1,z2,z3,z4,z5,z6,z7⟩:=hbx
   have HNP:Hid (u5.ownBlock≠some wr.heap.size):=fun e=>by have:=(hor.2.2.lt _ e).2; omega
   have HPL:Hid (wr.heap.size<W1.heap.size):=lt_of_cell? z0
   clear hor hbel hbw hfit ska hr1 hr2 hr3 HOK HRL
   generalize Cn.spoken r (Cn.value r)=ys at *
   generalize Cn.value r=vv at *
   generalize Cn.rangesA (fun _ r=>Cn.value r) 1 (fs.take k)=xs at *
   generalize r.kind=kd at *
   generalize r.lo=lo at *
   generalize r.hi=hi at *
   generalize r.n=n at *
   generalize r.name=nm at *
   generalize r.other=ot at *
   generalize r.wt=wt at *
   generalize r.to.length=tl at *
   go_wp2
   clear HB1 x0 x1 x2 x3 x4 x5 x6 x7 z0 z1 z2 z3 z4 z5 z6 z7 hfl
   refine wp_region_held_drew (S:=fun w'=>BoxAt w' wr.heap.size kd lo hi n (.slice tao tl tcap) nm ot wt) (by kernel_rfl) ((Uh HBX) _ (drewB ⟨1,rfl⟩)) (fun hHeld=>?_)
   refine tk9 0 u5 ?_
   refine tk9 1 (.agg #[.int .i64 kd,.int .i64 lo,.int .i64 hi,.int .i64 n,.slice tao tl tcap,.string nm,.string ot,.float .f64 wt]) ?_ (hy:=by (intro w hSw; obtain ⟨s0,s1,s2,s3,s4,s5,s6,s7⟩:=hSw; go_simp))
   refine tk9 2 (.agg #[.int .i64 kd,.int .i64 lo,.int .i64 hi,.int .i64 n,.slice tao tl tcap,.string nm,.string ot,.float .f64 wt]) ?_ (hy:=by (intro w hSw; obtain ⟨s0,s1,s2,s3,s4,s5,s6,s7⟩:=hSw; go_simp))
   refine rd9 3 fun K hK=>?_
   go_simp
   refine ((Uh KV) _ (drewB ⟨1,rfl⟩)).mono ?_
   rintro e2 w2 ⟨rfl,hb2⟩
   have HB2:=Hd (bthen (drewB ⟨1,rfl⟩) hb2:Below W1.heap.size W1 w2)
   clear hb2
   refine hK.out _ _ ?_ (fun hHeld=>?_)
   ·exact (Uh HBX) _ (Uh HB2)
   clear hK K
   try simp only [Act.put,sa9,sb9,sc9]
   refine rd9 4 fun K hK=>?_
   go_simp
   refine ((Uh KS) _ (Uh HB2)).mono ?_
   rintro e3 w3 ⟨v3,rfl,hO3,hb3⟩
   have hB3:=bthen (Uh HB2) hb3
   obtain ⟨g3,cap3,rfl,hsrc⟩:=or4_src hO3 hsn
   have hHM:=(Uh HOR) _ hB3
   have hsz3:=hHM.2.size
   have HM:=Hd hHM
   have HF3:=Hd hO3.1
   have HSRC:=Hd hsrc
   have HONE:=Hd (Ti.rcells_one ys)
   have HB3:=Hd hB3
   clear hO3 hb3 hB3 hHM hsrc
   refine hK.out _ _ ?_ (fun hHeld=>?_)
   ·exact (Uh HBX) _ (Uh HB3)
   clear hK K
   try simp only [Act.put,sa9,sb9,sc9]
   refine rd9 5 fun K hK=>?_
   refine step_append_lies _ (by rfl) (.tmp 16) (.tmp 20) 176 (by rfl) w1.heap.size 218 i0 (.agg #[.int .i64 0,.int .i64 0,.int .i64 0]) 3 24 Tryz.underlying176 hi0 hz0 hz1 hz2 rfl (by omega) u5 xs.length (Ti.rcells xs) (by rfl) (Uh HM).1.2.2 ⟨g3,0,none⟩ ys.length cap3 (Ti.rcells ys) (by rfl) (by rw [Ti.rcells_len]) (Uh HSRC) (Uh HONE) (by omega) (by unfold maxLen; omega) (by omega) (by omega) w3.heap.size rfl ?_
   intro gg cap8 w8 hrow8 hgrow8 hat8 hlt8
   have hbx8:=boxKeep ((Uh HBX) _ (Uh HB3)) (hgrow8.block wr.heap.size (Nat.lt_of_lt_of_le (Uh HPL) (Uh HB3).size) (fun e=>(Uh HNP) e.symm))
   have R:=or4_more (Uh HM).2 (Uh HM).1 (Uh HF3) (by omega) hrow8 hgrow8
   rw [← Uh HNX] at R
   have HR:=Hd R
   clear R hrow8 hgrow8 hat8
   refine hK.out _ _ ?_ (fun hHeld=>?_)
   ·exact hbx8
   clear hK K hbx8
   try simp only [Act.put,sa9,sb9,sc9]
   refine tk9 6 (.slice (some ⟨gg,0,none⟩) (xs.length+ys.length) cap8) ?_
   refine wpAnyH_done (by kernel_rfl) ?_ _
   clear hHeld HM HF3 HSRC HONE HOR HBX KV KS HNX HB2 HB3 HNP HPL hlt8
   go_wp2
   go_roundw
   case rel=>exact ⟨k+1,by go_num,by omega,(Uh HR).1,(Uh HR).2⟩
   case measure=>simp [intOf]; omega
  ·obtain rfl:k=fs.length:=by omega
   rw [List.take_of_length_le (Nat.le_refl _)] at hor
   have KB:=Hd (built_any w1 wr _ _ hbel hor (by have:=(Uh HRL) fs.length; rw [List.take_of_length_le (Nat.le_refl _)] at this; omega) (Uh HVAL))
   obtain ⟨ro,rcap,hre,_,_⟩:=hor.sr.shape
   subst hre
   clear hor hbel HREC HST HOK HRL HVAL
   go_wp2_with fail
   refine (Uh KB).mono ?_
   intro e w9 hB9
   have h9:=(Uh HEND) e w9 hB9
   obtain ⟨a,m,rfl,q2,q3,q4,q5⟩:=h9
   have HF:BuiltB w (Cn.rangesA (fun _ r=>Cn.value r) 1 fs) (.returned (.pointer (some a))) w9:=⟨a,m,rfl,q2,q3,q4,q5⟩
   clear KB hB9 HEND q2 q3 q4 q5
   go_wp2
   go_ret
   exact HF
open Ti
def SpkB (w:World) (fs:List Rec) (e:Ending) (w':World):Prop:=∃ a m vl ps,e=.returned (.agg #[.pointer (some a),vl])∧m.Perm (Cn.rangesA (fun i _=>(i:Int)) 1 fs)∧(m.Pairwise fun x y=>Tri.lo x≤Tri.lo y)∧T4 w' w.heap.size (.pointer (some a)) m 0∧Rown w' w.heap.size vl ps∧ps.map (·.1)=Cn.none :: fs∧Below w.heap.size w w'
structure Spst (w w1 wr:World) (rv lv:Value) (xs:List Tri.Rg) (ps:List (Rec × Value)):Prop where
 bel:Below w.heap.size w wr
 sz:w1.heap.size≤wr.heap.size
 s1:w.heap.size+2≤w1.heap.size
 old:∀ g,g<w1.heap.size→g≠w.heap.size+1→wr.heap[g]?=w1.heap[g]?
 res:w1.heap[w.heap.size]?=some (.cells #[.pointer none,.slice none 0 0] 77 (0,0))
 rng:Or4 wr w1.heap.size rv xs
 rcs:Rown wr w.heap.size lv ps
 lvb:∀ g,lv.ownBlock=some g→g=w.heap.size+1∨w1.heap.size≤g
section
variable {w w1 wr w':World} {rv lv v' vt:Value} {xs ys:List Tri.Rg} {ps:List (Rec × Value)} {r:Rec} {o:Obj}
theorem Spst.below (h:Spst w w1 wr rv lv xs ps) (hb:Below wr.heap.size wr w'):Spst w w1 w' rv lv xs ps :=
 ⟨bthen h.bel hb,Nat.le_trans h.sz hb.size,h.s1,fun g h1 h2=>by rw [hb.block g (by have:=h.sz; omega)]; exact h.old g h1 h2,h.res,h.rng.below hb,⟨own_keep h.rcs.1 fun g hg=>hb.block g (h.rcs.1.lt g hg).2,fun p hp=>(h.rcs.2 p hp).below hb⟩,h.lvb⟩
theorem Spst.keep (h:Spst w w1 wr rv lv xs ps) {B} (hs:wr.heap.size≤w'.heap.size) (hb:Below w.heap.size w w') (hB:w1.heap.size≤B) (hk:∀ g,g<wr.heap.size→g≠B→w'.heap[g]?=wr.heap[g]?) (hr:rv.ownBlock≠some B) (hl:lv.ownBlock≠some B) (hp:∀ p∈ps,p.2.ownBlock≠some B):Spst w w1 w' rv lv xs ps :=
 ⟨hb,Nat.le_trans h.sz hs,h.s1,fun g h1 h2=>by rw [hk g (by have:=h.sz; omega) (by omega)]; exact h.old g h1 h2,h.res,⟨h.rng.1,h.rng.2.1,own_keep h.rng.2.2 fun g hg=>hk g (h.rng.2.2.lt g hg).2 (fun e=>hr (by rw [hg,e]))⟩,
  ⟨own_keep h.rcs.1 fun g hg=>hk g (h.rcs.1.lt g hg).2 (fun e=>hl (by rw [hg,e])),fun p hp'=>(h.rcs.2 p hp').keep fun g hg=>hk g ((h.rcs.2 p hp').2.2.lt g hg).2 (fun e=>hp p hp' (by rw [hg,e]))⟩,h.lvb⟩
theorem Spst.ranges (h:Spst w w1 wr rv lv xs ps) (hy:FitR ys) (hl:xs.length+ys.length≤5000000000) (hr:w'.ownsRow w1.heap.size 218 3 v' (xs.length+ys.length) (Ti.rcells xs++Ti.rcells ys)) (hg:wr.grownBy w' rv.ownBlock):Spst w w1 w' v' lv (xs++ys) ps:=by
 have k:∀ g,g<wr.heap.size→rv.ownBlock≠some g→w'.heap[g]?=wr.heap[g]?:=fun g h1 h2=>hg.block g h1 (fun e=>h2 e.symm)
 have hrv:∀ g,rv.ownBlock=some g→w1.heap.size≤g:=fun g hg'=>(h.rng.2.2.lt g hg').1
 refine ⟨h.bel.grown hg h.bel.size (fun g hg'=>Nat.le_trans (by have:=h.s1; omega) (hrv g hg')),Nat.le_trans h.sz hg.size,h.s1,fun g h1 h2=>?_,h.res,⟨fun x hx=>?_,by rw [List.length_append]; omega,by rw [List.length_append,Ti.rcells_app]; exact hr⟩,⟨own_keep h.rcs.1 fun g hg'=>k g (h.rcs.1.lt g hg').2 (own_apart h.rcs.1 h.rng.2.2 (by decide) hg'),fun p hp=>?_⟩,h.lvb⟩
 ·rw [k g (by have:=h.sz; omega) (fun e=>by have:=hrv g e; omega)]; exact h.old g h1 h2
 ·rcases List.mem_append.1 hx with hx | hx
  ·exact h.rng.1 x hx
  ·exact hy x hx
 ·have hop:=h.rcs.2 p hp
  exact hop.keep fun g hg'=>k g (hop.2.2.lt g hg').2 (own_apart hop.2.2 h.rng.2.2 (by decide) hg')
theorem Spst.more (h:Spst w w1 wr rv lv xs ps) (ht:Ok .i32 21 wr w.heap.size vt r.to) {gg cap} (hr:w'.ownsRow w.heap.size 59 8 (.slice (some ⟨gg,0,none⟩) (ps.length+1) cap) (ps.length+1) (rcells ps++rcell (r,vt))) (hg:(wr.alloc o).grownBy w' lv.ownBlock) (hat:lv.ownBlock=some gg∨gg=wr.heap.size+1):Spst w w1 w' rv (.slice (some ⟨gg,0,none⟩) (ps.length+1) cap) xs (ps++[(r,vt)]):=by
 have hs:=h.bel.size
 have hsz:=h.sz
 have hs1:=h.s1
 have k:∀ g,g<wr.heap.size→lv.ownBlock≠some g→w'.heap[g]?=wr.heap[g]?:=fun g h1 h2=>by
  rw [hg.block g (by rw [World.size_alloc]; omega) (fun e=>h2 e.symm)]
  exact ((Below.refl wr.heap.size wr).alloc (Nat.le_refl _) o).block g h1
 refine ⟨(h.bel.alloc hs o).grown hg (by rw [World.size_alloc]; omega) (fun g hg'=>(h.rcs.1.lt g hg').1),Nat.le_trans hsz (by have:=hg.size; rw [World.size_alloc] at this; omega),hs1,fun g h1 h2=>?_,h.res,⟨h.rng.1,h.rng.2.1,own_keep h.rng.2.2 fun g hg'=>k g (h.rng.2.2.lt g hg').2 (own_apart h.rng.2.2 h.rcs.1 (by decide) hg')⟩,⟨?_,fun p hp=>?_⟩,fun g hg'=>?_⟩
 ·rw [k g (by omega) (fun e=>by rcases h.lvb g e with h3 | h3 <;> omega)]; exact h.old g h1 h2
 ·rw [rcells_snoc] at hr
  simpa using hr
 ·rcases List.mem_append.1 hp with hp | hp
  ·have hop:=h.rcs.2 p hp
   exact hop.keep fun g hg'=>k g (hop.2.2.lt g hg').2 (own_apart hop.2.2 h.rcs.1 (by decide) hg')
  ·simp only [List.mem_singleton] at hp
   subst hp
   exact ht.keep fun g hg'=>k g (ht.2.2.lt g hg').2 (own_apart ht.2.2 h.rcs.1 (by decide) hg')
 ·simp only [Value.ownBlock,Option.some.injEq] at hg'
  subst hg'
  rcases hat with h3 | h3
  ·exact h.lvb _ h3
  ·exact .inr (by omega)
end
theorem spk_new w:∃ W1 W2,w.alloc (.cells #[.pointer none,.slice none 0 0] 77)=W1∧W1.alloc (.cells #[.int .i64 0,.int .i64 0,.int .i64 0,.int .i64 0,.slice none 0 0,.string ⟨#[]⟩,.string ⟨#[]⟩,.float .f64 0] 59)=W2∧Below w.heap.size w W2∧W1.heap.size=w.heap.size+1∧W2.heap.size=w.heap.size+2∧∀ w1,Below W2.heap.size W2 w1→Spst w w1 w1 (.slice none 0 0) (.slice (some ⟨w.heap.size+1,0,none⟩) 1 1) [] [(Cn.none,.slice none 0 0)]:=by
 refine ⟨_,_,rfl,rfl,((Below.refl _ _).alloc (Nat.le_refl _) _).alloc (by simp) _,World.size_alloc _ _,by rw [World.size_alloc,World.size_alloc],fun w1 hb=>?_⟩
 have hs:=hb.size
 rw [World.size_alloc,World.size_alloc] at hs
 have hb0:Below w.heap.size w ((w.alloc (.cells #[.pointer none,.slice none 0 0] 77)).alloc (.cells #[.int .i64 0,.int .i64 0,.int .i64 0,.int .i64 0,.slice none 0 0,.string ⟨#[]⟩,.string ⟨#[]⟩,.float .f64 0] 59)):=((Below.refl _ _).alloc (Nat.le_refl _) _).alloc (by simp) _
 refine ⟨bthen hb0 hb,Nat.le_refl _,by omega,fun g _ _=>rfl,?_,Or4.nil _ _,⟨⟨rfl,.inr ⟨w.heap.size+1,1,#[.int .i64 0,.int .i64 0,.int .i64 0,.int .i64 0,.slice none 0 0,.string ⟨#[]⟩,.string ⟨#[]⟩,.float .f64 0],rfl,by omega,?_,Nat.le_refl _,by unfold maxLen; omega,rfl,rfl⟩⟩,fun p hp=>?_⟩,fun g hg=>?_⟩
 ·rw [hb.block _ (by rw [World.size_alloc,World.size_alloc]; omega)]
  show ((w.heap.push _).push _)[w.heap.size]?=_
  rw [Array.getElem?_push,Array.getElem?_push]; simp
 ·rw [hb.block _ (by rw [World.size_alloc,World.size_alloc]; omega)]
  show ((w.heap.push _).push _)[w.heap.size+1]?=_
  rw [Array.getElem?_push,if_pos (by simp)]
 ·simp only [List.mem_singleton] at hp
  subst hp
  exact Ok.nil _ _ _ _
 ·simp only [Value.ownBlock,Option.some.injEq] at hg
  exact .inl hg.symm
theorem no_i32 (k:Nat) z (h:[Value.int .i64 0,.int .i64 0,.int .i64 0,.int .i64 0,.slice none 0 0,.string ⟨#[]⟩,.string ⟨#[]⟩,.float .f64 0][k]?=some (.int .i32 z)):False:=by grind
theorem sk_far {w1 W B} (hB:w1.heap[B]?=some (.cells #[.int .i64 0,.int .i64 0,.int .i64 0,.int .i64 0,.slice none 0 0,.string ⟨#[]⟩,.string ⟨#[]⟩,.float .f64 0] 59 (0,0))) (hk:∀ g,g<w1.heap.size→g≠B→W.heap[g]?=w1.heap[g]?) {va zs} (h:Sk .i32 w1 va zs):Sk .i32 W va zs:=by
 obtain ⟨h1,h2,h3⟩:=h
 refine ⟨h1,h2,?_⟩
 rcases h3 with h3 | ⟨b,off,cap,e,c1,c2,c3⟩
 ·exact .inl h3
 ·refine .inr ⟨b,off,cap,e,c1,c2,fun i hi=>?_⟩
  have hc:=c3 i hi
  have hne:b≠B:=fun e=>by
   subst e
   rw [map_getD .i32 zs i (by simpa using hi)] at hc
   simp only [World.cell?,hB] at hc
   exact no_i32 _ _ (by simpa using hc)
  rw [World.cell?_of_block (hk b (lt_of_cell? hc) hne)]
  exact hc
theorem own_tag9 {w:World} {B e sz n:Nat} {v us} (h:w.ownsRow B e sz v n us) {g} (hg:v.ownBlock=some g):∃ cur,w.heap[g]?=some (.cells cur e (0,0)):=by
 rcases h.2 with ⟨rfl,_⟩ | ⟨g',cap,cur,rfl,_,hh,_⟩
 ·cases hg
 ·simp only [Value.ownBlock,Option.some.injEq] at hg
  subst hg
  exact ⟨cur,hh⟩
theorem tag_ne {w:World} {B e e' sz n g:Nat} {v us cur} (h:w.ownsRow B e sz v n us) (hh:w.heap[g]?=some (.cells cur e' (0,0))) (hne:e≠e'):v.ownBlock≠some g:=fun hg=>by
 obtain ⟨c,hc⟩:=own_tag9 h hg
 rw [hh] at hc
 simp only [Option.some.injEq,Obj.cells.injEq] at hc
 exact hne hc.2.1.symm
theorem cells8u {w:World} {g c0 c1 c2 c3 c4 c5 c6 c7} (h:w.heap[g]?=some (.cells #[c0,c1,c2,c3,c4,c5,c6,c7] 59 (0,0))):w.cell? ⟨g,0,none⟩=some c0∧w.cell? ⟨g,1,none⟩=some c1∧w.cell? ⟨g,2,none⟩=some c2∧w.cell? ⟨g,3,none⟩=some c3∧w.cell? ⟨g,4,none⟩=some c4∧w.cell? ⟨g,5,none⟩=some c5∧w.cell? ⟨g,6,none⟩=some c6∧w.cell? ⟨g,7,none⟩=some c7 :=
 ⟨cell_of (j:=0) h (by show 0<8; omega),cell_of (j:=1) h (by show 1<8; omega),cell_of (j:=2) h (by show 2<8; omega),cell_of (j:=3) h (by show 3<8; omega),cell_of (j:=4) h (by show 4<8; omega),cell_of (j:=5) h (by show 5<8; omega),cell_of (j:=6) h (by show 6<8; omega),cell_of (j:=7) h (by show 7<8; omega)⟩
def BuiltG (w:World) (v:Value) (xs:List Tri.Rg) (e:Ending) (w':World):Prop:=∃ a m,e=.returned (.pointer (some a))∧m.Perm xs∧(m.Pairwise fun x y=>Tri.lo x≤Tri.lo y)∧T4 w' w.heap.size (.pointer (some a)) m 0∧w.grownBy w' v.ownBlock
theorem grown_then {a b c:World} {row} (h:a.grownBy b row) (k:Below b.heap.size b c):a.grownBy c row:=by
 refine ⟨k.os.trans h.os,k.tape.trans h.tape,k.output.trans h.output,Nat.le_trans h.size k.size,fun g h1 h2=>?_⟩
 rw [k.block g (Nat.lt_of_lt_of_le h1 h.size)]
 exact h.block g h1 h2
set_option maxRecDepth 8000 in
set_option maxHeartbeats 2000000 in
theorem builtG_any B w v (xs:List Tri.Rg) (h:Or4 w B v xs) (hl:xs.length≤5000000000) (hv:∀ m:List Tri.Rg,m.Perm xs→(m.Pairwise fun x y=>Tri.lo x≤Tri.lo y)→Tri.Val 0 m):Calls Tryz.prog 126 #[v] w (BuiltG w v xs):=by
 have K1:=Hd (sortG_any w B v xs h hl)
 have HV:=Hd hv
 obtain ⟨ao,cap,rfl,_,_⟩:=h.sr.shape
 go_enter Tryz.func126,Tryz.ntmps126
 go_wp2_with fail
 refine (Uh K1).mono ?_
 rintro e1 w1 ⟨rfl,ys,hp,hso,hsr,hg⟩
 have hval:=(Uh HV) ys hp hso
 have K2:=Hd (build4 _ ys 0 w1 hsr ⟨by omega,by omega⟩)
 have hck:(Tri.check 0 ys).2=0:=Tri.check_ok.2 ⟨hval,by omega,by omega⟩
 have HCK:=Hd hck
 have HP:=Hd hp
 have HSO:=Hd hso
 have HG:=Hd hg
 go_wp2_with fail
 refine (Uh K2).mono ?_
 rintro e2 w2 ⟨hb2,⟨_,a,rfl,hT⟩ | ⟨hno,_⟩⟩
 ·have HF:BuiltG w (.slice ao xs.length cap) xs (.returned (.pointer (some a))) w2:=⟨a,ys,rfl,Uh HP,Uh HSO,hT.lower (Uh HG).size,grown_then (Uh HG) hb2⟩
  go_wp2
  go_ret
  exact HF
 ·exact absurd (Uh HCK) hno
theorem Spst.fin {w w1 wr w9 rv lv} {xs:List Tri.Rg} {ps:List (Rec × Value)} (h:Spst w w1 wr rv lv xs ps) (hg:wr.grownBy w9 rv.ownBlock) {a} {m:List Tri.Rg} (hT:T4 w9 wr.heap.size (.pointer (some a)) m 0) :
  w9.heap[w.heap.size]?=some (.cells #[.pointer none,.slice none 0 0] 77 (0,0)) ∧
  ((w9.setCell ⟨w.heap.size,0,none⟩ (.pointer (some a))).setCell ⟨w.heap.size,1,none⟩ lv).heap[w.heap.size]?=some (.cells #[.pointer (some a),lv] 77 (0,0)) ∧
  T4 ((w9.setCell ⟨w.heap.size,0,none⟩ (.pointer (some a))).setCell ⟨w.heap.size,1,none⟩ lv) w.heap.size (.pointer (some a)) m 0∧Rown ((w9.setCell ⟨w.heap.size,0,none⟩ (.pointer (some a))).setCell ⟨w.heap.size,1,none⟩ lv) w.heap.size lv ps ∧
  Below w.heap.size w ((w9.setCell ⟨w.heap.size,0,none⟩ (.pointer (some a))).setCell ⟨w.heap.size,1,none⟩ lv):=by
 have s1:=h.s1
 have sz:=h.sz
 have k:∀ g,g<wr.heap.size→rv.ownBlock≠some g→w9.heap[g]?=wr.heap[g]?:=fun g h1 h2=>hg.block g h1 (fun e=>h2 e.symm)
 have hrv:∀ g,rv.ownBlock=some g→w1.heap.size≤g:=fun g hg'=>(h.rng.2.2.lt g hg').1
 have hres:w9.heap[w.heap.size]?=some (.cells #[.pointer none,.slice none 0 0] 77 (0,0)):=by
  rw [k _ (by omega) (fun e=>by have:=hrv _ e; omega),h.old _ (by omega) (by omega)]
  exact h.res
 have hR9:Rown w9 w.heap.size lv ps:=⟨own_keep h.rcs.1 fun g hg'=>k g (h.rcs.1.lt g hg').2 (own_apart h.rcs.1 h.rng.2.2 (by decide) hg'),fun p hp=>(h.rcs.2 p hp).keep fun g hg'=>k g ((h.rcs.2 p hp).2.2.lt g hg').2 (own_apart (h.rcs.2 p hp).2.2 h.rng.2.2 (by decide) hg')⟩
 have f2:∀ g,g≠w.heap.size→((w9.setCell ⟨w.heap.size,0,none⟩ (.pointer (some a))).setCell ⟨w.heap.size,1,none⟩ lv).heap[g]?=w9.heap[g]?:=fun g hne=>by rw [set_other _ hne,set_other _ hne]
 have hb9:Below w.heap.size w w9:=h.bel.grown hg h.bel.size (fun g hg'=>by have:=hrv g hg'; omega)
 refine ⟨hres,?_,?_,⟨own_keep hR9.1 fun g hg'=>f2 g (fun e=>tag_ne hR9.1 hres (by decide) (by rw [hg',e])),fun p hp=>(hR9.2 p hp).keep fun g hg'=>f2 g (fun e=>tag_ne (hR9.2 p hp).2.2 hres (by decide) (by rw [hg',e]))⟩,below_set (below_set hb9 (Nat.le_refl _) _) (Nat.le_refl _) _⟩
 ·rw [set_block (set_block hres _)]; rfl
 ·exact T4.lower (hT.keep (by rw [set_size,set_size]; exact Nat.le_refl _) fun g h1 _=>f2 g (by omega)) (by omega)
open Go.RowKit Go.MapKept Go.WideMaps
open Go.ChangeMaps (setBlock)
theorem setBlock_at {w b o} (h:b<w.heap.size):(setBlock w b o).heap[b]?=some o:=by
 show (w.heap.setIfInBounds b o)[b]?=_
 simp [h]
theorem setBlock_far {w b g o} (h:g≠b):(setBlock w b o).heap[g]?=w.heap[g]?:=by
 show (w.heap.setIfInBounds b o)[g]?=_
 simp [Ne.symm h]
theorem setBlock_size w b o:(setBlock w b o).heap.size=w.heap.size:=by
 show (w.heap.setIfInBounds b o).size=_
 simp
theorem below_block {B a w} (h:Below B a w) {b} (hb:B≤b) o:Below B a (setBlock w b o):=by
 refine ⟨h.os,h.tape,h.output,?_,fun g hg=>?_⟩
 ·rw [setBlock_size]; exact h.size
 ·rw [setBlock_far (by omega)]; exact h.block g hg
structure Cst (w wr:World) (lp ls:List Rec):Prop where
 bel:Below w.heap.size w wr
 sz:w.heap.size+4≤wr.heap.size
 res:wr.heap[w.heap.size]?=some (.cells #[.map none,.map none] 87 (0,0))
 hx:wr.heap[w.heap.size+3]?=some (.cells #[.map (some (w.heap.size+1)),.map (some (w.heap.size+2))] 87 (0,0))
 mp:GAt KP wr (w.heap.size+1) (pairC lp)
 ms:GAt KR wr (w.heap.size+2) (secC ls)
section
variable {w wr w':World} {lp ls lp' ls':List Rec}
theorem Cst.below (h:Cst w wr lp ls) (hb:Below wr.heap.size wr w'):Cst w w' lp ls:=by
 have sz:=h.sz
 obtain ⟨e1,c1,m1,m2⟩:=h.mp
 obtain ⟨e2,c2,s1,s2⟩:=h.ms
 exact ⟨bthen h.bel hb,Nat.le_trans sz hb.size,by rw [hb.block _ (by omega)]; exact h.res,by rw [hb.block _ (by omega)]; exact h.hx,⟨e1,c1,by rw [hb.block _ (by omega)]; exact m1,m2⟩,⟨e2,c2,by rw [hb.block _ (by omega)]; exact s1,s2⟩⟩
theorem Cst.pair (h:Cst w wr lp ls) {es:Array MapEntry} {cl} (hg:GObj KP es cl (pairC lp')):Cst w (setBlock wr (w.heap.size+1) (.map es cl)) lp' ls:=by
 have sz:=h.sz
 obtain ⟨e2,c2,s1,s2⟩:=h.ms
 exact ⟨below_block h.bel (by omega) _,by rw [setBlock_size]; exact sz,by rw [setBlock_far (by omega)]; exact h.res,by rw [setBlock_far (by omega)]; exact h.hx,⟨es,cl,setBlock_at (by omega),hg⟩,⟨e2,c2,by rw [setBlock_far (by omega)]; exact s1,s2⟩⟩
theorem Cst.second (h:Cst w wr lp ls) {es:Array MapEntry} {cl} (hg:GObj KR es cl (secC ls')):Cst w (setBlock wr (w.heap.size+2) (.map es cl)) lp ls':=by
 have sz:=h.sz
 obtain ⟨e2,c2,s1,s2⟩:=h.mp
 exact ⟨below_block h.bel (by omega) _,by rw [setBlock_size]; exact sz,by rw [setBlock_far (by omega)]; exact h.res,by rw [setBlock_far (by omega)]; exact h.hx,⟨e2,c2,by rw [setBlock_far (by omega)]; exact s1,s2⟩,⟨es,cl,setBlock_at (by omega),hg⟩⟩
def CmpB (w:World) (rs:List Rec) (e:Ending) (w':World):Prop:=∃ r1 r2,e=.returned (.agg #[.map (some r1),.map (some r2)])∧w.heap.size≤r1∧w.heap.size≤r2∧GAt KP w' r1 (pairC rs)∧GAt KR w' r2 (secC rs)∧Below w.heap.size w w'
theorem Cst.fin (h:Cst w wr lp lp):((wr.setCell ⟨w.heap.size,0,none⟩ (.map (some (w.heap.size+1)))).setCell ⟨w.heap.size,1,none⟩ (.map (some (w.heap.size+2)))).heap[w.heap.size]?=some (.cells #[.map (some (w.heap.size+1)),.map (some (w.heap.size+2))] 87 (0,0)) ∧
  CmpB w lp (.returned (.agg #[.map (some (w.heap.size+1)),.map (some (w.heap.size+2))])) ((wr.setCell ⟨w.heap.size,0,none⟩ (.map (some (w.heap.size+1)))).setCell ⟨w.heap.size,1,none⟩ (.map (some (w.heap.size+2)))):=by
 have sz:=h.sz
 have f2:∀ g,g≠w.heap.size→((wr.setCell ⟨w.heap.size,0,none⟩ (.map (some (w.heap.size+1)))).setCell ⟨w.heap.size,1,none⟩ (.map (some (w.heap.size+2)))).heap[g]?=wr.heap[g]?:=fun g hne=>by rw [set_other _ hne,set_other _ hne]
 obtain ⟨e1,c1,m1,m2⟩:=h.mp
 obtain ⟨e2,c2,s1,s2⟩:=h.ms
 refine ⟨by rw [set_block (set_block h.res _)]; rfl,_,_,rfl,by omega,by omega,⟨e1,c1,by rw [f2 _ (by omega)]; exact m1,m2⟩,⟨e2,c2,by rw [f2 _ (by omega)]; exact s1,s2⟩,below_set (below_set h.bel (Nat.le_refl _) _) (Nat.le_refl _) _⟩
end
theorem cst_new w:∃ W1 W2 W3 W4,w.alloc (.cells #[.map none,.map none] 87)=W1∧W1.alloc (.map #[] 0)=W2∧W2.alloc (.map #[] 0)=W3∧W3.alloc (.cells #[.map (some (w.heap.size+1)),.map (some (w.heap.size+2))] 87)=W4∧W1.heap.size=w.heap.size+1∧W2.heap.size=w.heap.size+2∧W3.heap.size=w.heap.size+3∧Cst w W4 [] []:=by
 refine ⟨_,_,_,_,rfl,rfl,rfl,rfl,by simp,by simp,by simp,?_⟩
 have hb:Below w.heap.size w ((((w.alloc (.cells #[.map none,.map none] 87)).alloc (.map #[] 0)).alloc (.map #[] 0)).alloc (.cells #[.map (some (w.heap.size+1)),.map (some (w.heap.size+2))] 87)):=((((Below.refl _ _).alloc (Nat.le_refl _) _).alloc (by simp) _).alloc (by simp; omega) _).alloc (by simp; omega) _
 refine ⟨hb,by simp,?_,?_,⟨#[],0,?_,gempty _ _ pairC_nil⟩,⟨#[],0,?_,gempty _ _ secC_nil⟩⟩
 ·show ((((w.heap.push _).push _).push _).push _)[w.heap.size]?=_
  rw [Array.getElem?_push,Array.getElem?_push,Array.getElem?_push,Array.getElem?_push]
  simp only [Array.size_push]
  rw [if_neg (by omega),if_neg (by omega),if_neg (by omega),if_pos trivial]
 ·show ((((w.heap.push _).push _).push _).push _)[w.heap.size+3]?=_
  rw [Array.getElem?_push,Array.getElem?_push,Array.getElem?_push,Array.getElem?_push]
  simp only [Array.size_push]
  rw [if_pos trivial]
 ·show ((((w.heap.push _).push _).push _).push _)[w.heap.size+1]?=_
  rw [Array.getElem?_push,Array.getElem?_push,Array.getElem?_push,Array.getElem?_push]
  simp only [Array.size_push]
  rw [if_neg (by omega),if_neg (by omega),if_pos trivial]
 ·show ((((w.heap.push _).push _).push _).push _)[w.heap.size+2]?=_
  rw [Array.getElem?_push,Array.getElem?_push,Array.getElem?_push,Array.getElem?_push]
  simp only [Array.size_push]
  rw [if_neg (by omega),if_pos trivial]
open Go.RowKit Go.MapKept Go.WideMaps
open Go.ChangeMaps (setBlock)
structure Cbx (W:World) (g x m1 m2 b off:Nat) (lo p q:Int) (vt:Value):Prop where
 lo:W.cell? ⟨g,1,none⟩=some (.int .i64 lo)
 lst:W.cell? ⟨g,4,none⟩=some vt
 x0:W.cell? ⟨x,0,none⟩=some (.map (some m1))
 x1:W.cell? ⟨x,1,none⟩=some (.map (some m2))
 a:W.cell? ⟨b,off,none⟩=some (.int .i32 p)
 b:W.cell? ⟨b,off+1,none⟩=some (.int .i32 q)
theorem Cbx.block {W:World} {g x m1 m2 b off r:Nat} {lo p q:Int} {vt:Value} (h:Cbx W g x m1 m2 b off lo p q vt) {es:Array MapEntry} {cl:Nat} (o:Obj) (hr:W.heap[r]?=some (.map es cl)):Cbx (setBlock W r o) g x m1 m2 b off lo p q vt:=by
 have k:∀ g' j v,W.cell? ⟨g',j,none⟩=some v→(setBlock W r o).cell? ⟨g',j,none⟩=some v:=fun g' j v hc=>by
  have hne:g'≠r:=fun e=>by
   subst e
   simp only [World.cell?,hr] at hc
   cases hc
  rw [World.cell?_of_block (setBlock_far hne)]
  exact hc
 exact ⟨k _ _ _ h.lo,k _ _ _ h.lst,k _ _ _ h.x0,k _ _ _ h.x1,k _ _ _ h.a,k _ _ _ h.b⟩
theorem Cbx.drew {W:World} {g x m1 m2 b off:Nat} {lo p q:Int} {vt:Value} (h:Cbx W g x m1 m2 b off lo p q vt):Cbx W.drew g x m1 m2 b off lo p q vt:=⟨h.lo,h.lst,h.x0,h.x1,h.a,h.b⟩
theorem umake_map (t:TypeId) (W:World):(Instr.makeMap t none).run Tryz.prog W=.ok (.map (some W.heap.size)) (W.alloc (.map #[] 0)):=by
 simp [Instr.makeMap,Result.andThen]
theorem Tryz.info93:(Tryz.prog.info? 3).map (fun i=>(i.zero,i.size,i.bytes))=some (some (.int .i64 0),1,8):=by kernel_rfl
theorem zero_i64 (w:World):(zeroValue 3).run Tryz.prog w=.ok (.int .i64 0) w:=by
 obtain ⟨i,h1,h2,_,_⟩:=info_parts Tryz.info93
 simp [zeroValue,typeInfo,run_program,Result.andThen,h1,h2]
theorem secC_get (l:List Rec) (b:Int):(secC l (.int .i32 b)).getD (.int .i64 0)=.int .i64 (Cn.secOf l b:Nat):=by
 show (if Cn.secOf l b=0 then none else some (Value.int .i64 (Cn.secOf l b:Nat))).getD _=_
 by_cases h:Cn.secOf l b=0
 ·rw [if_pos h,h]; rfl
 ·rw [if_neg h]; rfl
set_option maxRecDepth 8000 in
set_option maxHeartbeats 8000000 in
theorem compositionsOf_any (v:Value) (rs:List Rec) (w:World) (hv:Rcs w v rs) (hok:∀ r∈rs,r.kind=7→r.to.length=2∧0≤r.lo∧r.lo≤1114111) (hl:rs.length≤4096):Calls Tryz.prog 80 #[v] w (CmpB w rs):=by
 obtain ⟨W1,W2,W3,W4,hW1,hW2,hW3,hW4,hs1,hs2,hs3,hC0⟩:=cst_new w
 have hlen:=hv.1
 obtain ⟨ao,cap,hve,_,_⟩:=hv.shape
 have HREC:Hid (∀ k W,k<rs.length→Below w.heap.size w W→∃ b off,v=.slice (some ⟨b,off,none⟩) rs.length cap∧RecAt W b (off+k * 8) (rs.getD k Cn.none)∧RecFit (rs.getD k Cn.none)):=fun k W hk hW=>by
  obtain ⟨b,off,cap',he,_,_,hc⟩:=(hv.below hW).place (by omega)
  rw [hve] at he
  obtain ⟨e1,e2,e3⟩:=Value.slice.inj he
  refine ⟨b,off,?_,hc k hk,(hv.below hW).fit hk⟩
  rw [hve,e1]
 have HST:Hid (∀ k,k<rs.length→rs.take (k+1)=rs.take k++[rs.getD k Cn.none]∧rs.getD k Cn.none∈rs):=fun k hk=>by
  refine ⟨?_,?_⟩
  ·rw [List.take_add_one]
   simp [List.getD,hk]
  ·simp [List.getD,hk]
 have HOK:=Hd hok
 have HC0:=Hd hC0
 clear hv hok hC0
 subst hve
 have hmk:=umake_map
 go_enter Tryz.func80,Tryz.ntmps80
 go_wp2
 clear hmk
 go_loopw [5,11] (fun _ iv wr=>∃ k:Nat,iv=.int .i64 k∧k≤rs.length∧Cst w wr (rs.take k) (rs.take k)) (fun _ iv _=>rs.length - (intOf iv).toNat)
 case atStart=>exact ⟨0,rfl,by omega,Uh HC0⟩
 case round =>
  obtain ⟨k,rfl,hk,hC⟩:=hrel
  clear HC0 hW1 hW2 hW3 hW4 hs1 hs2
  by_cases hlt:k<rs.length
  ·obtain ⟨b,off,he,hA,hfit⟩:=(Uh HREC) k wr hlt hC.bel
   obtain ⟨q1,_,_⟩:=Value.slice.inj he
   clear he
   subst q1
   obtain ⟨HX2,hmem⟩:=(Uh HST) k hlt
   have hk7:=(Uh HOK) _ hmem
   obtain ⟨x0,x1,x2,x3,⟨va,x4,ska⟩,x5,x6,x7⟩:=hA
   obtain ⟨tao,tcap,rfl,_,_⟩:=ska.shape
   clear HREC HST HOK hmem
   generalize rs.getD k Cn.none=r at *
   obtain ⟨V1,hV1⟩:∃ V1,wr.alloc (.cells #[.int .i64 r.kind,.int .i64 r.lo,.int .i64 r.hi,.int .i64 r.n,.slice tao r.to.length tcap,.string r.name,.string r.other,.float .f64 r.wt] 59)=V1:=⟨_,rfl⟩
   have hbw:Below wr.heap.size wr V1:=by rw [← hV1]; exact (Below.refl _ _).alloc (Nat.le_refl _) _
   have hbox:V1.heap[wr.heap.size]?=some (.cells #[.int .i64 r.kind,.int .i64 r.lo,.int .i64 r.hi,.int .i64 r.n,.slice tao r.to.length tcap,.string r.name,.string r.other,.float .f64 r.wt] 59 (0,0)):=by
    rw [← hV1]
    show (wr.heap.push _)[wr.heap.size]?=_
    simp
   have hC1:=hC.below hbw
   have hfl:∀ W a m,(store a (.float .f64 r.wt) m).run Tryz.prog W=stored Tryz.prog W a (.float .f64 r.wt) m:=fun W a m=>run_store Tryz.prog W a _ m rfl
   obtain ⟨z0,z1,z2,z3,z4,z5,z6,z7⟩:=cells8u hbox
   have HC1:=Hd hC1
   have HSK:=Hd (ska.below hbw)
   have hfi:=hfit.lo
   clear hC hC1 ska hbw hbox hfit
   by_cases h7:r.kind=7
   ·obtain ⟨t2,l0,l1⟩:=hk7 h7
    have hra:Rune (r.to.getD 0 0):=rune_of (Uh HSK) (by omega)
    have hrb:Rune (r.to.getD 1 0):=rune_of (Uh HSK) (by omega)
    have HXP1:Hid (pairC (rs.take k++[r]) (pk2 (r.to.getD 0 0) (r.to.getD 1 0))=some (.int .i32 r.lo)):=by
     show pairC (rs.take k++[r]) (pk2 (r.to.getD 0 0) (r.to.getD 1 0))=_
     have hp:Cn.isP (r.to.getD 0 0) (r.to.getD 1 0) r=true:=decide_eq_true ⟨h7,rfl,rfl⟩
     rw [pairC_pk,Cn.pairOf_snoc,if_pos hp]
     rfl
    have HXP2:Hid (∀ x,x≠pk2 (r.to.getD 0 0) (r.to.getD 1 0)→pairC (rs.take k++[r]) x=pairC (rs.take k) x):=fun x hx=>pairC_other fun a b e q=>hx (by rw [e,← q.2.1,← q.2.2])
    have HXS1:Hid (secC (rs.take k++[r]) (.int .i32 (r.to.getD 1 0))=some (.int .i64 ((Cn.secOf (rs.take k) (r.to.getD 1 0):Nat)+1))):=by
     show (if Cn.secOf (rs.take k++[r]) (r.to.getD 1 0)=0 then none else some (Value.int .i64 (Cn.secOf (rs.take k++[r]) (r.to.getD 1 0):Nat)))=_
     have hs:Cn.secOf (rs.take k++[r]) (r.to.getD 1 0)=Cn.secOf (rs.take k) (r.to.getD 1 0)+1:=by
      rw [Cn.secOf_snoc,if_pos (And.intro h7 rfl)]
     rw [hs,if_neg (by omega)]
     rfl
    have HXS2:Hid (∀ x,x≠Value.int .i32 (r.to.getD 1 0)→secC (rs.take k++[r]) x=secC (rs.take k) x):=fun x hx=>secC_other fun b e q=>hx (by rw [e,← q.2])
    have hsle:=Cn.secOf_le (rs.take k) (r.to.getD 1 0)
    have hsl2:Cn.secOf (rs.take k) (r.to.getD 1 0)≤4096:=by rw [List.length_take] at hsle; omega
    obtain ⟨pb,po,pc,hpe,_,_,hpc⟩:=(Uh HSK).place (by omega)
    have ya:=hpc 0 (by omega)
    have yb:=hpc 1 (by omega)
    rw [Nat.add_zero] at ya
    obtain ⟨e1,_,e3⟩:=Value.slice.inj hpe
    subst e1
    subst e3
    have hX:=(Uh HC1).hx
    have HB0:Hid (Cbx V1 wr.heap.size (w.heap.size+3) (w.heap.size+1) (w.heap.size+2) pb po r.lo (r.to.getD 0 0) (r.to.getD 1 0) (.slice (some ⟨pb,po,none⟩) r.to.length tcap)):=⟨z1,z4,cell_of (j:=0) hX (by show 0<2; omega),cell_of (j:=1) hX (by show 1<2; omega),ya,yb⟩
    obtain ⟨es,cl,hu,hgo⟩:=g_update (w:=V1.drew) (M:=84) klP Tryz.underlying84 (r:=w.heap.size+1) (Uh HC1).mp ⟨_,_,rfl,hra,hrb⟩ (Uh HXP1) (Uh HXP2)
    have HC5:Hid (Cst w (setBlock V1.drew (w.heap.size+1) (.map es cl)) (rs.take k++[r]) (rs.take k)):=((Uh HC1).below (drewB ⟨1,rfl⟩)).pair hgo
    have HB5:Hid (Cbx (setBlock V1.drew (w.heap.size+1) (.map es cl)) wr.heap.size (w.heap.size+3) (w.heap.size+1) (w.heap.size+2) pb po r.lo (r.to.getD 0 0) (r.to.getD 1 0) (.slice (some ⟨pb,po,none⟩) r.to.length tcap)):=by
     obtain ⟨es0,cl0,hm0,_⟩:=(Uh HC1).mp
     exact (Uh HB0).drew.block _ hm0
    have hw32:IntKind.i32.wrap r.lo=r.lo:=by rw [IntKind.wrap_i32]; omega
    have hwa:((Cn.secOf (rs.take k) (r.to.getD 1 0):Nat):Int)+1≤5000:=by omega
    unfold pk2 at hu
    clear hgo HXP1 HXP2 hpc hpe ya yb hX HSK hk7 hsle hra hrb
    rw [t2] at *
    generalize r.to.getD 0 0=pa at *
    generalize r.to.getD 1 0=pb2 at *
    generalize hsn:Cn.secOf (rs.take k) pb2=sn at *
    have HSN:=Hd hsn
    clear hsn
    generalize hkd:r.kind=kd at *
    have hkq:(kd==7)=true:=by rw [beq_iff_eq]; exact h7
    clear hkd h7
    go_wp2
    clear x0 x1 x2 x3 x4 x5 x6 x7 z0 z1 z2 z3 z4 z5 z6 z7
    refine wp_region_held_drew (S:=fun w'=>Cbx w' wr.heap.size (w.heap.size+3) (w.heap.size+1) (w.heap.size+2) pb po r.lo pa pb2 (.slice (some ⟨pb,po,none⟩) 2 tcap)) (by kernel_rfl) (Uh HB0).drew (fun hHeld=>?_)
    refine tk9 0 (.pointer (some ⟨w.heap.size+3,0,none⟩)) ?_ (hy:=by (intro w hSw; obtain ⟨s0,s1,s2,s3,s4,s5⟩:=hSw; go_simp))
    refine tk9 1 (.map (some (w.heap.size+1))) ?_ (hy:=by (intro w hSw; obtain ⟨s0,s1,s2,s3,s4,s5⟩:=hSw; go_simp))
    refine tk9 2 (.pointer (some ⟨wr.heap.size,4,none⟩)) ?_ (hy:=by (intro w hSw; obtain ⟨s0,s1,s2,s3,s4,s5⟩:=hSw; go_simp))
    refine tk9 3 (.slice (some ⟨pb,po,none⟩) 2 tcap) ?_ (hy:=by (intro w hSw; obtain ⟨s0,s1,s2,s3,s4,s5⟩:=hSw; go_simp))
    refine tk9 4 (.pointer (some ⟨pb,po,none⟩)) ?_ (hy:=by (intro w hSw; obtain ⟨s0,s1,s2,s3,s4,s5⟩:=hSw; go_simp))
    refine tk9 5 (.int .i32 pa) ?_ (hy:=by (intro w hSw; obtain ⟨s0,s1,s2,s3,s4,s5⟩:=hSw; go_simp))
    refine tk9 6 (.pointer (some ⟨wr.heap.size,4,none⟩)) ?_ (hy:=by (intro w hSw; obtain ⟨s0,s1,s2,s3,s4,s5⟩:=hSw; go_simp))
    refine tk9 7 (.slice (some ⟨pb,po,none⟩) 2 tcap) ?_ (hy:=by (intro w hSw; obtain ⟨s0,s1,s2,s3,s4,s5⟩:=hSw; go_simp))
    refine tk9 8 (.pointer (some ⟨pb,po+1,none⟩)) ?_ (hy:=by (intro w hSw; obtain ⟨s0,s1,s2,s3,s4,s5⟩:=hSw; go_simp))
    refine tk9 9 (.int .i32 pb2) ?_ (hy:=by (intro w hSw; obtain ⟨s0,s1,s2,s3,s4,s5⟩:=hSw; go_simp))
    refine tk9 10 (.agg #[.int .i32 pa,.int .i32 pb2]) ?_ (hy:=by (intro w hSw; obtain ⟨s0,s1,s2,s3,s4,s5⟩:=hSw; go_simp))
    refine tk9 11 (.pointer (some ⟨wr.heap.size,1,none⟩)) ?_ (hy:=by (intro w hSw; obtain ⟨s0,s1,s2,s3,s4,s5⟩:=hSw; go_simp))
    refine tk9 12 (.int .i64 r.lo) ?_ (hy:=by (intro w hSw; obtain ⟨s0,s1,s2,s3,s4,s5⟩:=hSw; go_simp))
    refine tk9 13 (.int .i32 r.lo) ?_ (hy:=by (intro w hSw; obtain ⟨s0,s1,s2,s3,s4,s5⟩:=hSw; go_simp))
    refine rd9 14 fun K hK=>?_
    go_simp
    refine hK.out _ _ ?_ (fun hHeld=>?_)
    ·exact Uh HB5
    clear hK K
    refine wpAnyH_done (by kernel_rfl) ?_ _
    clear hHeld hu HB0 HC1
    generalize setBlock V1.drew (w.heap.size+1) (.map es cl)=W5 at *
    have HLK:=(g_look (w:=W5.drew) (M:=85) (z:=.int .i64 0) klR Tryz.underlying85 zero_i64 (r:=w.heap.size+2) (Uh HC5).ms ⟨pb2,rfl⟩).2
    rw [secC_get,Uh HSN] at HLK
    obtain ⟨es7,cl7,hu7,hgo7⟩:=g_update (w:=W5.drew) (M:=85) klR Tryz.underlying85 (r:=w.heap.size+2) (Uh HC5).ms ⟨pb2,rfl⟩ (Uh HXS1) (Uh HXS2)
    have HC7:Hid (Cst w (setBlock W5.drew (w.heap.size+2) (.map es7 cl7)) (rs.take k++[r]) (rs.take k++[r])):=((Uh HC5).below (drewB ⟨1,rfl⟩)).second hgo7
    have HB7:Hid (Cbx (setBlock W5.drew (w.heap.size+2) (.map es7 cl7)) wr.heap.size (w.heap.size+3) (w.heap.size+1) (w.heap.size+2) pb po r.lo pa pb2 (.slice (some ⟨pb,po,none⟩) 2 tcap)):=by
     obtain ⟨es0,cl0,hm0,_⟩:=(Uh HC5).ms
     exact (Uh HB5).drew.block _ hm0
    have HB5d:Hid (Cbx W5.drew wr.heap.size (w.heap.size+3) (w.heap.size+1) (w.heap.size+2) pb po r.lo pa pb2 (.slice (some ⟨pb,po,none⟩) 2 tcap)):=(Uh HB5).drew
    have hwr2:IntKind.i64.wrap ((sn:Int)+1)=(sn:Int)+1:=by rw [IntKind.wrap_i64]; omega
    clear hgo7 HXS1 HXS2 HC5 HB5
    go_wp2
    refine wp_region_held_drew (S:=fun w'=>Cbx w' wr.heap.size (w.heap.size+3) (w.heap.size+1) (w.heap.size+2) pb po r.lo pa pb2 (.slice (some ⟨pb,po,none⟩) 2 tcap)) (by kernel_rfl) (Uh HB5d) (fun hHeld=>?_)
    refine tk9 0 (.pointer (some ⟨w.heap.size+3,1,none⟩)) ?_ (hy:=by (intro w hSw; obtain ⟨s0,s1,s2,s3,s4,s5⟩:=hSw; go_simp))
    refine tk9 1 (.map (some (w.heap.size+2))) ?_ (hy:=by (intro w hSw; obtain ⟨s0,s1,s2,s3,s4,s5⟩:=hSw; go_simp))
    refine tk9 2 (.pointer (some ⟨wr.heap.size,4,none⟩)) ?_ (hy:=by (intro w hSw; obtain ⟨s0,s1,s2,s3,s4,s5⟩:=hSw; go_simp))
    refine tk9 3 (.slice (some ⟨pb,po,none⟩) 2 tcap) ?_ (hy:=by (intro w hSw; obtain ⟨s0,s1,s2,s3,s4,s5⟩:=hSw; go_simp))
    refine tk9 4 (.pointer (some ⟨pb,po+1,none⟩)) ?_ (hy:=by (intro w hSw; obtain ⟨s0,s1,s2,s3,s4,s5⟩:=hSw; go_simp))
    refine tk9 5 (.int .i32 pb2) ?_ (hy:=by (intro w hSw; obtain ⟨s0,s1,s2,s3,s4,s5⟩:=hSw; go_simp))
    refine rd9 6 fun K hK=>?_
    go_simp
    refine hK.out _ _ ?_ (fun hHeld=>?_)
    ·exact Uh HB5d
    clear hK K
    try simp only [Act.put,sa9,sb9,sc9]
    refine tk9 7 (.int .i64 ((sn:Int)+1)) ?_
    refine rd9 8 fun K hK=>?_
    go_simp
    refine hK.out _ _ ?_ (fun hHeld=>?_)
    ·exact Uh HB7
    clear hK K
    refine wpAnyH_done (by kernel_rfl) ?_ _
    clear hHeld hu7 HLK HB5d HB7
    generalize setBlock W5.drew (w.heap.size+2) (.map es7 cl7)=W7 at *
    go_wp2
    go_roundw
    case rel=>exact ⟨k+1,by go_num,by omega,by rw [HX2]; exact Uh HC7⟩
    case measure=>simp [intOf]; omega
   ·have hkq:(r.kind==7)=false:=beq_eq_false_iff_ne.2 h7
    have HC2:Hid (Cst w V1 (rs.take k++[r]) (rs.take k++[r])):=by
     have hp:pairC (rs.take k++[r])=pairC (rs.take k):=funext fun v=>pairC_other fun a b _ q=>h7 q.1
     have hs:secC (rs.take k++[r])=secC (rs.take k):=funext fun v=>secC_other fun b _ q=>h7 q.1
     have h:=Uh HC1
     exact ⟨h.bel,h.sz,h.res,h.hx,by rw [hp]; exact h.mp,by rw [hs]; exact h.ms⟩
    clear HC1 HSK hk7 h7
    generalize r.kind=kd at *
    go_wp2
    go_roundw
    case rel=>exact ⟨k+1,by go_num,by omega,by rw [HX2]; exact Uh HC2⟩
    case measure=>simp [intOf]; omega
  ·obtain rfl:k=rs.length:=by omega
   rw [List.take_of_length_le (Nat.le_refl _)] at hC
   have hX:=hC.hx
   have y0:=cell_of (j:=0) hX (by show 0<2; omega)
   have y1:=cell_of (j:=1) hX (by show 1<2; omega)
   have F1:=hC.res
   have z0:=cell_of (j:=0) F1 (by show 0<2; omega)
   have z1:=cell_of (j:=1) F1 (by show 1<2; omega)
   have f0:=fun j=>frozen_of (j:=j) F1
   obtain ⟨F2,F3⟩:=hC.fin
   have HF2:=Hd F2
   have HFF:=Hd F3
   clear HREC HST HOK hC hX F1 F2 F3
   go_wp2
   have hnew:=Uh HF2
   have hfin:=Uh HFF
   clear HF2 HFF y0 y1 f0 z0 z1
   generalize (wr.setCell ⟨w.heap.size,0,none⟩ (.map (some (w.heap.size+1)))).setCell ⟨w.heap.size,1,none⟩ (.map (some (w.heap.size+2)))=w10 at *
   have z0:=cell_of (j:=0) hnew (by show 0<2; omega)
   have z1:=cell_of (j:=1) hnew (by show 1<2; omega)
   refine bodyPost_ret (v:=.agg #[.map (some (w.heap.size+1)),.map (some (w.heap.size+2))]) (by simp [results,Tryz.results80,go_sem,z0,z1]) rfl hfin
open Go.RowKit Go.MapKept Go.WideMaps
open Go.ChangeMaps (setBlock)
open Go.Lib (minS maxS run_min_strs run_max_strs)
def MxAt (w:World) (r:Nat):Prop:=∃ c,GAt KN w r c
theorem mx_update {w:World} {r:Nat} {a b:ByteArray} (h:MxAt w r) (ha:Sh a) (hb:Sh b) (v:Value):∃ es cl,(Instr.mapUpdate 88 (.map (some r)) (pk a b) v).run Tryz.prog w=.ok () (setBlock w r (.map es cl))∧∃ c,GObj KN es cl c:=by
 obtain ⟨c,h⟩:=h
 have dec:∀ x:Value,Decidable (x=pk a b):=fun x=>Classical.propDecidable _
 obtain ⟨es,cl,h1,h2⟩:=g_update (M:=88) (c':=fun x=>@ite _ (x=pk a b) (dec x) (some v) (c x)) klN Tryz.underlying88 h ⟨a,b,rfl,ha,hb⟩ (if_pos rfl) (fun x hx=>if_neg hx)
 exact ⟨es,cl,h1,_,h2⟩
set_option maxRecDepth 8000 in
set_option maxHeartbeats 2000000 in
theorem eitherOrder_any (a b:ByteArray) (w:World):Calls Tryz.prog 128 #[.string a,.string b] w fun e w'=>e=.returned (pk (minS a b) (maxS a b))∧Below w.heap.size w w':=by
 have h1:=@run_min_strs Tryz.prog
 have h2:=@run_max_strs Tryz.prog
 unfold pk
 go_enter Tryz.func128,Tryz.ntmps128
 go_wp2
 go_returns
 exact ⟨rfl,(Below.refl _ _).alloc (Nat.le_refl _) _⟩
structure Mst (w wr:World):Prop where
 bel:Below w.heap.size w wr
 sz:w.heap.size+3≤wr.heap.size
 res:wr.heap[w.heap.size]?=some (.cells #[.map none] 90 (0,0))
 hx:wr.heap[w.heap.size+2]?=some (.cells #[.map (some (w.heap.size+1))] 90 (0,0))
 mp:MxAt wr (w.heap.size+1)
theorem Mst.below {w wr w':World} (h:Mst w wr) (hb:Below wr.heap.size wr w'):Mst w w':=by
 have sz:=h.sz
 obtain ⟨c,e1,c1,m1,m2⟩:=h.mp
 exact ⟨bthen h.bel hb,Nat.le_trans sz hb.size,by rw [hb.block _ (by omega)]; exact h.res,by rw [hb.block _ (by omega)]; exact h.hx,c,e1,c1,by rw [hb.block _ (by omega)]; exact m1,m2⟩
theorem Mst.more {w wr:World} (h:Mst w wr) {es:Array MapEntry} {cl:Nat} (hg:∃ c,GObj KN es cl c):Mst w (setBlock wr (w.heap.size+1) (.map es cl)):=by
 have sz:=h.sz
 obtain ⟨c,hg⟩:=hg
 exact ⟨below_block h.bel (by omega) _,by rw [setBlock_size]; exact sz,by rw [setBlock_far (by omega)]; exact h.res,by rw [setBlock_far (by omega)]; exact h.hx,c,es,cl,setBlock_at (by omega),hg⟩
def MxtB (w:World) (e:Ending) (w':World):Prop:=∃ r,e=.returned (.agg #[.map (some r)])∧w.heap.size≤r∧MxAt w' r∧Below w.heap.size w w'
theorem Mst.fin {w wr:World} (h:Mst w wr):(wr.setCell ⟨w.heap.size,0,none⟩ (.map (some (w.heap.size+1)))).heap[w.heap.size]?=some (.cells #[.map (some (w.heap.size+1))] 90 (0,0))∧MxtB w (.returned (.agg #[.map (some (w.heap.size+1))])) (wr.setCell ⟨w.heap.size,0,none⟩ (.map (some (w.heap.size+1)))):=by
 obtain ⟨c,e1,c1,m1,m2⟩:=h.mp
 exact ⟨by rw [set_block h.res]; rfl,_,rfl,by omega,⟨c,e1,c1,by rw [set_other _ (by omega)]; exact m1,m2⟩,below_set h.bel (Nat.le_refl _) _⟩
theorem mst_new (w:World):∃ W1 W2 W3,w.alloc (.cells #[.map none] 90)=W1∧W1.alloc (.map #[] 0)=W2∧W2.alloc (.cells #[.map (some (w.heap.size+1))] 90)=W3∧W1.heap.size=w.heap.size+1∧W2.heap.size=w.heap.size+2∧Mst w W3:=by
 refine ⟨_,_,_,rfl,rfl,rfl,by simp,by simp,?_⟩
 have hb:Below w.heap.size w (((w.alloc (.cells #[.map none] 90)).alloc (.map #[] 0)).alloc (.cells #[.map (some (w.heap.size+1))] 90)):=(((Below.refl _ _).alloc (Nat.le_refl _) _).alloc (by simp) _).alloc (by simp; omega) _
 refine ⟨hb,by simp,?_,?_,fun _=>none,#[],0,?_,gempty _ _ fun _=>rfl⟩
 ·show (((w.heap.push _).push _).push _)[w.heap.size]?=_
  rw [Array.getElem?_push,Array.getElem?_push,Array.getElem?_push]
  simp only [Array.size_push]
  rw [if_neg (by omega),if_neg (by omega),if_pos trivial]
 ·show (((w.heap.push _).push _).push _)[w.heap.size+2]?=_
  rw [Array.getElem?_push,Array.getElem?_push,Array.getElem?_push]
  simp only [Array.size_push]
  rw [if_pos trivial]
 ·show (((w.heap.push _).push _).push _)[w.heap.size+1]?=_
  rw [Array.getElem?_push,Array.getElem?_push,Array.getElem?_push]
  simp only [Array.size_push]
  rw [if_neg (by omega),if_pos trivial]
structure Mbx (W:World) (g x m1:Nat) (nm ot:ByteArray) (wt:Nat):Prop where
 name:W.cell? ⟨g,5,none⟩=some (.string nm)
 other:W.cell? ⟨g,6,none⟩=some (.string ot)
 wt:W.cell? ⟨g,7,none⟩=some (.float .f64 wt)
 x0:W.cell? ⟨x,0,none⟩=some (.map (some m1))
theorem Mbx.below {W W':World} {g x m1 wt:Nat} {nm ot:ByteArray} (h:Mbx W g x m1 nm ot wt) (hb:Below W.heap.size W W'):Mbx W' g x m1 nm ot wt :=
 ⟨by rw [hb.cell (lt_of_cell? h.1)]; exact h.1,by rw [hb.cell (lt_of_cell? h.2)]; exact h.2,by rw [hb.cell (lt_of_cell? h.3)]; exact h.3,by rw [hb.cell (lt_of_cell? h.4)]; exact h.4⟩
theorem Mbx.block {W:World} {g x m1 r wt:Nat} {nm ot:ByteArray} (h:Mbx W g x m1 nm ot wt) {es:Array MapEntry} {cl:Nat} (o:Obj) (hr:W.heap[r]?=some (.map es cl)):Mbx (setBlock W r o) g x m1 nm ot wt:=by
 have k:∀ g' j v,W.cell? ⟨g',j,none⟩=some v→(setBlock W r o).cell? ⟨g',j,none⟩=some v:=fun g' j v hc=>by
  have hne:g'≠r:=fun e=>by
   subst e
   simp only [World.cell?,hr] at hc
   cases hc
  rw [World.cell?_of_block (setBlock_far hne)]
  exact hc
 exact ⟨k _ _ _ h.name,k _ _ _ h.other,k _ _ _ h.wt,k _ _ _ h.x0⟩
set_option maxRecDepth 8000 in
set_option maxHeartbeats 8000000 in
theorem mixturesOf_any (v:Value) (rs:List Rec) (w:World) (hv:Rcs w v rs) (hok:∀ r∈rs,r.kind=15→Sh r.name∧Sh r.other):Calls Tryz.prog 81 #[v] w (MxtB w):=by
 obtain ⟨W1,W2,W3,hW1,hW2,hW3,hs1,hs2,hC0⟩:=mst_new w
 have hlen:=hv.1
 obtain ⟨ao,cap,hve,_,_⟩:=hv.shape
 have HREC:Hid (∀ k W,k<rs.length→Below w.heap.size w W→∃ b off,v=.slice (some ⟨b,off,none⟩) rs.length cap∧RecAt W b (off+k * 8) (rs.getD k Cn.none)):=fun k W hk hW=>by
  obtain ⟨b,off,cap',he,_,_,hc⟩:=(hv.below hW).place (by omega)
  rw [hve] at he
  obtain ⟨e1,e2,e3⟩:=Value.slice.inj he
  refine ⟨b,off,?_,hc k hk⟩
  rw [hve,e1]
 have HOK:Hid (∀ k,k<rs.length→(rs.getD k Cn.none).kind=15→Sh (rs.getD k Cn.none).name∧Sh (rs.getD k Cn.none).other):=fun k hk h=>hok _ (by simp [List.getD,hk]) h
 have HC0:=Hd hC0
 have hmk:=umake_map
 clear hv hok hC0
 subst hve
 go_enter Tryz.func81,Tryz.ntmps81
 go_wp2
 clear hmk
 go_loopw [5,10] (fun _ iv wr=>∃ k:Nat,iv=.int .i64 k∧k≤rs.length∧Mst w wr) (fun _ iv _=>rs.length - (intOf iv).toNat)
 case atStart=>exact ⟨0,rfl,by omega,Uh HC0⟩
 case round =>
  obtain ⟨k,rfl,hk,hC⟩:=hrel
  clear HC0 hW1 hW2 hW3 hs1 hs2
  by_cases hlt:k<rs.length
  ·obtain ⟨b,off,he,hA⟩:=(Uh HREC) k wr hlt hC.bel
   obtain ⟨q1,_,_⟩:=Value.slice.inj he
   clear he
   subst q1
   have hk7:=(Uh HOK) k hlt
   obtain ⟨x0,x1,x2,x3,⟨va,x4,ska⟩,x5,x6,x7⟩:=hA
   obtain ⟨tao,tcap,rfl,_,_⟩:=ska.shape
   clear HREC HOK ska
   generalize rs.getD k Cn.none=r at *
   obtain ⟨V1,hV1⟩:∃ V1,wr.alloc (.cells #[.int .i64 r.kind,.int .i64 r.lo,.int .i64 r.hi,.int .i64 r.n,.slice tao r.to.length tcap,.string r.name,.string r.other,.float .f64 r.wt] 59)=V1:=⟨_,rfl⟩
   have hbw:Below wr.heap.size wr V1:=by rw [← hV1]; exact (Below.refl _ _).alloc (Nat.le_refl _) _
   have hbox:V1.heap[wr.heap.size]?=some (.cells #[.int .i64 r.kind,.int .i64 r.lo,.int .i64 r.hi,.int .i64 r.n,.slice tao r.to.length tcap,.string r.name,.string r.other,.float .f64 r.wt] 59 (0,0)):=by
    rw [← hV1]
    show (wr.heap.push _)[wr.heap.size]?=_
    simp
   have hC1:=hC.below hbw
   have hfl:∀ W a m,(store a (.float .f64 r.wt) m).run Tryz.prog W=stored Tryz.prog W a (.float .f64 r.wt) m:=fun W a m=>run_store Tryz.prog W a _ m rfl
   obtain ⟨z0,z1,z2,z3,z4,z5,z6,z7⟩:=cells8u hbox
   have HC1:=Hd hC1
   have HB0:Hid (Mbx V1 wr.heap.size (w.heap.size+2) (w.heap.size+1) r.name r.other r.wt):=⟨z5,z6,z7,cell_of (j:=0) hC1.hx (by show 0<1; omega)⟩
   clear hC hC1 hbw hbox
   by_cases h7:r.kind=15
   ·obtain ⟨sa,sb⟩:=hk7 h7
    have hms:=sh_min sa sb
    have KE:Hid (∀ W,Calls Tryz.prog 128 #[.string r.name,.string r.other] W fun e w'=>e=.returned (pk (minS r.name r.other) (maxS r.name r.other))∧Below W.heap.size W w'):=fun W=>eitherOrder_any _ _ W
    have KNW:Hid (∀ W,Calls Tryz.prog 127 #[.float .f64 r.wt] W fun e w'=>∃ u n,e=.returned (.float .f64 u)∧w'=W.drewN n):=fun W=>narrow_some r.wt W
    have HUP:Hid (∀ W u,MxAt W (w.heap.size+1)→∃ es cl,(Instr.mapUpdate 88 (.map (some (w.heap.size+1))) (pk (minS r.name r.other) (maxS r.name r.other)) (.float .f64 u)).run Tryz.prog W=.ok () (setBlock W (w.heap.size+1) (.map es cl))∧∃ c,GObj KN es cl c):=fun W u h=>mx_update h hms.1 hms.2 _
    unfold pk at KE HUP
    have HB1:Hid (Mbx V1.drew wr.heap.size (w.heap.size+2) (w.heap.size+1) r.name r.other r.wt):=(Uh HB0).below (drewB ⟨1,rfl⟩)
    have HC2:Hid (Mst w V1.drew):=(Uh HC1).below (drewB ⟨1,rfl⟩)
    generalize minS r.name r.other=k1 at *
    generalize maxS r.name r.other=k2 at *
    generalize hkd:r.kind=kd at *
    have hkq:(kd==15)=true:=by rw [beq_iff_eq]; exact h7
    clear hkd h7 hk7 sa sb hms HB0 HC1
    go_wp2
    clear x0 x1 x2 x3 x4 x5 x6 x7 z0 z1 z2 z3 z4 z5 z6 z7
    refine wp_region_held_drew (S:=fun w'=>Mbx w' wr.heap.size (w.heap.size+2) (w.heap.size+1) r.name r.other r.wt) (by kernel_rfl) (Uh HB1) (fun hHeld=>?_)
    refine tk9 0 (.pointer (some ⟨w.heap.size+2,0,none⟩)) ?_ (hy:=by (intro w hSw; obtain ⟨s0,s1,s2,s3⟩:=hSw; go_simp))
    refine tk9 1 (.map (some (w.heap.size+1))) ?_ (hy:=by (intro w hSw; obtain ⟨s0,s1,s2,s3⟩:=hSw; go_simp))
    refine tk9 2 (.pointer (some ⟨wr.heap.size,5,none⟩)) ?_ (hy:=by (intro w hSw; obtain ⟨s0,s1,s2,s3⟩:=hSw; go_simp))
    refine tk9 3 (.string r.name) ?_ (hy:=by (intro w hSw; obtain ⟨s0,s1,s2,s3⟩:=hSw; go_simp))
    refine tk9 4 (.pointer (some ⟨wr.heap.size,6,none⟩)) ?_ (hy:=by (intro w hSw; obtain ⟨s0,s1,s2,s3⟩:=hSw; go_simp))
    refine tk9 5 (.string r.other) ?_ (hy:=by (intro w hSw; obtain ⟨s0,s1,s2,s3⟩:=hSw; go_simp))
    refine tk9 7 (.pointer (some ⟨wr.heap.size,7,none⟩)) ?_ (hy:=by (intro w hSw; obtain ⟨s0,s1,s2,s3⟩:=hSw; go_simp))
    refine tk9 8 (.float .f64 r.wt) ?_ (hy:=by (intro w hSw; obtain ⟨s0,s1,s2,s3⟩:=hSw; go_simp))
    refine rd9 6 fun K hK=>?_
    go_simp
    refine ((Uh KE) _).mono ?_
    rintro e2 w2 ⟨rfl,hb2⟩
    have HB2:Hid (Mbx w2 wr.heap.size (w.heap.size+2) (w.heap.size+1) r.name r.other r.wt):=(Uh HB1).below hb2
    have HC3:Hid (Mst w w2):=(Uh HC2).below hb2
    clear hb2
    refine hK.out _ _ ?_ (fun hHeld=>?_)
    ·exact Uh HB2
    clear hK K
    try simp only [Act.put,sa9,sb9,sc9]
    refine rd9 9 fun K hK=>?_
    go_simp
    refine ((Uh KNW) _).mono ?_
    rintro e3 w3 ⟨u3,n3,rfl,hw3⟩
    have hb3:Below w2.heap.size w2 w3:=by rw [hw3]; exact drewB ⟨n3,rfl⟩
    clear hw3
    have HB3:Hid (Mbx w3 wr.heap.size (w.heap.size+2) (w.heap.size+1) r.name r.other r.wt):=(Uh HB2).below hb3
    have HC4:Hid (Mst w w3):=(Uh HC3).below hb3
    obtain ⟨es,cl,hu,hgo⟩:=(Uh HUP) w3 u3 (Uh HC4).mp
    have HC5:=Hd ((Uh HC4).more hgo)
    have HB5:Hid (Mbx (setBlock w3 (w.heap.size+1) (.map es cl)) wr.heap.size (w.heap.size+2) (w.heap.size+1) r.name r.other r.wt):=by
     obtain ⟨_,es0,cl0,hm0,_⟩:=(Uh HC4).mp
     exact (Uh HB3).block _ hm0
    clear hb3 hgo
    refine hK.out _ _ ?_ (fun hHeld=>?_)
    ·exact Uh HB3
    clear hK K
    try simp only [Act.put,sa9,sb9,sc9]
    refine rd9 10 fun K hK=>?_
    go_simp
    refine hK.out _ _ ?_ (fun hHeld=>?_)
    ·exact Uh HB5
    clear hK K
    refine wpAnyH_done (by kernel_rfl) ?_ _
    clear hHeld hu HB1 HB2 HB3 HB5 HC2 HC3 HC4 KE KNW HUP
    generalize setBlock w3 (w.heap.size+1) (.map es cl)=W5 at *
    go_wp2
    go_roundw
    case rel=>exact ⟨k+1,by go_num,by omega,Uh HC5⟩
    case measure=>simp [intOf]; omega
   ·have hkq:(r.kind==15)=false:=beq_eq_false_iff_ne.2 h7
    clear HB0 hk7 h7
    generalize r.kind=kd at *
    go_wp2
    go_roundw
    case rel=>exact ⟨k+1,by go_num,by omega,Uh HC1⟩
    case measure=>simp [intOf]; omega
  ·obtain rfl:k=rs.length:=by omega
   have hX:=hC.hx
   have y0:=cell_of (j:=0) hX (by show 0<1; omega)
   have F1:=hC.res
   have z0:=cell_of (j:=0) F1 (by show 0<1; omega)
   have f0:=fun j=>frozen_of (j:=j) F1
   obtain ⟨F2,F3⟩:=hC.fin
   have HF2:=Hd F2
   have HFF:=Hd F3
   clear HREC HOK hC hX F1 F2 F3
   go_wp2
   have hnew:=Uh HF2
   have hfin:=Uh HFF
   clear HF2 HFF y0 f0 z0
   generalize wr.setCell ⟨w.heap.size,0,none⟩ (.map (some (w.heap.size+1)))=w10 at *
   have z0:=cell_of (j:=0) hnew (by show 0<1; omega)
   refine bodyPost_ret (v:=.agg #[.map (some (w.heap.size+1))]) (by simp [results,Tryz.results81,go_sem,z0]) rfl hfin
end Go.Proofs.YtihhhjodonkkcaaGreatDoor
