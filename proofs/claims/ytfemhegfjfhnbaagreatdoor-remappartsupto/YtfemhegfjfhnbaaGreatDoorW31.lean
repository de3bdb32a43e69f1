/- Vc9 -/
import Derived.Test.YtfemhegfjfhnbaaGreatDoorW27
namespace Go.Proofs.YtfemhegfjfhnbaaGreatDoor
open Go.RowKit
open Ti
namespace Cn
def mapping (rs:List Rec) (c:Int):List Int:=if (rget rs 1 c).kind=4 then [(rget rs 1 c).to.getD 0 0+(c - (rget rs 1 c).lo)] else (rget rs 1 c).to
theorem rget_cases {rs:List Rec} (h6:(check6 rs).2=0) {f:Int} (hf:f≠10∧f≠0) (c:Int):(hit rs f c=Option.none∧rget rs f c=none)∨(hit rs f c=some (rget rs f c)∧rget rs f c∈rs∧fam (rget rs f c).kind=f∧speaks (rget rs f c) c=true∧right (rget rs f c)=0):=by
 unfold rget
 cases he:hit rs f c with
 | none=>exact .inl ⟨rfl,rfl⟩
 | some r =>
  obtain ⟨g1,g2,g3⟩:=(hit_iff h6 hf r).1 he
  exact .inr ⟨rfl,g1,g2,g3,(check6_iff.1 h6).2.1 r g1⟩
theorem right_shift {r:Rec} (h:right r=0) (h4:r.kind=4):r.to.length=1∧0≤r.to.getD 0 0∧r.to.getD 0 0≤1114111∧r.to.getD 0 0+r.hi - r.lo≤1114111:=by
 have hf:=right_kind h
 unfold right at h
 rw [if_neg hf,if_neg (by omega)] at h
 have hc:=if_zero h
 rw [Bool.and_eq_true,if_neg (by omega),if_neg (by omega),if_pos h4] at hc
 have h2:=hc.2
 simp only [Bool.and_eq_true] at h2
 obtain ⟨hl,hs⟩:=list_parts h2.1.2
 have h5:=of_decide_eq_true h2.2
 have hl1:r.to.length=1:=by omega
 have hm:r.to.getD 0 0∈r.to:=by
  match hr:r.to,hl1 with
  | [x],_=>simp
 have:=scalar_reach (hs _ hm)
 exact ⟨hl1,this.1,this.2,by omega⟩
theorem mapping_shift {rs:List Rec} (h6:(check6 rs).2=0) (c:Int) (h4:(rget rs 1 c).kind=4):(rget rs 1 c).to.length=1∧0≤(rget rs 1 c).to.getD 0 0∧(rget rs 1 c).to.getD 0 0≤1114111∧0≤(rget rs 1 c).lo∧(rget rs 1 c).lo≤c∧c≤1114111∧(rget rs 1 c).to.getD 0 0+(c - (rget rs 1 c).lo)≤1114111:=by
 rcases rget_cases h6 (f:=1) (by decide) c with ⟨_,e⟩ | ⟨_,_,_,hs,hr⟩
 ·rw [e] at h4; exact absurd h4 (by decide)
 ·obtain ⟨s1,s2,s3⟩:=right_span hr (by omega)
  obtain ⟨r1,r2,r3,r4⟩:=right_shift hr h4
  unfold speaks at hs
  obtain ⟨_,_,c0,c1,c2,c3,_⟩:=of_decide_eq_true hs
  exact ⟨r1,r2,r3,s1,c2,c1,by omega⟩
end Cn
theorem store32 {W:World} {a:Addr} {u:Value} (h:W.cell? a=some u) (hf:W.frozen? a=false) (y:Int):(Instr.storeAt 21 (.pointer (some a)) (.int .i32 y)).run Tryz.prog W=.ok () (W.setCell a (.int .i32 y)):=by
 simp [Instr.storeAt,go_sem,h,hf]
theorem Ok.setAt9 {K:IntKind} {e:TypeId} {w:World} {B g n cap:Nat} {zs:List Int} (h:Ok K e w B (.slice (some ⟨g,0,none⟩) n cap) zs) (k:Nat) (z:Int) (hz:Fit K [z]) :
  Ok K e (w.setCell ⟨g,k,none⟩ (.int K z)) B (.slice (some ⟨g,0,none⟩) n cap) (zs.set k z)∧w.frozen? ⟨g,k,none⟩=false:=by
 have hrow:=h.row
 rcases hrow.2 with ⟨h0,_⟩ | ⟨g',cap',cur,hv,hb,hh,hn,hcap,hsz,htake⟩
 ·cases h0
 ·simp only [Value.slice.injEq,Option.some.injEq,Addr.mk.injEq] at hv
  obtain ⟨⟨rfl,_⟩,hnn,rfl⟩:=hv
  refine ⟨Ok.of (n:=zs.length) (us:=(zs.set k z).map (Value.int K)) ?_ (by simpa using h.sk.len) ⟨by simp,.inr ⟨g,cap,cur.setIfInBounds k (.int K z),by rw [hnn],hb,set_block hh _,hn,hcap,by simpa using hsz,?_⟩⟩ (by simp) rfl,?_⟩
  ·intro y hy
   rcases List.mem_or_eq_of_mem_set hy with hy | hy
   ·exact h.1 y hy
   ·subst hy; exact hz _ (by simp)
  ·rw [Nat.mul_one] at htake ⊢
   rw [Array.toList_setIfInBounds,List.take_set,htake,← List.map_set]
  ·simp [World.frozen?,hh]
set_option maxRecDepth 8000 in
set_option maxHeartbeats 4000000 in
theorem mapping_any9 {B p:Nat} {rs:List Rec} (c:Int) (w:World) (hD:DataAt w B p rs) (h6:(Cn.check6 rs).2=0) (hfit:∀ r∈rs,RecFit r) (hc:Rune c):Calls Tryz.prog 25 #[.pointer (some ⟨p,0,none⟩),.int .i32 c] w (RunesNew w (Cn.mapping rs c)):=by
 obtain ⟨t1,t2,t3,t4,t5,a1,l1,a2,l2,a3,l3,a4,l4,a5,l5,c1,c2,x1,h1,h2,h3⟩:=hD
 have K1:=Hd (of_any c w h3.q1 h6 (by decide) hc)
 have x5:w.cell? ⟨p,5,none⟩=some a1:=cell_of (j:=5) h1 (by show 5<18; omega)
 have x6:w.cell? ⟨p,6,none⟩=some l1:=cell_of (j:=6) h1 (by show 6<18; omega)
 obtain ⟨⟨aa,m,e,-⟩,ps,hR,-⟩:=h3.q1
 subst e
 obtain ⟨lo5,lc5,hle⟩:∃ ao cap,l1=.slice ao ps.length cap:=by
  rcases hR.1.2 with ⟨e,h0⟩ | ⟨g,cap,cur,e,_⟩
  ·exact ⟨_,_,by rw [e,h0]⟩
  ·exact ⟨_,_,e⟩
 subst hle
 have hsh:=Cn.mapping_shift h6 c
 have hrf:RecFit (Cn.rget rs 1 c):=by
  rcases Cn.rget_cases h6 (f:=1) (by decide) c with ⟨_,e⟩ | ⟨_,hm,_⟩
  ·rw [e]; exact ⟨⟨by decide,by decide⟩,⟨by decide,by decide⟩,⟨by decide,by decide⟩,⟨by decide,by decide⟩,by decide,by decide⟩
  ·exact hfit _ hm
 obtain ⟨hc1,hc2⟩:=hc
 clear h1 h2 h3 h6 hR hfit
 unfold Cn.mapping
 generalize Cn.rget rs 1 c=r at *
 obtain ⟨zs,hzs⟩:∃ zs,r.to=zs:=⟨_,rfl⟩
 have hzl:=hrf.len
 rw [hzs] at hsh hzl ⊢
 have HZS:=Hd hzs
 have hk:=hrf.kind
 have hlo:=hrf.lo
 have HSH:=Hd hsh
 obtain ⟨ans,hans⟩:∃ a,(if r.kind=4 then [zs.getD 0 0+(c - r.lo)] else zs)=a:=⟨_,rfl⟩
 rw [hans]
 have HANS:=Hd hans
 clear hzs hrf hsh hans
 go_enter Tryz.func25,Tryz.ntmps25
 go_wp2_with fail
 refine (Uh K1).mono ?_
 rintro e1 w1 ⟨vt,rfl,hok,b1⟩
 clear K1 x5 x6
 rw [Uh HZS] at hok
 obtain ⟨ao,tc,rfl,ht1,ht2⟩:=hok.sk.shape
 obtain ⟨W1,hW1,hbx,hbw⟩:=box_one w1 r.kind r.lo r.hi r.n (.slice ao zs.length tc) r.name r.other r.wt
 have hfl:∀ W a m,(store a (.float .f64 r.wt) m).run Tryz.prog W=stored Tryz.prog W a (.float .f64 r.wt) m:=fun W a m=>run_store Tryz.prog W a _ m rfl
 have KC:=Hd (clone_any (.slice ao zs.length tc) zs W1 ((hok.sk.below b1).below hbw) hzl)
 have HB1:=Hd (bthen b1 hbw)
 have HB1S:=Hd (bthen b1 hbw).size
 have HBX:Hid (∀ W,Below W1.heap.size W1 W→BoxAt W w1.heap.size r.kind r.lo r.hi r.n (.slice ao zs.length tc) r.name r.other r.wt):=fun W h=>hbx.keep h
 obtain ⟨z0,z1,z2,z3,z4,z5,z6,z7⟩:=hbx
 clear hok b1 hbw HZS
 unfold recV
 generalize r.kind=kd at *
 generalize r.lo=lo at *
 generalize r.hi=hi at *
 generalize r.n=n at *
 generalize r.name=nm at *
 generalize r.other=ot at *
 generalize r.wt=wt at *
 clear r
 go_wp2_with fail
 refine (Uh KC).mono ?_
 rintro e2 w2 ⟨v2,rfl,ok2,b2⟩
 obtain ⟨y0,y1,y2,y3,y4,y5,y6,y7⟩:=(Uh HBX) w2 b2
 have HY1:=Hd y1
 have HB2:=Hd (bthen (Uh HB1) b2)
 have HBB:=Hd b2
 clear KC z0 z2 z3 z4 z5 z6 z7 hfl HB1 b2
 by_cases h4:kd=4
 ·have ha:=Uh HANS
  rw [if_pos h4] at ha
  obtain ⟨s1,s2,s3,s4,s5,s6,s7⟩:=(Uh HSH) h4
  obtain ⟨x,rfl⟩:∃ x,zs=[x]:=by
   match zs,s1 with
   | [x],_=>exact ⟨x,rfl⟩
  simp only [List.getD_cons_zero] at ha s2 s3 s7
  subst ha h4
  clear HANS HSH
  obtain ⟨gt,ot',cp2,hv2,hcp1,hcp2,hcl⟩:=ok2.sk.place (by simp)
  have hot:ot'=0:=by
   rcases ok2.row.2 with ⟨e,_⟩ | ⟨g',cap',cur,e,_⟩
   ·rw [hv2] at e; simp at e
   ·rw [hv2] at e
    simp only [Value.slice.injEq,Option.some.injEq,Addr.mk.injEq] at e
    exact e.1.2.1
  subst hot
  have hx0:w2.cell? ⟨gt,0,none⟩=some (.int .i32 x):=hcl 0 (by simp)
  subst hv2
  have HS:Hid (∀ W,Below w2.heap.size w2 W→W.cell? ⟨gt,0,none⟩=some (.int .i32 x)∧W.cell? ⟨w1.heap.size,1,none⟩=some (.int .i64 lo)):=fun W h=>⟨by rw [h.cell (lt_of_cell? hx0)]; exact hx0,by rw [h.cell (lt_of_cell? y1)]; exact y1⟩
  have HNE:Hid (gt≠w1.heap.size):=by have h1:=(ok2.row.lt gt rfl).1; have h2:=lt_of_cell? z1; show gt≠_; omega
  have HE:Hid (∀ W,Below w2.heap.size w2 W→RunesNew w [x+(c - lo)] (.returned (.slice (some ⟨gt,0,none⟩) 1 cp2)) (W.setCell ⟨gt,0,none⟩ (.int .i32 (x+(c - lo))))∧W.frozen? ⟨gt,0,none⟩=false):=fun W h=>by
   have hk:=(ok2.below h).setAt9 0 (x+(c - lo)) (fun z hz=>by rw [List.mem_singleton] at hz; subst hz; exact i32_fit (by omega))
   have hgt:W1.heap.size≤gt:=(ok2.row.lt gt rfl).1
   exact ⟨⟨_,rfl,hk.1.lower (Uh HB1S),below_set (bthen (Uh HB2) h) (by have:=Uh HB1S; omega) _⟩,hk.2⟩
  clear ok2 hcl HBX HBB hx0 z1 y2 y3 y4 y5 y6 y7 HY1 HB2
  go_wp2
  clear y0 y1
  refine wp_region_held_drew (S:=fun w'=>w'.cell? ⟨w1.heap.size,1,none⟩=some (.int .i64 lo)) (by kernel_rfl) (((Uh HS) _ (drewB ⟨1,rfl⟩)).2) (fun hHeld=>?_)
  refine tk9 0 ⟨some 20,_,_,_,_,_⟩ (.slice (some ⟨gt,0,none⟩) 1 cp2) rfl ?_ hHeld ?_
  ·intro w hSw
   go_simp
  try simp only [Act.put,sa9,sb9,sc9]
  refine tk9 1 ⟨some 21,_,_,_,_,_⟩ (.pointer (some ⟨gt,0,none⟩)) rfl ?_ hHeld ?_
  ·intro w hSw
   go_simp
  try simp only [Act.put,sa9,sb9,sc9]
  refine tk9 3 ⟨some 23,_,_,_,_,_⟩ (.int .i32 c) rfl ?_ hHeld ?_
  ·intro w hSw
   go_simp
  try simp only [Act.put,sa9,sb9,sc9]
  refine tk9 4 ⟨some 24,_,_,_,_,_⟩ (.pointer (some ⟨w1.heap.size,1,none⟩)) rfl ?_ hHeld ?_
  ·intro w hSw
   go_simp
  try simp only [Act.put,sa9,sb9,sc9]
  refine tk9 5 ⟨some 25,_,_,_,_,_⟩ (.int .i64 lo) rfl ?_ hHeld ?_
  ·intro w hSw
   have s1:=hSw; go_simp
  try simp only [Act.put,sa9,sb9,sc9]
  refine tk9 6 ⟨some 26,_,_,_,_,_⟩ (.int .i32 lo) rfl ?_ hHeld ?_
  ·intro w hSw
   go_simp; first | done | (rw [IntKind.wrap_i32]; omega) | (unfold wrap32; omega) | omega
  try simp only [Act.put,sa9,sb9,sc9]
  refine tk9 7 ⟨some 27,_,_,_,_,_⟩ (.int .i32 (c - lo)) rfl ?_ hHeld ?_
  ·intro w hSw
   go_simp; first | done | (rw [IntKind.wrap_i32]; omega) | (unfold wrap32; omega) | omega
  try simp only [Act.put,sa9,sb9,sc9]
  have hb3:Below w2.heap.size w2 w2.drew:=drewB ⟨1,rfl⟩
  have h3S:=(Uh HS) _ hb3
  have h3E:=(Uh HE) _ hb3
  have hne:=Uh HNE
  clear HS HE HNE
  generalize w2.drew=w3 at *
  refine wpAnyH_ready (rs:=[2]) (by kernel_rfl) (by simp) ?_
  refine AllReadyH.cons (o:=⟨some 22,_,_,_,_,_⟩) rfl (fun K hK=>?_) AllReadyH.nil
  have hld:(Instr.loadAt 21 (.pointer (some ⟨gt,0,none⟩))).run Tryz.prog w3=.ok (.int .i32 x) w3:=by
   have h0:=h3S.1
   simp [Instr.loadAt,go_sem,h0]
  refine step_load7 rfl 21 (.tmp 21) rfl (.pointer (some ⟨gt,0,none⟩)) (.int .i32 x) rfl hld ?_
  refine hK.out _ _ ?_ (fun hHeld=>?_)
  ·exact h3S.2
  clear hK K
  try simp only [Act.put,sa9,sb9,sc9]
  refine tk9 8 ⟨some 28,_,_,_,_,_⟩ (.int .i32 (x+(c - lo))) rfl ?_ hHeld ?_
  ·intro w hSw
   go_simp; first | done | (rw [IntKind.wrap_i32]; omega) | (unfold wrap32; omega) | omega
  try simp only [Act.put,sa9,sb9,sc9]
  refine tk9 9 ⟨some 29,_,_,_,_,_⟩ (.pointer (some ⟨gt,0,none⟩)) rfl ?_ hHeld ?_
  ·intro w hSw
   go_simp
  try simp only [Act.put,sa9,sb9,sc9]
  refine wpAnyH_ready (rs:=[10]) (by kernel_rfl) (by simp) ?_
  refine AllReadyH.cons (o:=⟨none,_,_,_,_,_⟩) rfl (fun K hK=>?_) AllReadyH.nil
  have s9:=store32 h3S.1 h3E.2 (x+(c - lo))
  have hfin:=h3E.1
  have hkp:(w3.setCell ⟨gt,0,none⟩ (.int .i32 (x+(c - lo)))).cell? ⟨w1.heap.size,1,none⟩=some (.int .i64 lo):=by
   rw [World.cell?_setCell_far _ _ _ _ hne]; exact h3S.2
  clear h3E h3S hld
  generalize w3.setCell ⟨gt,0,none⟩ (.int .i32 (x+(c - lo)))=w4 at *
  refine step_store7 rfl 21 (.tmp 29) (.tmp 28) rfl (.pointer (some ⟨gt,0,none⟩)) (.int .i32 (x+(c - lo))) rfl rfl s9 ?_
  refine hK.out _ _ ?_ (fun hHeld=>?_)
  ·exact hkp
  clear hK K s9
  try simp only [Act.put]
  refine wpAnyH_done (by kernel_rfl) ?_ _
  have HFIN:=Hd hfin
  clear hfin hHeld hkp
  go_wp2
  go_ret
  exact Uh HFIN
 ·have ha:=Uh HANS
  rw [if_neg h4] at ha
  subst ha
  clear HANS HSH
  have hb4:(kd==4)=false:=by rw [beq_eq_false_iff_ne]; exact h4
  have HF:Hid (RunesNew w zs (.returned v2) w2):=⟨v2,rfl,ok2.lower (Uh HB1S),Uh HB2⟩
  clear ok2 HBX HY1 HBB z1
  go_wp2
  go_ret
  exact Uh HF
end Go.Proofs.YtfemhegfjfhnbaaGreatDoor
