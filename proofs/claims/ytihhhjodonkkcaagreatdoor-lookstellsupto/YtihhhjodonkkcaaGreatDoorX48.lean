/- Ki22 -/
import Derived.Test.YtihhhjodonkkcaaGreatDoorX47
namespace Go.Proofs.YtihhhjodonkkcaaGreatDoor
open Go.RowKit
open Ti
namespace Cn
theorem full_one22 {rs:List Rec} {x:Int} (h:opn rs x=[]):(full rs x).1=[x]:=by
  unfold full
  rw [walk_leaf h,if_neg (by decide)]; rfl
theorem openAll_leaves22 {rs:List Rec}:∀ {l:List Int},(∀ x∈l,opn rs x=[])→openAll rs l=l
  | [],_=>rfl
  | x :: l,h=>by
    have h1:=full_one22 (h x (by simp))
    have h2:=openAll_leaves22 (l:=l) (fun y hy=>h y (by simp [hy]))
    unfold openAll at h2 ⊢
    rw [List.map_cons,List.flatten_cons,h1,h2]; rfl
theorem nfd_leaves22 {rs:List Rec} (hk:(check rs).2=0) {xs:List Int} {x:Int} (h:x∈nfd rs xs):opn rs x=[]:=by
  have h1:=Od.ord_mem (fun c=>cls_range (check_iff.1 hk).1 c) h
  unfold openAll at h1
  obtain ⟨l,hl,hx⟩:=List.mem_flatten.1 h1
  obtain ⟨c,_,rfl⟩:=List.mem_map.1 hl
  exact (leaves hk c).2.2.2.1 x hx
theorem nfd_again22 {rs:List Rec} (hk:(check rs).2=0) (xs:List Int):nfd rs (nfd rs xs)=nfd rs xs:=by
  have h1:=openAll_leaves22 (fun x hx=>nfd_leaves22 hk (xs:=xs) hx)
  show Od.ord (cls rs) (openAll rs (nfd rs xs))=nfd rs xs
  rw [h1]
  exact Od.ord_ord (fun c=>cls_range (check_iff.1 hk).1 c) _
end Cn
structure Lk22 (w0:World) (p:Nat) (rs:List Rec):Prop where
  sk:∀ W v xs,Below w0.heap.size w0 W→Sk .i32 W v xs→xs.length≤85→Calls Tryz.prog 10 #[.pointer (some ⟨p,0,none⟩),v] W (SeqE W (Cn.skel rs xs) 0)
  al:∀ W v u xs ys,Below w0.heap.size w0 W→Sk .i32 W v xs→Sk .i32 W u ys→xs.length≤85→ys.length≤65536→(Cn.lks rs (Cn.nfd rs ys)).length≤65536→Calls Tryz.prog 12 #[.pointer (some ⟨p,0,none⟩),v,u] W (TrB22 W (decide (Cn.skel rs xs=Cn.skel rs ys)))
  sc:∀ W v xs,Below w0.heap.size w0 W→Sk .i32 W v xs→xs.length≤1000→Calls Tryz.prog 17 #[.pointer (some ⟨p,0,none⟩),v] W (ScrE22 W (xs.map (Cn.snm rs)))
  fk:∀ W v xs,Below w0.heap.size w0 W→Sk .i32 W v xs→xs.length≤85→Calls Tryz.prog 15 #[.pointer (some ⟨p,0,none⟩),v] W (BoolB W (Cn.fake rs xs))
  pl:∀ W v xs R,Below w0.heap.size w0 W→Sk .i32 W v xs→xs.length≤1000→Cn.Names (xs.map (Cn.snm rs)) R→Calls Tryz.prog 20 #[.pointer (some ⟨p,0,none⟩),v] W (BoolB W (decide (R.length≤1)))
theorem lk22 {B p rs w0} (hg:Glob w0) (hD:DataAt w0 B p rs) (hk:(Cn.check rs).2=0) (hfit:∀ r∈rs,RecFit r):Lk22 w0 p rs :=
  ⟨fun W v xs hW hx hl=>skel_ok22 v xs W (hg.on hW) (hD.below hW) hk hfit hx (by omega) (Cn.small22 hk hl),
   fun W v u xs ys hW hx hy hl hm hn=>alike22 v u xs ys W (hg.on hW) (hD.below hW) hk hfit hx hy (by omega) (Cn.small22 hk hl) hm hn,
   fun W v xs hW hx hl=>scripts22 v xs W (hD.below hW) (check6_of hk) hx (by omega),
   fun W v xs hW hx hl=>fake22 v xs W (hg.on hW) (hD.below hW) hk hfit hx (by omega) (Cn.small22 hk hl),
   fun W v xs R hW hx hl hR=>plain22 v xs W R (hD.below hW) (check6_of hk) hx (by omega) hR⟩
set_option maxRecDepth 8000 in
set_option maxHeartbeats 8000000 in
theorem alike_law22 (v:Value) (rs0:List Rec) (xv:Value) (xs:List Int) (yv:Value) (ys:List Int) (zv:Value) (zs:List Int) (w:World) (hg:Glob w) (hv:Rcs w v rs0) (hx:Sk .i32 w xv xs) (hy:Sk .i32 w yv ys) (hz:Sk .i32 w zv zs):Calls Tryz.prog 4 #[v,xv,yv,zv] w (Tells w true):=by
  have K1:=Hd (made_any v rs0 w hg hv)
  have hfit:∀ r∈rs0.take 150,RecFit r:=fun r hr=>hv.2.1 r (List.mem_of_mem_take hr)
  have hrl:(rs0.take 150).length≤150:=by rw [List.length_take]; omega
  have HFIT:=Hd hfit
  clear hfit
  obtain ⟨ao,cap,rfl,_,hcap⟩:=hv.shape
  have HX:=Hd hx
  have HY:=Hd hy
  have HZ:=Hd hz
  obtain ⟨xo,xcap,hxe,hxc1,hxc2⟩:=hx.shape
  subst hxe
  obtain ⟨yo,ycap,hye,hyc1,hyc2⟩:=hy.shape
  subst hye
  obtain ⟨zo,zcap,hze,hzc1,hzc2⟩:=hz.shape
  subst hze
  have HG:=Hd hg
  clear hg hv hx hy hz
  generalize rs0.take 150=rs at *
  generalize rs0.length=L at *
  go_enter Tryz.func4,Tryz.ntmps4
  go_wp2_with fail
  refine (Uh K1).mono ?_
  rintro e1 w1 ⟨b1,h1⟩
  have HB1:=Hd b1
  clear K1 b1
  rcases h1 with ⟨hne,rfl⟩ | ⟨h0,p,v2,ps2,rfl,hD,r2,p2⟩
  · have K2:=Hd (told22 w1 ((Uh HG).on (Uh HB1)))
    clear hne
    go_wp2_with fail
    refine (Uh K2).mono ?_
    rintro e2 w2 ⟨rfl,b2⟩
    have HB2:=Hd (bthen (Uh HB1) b2)
    clear K2 b2
    go_wp2
    go_ret
    exact ⟨rfl,Uh HB2⟩
  · have R2:=rcs_new r2 p2 (by omega) (Uh HFIT)
    obtain ⟨a2,cp2,hv2,_,hcp2⟩:=R2.shape
    subst hv2
    have HG1:=(Uh HG).on (Uh HB1)
    have HLK:=Hd (lk22 HG1 hD h0 (Uh HFIT))
    have HND:Hid (∀ W u us,Below w1.heap.size w1 W→Sk .i32 W u us→us.length≤85→Calls Tryz.prog 21 #[.pointer (some ⟨p,0,none⟩),u] W (SeqE W (Cn.nfd rs us) 0)):=fun W u us hW hu hl=>by
      have:=nfd_any12 u us W (HG1.on hW) (hD.below hW) h0 hu
      rwa [if_neg (by omega)] at this
    have HSM:Hid (∀ W u t us ts,Below w1.heap.size w1 W→Sk .i32 W u us→Sk .i32 W t ts→us.length≤85→ts.length≤85→Calls Tryz.prog 22 #[.pointer (some ⟨p,0,none⟩),u,t] W (TruE W (decide (Cn.nfd rs us=Cn.nfd rs ts)) 0)):=fun W u t us ts hW hu ht hl hm=>sameO_any12 u t us ts W (HG1.on hW) (hD.below hW) h0 hu ht (by omega) (by omega)
    have HSML:Hid (∀ us:List Int,us.length≤85→(Cn.lks rs (Cn.nfd rs us)).length≤65536):=fun us hl=>Cn.small22 h0 hl
    have HNL:Hid (∀ us:List Int,(Cn.nfd rs us).length≤32 * us.length):=fun us=>Cn.nfd_len h0 us
    have HAG:Hid (∀ us:List Int,Cn.nfd rs (Cn.nfd rs us)=Cn.nfd rs us):=fun us=>Cn.nfd_again22 h0 us
    have HX1:=Hd ((Uh HX).below (Uh HB1))
    have HY1:=Hd ((Uh HY).below (Uh HB1))
    have HZ1:=Hd ((Uh HZ).below (Uh HB1))
    have hXl:(xs.take 60).length≤60:=List.length_take_le _ _
    have hYl:(ys.take 60).length≤60:=List.length_take_le _ _
    have hZl:(zs.take 60).length≤60:=List.length_take_le _ _
    have K3:=Hd (few22 _ xs 60 w1 (Uh HX1) (by omega))
    clear hD r2 p2 R2 h0 HX HY HZ HG HFIT HG1 HX1
    generalize xs.take 60=X at *
    go_wp2_with fail
    refine (Uh K3).mono ?_
    rintro e2 w2 ⟨v3,rfl,ok2,b2⟩
    have HX2:=Hd ok2.sk
    have K4:=Hd (few22 _ ys 60 w2 ((Uh HY1).below b2) (by omega))
    have HZ2:=Hd ((Uh HZ1).below b2)
    have HW2:=Hd b2
    obtain ⟨a3,c3,hv3,_,_⟩:=ok2.sk.shape
    subst hv3
    clear K3 ok2 b2 HY1 HZ1
    generalize ys.take 60=Y at *
    go_wp2_with fail
    refine (Uh K4).mono ?_
    rintro e3 w3 ⟨v4,rfl,ok3,b3⟩
    have HY3:=Hd ok3.sk
    have HX3:=Hd ((Uh HX2).below b3)
    have K5:=Hd (few22 _ zs 60 w3 ((Uh HZ2).below b3) (by omega))
    have HW3:=Hd (bthen (Uh HW2) b3)
    obtain ⟨a4,c4,hv4,_,_⟩:=ok3.sk.shape
    subst hv4
    clear K4 ok3 b3 HX2 HZ2 HW2
    generalize zs.take 60=Z at *
    go_wp2_with fail
    refine (Uh K5).mono ?_
    rintro e4 w4 ⟨v5,rfl,ok4,b4⟩
    have HZ4:=Hd ok4.sk
    have HX4:=Hd ((Uh HX3).below b4)
    have HY4:=Hd ((Uh HY3).below b4)
    have HW4:=Hd (bthen (Uh HW3) b4)
    obtain ⟨a5,c5,hv5,_,_⟩:=ok4.sk.shape
    subst hv5
    clear K5 ok4 b4 HX3 HY3 HW3
    have K5:=Hd ((Uh HLK).al w4 _ _ X X (Uh HW4) (Uh HX4) (Uh HX4) (by omega) (by omega) ((Uh HSML) X (by omega)))
    rw [show decide (Cn.skel rs X=Cn.skel rs X)=true from decide_eq_true rfl] at K5
    go_wp2_with fail
    refine (Uh K5).mono ?_
    rintro e5 w5 ⟨rfl,b5⟩
    have HX5:=Hd ((Uh HX4).below b5)
    have HY5:=Hd ((Uh HY4).below b5)
    have HZ5:=Hd ((Uh HZ4).below b5)
    have HW5:=Hd (bthen (Uh HW4) b5)
    clear K5 b5 HX4 HY4 HZ4 HW4
    have K6:=Hd ((Uh HLK).al w5 _ _ X Y (Uh HW5) (Uh HX5) (Uh HY5) (by omega) (by omega) ((Uh HSML) Y (by omega)))
    go_wp2_with fail
    refine (Uh K6).mono ?_
    rintro e6 w6 ⟨rfl,b6⟩
    have HX6:=Hd ((Uh HX5).below b6)
    have HY6:=Hd ((Uh HY5).below b6)
    have HZ6:=Hd ((Uh HZ5).below b6)
    have HW6:=Hd (bthen (Uh HW5) b6)
    clear K6 b6 HX5 HY5 HZ5 HW5
    have K7:=Hd ((Uh HLK).al w6 _ _ Y X (Uh HW6) (Uh HY6) (Uh HX6) (by omega) (by omega) ((Uh HSML) X (by omega)))
    rw [show decide (Cn.skel rs Y=Cn.skel rs X)=decide (Cn.skel rs X=Cn.skel rs Y) from decide_eq_decide.2 eq_comm] at K7
    go_wp2_with fail
    refine (Uh K7).mono ?_
    rintro e7 w7 ⟨rfl,b7⟩
    have HX7:=Hd ((Uh HX6).below b7)
    have HY7:=Hd ((Uh HY6).below b7)
    have HZ7:=Hd ((Uh HZ6).below b7)
    have HW7:=Hd (bthen (Uh HW6) b7)
    clear K7 b7 HX6 HY6 HZ6 HW6
    have K8:=Hd ((Uh HLK).al w7 _ _ Y Z (Uh HW7) (Uh HY7) (Uh HZ7) (by omega) (by omega) ((Uh HSML) Z (by omega)))
    go_wp2_with fail
    refine (Uh K8).mono ?_
    rintro e8 w8 ⟨rfl,b8⟩
    have HX8:=Hd ((Uh HX7).below b8)
    have HY8:=Hd ((Uh HY7).below b8)
    have HZ8:=Hd ((Uh HZ7).below b8)
    have HW8:=Hd (bthen (Uh HW7) b8)
    clear K8 b8 HX7 HY7 HZ7 HW7
    have K9:=Hd ((Uh HLK).al w8 _ _ X Z (Uh HW8) (Uh HX8) (Uh HZ8) (by omega) (by omega) ((Uh HSML) Z (by omega)))
    go_wp2_with fail
    refine (Uh K9).mono ?_
    rintro e9 w9 ⟨rfl,b9⟩
    have HX9:=Hd ((Uh HX8).below b9)
    have HY9:=Hd ((Uh HY8).below b9)
    have HZ9:=Hd ((Uh HZ8).below b9)
    have HW9:=Hd (bthen (Uh HW8) b9)
    clear K9 b9 HX8 HY8 HZ8 HW8
    have K10:=Hd ((Uh HND) w9 _ X (Uh HW9) (Uh HX9) (by omega))
    go_wp2_with fail
    refine (Uh K10).mono ?_
    rintro e10 w10 ⟨v10,rfl,ok10,b10⟩
    have HN10:=Hd ok10.sk
    have HX10:=Hd ((Uh HX9).below b10)
    have HY10:=Hd ((Uh HY9).below b10)
    have HW10:=Hd (bthen (Uh HW9) b10)
    obtain ⟨ao10,ac10,hv10,_,_⟩:=ok10.sk.shape
    subst hv10
    have hnl:=(Uh HNL) X
    have K11:=Hd ((Uh HLK).al w10 _ _ X (Cn.nfd rs X) (Uh HW10) (Uh HX10) (Uh HN10) (by omega) (by omega) (by rw [(Uh HAG) X]; exact (Uh HSML) X (by omega)))
    rw [show decide (Cn.skel rs X=Cn.skel rs (Cn.nfd rs X))=true from decide_eq_true (by unfold Cn.skel; rw [(Uh HAG) X])] at K11
    clear K10 ok10 b10 HX9 HY9 HZ9 HW9 HN10 HND
    go_wp2_with fail
    refine (Uh K11).mono ?_
    rintro e11 w11 ⟨rfl,b11⟩
    have HX11:=Hd ((Uh HX10).below b11)
    have HY11:=Hd ((Uh HY10).below b11)
    have HW11:=Hd (bthen (Uh HW10) b11)
    have K12:=Hd ((Uh HSM) w11 _ _ X Y (Uh HW11) (Uh HX11) (Uh HY11) (by omega) (by omega))
    clear K11 b11 HX10 HY10 HW10
    go_wp2_with fail
    refine (Uh K12).mono ?_
    rintro e12 w12 ⟨rfl,b12⟩
    have HF:=Hd (bthen (Uh HB1) (bthen (Uh HW11) b12))
    clear K12 b12 HX11 HY11 HW11 HSM HLK HSML HNL HAG hnl
    have HPQ:decide (Cn.skel rs X=Cn.skel rs Y)=true→decide (Cn.skel rs Y=Cn.skel rs Z)=true→decide (Cn.skel rs X=Cn.skel rs Z)=true:=fun h k=>decide_eq_true ((of_decide_eq_true h).trans (of_decide_eq_true k))
    have HCP:decide (Cn.nfd rs X=Cn.nfd rs Y)=true→decide (Cn.skel rs X=Cn.skel rs Y)=true:=fun h=>decide_eq_true (by unfold Cn.skel; rw [of_decide_eq_true h])
    generalize decide (Cn.skel rs X=Cn.skel rs Y)=p1 at *
    generalize decide (Cn.skel rs Y=Cn.skel rs Z)=q1 at *
    generalize decide (Cn.skel rs X=Cn.skel rs Z)=r1 at *
    generalize decide (Cn.nfd rs X=Cn.nfd rs Y)=c1 at *
    cases p1 <;> cases q1 <;> cases r1 <;> cases c1
    all_goals first
      | (exact absurd (HPQ rfl rfl) (by decide))
      | (exact absurd (HCP rfl) (by decide))
      | (clear HPQ HCP
         go_wp2
         go_ret
         exact ⟨rfl,Uh HF⟩)
end Go.Proofs.YtihhhjodonkkcaaGreatDoor
