/- Os12 -/
import Derived.Test.YteccdnacpmbfcaaGreatDoorW45
namespace Go.Proofs.YteccdnacpmbfcaaGreatDoor
open Go.RowKit
open Ti
namespace Cn
theorem openAll_app (rs:List Rec) (xs ys:List Int):openAll rs (xs++ys)=openAll rs xs++openAll rs ys:=by simp [openAll]
theorem nfd_join {rs:List Rec} (h6:(check6 rs).2=0) (xs ys:List Int):nfd rs (xs++ys)=Od.ord (cls rs) (nfd rs xs++nfd rs ys):=by
 unfold nfd; rw [openAll_app,Od.ord_join (fun c=>cls_range h6 c)]
theorem nfd_app0 {rs:List Rec} (hk:(check rs).2=0) (xs ys:List Int) (h:0<ys.length→cls rs ((full rs (ys.getD 0 0)).1.getD 0 0)=0):nfd rs (xs++ys)=nfd rs xs++nfd rs ys:=by
 unfold nfd
 rw [openAll_app]
 refine Od.ord_app0 (fun c=>cls_range (check_iff.1 hk).1 c) _ _ (fun c l e=>?_)
 cases ys with
 | nil=>simp [openAll] at e
 | cons y ys =>
  have h1:=h (by simp)
  have h2:=(leaves hk y).2.1
  simp only [openAll,List.map_cons,List.flatten_cons] at e
  simp only [List.getD,List.getElem?_cons_zero,Option.getD_some] at h1
  cases hf:(full rs y).1 with
  | nil=>rw [hf] at h2; simp at h2
  | cons a m =>
   rw [hf] at e h1
   simp only [List.cons_append] at e
   obtain ⟨rfl,_⟩:=List.cons.inj e
   simpa using h1
end Cn
set_option maxRecDepth 8000 in
set_option maxHeartbeats 8000000 in
theorem joins_any12 (v:Value) (rs0:List Rec) (xv:Value) (xs:List Int) (yv:Value) (ys:List Int) (w:World) (hg:Glob w) (hv:Rcs w v rs0) (hx:Sk .i32 w xv xs) (hy:Sk .i32 w yv ys):Calls Tryz.prog 7 #[v,xv,yv] w (Tells w true):=by
 have K1:=Hd (made_any v rs0 w hg hv)
 have hfit:∀ r∈rs0.take 150,RecFit r:=fun r hr=>hv.2.1 r (List.mem_of_mem_take hr)
 have hrl:(rs0.take 150).length≤150:=by rw [List.length_take]; omega
 have HFIT:=Hd hfit
 clear hfit
 obtain ⟨ao,cap,rfl,_,hcap⟩:=hv.shape
 have HX:=Hd hx
 have HY:=Hd hy
 obtain ⟨xo,xcap,hxe,hxc1,hxc2⟩:=hx.shape
 subst hxe
 obtain ⟨yo,ycap,hye,hyc1,hyc2⟩:=hy.shape
 subst hye
 have HG:=Hd hg
 clear hg hv hx hy
 generalize rs0.take 150=rs at *
 generalize rs0.length=L at *
 go_enter Tryz.func7,Tryz.ntmps7
 go_wp2_with fail
 refine (Uh K1).mono ?_
 rintro e1 w1 ⟨b1,h1⟩
 have HB1:=Hd b1
 clear K1 b1
 rcases h1 with ⟨hne,rfl⟩ | ⟨h0,p,v2,ps2,rfl,hD,r2,p2⟩
 ·have K2:=Hd (told_any12 w1 ((Uh HG).on (Uh HB1)))
  clear hne
  go_wp2_with fail
  refine (Uh K2).mono ?_
  rintro e2 w2 ⟨rfl,b2⟩
  have HB2:=Hd (bthen (Uh HB1) b2)
  clear K2 b2
  go_wp2
  go_ret
  exact ⟨rfl,Uh HB2⟩
 ·have h6:=(Cn.check_iff.1 h0).1
  have R2:=rcs_new r2 p2 (by omega) (Uh HFIT)
  obtain ⟨a2,cp2,hv2,_,hcp2⟩:=R2.shape
  subst hv2
  have H0:=Hd h0
  have HD1:=Hd hD
  have HG1:=Hd ((Uh HG).on (Uh HB1))
  have HX1:=Hd ((Uh HX).below (Uh HB1))
  have HY1:=Hd ((Uh HY).below (Uh HB1))
  have hXl:(xs.take 100).length≤100:=List.length_take_le _ _
  have hYl:(ys.take 100).length≤100:=List.length_take_le _ _
  -- what is plain
  have HJ:=Hd (Cn.nfd_join h6 (xs.take 100) (ys.take 100))
  have HP:=Hd (Cn.nfd_app0 h0 (xs.take 100) (ys.take 100))
  obtain ⟨Z,hZ⟩:∃ Z,xs.take 100++ys.take 100=Z:=⟨_,rfl⟩
  rw [hZ] at HJ HP
  have HZ:=Hd hZ
  have hZl:Z.length≤200:=by rw [← hZ,List.length_append]; omega
  clear hZ
  have HLA:Hid (∀ zs:List Int,zs.length≤200→(Cn.nfd rs zs).length≤6400):=fun zs hz=>by
   unfold Cn.nfd
   rw [Od.ord_len (fun c=>Cn.cls_range h6 c)]
   have:=Cn.openAll_len h0 zs
   omega
  clear hD r2 p2 R2 h6 h0 HX HY HG HFIT
  generalize hXX:xs.take 100=X at *
  generalize hYY:ys.take 100=Y at *
  have HXX:=Hd hXX
  have HYY:=Hd hYY
  clear hXX hYY
  -- both
  have K3:=Hd (few_new12 _ xs 100 w1 (Uh HX1) (by omega))
  rw [Uh HXX] at K3
  go_wp2_with fail
  refine (Uh K3).mono ?_
  rintro e2 w2 ⟨v3,rfl,ok2,b2⟩
  have HS2:=Hd ok2.sk
  have hs2:=b2.size
  have HB2:=Hd b2
  obtain ⟨a3,c3,hv3,_,_⟩:=ok2.sk.shape
  subst hv3
  clear K3 ok2 b2
  go_wp2_with (at_builtin; refine app_sk12 rfl (.tmp 33) (.tmp 35) rfl w1.heap.size _ _ [] X rfl rfl (Ok.nil _ _ _ _) (Uh HS2) (by simp; omega) hs2 ?_)
  intro v4 w3 ok3 g3
  have b3:Below w1.heap.size w1 w3:=(Uh HB2).grown g3 hs2 (fun k hk=>by cases hk)
  have HO3:=Hd ok3
  have HB3:=Hd b3
  obtain ⟨a4,c4,hv4,_,_⟩:=ok3.sk.shape
  subst hv4
  have K4:=Hd (few_new12 _ ys 100 w3 ((Uh HY1).below b3) (by omega))
  rw [Uh HYY] at K4
  clear ok3 g3 b3 HS2 HB2 hs2
  go_wp2_with fail
  refine (Uh K4).mono ?_
  rintro e4 w4 ⟨v5,rfl,ok4,b4⟩
  have HS4:=Hd ok4.sk
  have HO4:=Hd ((Uh HO3).below b4)
  have hb4:=bthen (Uh HB3) b4
  have HB4:=Hd hb4
  have hs4:=hb4.size
  have HLT:Hid (∀ k,(Value.slice a4 X.length c4).ownBlock=some k→w1.heap.size≤k):=fun k hk=>((Uh HO4).row.lt k hk).1
  obtain ⟨a5,c5,hv5,_,_⟩:=ok4.sk.shape
  subst hv5
  clear K4 ok4 b4 hb4 HO3 HB3
  go_wp2_with (at_builtin; refine app_sk12 rfl (.tmp 37) (.tmp 39) rfl w1.heap.size _ _ X Y rfl rfl (Uh HO4) (Uh HS4) (by omega) hs4 ?_)
  intro v6 w5 ok5 g5
  rw [Uh HZ] at ok5
  have b5:Below w1.heap.size w1 w5:=(Uh HB4).grown g5 hs4 (Uh HLT)
  have HO5:=Hd ok5.sk
  have HD5:=Hd ((Uh HD1).below b5)
  have HG5:=Hd ((Uh HG1).on b5)
  have HX5:=Hd ((Uh HX1).below b5)
  have HY5:=Hd ((Uh HY1).below b5)
  have HW5:=Hd (bthen (Uh HB1) b5)
  obtain ⟨a6,c6,hv6,_,_⟩:=ok5.sk.shape
  subst hv6
  clear ok5 g5 b5 HS4 HO4 HB4 HLT hs4 HD1 HG1 HX1 HY1 HB1
  -- a
  have K5:=Hd (few_new12 _ xs 100 w5 (Uh HX5) (by omega))
  rw [Uh HXX] at K5
  go_wp2_with fail
  refine (Uh K5).mono ?_
  rintro e6 w6 ⟨v7,rfl,ok6,b6⟩
  have HD6:=Hd ((Uh HD5).below b6)
  have HG6:=Hd ((Uh HG5).on b6)
  have HY6:=Hd ((Uh HY5).below b6)
  have HO6:=Hd ((Uh HO5).below b6)
  have HW6:=Hd (bthen (Uh HW5) b6)
  have K6:=Hd (nfd_any12 v7 X w6 (Uh HG6) (Uh HD6) (Uh H0) ok6.sk)
  rw [if_neg (by omega)] at K6
  obtain ⟨a7,c7,hv7,_,_⟩:=ok6.sk.shape
  subst hv7
  clear K5 ok6 b6 HD5 HG5 HX5 HY5 HO5 HW5
  go_wp2_with fail
  refine (Uh K6).mono ?_
  rintro e7 w7 ⟨v8,rfl,ok7,b7⟩
  have HD7:=Hd ((Uh HD6).below b7)
  have HG7:=Hd ((Uh HG6).on b7)
  have HY7:=Hd ((Uh HY6).below b7)
  have HO7:=Hd ((Uh HO6).below b7)
  have HA7:=Hd ok7.sk
  have HW7:=Hd (bthen (Uh HW6) b7)
  obtain ⟨a8,c8,hv8,_,_⟩:=ok7.sk.shape
  subst hv8
  clear K6 ok7 b7 HD6 HG6 HY6 HO6 HW6
  -- b
  have K7:=Hd (few_new12 _ ys 100 w7 (Uh HY7) (by omega))
  rw [Uh HYY] at K7
  go_wp2_with fail
  refine (Uh K7).mono ?_
  rintro e8 w8 ⟨v9,rfl,ok8,b8⟩
  have HD8:=Hd ((Uh HD7).below b8)
  have HG8:=Hd ((Uh HG7).on b8)
  have HY8:=Hd ((Uh HY7).below b8)
  have HO8:=Hd ((Uh HO7).below b8)
  have HA8:=Hd ((Uh HA7).below b8)
  have HW8:=Hd (bthen (Uh HW7) b8)
  have K8:=Hd (nfd_any12 v9 Y w8 (Uh HG8) (Uh HD8) (Uh H0) ok8.sk)
  rw [if_neg (by omega)] at K8
  obtain ⟨a9,c9,hv9,_,_⟩:=ok8.sk.shape
  subst hv9
  clear K7 ok8 b8 HD7 HG7 HY7 HO7 HA7 HW7
  go_wp2_with fail
  refine (Uh K8).mono ?_
  rintro e9 w9 ⟨v10,rfl,ok9,b9⟩
  have HD9:=Hd ((Uh HD8).below b9)
  have HG9:=Hd ((Uh HG8).on b9)
  have HY9:=Hd ((Uh HY8).below b9)
  have HO9:=Hd ((Uh HO8).below b9)
  have HA9:=Hd ((Uh HA8).below b9)
  have HN9:=Hd ok9.sk
  have HW9:=Hd (bthen (Uh HW8) b9)
  obtain ⟨a10,c10,hv10,_,_⟩:=ok9.sk.shape
  subst hv10
  clear K8 ok9 b9 HD8 HG8 HY8 HO8 HA8 HW8
  -- c
  have K9:=Hd (nfd_any12 _ Z w9 (Uh HG9) (Uh HD9) (Uh H0) (Uh HO9))
  rw [if_neg (by omega)] at K9
  go_wp2_with fail
  refine (Uh K9).mono ?_
  rintro e10 w10 ⟨v11,rfl,ok10,b10⟩
  have HD10:=Hd ((Uh HD9).below b10)
  have HG10:=Hd ((Uh HG9).on b10)
  have HY10:=Hd ((Uh HY9).below b10)
  have HA10:=Hd ((Uh HA9).below b10)
  have HN10:=Hd ((Uh HN9).below b10)
  have HC10:=Hd ok10.sk
  have HW10:=Hd (bthen (Uh HW9) b10)
  obtain ⟨a11,c11,hv11,_,_⟩:=ok10.sk.shape
  subst hv11
  have hAl:=(Uh HLA) X (by omega)
  have hBl:=(Uh HLA) Y (by omega)
  have HCL:=Hd ((Uh HLA) Z hZl)
  clear K9 ok10 b10 HD9 HG9 HY9 HO9 HA9 HN9 HW9 HLA
  generalize Cn.nfd rs X=A at *
  generalize Cn.nfd rs Y=B at *
  generalize Cn.nfd rs Z=C at *
  obtain ⟨AB,hAB⟩:∃ AB,A++B=AB:=⟨_,rfl⟩
  rw [hAB] at HJ HP
  have HAB:=Hd hAB
  have hABl:AB.length≤12800:=by rw [← hAB,List.length_append]; omega
  clear hAB
  -- j
  go_wp2_with (at_builtin; refine app_sk12 rfl (.tmp 61) (.tmp 62) rfl w10.heap.size _ _ [] A rfl rfl (Ok.nil _ _ _ _) (Uh HA10) (by simp; omega) (Nat.le_refl _) ?_)
  intro v12 w11 ok11 g11
  have b11:Below w10.heap.size w10 w11:=(Below.refl _ _).grown g11 (Nat.le_refl _) (fun k hk=>by cases hk)
  have HO11:=Hd ok11
  have HB11:=Hd b11
  have hs11:=b11.size
  have HN11:=Hd ((Uh HN10).below b11)
  have HLT:Hid (∀ k,v12.ownBlock=some k→w10.heap.size≤k):=fun k hk=>(ok11.row.lt k hk).1
  obtain ⟨a12,c12,hv12,_,_⟩:=ok11.sk.shape
  subst hv12
  clear ok11 g11 b11 HN10 HA10
  go_wp2_with (at_builtin; refine app_sk12 rfl (.tmp 64) (.tmp 65) rfl w10.heap.size _ _ A B rfl rfl (Uh HO11) (Uh HN11) (by omega) hs11 ?_)
  intro v13 w12 ok12 g12
  rw [Uh HAB] at ok12
  have b12:Below w10.heap.size w10 w12:=(Uh HB11).grown g12 hs11 (Uh HLT)
  have HD12:=Hd ((Uh HD10).below b12)
  have HG12:=Hd ((Uh HG10).on b12)
  have HY12:=Hd ((Uh HY10).below b12)
  have HC12:=Hd ((Uh HC10).below b12)
  have HJ12:=Hd ok12.sk
  have HW12:=Hd (bthen (Uh HW10) b12)
  obtain ⟨a13,c13,hv13,_,_⟩:=ok12.sk.shape
  subst hv13
  clear ok12 g12 b12 HO11 HN11 HB11 HLT HD10 HG10 HY10 HC10 HW10
  -- s
  have K10:=Hd (sort_any12 _ AB w12 (Uh HD12) (Uh H0) (Uh HJ12))
  rw [if_neg (by omega),← Uh HJ] at K10
  go_wp2_with fail
  refine (Uh K10).mono ?_
  rintro e13 w13 ⟨v14,rfl,ok13,b13⟩
  have HD13:=Hd ((Uh HD12).below b13)
  have HG13:=Hd ((Uh HG12).on b13)
  have HY13:=Hd ((Uh HY12).below b13)
  have HC13:=Hd ((Uh HC12).below b13)
  have HJ13:=Hd ((Uh HJ12).below b13)
  have HW13:=Hd (bthen (Uh HW12) b13)
  have K11:=Hd (same3_eq _ _ C w13 (Uh HC13) ok13.sk (by have:=Uh HCL; omega))
  obtain ⟨a14,c14,hv14,_,_⟩:=ok13.sk.shape
  subst hv14
  clear K10 ok13 b13 HD12 HG12 HY12 HC12 HJ12 HW12
  go_wp2_with fail
  refine (Uh K11).mono ?_
  rintro e14 w14 ⟨rfl,m14,rfl⟩
  have b14:Below w13.heap.size w13 (w13.drewN m14):=drewB ⟨m14,rfl⟩
  have HD14:=Hd ((Uh HD13).below b14)
  have HG14:=Hd ((Uh HG13).on b14)
  have HY14:=Hd ((Uh HY13).below b14)
  have HC14:=Hd ((Uh HC13).below b14)
  have HJ14:=Hd ((Uh HJ13).below b14)
  have HW14:=Hd (bthen (Uh HW13) b14)
  clear K11 b14 HD13 HG13 HY13 HC13 HJ13 HW13
  generalize w13.drewN m14=w14 at *
  have hFin:∀ W,Below w14.heap.size w14 W→C=AB→Calls Tryz.prog 12 #[.slice a11 C.length c11,.slice a13 AB.length c13] W (Draws W true):=fun W hW he=>by
   have hj:=(Uh HJ14).below hW
   rw [← he] at hj ⊢
   exact same3_eq _ _ C W ((Uh HC14).below hW) hj (by have:=Uh HCL; omega)
  have HFIN:=Hd hFin
  clear hFin
  rcases Nat.eq_zero_or_pos ys.length with hy0 | hy0
  ·have K12:=Hd ((Uh HFIN) w14 (Below.refl _ _) ((Uh HP) (fun h=>by rw [← Uh HYY,List.length_take] at h; omega)))
   have hyl:(ys.length:Int)=0:=by omega
   clear HFIN HD14 HG14 HY14 HC14 HJ14 HP HJ
   go_wp2_with fail
   refine (Uh K12).mono ?_
   rintro e15 w15 ⟨rfl,m15,rfl⟩
   have HW15:=Hd (bthen (Uh HW14) (drewB ⟨m15,rfl⟩))
   clear K12
   generalize w14.drewN m15=w15 at *
   go_wp2
   go_ret
   exact ⟨rfl,Uh HW15⟩
  ·obtain ⟨bx,ox,cqx,hex,_,_,hclx⟩:=(Uh HY14).place hy0
   simp only [Value.slice.injEq] at hex
   obtain ⟨rfl,h9,rfl⟩:=hex
   clear h9
   have hcell:w14.cell? ⟨bx,ox,none⟩=some (.int .i32 (ys.getD 0 0)):=hclx 0 hy0
   have hrn:Rune (ys.getD 0 0):=by
    have:=(Uh HY14).1 (ys.getD 0 0) (by simp [List.getD,hy0])
    exact ⟨this.1,this.2⟩
   have hY0:Y.getD 0 0=ys.getD 0 0:=by
    rw [← Uh HYY]
    simp [List.getD]
   have K12:=Hd (full_any9 (ys.getD 0 0) w14 (Uh HG14) (Uh HD14) (Uh H0) hrn)
   have hf0:=(Cn.leaves (Uh H0) (ys.getD 0 0)).2.1
   have HP2:Hid (Cn.cls rs ((Cn.full rs (ys.getD 0 0)).1.getD 0 0)=0→C=AB):=fun h=>(Uh HP) (fun _=>by rw [hY0]; exact h)
   have hyl:(0:Int)<(ys.length:Int):=by omega
   clear hclx hrn hY0 HP HJ HY14
   generalize (Cn.full rs (ys.getD 0 0)).1=fs at *
   generalize ys.getD 0 0=y0 at *
   go_wp2_with fail
   refine (Uh K12).mono ?_
   rintro e15 w15 ⟨v15,rfl,ok15,b15⟩
   obtain ⟨fb,fo,fc,hfe,_,_,hfc⟩:=ok15.sk.place hf0
   have hfr:Rune (fs.getD 0 0):=by
    have:=ok15.1 (fs.getD 0 0) (by simp [List.getD,hf0])
    exact ⟨this.1,this.2⟩
   subst hfe
   have hcf:w15.cell? ⟨fb,fo,none⟩=some (.int .i32 (fs.getD 0 0)):=hfc 0 hf0
   have h6:=check6_of (Uh H0)
   have K13:=Hd (class_all12 ((Uh HD14).below b15) h6 (fs.getD 0 0) w15 hfr (Below.refl _ _))
   have HB15:=Hd b15
   have HW15:=Hd (bthen (Uh HW14) b15)
   have hfl:(0:Int)<(fs.length:Int):=by omega
   clear K12 ok15 b15 hfc hfr h6 HD14 HG14 HW14 hcell
   generalize fs.getD 0 0=f0 at *
   go_wp2_with fail
   refine (Uh K13).mono ?_
   rintro e16 w16 ⟨rfl,m16,rfl⟩
   have b16:Below w15.heap.size w15 (w15.drewN m16):=drewB ⟨m16,rfl⟩
   have HB16:=Hd (bthen (Uh HB15) b16)
   have HW16:=Hd (bthen (Uh HW15) b16)
   clear K13 b16 HB15 HW15 hcf
   generalize w15.drewN m16=w16 at *
   by_cases hc:Cn.cls rs f0=0
   ·have K14:=Hd ((Uh HFIN) w16 (Uh HB16) ((Uh HP2) hc))
    clear HFIN HP2 HC14 HJ14 HB16
    go_wp2_with fail
    refine (Uh K14).mono ?_
    rintro e17 w17 ⟨rfl,m17,rfl⟩
    have HW17:=Hd (bthen (Uh HW16) (drewB ⟨m17,rfl⟩))
    clear K14
    generalize w16.drewN m17=w17 at *
    go_wp2
    go_ret
    exact ⟨rfl,Uh HW17⟩
   ·have hcb:(Cn.cls rs f0 != 0)=true:=bne_iff_ne.2 hc
    clear HFIN HP2 HC14 HJ14 HB16
    go_wp2
    go_ret
    exact ⟨rfl,Uh HW16⟩
end Go.Proofs.YteccdnacpmbfcaaGreatDoor
