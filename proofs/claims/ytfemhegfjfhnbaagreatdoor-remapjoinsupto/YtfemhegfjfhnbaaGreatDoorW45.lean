/- Rk15 -/
import Derived.Test.YtfemhegfjfhnbaaGreatDoorW44
namespace Go.Proofs.YtfemhegfjfhnbaaGreatDoor
open Go.RowKit
open Ti
set_option maxRecDepth 20000 in
set_option maxHeartbeats 8000000 in
theorem joins_any15 (v:Value) (rs0:List Rec) (xv:Value) (xs:List Int) (yv:Value) (ys:List Int) (fl:Int) (w:World) (hg:Glob w) (hv:Rcs w v rs0) (hx:Sk .i32 w xv xs) (hy:Sk .i32 w yv ys):Calls Tryz.prog 5 #[v,xv,yv,.int .i64 fl] w (Tells w true):=by
 have K1:=Hd (made_any v rs0 w hg hv)
 have hfit:∀ r∈rs0.take 150,RecFit r:=fun r hr=>hv.2.1 r (List.mem_of_mem_take hr)
 have hrl:(rs0.take 150).length≤150:=by rw [List.length_take]; omega
 have HFIT:=Hd hfit
 clear hfit
 obtain ⟨ao,cap,rfl,_,hcap⟩:=hv.shape
 have HX:=Hd hx
 have HY:=Hd hy
 obtain ⟨xo,xcap,hxe,hxc1,hxc2⟩:=hx.shape
 subst hxe
 obtain ⟨yo,ycap,hye,hyc1,hyc2⟩:=hy.shape
 subst hye
 have HG:=Hd hg
 clear hg hv hx hy
 generalize rs0.take 150=rs at *
 generalize rs0.length=L at *
 go_enter Tryz.func5,Tryz.ntmps5
 go_wp2_with fail
 refine (Uh K1).mono ?_
 rintro e1 w1 ⟨b1,h1⟩
 have HB1:=Hd b1
 clear K1 b1
 rcases h1 with ⟨hne,rfl⟩ | ⟨h0,p,v2,ps2,rfl,hD,r2,p2⟩
 ·have K2:=Hd (told_any15 w1 ((Uh HG).on (Uh HB1)))
  clear hne
  go_wp2_with fail
  refine (Uh K2).mono ?_
  rintro e2 w2 ⟨rfl,b2⟩
  have HB2:=Hd (bthen (Uh HB1) b2)
  clear K2 b2
  go_wp2
  go_ret
  exact ⟨rfl,Uh HB2⟩
 ·have h6:=(Cn.check_iff.1 h0).1
  have R2:=rcs_new r2 p2 (by omega) (Uh HFIT)
  obtain ⟨a2,cp2,hv2,_,hcp2⟩:=R2.shape
  subst hv2
  have H6:=Hd h6
  have HD1:=Hd hD
  have HX1:=Hd ((Uh HX).below (Uh HB1))
  have HY1:=Hd ((Uh HY).below (Uh HB1))
  have hXl:(xs.take 100).length≤100:=List.length_take_le _ _
  have hYl:(ys.take 100).length≤100:=List.length_take_le _ _
  have hFX:=Cn.flat_len15 h6 (tr15 fl) (xs.take 100)
  have hFY:=Cn.flat_len15 h6 (tr15 fl) (ys.take 100)
  have HFA:=Hd (flat_app15 (Cn.one15 rs (tr15 fl)) (xs.take 100) (ys.take 100))
  clear hD r2 p2 R2 h6 h0 HX HY HG
  generalize hXX:xs.take 100=X at *
  generalize hYY:ys.take 100=Y at *
  have HXX:=Hd hXX
  have HYY:=Hd hYY
  clear hXX hYY
  obtain ⟨Z,hZ⟩:∃ Z,X++Y=Z:=⟨_,rfl⟩
  rw [hZ] at HFA
  have HZ:=Hd hZ
  have hZl:Z.length≤200:=by rw [← hZ,List.length_append]; omega
  clear hZ
  have hFZ:=Cn.flat_len15 (Uh H6) (tr15 fl) Z
  -- a
  have K3:=Hd (few_any15 _ xs 100 w1 (Uh HX1) (by omega))
  rw [Uh HXX] at K3
  go_wp2_with fail
  refine (Uh K3).mono ?_
  rintro e2 w2 ⟨v3,rfl,ok2,b2⟩
  have HA2:=Hd ok2.sk
  have HD2:=Hd ((Uh HD1).below b2)
  have HB2:=Hd (bthen (Uh HB1) b2)
  have K4:=Hd (few_any15 _ ys 100 w2 ((Uh HY1).below b2) (by omega))
  rw [Uh HYY] at K4
  obtain ⟨a3,c3,hv3,_,_⟩:=ok2.sk.shape
  subst hv3
  clear K3 ok2 b2 HX1 HY1 HD1 HB1
  -- b
  go_wp2_with fail
  refine (Uh K4).mono ?_
  rintro e3 w3 ⟨v4,rfl,ok3,b3⟩
  have HA3:=Hd ((Uh HA2).below b3)
  have HE3:=Hd ok3.sk
  have HD3:=Hd ((Uh HD2).below b3)
  have HB3:=Hd (bthen (Uh HB2) b3)
  obtain ⟨a4,c4,hv4,_,_⟩:=ok3.sk.shape
  subst hv4
  clear K4 ok3 b3 HA2 HD2 HB2
  -- both
  go_wp2_with (at_builtin; refine app_sk15 rfl (.tmp 42) (.tmp 43) rfl w3.heap.size _ _ [] X rfl rfl (Ok.nil _ _ _ _) (Uh HA3) (by simp; omega) (Nat.le_refl _) ?_)
  intro v5 w4 ok4 g4
  have b4:Below w3.heap.size w3 w4:=(Below.refl _ _).grown g4 (Nat.le_refl _) (fun k hk=>by cases hk)
  have hs4:=b4.size
  have HO4:=Hd ok4
  have HB4:=Hd b4
  have HE4:=Hd ((Uh HE3).below b4)
  have HLT:Hid (∀ k,v5.ownBlock=some k→w3.heap.size≤k):=fun k hk=>(ok4.row.lt k hk).1
  obtain ⟨a5,c5,hv5,_,_⟩:=ok4.sk.shape
  subst hv5
  clear ok4 g4 b4
  go_wp2_with (at_builtin; refine app_sk15 rfl (.tmp 45) (.tmp 46) rfl w3.heap.size _ _ X Y rfl rfl (Uh HO4) (Uh HE4) (by omega) hs4 ?_)
  intro v6 w5 ok5 g5
  rw [Uh HZ] at ok5
  have b5:Below w3.heap.size w3 w5:=(Uh HB4).grown g5 hs4 (Uh HLT)
  have HZ5:=Hd ok5.sk
  have HD5:=Hd ((Uh HD3).below b5)
  have HA5:=Hd ((Uh HA3).below b5)
  have HE5:=Hd ((Uh HE3).below b5)
  have HB5:=Hd (bthen (Uh HB3) b5)
  obtain ⟨a6,c6,hv6,hzc1,hzc2⟩:=ok5.sk.shape
  subst hv6
  clear ok5 g5 b5 HO4 HE4 HB4 HLT hs4 HD3 HA3 HE3 HB3
  -- valid
  have HVS:=Hd (fun k hk=>Cn.val_step15 rs Z (k:=k) hk)
  have HVL:=Hd (fun k=>Cn.val_len15 rs (Z.take k))
  go_wp2
  go_loopw [15,16] (fun o i wr=>∃ k:Nat,i=.int .i64 k∧k≤Z.length∧Ok .i32 21 wr w5.heap.size o (Cn.val15 rs (Z.take k))∧Below w5.heap.size w5 wr) (fun _ i _=>Z.length - (intOf i).toNat)
  case atStart=>exact ⟨0,rfl,Nat.zero_le _,Ok.nil _ _ _ _,Below.refl _ _⟩
  case round =>
   obtain ⟨k,rfl,hk,hok,hb⟩:=hrel
   by_cases hlt:k<Z.length
   ·have hzw:=(Uh HZ5).below hb
    obtain ⟨b,off,cap',he,_,_,hcl⟩:=hzw.place (by omega)
    simp only [Value.slice.injEq] at he
    obtain ⟨rfl,-,rfl⟩:=he
    have x4:=hcl k hlt
    have hrn:Rune (Z.getD k 0):=by
     have:=hzw.1 (Z.getD k 0) (by simp [List.getD,hlt])
     exact ⟨this.1,this.2⟩
    have K:=Hd (status_any9 (Z.getD k 0) wr ((Uh HD5).below hb) (Uh H6) hrn)
    have hst:=(Uh HVS) k hlt
    have hvl:=(Uh HVL) k
    have HOK:=Hd hok
    have HB:=Hd hb
    have hs:=hb.size
    have hlk:(Z.take k).length≤200:=by rw [List.length_take]; omega
    obtain ⟨a1,c1,hv1,_,_⟩:=hok.sk.shape
    subst hv1
    have HC:Hid (∀ m,(wr.drewN m).cell? ⟨b,off+k,none⟩=some (.int .i32 (Z.getD k 0))):=fun m=>by rw [(drewB ⟨m,rfl⟩:Below wr.heap.size wr (wr.drewN m)).cell (lt_of_cell? x4)]; exact x4
    clear hok hb hzw hcl HZ5 HD5 HA5 HE5 HB5 HVS HVL
    obtain ⟨hr1,hr2⟩:=hrn
    generalize Z.getD k 0=c at *
    go_wp2_with fail
    refine (Uh K).mono ?_
    rintro e w7 ⟨rfl,m,rfl⟩
    have hdb:Below wr.heap.size wr (wr.drewN m):=drewB ⟨m,rfl⟩
    have hB7:=bthen (Uh HB) hdb
    have HO7:=Hd ((Uh HOK).below hdb)
    have x7:=(Uh HC) m
    clear K HB HOK HC x4 hdb
    generalize wr.drewN m=w7 at *
    have hs7:=hB7.size
    have HB7:=Hd hB7
    clear hB7
    by_cases hva:Cn.vget rs 1 c=1
    ·rw [if_pos hva] at hst
     rw [hva]
     have HS1:Hid (Sk .i32 (w7.alloc (.cells #[.int .i32 c] 21)) (.slice (some ⟨w7.heap.size,0,none⟩) 1 1) [c]):=(ok_one9 w7 0 (Nat.zero_le _) c ⟨hr1,hr2⟩).sk
     have HO8:=Hd (ok_alloc15 (Uh HO7) (.cells #[.int .i32 c] 21))
     have HB8:=Hd ((Uh HB7).alloc hs7 (.cells #[.int .i32 c] 21))
     have hs8:=alloc_size15 w7 (.cells #[.int .i32 c] 21)
     have HS8:=Hd hs8
     have HLT:Hid (∀ j,(Value.slice a1 (Cn.val15 rs (Z.take k)).length c1).ownBlock=some j→w5.heap.size≤j):=fun j hj=>((Uh HO7).row.lt j hj).1
     clear hs8 HO7 HB7
     go_wp2_with (at_builtin; refine app_sk15 rfl (.tmp 61) (.tmp 66) rfl w5.heap.size _ _ _ [c] rfl rfl (Uh HO8) (Uh HS1) (by simp; omega) (by have:=Uh HS8; omega) ?_)
     intro v8 w8 ok8 g8
     have b8:Below w5.heap.size w5 w8:=(Uh HB8).grown g8 (by have:=Uh HS8; omega) (Uh HLT)
     rw [← hst] at ok8
     have HO9:=Hd ok8
     have HB9:=Hd b8
     clear ok8 g8 b8 HO8 HB8 HS1 HS8 HLT x7 hst
     go_wp2
     go_roundw
     case rel=>exact ⟨k+1,by go_num,by omega,Uh HO9,Uh HB9⟩
     case measure=>simp [intOf]; omega
    ·rw [if_neg hva,List.append_nil] at hst
     have hvb:(Cn.vget rs 1 c==1)=false:=by rw [beq_eq_false_iff_ne]; exact hva
     have HST:=Hd hst
     clear hst x7
     go_wp2
     go_roundw
     case rel=>exact ⟨k+1,by go_num,by omega,by rw [Uh HST]; exact Uh HO7,Uh HB7⟩
     case measure=>simp [intOf]; omega
   ·obtain rfl:k=Z.length:=by omega
    rw [List.take_length] at hok
    have HVA:=Hd (Cn.val_all15 rs Z)
    have hVl:=Cn.val_len15 rs Z
    have HFV:=Hd (Cn.flat_valid15 (tr15 fl) _ (Uh HVA))
    have HSV:=Hd (Cn.stl_valid15 (tr15 fl) _ (Uh HVA) (by omega))
    have hD8:=(Uh HD5).below hb
    have HV8:=Hd hok.sk
    have HZ8:=Hd ((Uh HZ5).below hb)
    have HA8:=Hd ((Uh HA5).below hb)
    have HE8:=Hd ((Uh HE5).below hb)
    have HB8:=Hd (bthen (Uh HB5) hb)
    have HD8:=Hd hD8
    obtain ⟨a7,c7,hv7,_,_⟩:=hok.sk.shape
    subst hv7
    clear hok hb hD8 HZ5 HD5 HA5 HE5 HB5 HVS HVL HVA hlt hk
    have HFT:=Hd (Uh HFIT)
    clear HFIT
    generalize Cn.val15 rs Z=V at *
    -- p
    have K9:=Hd (map_any15 p fl _ _ X wr (Uh HA8) (by omega) (oneC15 fl wr (Uh HD8) (Uh H6) (Uh HFT)))
    generalize flat15 (Cn.one15 rs (tr15 fl)) X=PX at *
    go_wp2_with fail
    refine (Uh K9).mono ?_
    rintro e9 w9 ⟨b9,⟨_,v9,rfl,ok9⟩ | ⟨hgt,_⟩⟩
    rotate_left
    ·exact absurd hgt (by omega)
    have HP9:=Hd ok9.sk
    have HD9:=Hd ((Uh HD8).below b9)
    have HV9:=Hd ((Uh HV8).below b9)
    have HZ9:=Hd ((Uh HZ8).below b9)
    have HE9:=Hd ((Uh HE8).below b9)
    have HB9:=Hd (bthen (Uh HB8) b9)
    obtain ⟨a9,c9,hv9,_,_⟩:=ok9.sk.shape
    subst hv9
    clear K9 ok9 b9 HD8 HV8 HZ8 HE8 HB8 HA8
    -- q
    have K10:=Hd (map_any15 p fl _ _ Y w9 (Uh HE9) (by omega) (oneC15 fl w9 (Uh HD9) (Uh H6) (Uh HFT)))
    generalize flat15 (Cn.one15 rs (tr15 fl)) Y=PY at *
    go_wp2_with fail
    refine (Uh K10).mono ?_
    rintro e10 w10 ⟨b10,⟨_,v10,rfl,ok10⟩ | ⟨hgt,_⟩⟩
    rotate_left
    ·exact absurd hgt (by omega)
    have HQ10:=Hd ok10.sk
    have HP10:=Hd ((Uh HP9).below b10)
    have HD10:=Hd ((Uh HD9).below b10)
    have HV10:=Hd ((Uh HV9).below b10)
    have HZ10:=Hd ((Uh HZ9).below b10)
    have HB10:=Hd (bthen (Uh HB9) b10)
    obtain ⟨a10,c10,hv10,_,_⟩:=ok10.sk.shape
    subst hv10
    clear K10 ok10 b10 HD9 HV9 HZ9 HE9 HB9 HP9
    -- r
    have K11:=Hd (map_any15 p fl _ _ Z w10 (Uh HZ10) (by omega) (oneC15 fl w10 (Uh HD10) (Uh H6) (Uh HFT)))
    rw [Uh HFA] at K11
    have hPQ:(PX++PY).length=PX.length+PY.length:=List.length_append
    go_wp2_with fail
    refine (Uh K11).mono ?_
    rintro e11 w11 ⟨b11,⟨_,v11,rfl,ok11⟩ | ⟨hgt,_⟩⟩
    rotate_left
    ·exact absurd hgt (by omega)
    have HR11:=Hd ok11.sk
    have HQ11:=Hd ((Uh HQ10).below b11)
    have HP11:=Hd ((Uh HP10).below b11)
    have HD11:=Hd ((Uh HD10).below b11)
    have HV11:=Hd ((Uh HV10).below b11)
    have HB11:=Hd (bthen (Uh HB10) b11)
    obtain ⟨a11,c11,hv11,_,_⟩:=ok11.sk.shape
    rw [hPQ] at hv11
    subst hv11
    clear K11 ok11 b11 HD10 HV10 HZ10 HB10 HP10 HQ10
    -- v
    have K12:=Hd (map_any15 p fl _ _ V w11 (Uh HV11) (by omega) (oneC15 fl w11 (Uh HD11) (Uh H6) (Uh HFT)))
    rw [Uh HFV] at K12
    go_wp2_with fail
    refine (Uh K12).mono ?_
    rintro e12 w12 ⟨b12,⟨_,v12,rfl,ok12⟩ | ⟨hgt,_⟩⟩
    rotate_left
    ·exact absurd hgt (by omega)
    have HU12:=Hd ok12.sk
    have HR12:=Hd ((Uh HR11).below b12)
    have HQ12:=Hd ((Uh HQ11).below b12)
    have HD12:=Hd ((Uh HD11).below b12)
    have HV12:=Hd ((Uh HV11).below b12)
    have HB12:=Hd (bthen (Uh HB11) b12)
    have K13:=Hd (few_any15 _ PX PX.length w12 ((Uh HP11).below b12) (by omega))
    rw [List.take_length] at K13
    obtain ⟨a12,c12,hv12,_,_⟩:=ok12.sk.shape
    subst hv12
    clear K12 ok12 b12 HD11 HV11 HB11 HP11 HQ11 HR11
    -- few of p,and q behind it
    go_wp2_with fail
    refine (Uh K13).mono ?_
    rintro e13 w13 ⟨v13,rfl,ok13,b13⟩
    have HO13:=Hd ok13
    have hs13:=b13.size
    have HU13:=Hd ((Uh HU12).below b13)
    have HR13:=Hd ((Uh HR12).below b13)
    have HQ13:=Hd ((Uh HQ12).below b13)
    have HD13:=Hd ((Uh HD12).below b13)
    have HV13:=Hd ((Uh HV12).below b13)
    have HBB:=Hd b13
    have HLT:Hid (∀ j,v13.ownBlock=some j→w12.heap.size≤j):=fun j hj=>(ok13.row.lt j hj).1
    obtain ⟨a13,c13,hv13,_,_⟩:=ok13.sk.shape
    subst hv13
    clear K13 ok13 b13
    go_wp2_with (at_builtin; refine app_sk15 rfl (.tmp 100) (.tmp 101) rfl w12.heap.size _ _ PX PY rfl rfl (Uh HO13) (Uh HQ13) (by omega) hs13 ?_)
    intro v14 w14 ok14 g14
    have b14:Below w12.heap.size w12 w14:=(Uh HBB).grown g14 hs13 (Uh HLT)
    have K15:=Hd (same3_eq _ v14 (PX++PY) w14 (by have h:=(Uh HR12).below b14; rw [← hPQ] at h; exact h) ok14.sk (by omega))
    rw [hPQ] at K15
    have HU14:=Hd ((Uh HU12).below b14)
    have HD14:=Hd ((Uh HD12).below b14)
    have HV14:=Hd ((Uh HV12).below b14)
    have HB14:=Hd (bthen (Uh HB12) b14)
    obtain ⟨a14,c14,hv14,_,_⟩:=ok14.sk.shape
    rw [hPQ] at hv14
    subst hv14
    clear ok14 g14 b14 HO13 HU13 HR13 HQ13 HD13 HV13 HBB HLT HU12 HR12 HQ12 HD12 HV12 HB12 hs13
    go_wp2_with fail
    refine (Uh K15).mono ?_
    rintro e15 w15 ⟨rfl,m15,rfl⟩
    have hb15:Below w14.heap.size w14 (w14.drewN m15):=drewB ⟨m15,rfl⟩
    have HU15:=Hd ((Uh HU14).below hb15)
    have HD15:=Hd ((Uh HD14).below hb15)
    have HV15:=Hd ((Uh HV14).below hb15)
    have HB15:=Hd (bthen (Uh HB14) hb15)
    clear K15 hb15 HU14 HD14 HV14 HB14
    generalize w14.drewN m15=w15 at *
    have K16:=Hd (same3_eq _ _ V w15 (Uh HU15) (Uh HV15) (by omega))
    go_wp2_with fail
    refine (Uh K16).mono ?_
    rintro e16 w16 ⟨rfl,m16,rfl⟩
    have hb16:Below w15.heap.size w15 (w15.drewN m16):=drewB ⟨m16,rfl⟩
    have HD16:=Hd ((Uh HD15).below hb16)
    have HV16:=Hd ((Uh HV15).below hb16)
    have HB16:=Hd (bthen (Uh HB15) hb16)
    clear K16 hb16 HU15 HD15 HV15 HB15
    generalize w15.drewN m16=w16 at *
    have K17:=Hd (settled_any15 p fl _ _ V w16 (Uh HV16) (by omega) (oneC15 fl w16 (Uh HD16) (Uh H6) (Uh HFT)))
    rw [Uh HSV] at K17
    go_wp2_with fail
    refine (Uh K17).mono ?_
    rintro e17 w17 ⟨rfl,b17⟩
    have HB17:=Hd (bthen (Uh HB16) b17)
    clear K17 b17 HD16 HV16 HB16
    go_wp2
    go_ret
    exact ⟨rfl,Uh HB17⟩
end Go.Proofs.YtfemhegfjfhnbaaGreatDoor
