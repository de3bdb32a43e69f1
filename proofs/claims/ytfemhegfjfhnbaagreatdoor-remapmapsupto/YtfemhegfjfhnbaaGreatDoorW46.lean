/- Rl15 -/
import Derived.Test.YtfemhegfjfhnbaaGreatDoorW44
namespace Go.Proofs.YtfemhegfjfhnbaaGreatDoor
open Go.RowKit
open Ti
set_option maxRecDepth 20000 in
set_option maxHeartbeats 8000000 in
theorem maps_any15 (v:Value) (rs0:List Rec) (xv:Value) (xs:List Int) (fl:Int) (w:World) (hg:Glob w) (hv:Rcs w v rs0) (hx:Sk .i32 w xv xs):Calls Tryz.prog 3 #[v,xv,.int .i64 fl] w (Tells w true):=by
 have K1:=Hd (made_any v rs0 w hg hv)
 have hfit:∀ r∈rs0.take 150,RecFit r:=fun r hr=>hv.2.1 r (List.mem_of_mem_take hr)
 have hrl:(rs0.take 150).length≤150:=by rw [List.length_take]; omega
 have HFIT:=Hd hfit
 clear hfit
 obtain ⟨ao,cap,rfl,_,hcap⟩:=hv.shape
 have HX:=Hd hx
 obtain ⟨xo,xcap,hxe,hxc1,hxc2⟩:=hx.shape
 subst hxe
 have HG:=Hd hg
 clear hg hv hx
 generalize rs0.take 150=rs at *
 generalize rs0.length=L at *
 go_enter Tryz.func3,Tryz.ntmps3
 go_wp2_with fail
 refine (Uh K1).mono ?_
 rintro e1 w1 ⟨b1,h1⟩
 have HB1:=Hd b1
 clear K1 b1
 rcases h1 with ⟨hne,rfl⟩ | ⟨h0,p,v2,ps2,rfl,hD,r2,p2⟩
 ·have K2:=Hd (told_any15 w1 ((Uh HG).on (Uh HB1)))
  clear hne
  go_wp2_with fail
  refine (Uh K2).mono ?_
  rintro e2 w2 ⟨rfl,b2⟩
  have HB2:=Hd (bthen (Uh HB1) b2)
  clear K2 b2
  go_wp2
  go_ret
  exact ⟨rfl,Uh HB2⟩
 ·have h6:=(Cn.check_iff.1 h0).1
  have R2:=rcs_new r2 p2 (by omega) (Uh HFIT)
  obtain ⟨a2,cp2,hv2,_,hcp2⟩:=R2.shape
  subst hv2
  have H6:=Hd h6
  have HD1:=Hd hD
  have HR1:=Hd R2
  have HX1:=Hd ((Uh HX).below (Uh HB1))
  have hXl:(xs.take 200).length≤200:=List.length_take_le _ _
  have hXx:(xs.take 200).length≤xs.length:=by rw [List.length_take]; omega
  have hFX:=Cn.flat_len15 h6 (tr15 fl) (xs.take 200)
  have HXT:Hid (xs.take (xs.take 200).length=xs.take 200):=by
   show xs.take (xs.take 200).length=xs.take 200
   rw [List.length_take,← List.take_eq_take_min]
  have HYL:=Hd (fun c=>Nat.le_trans (Cn.one_len15 h6 (tr15 fl) c) (by decide:24≤1000000))
  clear hD r2 p2 R2 h6 h0 HX HG
  generalize hXX:xs.take 200=X at *
  have HXX:=Hd hXX
  clear hXX
  have HFT:=Hd (Uh HFIT)
  clear HFIT
  -- in
  have K3:=Hd (few_any15 _ xs 200 w1 (Uh HX1) (by omega))
  rw [Uh HXX] at K3
  go_wp2_with fail
  refine (Uh K3).mono ?_
  rintro e2 w2 ⟨v3,rfl,ok2,b2⟩
  have HA2:=Hd ok2.sk
  have HD2:=Hd ((Uh HD1).below b2)
  have HR2:=Hd ((Uh HR1).below b2)
  have HX2:=Hd ((Uh HX1).below b2)
  have HB2:=Hd (bthen (Uh HB1) b2)
  obtain ⟨a3,c3,hv3,hc31,hc32⟩:=ok2.sk.shape
  subst hv3
  clear K3 ok2 b2 HX1 HD1 HB1 HR1
  obtain ⟨one,hone⟩:∃ one,Cn.one15 rs (tr15 fl)=one:=⟨_,rfl⟩
  have HOC:Hid (∀ W,Below w2.heap.size w2 W→OneC15 W p fl one):=fun W hW=>by rw [← hone]; exact oneC15 fl W ((Uh HD2).below hW) (Uh H6) (Uh HFT)
  have HRC:Hid (∀ W,Below w2.heap.size w2 W→RoneC15 W (.slice a2 rs.length cp2) fl one):=fun W hW=>by rw [← hone]; exact roneC15 a2 rs.length cp2 fl W ((Uh HR2).below hW) (Uh H6)
  rw [hone] at hFX HYL
  clear hone HD2 HR2 H6 HFT
  -- y
  have K4:=Hd (map_any15 p fl one _ X w2 (Uh HA2) (by omega) ((Uh HOC) w2 (Below.refl _ _)))
  obtain ⟨F,hF⟩:∃ F,flat15 one X=F:=⟨_,rfl⟩
  rw [hF] at K4 hFX
  go_wp2_with fail
  refine (Uh K4).mono ?_
  rintro e3 w3 ⟨b3,⟨_,v4,rfl,ok3⟩ | ⟨hgt,_⟩⟩
  rotate_left
  ·exact absurd hgt (by omega)
  have HY3:=Hd ok3
  have HLY:Hid (∀ j,v4.ownBlock=some j→w2.heap.size≤j∧j<w3.heap.size):=fun j hj=>ok3.row.lt j hj
  have HB3:=Hd b3
  obtain ⟨a4,c4,hv4,_,_⟩:=ok3.sk.shape
  subst hv4
  -- w
  have K5:=Hd (refMap15 a2 rs.length cp2 fl one _ X w3 ((Uh HA2).below b3) ((Uh HRC) w3 b3) (Uh HYL))
  rw [hF] at K5
  clear K4 ok3 b3
  go_wp2_with fail
  refine (Uh K5).mono ?_
  rintro e4 w4 ⟨b4,⟨_,v5,rfl,ok4⟩ | ⟨hgt,_⟩⟩
  rotate_left
  ·exact absurd hgt (by omega)
  have HY4:=Hd ((Uh HY3).below b4)
  have HW4:=Hd ok4
  have HLW:Hid (∀ j,v5.ownBlock=some j→w3.heap.size≤j):=fun j hj=>(ok4.row.lt j hj).1
  have HB4:=Hd (bthen (Uh HB3) b4)
  obtain ⟨a5,c5,hv5,_,_⟩:=ok4.sk.shape
  subst hv5
  have K6:=Hd (same3_eq _ _ F w4 (Uh HY4).sk ok4.sk (by omega))
  clear K5 ok4 b4 HY3 HB3
  go_wp2_with fail
  refine (Uh K6).mono ?_
  rintro e5 w5 ⟨rfl,m5,rfl⟩
  have b5:Below w4.heap.size w4 (w4.drewN m5):=drewB ⟨m5,rfl⟩
  have HY5:=Hd ((Uh HY4).below b5)
  have HW5:=Hd ((Uh HW4).below b5)
  have HB5:=Hd (bthen (Uh HB4) b5)
  clear K6 b5 HY4 HW4 HB4
  generalize w4.drewN m5=w5 at *
  have K7:=Hd (settled_any15 p fl one _ X w5 ((Uh HA2).below (Uh HB5)) (by omega) ((Uh HOC) w5 (Uh HB5)))
  go_wp2_with fail
  refine (Uh K7).mono ?_
  rintro e6 w6 ⟨rfl,b6⟩
  have HY6:=Hd ((Uh HY5).below b6)
  have HW6:=Hd ((Uh HW5).below b6)
  have HB6:=Hd (bthen (Uh HB5) b6)
  clear K7 b6 HY5 HW5 HB5
  have K8:=Hd (refSettled15 a2 rs.length cp2 fl one _ X w6 ((Uh HA2).below (Uh HB6)) ((Uh HRC) w6 (Uh HB6)) (Uh HYL))
  generalize stl15 one X=sb at *
  go_wp2_with fail
  refine (Uh K8).mono ?_
  rintro e7 w7 ⟨rfl,b7⟩
  have HY7:=Hd ((Uh HY6).below b7)
  have HW7:=Hd ((Uh HW6).below b7)
  have HB7:=Hd (bthen (Uh HB6) b7)
  clear K8 b7 HY6 HW6 HB6
  have hsb:(sb != sb)=false:=by simp
  go_wp2
  go_loopw [15] (fun i wr=>∃ k:Nat,i=.int .i64 k∧k≤X.length∧Below w7.heap.size w7 wr) (fun i _=>X.length - (intOf i).toNat)
  case atStart=>exact ⟨0,rfl,Nat.zero_le _,Below.refl _ _⟩
  case round =>
   obtain ⟨k,rfl,hk,hb⟩:=hrel
   by_cases hlt:k<X.length
   ·have hb2:=bthen (Uh HB7) hb
    have hxw:=(Uh HA2).below hb2
    obtain ⟨b,off,cap',he,_,_,hcl⟩:=hxw.place (by omega)
    simp only [Value.slice.injEq] at he
    obtain ⟨rfl,-,rfl⟩:=he
    have x4:=hcl k hlt
    have hrn:Rune (X.getD k 0):=by
     have:=hxw.1 (X.getD k 0) (by simp [List.getD,hlt])
     exact ⟨this.1,this.2⟩
    have K:=Hd ((Uh HOC) wr hb2 (X.getD k 0) hrn wr (Below.refl _ _))
    have KD:Hid (∀ W,Below wr.heap.size wr W→Calls Tryz.prog 16 #[.slice a2 rs.length cp2,.int .i32 (X.getD k 0),.int .i64 fl] W (RunesNew W (one (X.getD k 0)))):=fun W hW=>(Uh HRC) wr hb2 (X.getD k 0) hrn W hW
    have hol:=(Uh HYL) (X.getD k 0)
    have HC:Hid (∀ W,Below wr.heap.size wr W→W.cell? ⟨b,off+k,none⟩=some (.int .i32 (X.getD k 0))):=fun W hW=>by rw [hW.cell (lt_of_cell? x4)]; exact x4
    have HB:=Hd hb
    clear hb hb2 hxw hcl hrn HOC HRC HYL HA2 HX2 HB2 HY7 HW7 HB7 HLY HLW HXT HXX hF
    generalize one (X.getD k 0)=zv at *
    generalize X.getD k 0=c at *
    go_wp2_with fail
    refine (Uh K).mono ?_
    rintro e8 w8 ⟨v8,rfl,ok8,b8⟩
    have x8:=(Uh HC) w8 b8
    have K9:=Hd ((Uh KD) w8 b8)
    have HO8:=Hd ok8
    have HB8:=Hd b8
    obtain ⟨a8,c8,hv8,_,_⟩:=ok8.sk.shape
    subst hv8
    clear K KD ok8 b8 HC x4
    go_wp2_with fail
    refine (Uh K9).mono ?_
    rintro e9 w9 ⟨v9,rfl,ok9,b9⟩
    have HO9:=Hd ((Uh HO8).below b9)
    have HB9:=Hd (bthen (Uh HB8) b9)
    have K10:=Hd (same3_eq _ _ zv w9 ((Uh HO8).below b9).sk ok9.sk (by omega))
    obtain ⟨a9,c9,hv9,_,_⟩:=ok9.sk.shape
    subst hv9
    clear K9 ok9 b9 HO8 HB8 x8
    go_wp2_with fail
    refine (Uh K10).mono ?_
    rintro e10 w10 ⟨rfl,m10,rfl⟩
    have b10:Below w9.heap.size w9 (w9.drewN m10):=drewB ⟨m10,rfl⟩
    have HO10:=Hd ((Uh HO9).below b10)
    have HB10:=Hd (bthen (Uh HB9) b10)
    clear K10 b10 HO9 HB9
    generalize w9.drewN m10=w10 at *
    obtain ⟨wo,hwo⟩:∃ wo,wo=wr:=⟨_,rfl⟩
    rw [← hwo] at HO10 HB10 HB
    clear hwo
    go_wp2
    go_loopw [17] (fun jj wd=>∃ (j:Nat) (la:List Int),jj=.int .i64 j∧j≤zv.length∧la.length=zv.length∧Ok .i32 21 wd wo.heap.size (.slice a8 zv.length c8) la∧Below wo.heap.size wo wd) (fun jj _=>zv.length - (intOf jj).toNat)
    case atStart=>exact ⟨0,zv,rfl,Nat.zero_le _,rfl,Uh HO10,Uh HB10⟩
    case round =>
     clear HO10 HB10
     obtain ⟨j,la,rfl,hj,hla,oa,hbel⟩:=hrel
     by_cases hjl:j<zv.length
     ·obtain ⟨gg,hgg⟩:=own_some15 oa (by omega)
      subst hgg
      obtain ⟨hcell,hfr⟩:=row_cell15 (k:=j) oa (by omega)
      have hgb:wo.heap.size≤gg:=(oa.row.lt gg rfl).1
      have o2:=(oa.setAt9 j (-9) (fun z hz=>by simp at hz; subst hz; exact i32_fit (by omega))).1
      have hb2:=hbel.setCell (p:=⟨gg,j,none⟩) hgb (.int .i32 (-9))
      have HO2:=Hd o2
      have HB2:=Hd hb2
      have hl2:(la.set j (-9)).length=zv.length:=by rw [List.length_set]; exact hla
      clear oa o2 hb2 hbel
      generalize la.getD j 0=old at *
      go_wp2
      go_roundw
      case rel=>exact ⟨j+1,la.set j (-9),by go_num,by omega,hl2,Uh HO2,Uh HB2⟩
      case measure=>simp [intOf]; omega
     ·have HB3:=Hd (bthen (Uh HB) hbel)
      clear oa hbel HB
      go_wp2
      exact ⟨⟨k+1,by go_num,by omega,Uh HB3⟩,by simp [intOf]; omega⟩
   ·have HY8:=Hd ((Uh HY7).below hb)
    have HW8:=Hd ((Uh HW7).below hb)
    have HB8:=Hd (bthen (Uh HB7) hb)
    clear hb HY7 HW7 HB7 HRC HYL
    go_wp2
    go_loopw [18] (fun jj wd=>∃ (j:Nat) (la:List Int),jj=.int .i64 j∧j≤F.length∧la.length=F.length∧Ok .i32 21 wd w2.heap.size (.slice a4 F.length c4) la∧Ok .i32 21 wd w3.heap.size (.slice a5 F.length c5) F∧Below w2.heap.size w2 wd) (fun jj _=>F.length - (intOf jj).toNat)
    case atStart=>exact ⟨0,F,rfl,Nat.zero_le _,rfl,Uh HY8,Uh HW8,Uh HB8⟩
    case round =>
     clear HY8 HW8 HB8
     obtain ⟨j,la,rfl,hj,hla,oa,ow,hbel⟩:=hrel
     by_cases hjl:j<F.length
     ·obtain ⟨gg,hgg⟩:=own_some15 oa (by omega)
      subst hgg
      obtain ⟨hcell,hfr⟩:=row_cell15 (k:=j) oa (by omega)
      obtain ⟨hgb,hgb2⟩:=(Uh HLY) gg rfl
      have o2:=(oa.setAt9 j (-9) (fun z hz=>by simp at hz; subst hz; exact i32_fit (by omega))).1
      have hWx:(Value.slice a5 F.length c5).ownBlock≠some gg:=fun e=>by
       have u1:=(Uh HLW) gg e
       omega
      have ow2:=row_keep15 (k:=j) (u:=.int .i32 (-9)) ow hWx
      have hb2:=hbel.setCell (p:=⟨gg,j,none⟩) hgb (.int .i32 (-9))
      have HO2:=Hd o2
      have HW2:=Hd ow2
      have HBX:=Hd hb2
      have hl2:(la.set j (-9)).length=F.length:=by rw [List.length_set]; exact hla
      clear oa ow o2 ow2 hb2 hbel hWx hgb hgb2
      generalize la.getD j 0=old at *
      go_wp2
      go_roundw
      case rel=>exact ⟨j+1,la.set j (-9),by go_num,by omega,hl2,Uh HO2,Uh HW2,Uh HBX⟩
      case measure=>simp [intOf]; omega
     ·have HW9:=Hd ow
      have HB9:=Hd hbel
      have K9:=Hd (map_any15 p fl one _ X wr ((Uh HA2).below hbel) (by omega) ((Uh HOC) wr hbel))
      rw [hF] at K9
      clear oa ow hbel HLY HLW HOC
      go_wp2_with fail
      refine (Uh K9).mono ?_
      rintro e10 w10 ⟨b10,⟨_,v10,rfl,ok10⟩ | ⟨hgt,_⟩⟩
      rotate_left
      ·exact absurd hgt (by omega)
      have K11:=Hd (same3_eq _ _ F w10 ok10.sk ((Uh HW9).below b10).sk (by omega))
      have HB10:=Hd (bthen (Uh HB9) b10)
      obtain ⟨a10,c10,hv10,_,_⟩:=ok10.sk.shape
      subst hv10
      clear K9 ok10 b10 HW9 HB9
      go_wp2_with fail
      refine (Uh K11).mono ?_
      rintro e11 w11 ⟨rfl,m11,rfl⟩
      have b11:Below w10.heap.size w10 (w10.drewN m11):=drewB ⟨m11,rfl⟩
      have hb11:=bthen (Uh HB10) b11
      have hT:=((Uh HX2).below hb11).head hXx hxc1
      rw [Uh HXT] at hT
      have K12:=Hd (same3_eq _ _ X (w10.drewN m11) ((Uh HA2).below hb11) hT (by omega))
      have HB11:=Hd (bthen (Uh HB2) hb11)
      clear K11 b11 hb11 hT HB10 HX2 HXT HXX HA2 HB2
      generalize w10.drewN m11=w11 at *
      rcases xo with _ | xo
      ·go_wp2_with fail
       refine (Uh K12).mono ?_
       rintro e12 w12 ⟨rfl,m12,rfl⟩
       have HF:=Hd (bthen (Uh HB11) (drewB ⟨m12,rfl⟩))
       clear K12 HB11
       generalize w11.drewN m12=w12 at *
       go_wp2
       go_ret
       exact ⟨rfl,Uh HF⟩
      ·go_wp2_with fail
       refine (Uh K12).mono ?_
       rintro e12 w12 ⟨rfl,m12,rfl⟩
       have HF:=Hd (bthen (Uh HB11) (drewB ⟨m12,rfl⟩))
       clear K12 HB11
       generalize w11.drewN m12=w12 at *
       go_wp2
       go_ret
       exact ⟨rfl,Uh HF⟩
end Go.Proofs.YtfemhegfjfhnbaaGreatDoor
