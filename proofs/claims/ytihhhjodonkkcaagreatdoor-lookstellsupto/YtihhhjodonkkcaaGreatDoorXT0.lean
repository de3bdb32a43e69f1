/- Kk22 -/
import Derived.Test.YtihhhjodonkkcaaGreatDoorX48
namespace Go.Proofs.YtihhhjodonkkcaaGreatDoor
open Go.RowKit
open Ti
theorem own_shape22 {e} {w:World} {B n v us} (h:w.ownsRow B e 1 v n us) (hn:0<n):∃ g cap,v=.slice (some ⟨g,0,none⟩) n cap∧n≤cap∧cap≤9223372036854775807:=by
 rcases h.2 with ⟨_,h0⟩ | ⟨g,cap,cur,hv,hg,hh,hn',hcap,hsz,htake⟩
 ·omega
 ·exact ⟨g,cap,hv,hn',by unfold maxLen at hcap; omega⟩
theorem row_cell22 {W:World} {B g n cap k:Nat} {l:List Int} (h:Ok .i32 21 W B (.slice (some ⟨g,0,none⟩) n cap) l) (hk:k<l.length):W.cell? ⟨g,k,none⟩=some (.int .i32 (l.getD k 0))∧W.frozen? ⟨g,k,none⟩=false:=by
 rcases h.row.2 with ⟨e,_⟩ | ⟨g',cap',cur,e,_,e3,_,_,_,e7⟩
 ·simp at e
 ·simp only [Value.slice.injEq,Option.some.injEq,Addr.mk.injEq] at e
  obtain ⟨⟨e1,_⟩,_,_⟩:=e
  subst e1
  refine ⟨?_,frozen_of_row _ _ _ _ _ e3⟩
  rw [cell_of_row _ _ _ _ _ _ e3]
  have h1:(cur.toList.take (l.length * 1))[k]?=(l.map (Value.int .i32))[k]?:=by rw [e7]
  rw [List.getElem?_take,if_pos (by omega),Array.getElem?_toList,List.getElem?_map,List.getElem?_eq_getElem hk] at h1
  rw [h1]; simp [List.getD,hk]
theorem row_keep22 {W:World} {B g k:Nat} {v u:Value} {l:List Int} (h:Ok .i32 21 W B v l) (hne:v.ownBlock≠some g):Ok .i32 21 (W.setCell ⟨g,k,none⟩ u) B v l:=h.keep (fun j hj=>heap_setCell_other W ⟨g,k,none⟩ j u (fun e=>hne (by rw [hj]; exact congrArg some e)))
theorem own_some22 {W:World} {B n cap:Nat} {ao:Option Addr} {l:List Int} (h:Ok .i32 21 W B (.slice ao n cap) l) (hn:0<l.length):∃ g,ao=some ⟨g,0,none⟩:=by
 obtain ⟨g,c,e,_⟩:=own_shape22 h.row hn
 simp only [Value.slice.injEq] at e
 exact ⟨g,e.1⟩
theorem ow_keep22 {W:World} {B g k:Nat} {v u:Value} {us:List Value} (h:Ow 9 W B v us) (hne:v.ownBlock≠some g):Ow 9 (W.setCell ⟨g,k,none⟩ u) B v us:=by
 refine ⟨h.1,h.2.1,?_⟩
 rcases h.2.2 with h0 | ⟨g',cap',cur,hv,hb,hh,hr⟩
 ·exact .inl h0
 ·refine .inr ⟨g',cap',cur,hv,hb,?_,hr⟩
  rw [heap_setCell_other W ⟨g,k,none⟩ g' u (fun e=>hne (by rw [hv]; exact congrArg some e))]
  exact hh
theorem ow_set22 {W:World} {B g n cap:Nat} {us:List Value} (h:Ow 9 W B (.slice (some ⟨g,0,none⟩) n cap) us) (k:Nat) (u:Value) (hk:k<us.length) :
  Ow 9 (W.setCell ⟨g,k,none⟩ u) B (.slice (some ⟨g,0,none⟩) n cap) (us.set k u)∧W.frozen? ⟨g,k,none⟩=false∧W.cell? ⟨g,k,none⟩=some (us.getD k undef):=by
 rcases h.2.2 with ⟨h0,_⟩ | ⟨g',cap',cur,hv,hb,hh,hn,hcap,hsz,htake⟩
 ·cases h0
 ·simp only [Value.slice.injEq,Option.some.injEq,Addr.mk.injEq] at hv
  obtain ⟨⟨rfl,_⟩,hnn,rfl⟩:=hv
  refine ⟨⟨by simpa using h.1,by simp,.inr ⟨g,cap,cur.setIfInBounds k u,by rw [hnn]; simp,hb,set_block hh _,by simpa using hn,hcap,by simpa using hsz,?_⟩⟩,frozen_of_row _ _ _ _ _ hh,?_⟩
  ·rw [Nat.mul_one] at htake ⊢
   rw [Array.toList_setIfInBounds,List.take_set,List.length_set,htake]
  ·rw [cell_of_row _ _ _ _ _ _ hh]
   have h1:(cur.toList.take (us.length * 1))[k]?=us[k]?:=by rw [htake]
   rw [List.getElem?_take,if_pos (by omega),Array.getElem?_toList] at h1
   rw [h1]; simp [List.getD,hk]
theorem ow_some22 {W:World} {B n cap:Nat} {ao:Option Addr} {us:List Value} (h:Ow 9 W B (.slice ao n cap) us) (hn:0<us.length):∃ g,ao=some ⟨g,0,none⟩:=by
 obtain ⟨g,c,e,_⟩:=own_shape22 h.2 hn
 simp only [Value.slice.injEq] at e
 exact ⟨g,e.1⟩
set_option maxRecDepth 8000 in
set_option maxHeartbeats 16000000 in
theorem tells_law22 (v:Value) (rs0:List Rec) (xv:Value) (xs:List Int) (yv:Value) (ys:List Int) (w:World) (hg:Glob w) (hv:Rcs w v rs0) (hx:Sk .i32 w xv xs) (hy:Sk .i32 w yv ys):Calls Tryz.prog 3 #[v,xv,yv] w (Tells w true):=by
 have K1:=Hd (made_any v rs0 w hg hv)
 have hfit:∀ r∈rs0.take 150,RecFit r:=fun r hr=>hv.2.1 r (List.mem_of_mem_take hr)
 have hrl:(rs0.take 150).length≤150:=by rw [List.length_take]; omega
 have HFIT:=Hd hfit
 clear hfit
 obtain ⟨ao,cap,rfl,_,hcap⟩:=hv.shape
 have HX:=Hd hx
 have HY:=Hd hy
 obtain ⟨xo,xcap,hxe,hxc1,hxc2⟩:=hx.shape
 subst hxe
 obtain ⟨yo,ycap,hye,hyc1,hyc2⟩:=hy.shape
 subst hye
 have HG:=Hd hg
 clear hg hv hx hy
 generalize rs0.take 150=rs at *
 generalize rs0.length=L at *
 go_enter Tryz.func3,Tryz.ntmps3
 go_wp2_with fail
 refine (Uh K1).mono ?_
 rintro e1 w1 ⟨b1,h1⟩
 have HB1:=Hd b1
 clear K1 b1
 rcases h1 with ⟨hne,rfl⟩ | ⟨h0,p,v2,ps2,rfl,hD,r2,p2⟩
 ·have K2:=Hd (told22 w1 ((Uh HG).on (Uh HB1)))
  clear hne
  go_wp2_with fail
  refine (Uh K2).mono ?_
  rintro e2 w2 ⟨rfl,b2⟩
  have HB2:=Hd (bthen (Uh HB1) b2)
  clear K2 b2
  go_wp2
  go_ret
  exact ⟨rfl,Uh HB2⟩
 ·have R2:=rcs_new r2 p2 (by omega) (Uh HFIT)
  obtain ⟨a2,cp2,hv2,_,hcp2⟩:=R2.shape
  subst hv2
  have HG1:=(Uh HG).on (Uh HB1)
  have HLK:=Hd (lk22 HG1 hD h0 (Uh HFIT))
  have HT1:=Hd R2
  have HX1:=Hd ((Uh HX).below (Uh HB1))
  have HY1:=Hd ((Uh HY).below (Uh HB1))
  have H0:=Hd h0
  have hXl:(xs.take 80).length≤80:=List.length_take_le _ _
  have hYl:(ys.take 80).length≤80:=List.length_take_le _ _
  have HSML:Hid (∀ us:List Int,us.length≤85→(Cn.lks rs (Cn.nfd rs us)).length≤65536):=fun us hl=>Cn.small22 h0 hl
  have hSL:∀ us:List Int,us.length≤80→(Cn.skel rs us).length≤2097152:=fun us hl=>by
   have h1:=Cn.nfd_len h0 (Cn.lks rs (Cn.nfd rs us))
   have h2:=(Uh HSML) us (by omega)
   unfold Cn.skel
   omega
  have HSL:=Hd hSL
  have K3:=Hd (few22 _ xs 80 w1 (Uh HX1) (by omega))
  clear hD r2 p2 R2 h0 HX HY HG HFIT HG1 HX1 hSL
  generalize xs.take 80=X at *
  go_wp2_with fail
  refine (Uh K3).mono ?_
  rintro e2 wa ⟨v3,rfl,ok2,b2⟩
  have HXa:=Hd ok2.sk
  have K4:=Hd (few22 _ ys 80 wa ((Uh HY1).below b2) (by omega))
  have HWa:=Hd b2
  have HTa:=Hd ((Uh HT1).below b2)
  obtain ⟨a3,c3,hv3,_,_⟩:=ok2.sk.shape
  subst hv3
  clear K3 ok2 b2 HY1 HT1
  generalize ys.take 80=Y at *
  go_wp2_with fail
  refine (Uh K4).mono ?_
  rintro e3 w2 ⟨v4,rfl,ok3,b3⟩
  have HYb:=ok3.sk
  have HXb:=(Uh HXa).below b3
  have HTb:=(Uh HTa).below b3
  have HW12:=Hd (bthen (Uh HWa) b3)
  obtain ⟨a4,c4,hv4,_,_⟩:=ok3.sk.shape
  subst hv4
  have C1:Hid (∀ W,Below w2.heap.size w2 W→Calls Tryz.prog 10 #[.pointer (some ⟨p,0,none⟩),.slice a3 X.length c3] W (SeqE W (Cn.skel rs X) 0)):=fun W hW=>(Uh HLK).sk W _ X (bthen (Uh HW12) hW) (HXb.below hW) (by omega)
  have C2:Hid (∀ W,Below w2.heap.size w2 W→Calls Tryz.prog 11 #[.slice a2 rs.length cp2,.slice a3 X.length c3] W (SkR22 W (Cn.skel rs X))):=fun W hW=>refSkel22 _ _ X W (HTb.below hW) (Uh H0) (HXb.below hW) (by omega) ((Uh HSML) X (by omega))
  have C3:Hid (∀ W,Below w2.heap.size w2 W→Calls Tryz.prog 12 #[.pointer (some ⟨p,0,none⟩),.slice a3 X.length c3,.slice a4 Y.length c4] W (TrB22 W (decide (Cn.skel rs X=Cn.skel rs Y)))):=fun W hW=>(Uh HLK).al W _ _ X Y (bthen (Uh HW12) hW) (HXb.below hW) (HYb.below hW) (by omega) (by omega) ((Uh HSML) Y (by omega))
  have C4:Hid (∀ W,Below w2.heap.size w2 W→Calls Tryz.prog 13 #[.slice a2 rs.length cp2,.slice a3 X.length c3,.slice a4 Y.length c4] W (TrR22 W (decide (Cn.skel rs X=Cn.skel rs Y)))):=fun W hW=>refAlike22 _ _ _ X Y W (HTb.below hW) (Uh H0) (HXb.below hW) (HYb.below hW) (by omega) ((Uh HSML) X (by omega)) (by omega) ((Uh HSML) Y (by omega))
  have C5:Hid (∀ W,Below w2.heap.size w2 W→Calls Tryz.prog 15 #[.pointer (some ⟨p,0,none⟩),.slice a3 X.length c3] W (BoolB W (Cn.fake rs X))):=fun W hW=>(Uh HLK).fk W _ X (bthen (Uh HW12) hW) (HXb.below hW) (by omega)
  have C6:Hid (∀ W,Below w2.heap.size w2 W→Calls Tryz.prog 16 #[.slice a2 rs.length cp2,.slice a3 X.length c3] W (BoolB W (Cn.fake rs X))):=fun W hW=>refFake22 _ _ X W (HTb.below hW) (Uh H0) (HXb.below hW) (by omega) ((Uh HSML) X (by omega))
  have C7:Hid (∀ W,Below w2.heap.size w2 W→Calls Tryz.prog 17 #[.pointer (some ⟨p,0,none⟩),.slice a3 X.length c3] W (ScrE22 W (X.map (Cn.snm rs)))):=fun W hW=>(Uh HLK).sc W _ X (bthen (Uh HW12) hW) (HXb.below hW) (by omega)
  have C8:Hid (∀ W,Below w2.heap.size w2 W→Calls Tryz.prog 18 #[.slice a2 rs.length cp2,.slice a3 X.length c3] W (ScrE22 W (X.map (Cn.snm rs)))):=fun W hW=>refScripts22 _ _ X W (HTb.below hW) (HXb.below hW) (by omega)
  have C9:Hid (∀ W R,Below w2.heap.size w2 W→Cn.Names (X.map (Cn.snm rs)) R→Calls Tryz.prog 20 #[.pointer (some ⟨p,0,none⟩),.slice a3 X.length c3] W (BoolB W (decide (R.length≤1)))):=fun W R hW hR=>(Uh HLK).pl W _ X R (bthen (Uh HW12) hW) (HXb.below hW) (by omega) hR
  have hSX:=(Uh HSL) X (by omega)
  have B02:=Hd (Below.refl w2.heap.size w2)
  have HTOP:=Hd (bthen (Uh HB1) (Uh HW12))
  clear K4 ok3 b3 HXa HTa HWa HXb HYb HTb HLK HSML HSL H0 HW12 HB1
  obtain ⟨S,hS⟩:∃ S,Cn.skel rs X=S:=⟨_,rfl⟩
  obtain ⟨bb,hbb⟩:∃ b,decide (Cn.skel rs X=Cn.skel rs Y)=b:=⟨_,rfl⟩
  rw [hbb] at C3 C4
  rw [hS] at C1 C2 hSX
  obtain ⟨fk,hfk⟩:∃ b,Cn.fake rs X=b:=⟨_,rfl⟩
  rw [hfk] at C5 C6
  obtain ⟨NL,hNL⟩:∃ l,X.map (Cn.snm rs)=l:=⟨_,rfl⟩
  rw [hNL] at C7 C8 C9
  clear hS hbb hfk hNL
  -- s
  have K5:=Hd ((Uh C1) w2 (Uh B02))
  go_wp2_with fail
  refine (Uh K5).mono ?_
  rintro e3 w3 ⟨vs,rfl,ok3,b3⟩
  have HS3:=Hd ok3
  have B3:=Hd b3
  have LS:Hid (∀ k,vs.ownBlock=some k→w2.heap.size≤k∧k<w3.heap.size):=fun k hk=>ok3.row.lt k hk
  obtain ⟨so,scp,hvs,_,_⟩:=ok3.sk.shape
  subst hvs
  clear K5 ok3 b3 B02
  -- the document's
  have K6:=Hd ((Uh C2) w3 (Uh B3))
  go_wp2_with fail
  refine (Uh K6).mono ?_
  rintro e4 w4 ⟨vw,rfl,ok4,b4⟩
  have HWD4:=Hd ok4
  have LW:Hid (∀ k,vw.ownBlock=some k→w3.heap.size≤k):=fun k hk=>(ok4.row.lt k hk).1
  have HS4:=Hd ((Uh HS3).below b4)
  have B4:=Hd (bthen (Uh B3) b4)
  obtain ⟨wo,wcp,hvw,_,_⟩:=ok4.sk.shape
  subst hvw
  clear K6 ok4 b4 HS3 B3
  have K7:=Hd ((Uh C3) w4 (Uh B4))
  go_wp2_with fail
  refine (Uh K7).mono ?_
  rintro e5 w5 ⟨rfl,b5⟩
  have HS5:=Hd ((Uh HS4).below b5)
  have HWD5:=Hd ((Uh HWD4).below b5)
  have B5:=Hd (bthen (Uh B4) b5)
  clear K7 b5 HS4 HWD4 B4
  have K8:=Hd ((Uh C4) w5 (Uh B5))
  go_wp2_with fail
  refine (Uh K8).mono ?_
  rintro e6 w6 ⟨rfl,b6⟩
  have HS6:=Hd ((Uh HS5).below b6)
  have HWD6:=Hd ((Uh HWD5).below b6)
  have B6:=Hd (bthen (Uh B5) b6)
  clear K8 b6 HS5 HWD5 B5
  have K9:=Hd (skel_nil22 w6 a3 X.length c3)
  go_wp2_with fail
  refine (Uh K9).mono ?_
  rintro e7 w7 ⟨vn,rfl,okn,b7⟩
  have HS7:=Hd ((Uh HS6).below b7)
  have HWD7:=Hd ((Uh HWD6).below b7)
  have B7:=Hd (bthen (Uh B6) b7)
  obtain ⟨no,ncp,hvn,_,_⟩:=okn.sk.shape
  subst hvn
  clear okn
  clear K9 b7 HS6 HWD6 B6
  have K10:=Hd (same3_eq _ _ S w7 (Uh HS7).sk (Uh HWD7).sk (by omega))
  go_wp2_with fail
  refine (Uh K10).mono ?_
  rintro e8 w8 ⟨rfl,m8,rfl⟩
  have b8:Below w7.heap.size w7 (w7.drewN m8):=drewB ⟨m8,rfl⟩
  have HS8:=Hd ((Uh HS7).below b8)
  have HWD8:=Hd ((Uh HWD7).below b8)
  have B8:=Hd (bthen (Uh B7) b8)
  clear K10 b8 HS7 HWD7 B7
  generalize w7.drewN m8=w8 at *
  have hbne:(bb != bb)=false:=by simp
  have hfne:(fk != fk)=false:=by simp
  have K11:=Hd ((Uh C5) w8 (Uh B8))
  go_wp2_with fail
  refine (Uh K11).mono ?_
  rintro e9 w9 ⟨rfl,b9⟩
  have HS9:=Hd ((Uh HS8).below b9)
  have HWD9:=Hd ((Uh HWD8).below b9)
  have B9:=Hd (bthen (Uh B8) b9)
  clear K11 b9 HS8 HWD8 B8
  have K12:=Hd ((Uh C6) w9 (Uh B9))
  go_wp2_with fail
  refine (Uh K12).mono ?_
  rintro e10 w10 ⟨rfl,b10⟩
  have HS10:=Hd ((Uh HS9).below b10)
  have HWD10:=Hd ((Uh HWD9).below b10)
  have B10:=Hd (bthen (Uh B9) b10)
  clear K12 b10 HS9 HWD9 B9
  go_wp2
  go_loopw [22] (fun ii wr=>∃ (k:Nat) (ls:List Int),ii=.int .i64 k∧k≤S.length∧ls.length=S.length∧Ok .i32 21 wr w2.heap.size (.slice so S.length scp) ls∧Ok .i32 21 wr w3.heap.size (.slice wo S.length wcp) S∧Below w2.heap.size w2 wr) (fun ii _=>S.length - (intOf ii).toNat)
  case atStart=>exact ⟨0,S,rfl,by omega,rfl,Uh HS10,Uh HWD10,Uh B10⟩
  case round =>
   clear HS10 HWD10 B10
   obtain ⟨k,ls,rfl,hk,hls,os,od,hbel⟩:=hrel
   by_cases hlt:k<S.length
   ·obtain ⟨gg,hgg⟩:=own_some22 os (by omega)
    subst hgg
    obtain ⟨hcell,hfr⟩:=row_cell22 (k:=k) os (by omega)
    have hgb:w2.heap.size≤gg:=((Uh LS) gg rfl).1
    have o2:=(os.setAt9 k (-9) (fun z hz=>by simp at hz; subst hz; exact i32_fit (by omega))).1
    have hDx:(Value.slice wo S.length wcp).ownBlock≠some gg:=fun e=>by
     have u1:=(Uh LW) gg e
     have u2:=(Uh LS) gg rfl
     omega
    have od2:=row_keep22 (k:=k) (u:=.int .i32 (-9)) od hDx
    have hb2:=hbel.setCell (p:=⟨gg,k,none⟩) hgb (.int .i32 (-9))
    obtain ⟨W5,hW5⟩:∃ W5,wr.setCell ⟨gg,k,none⟩ (.int .i32 (-9))=W5:=⟨_,rfl⟩
    rw [hW5] at o2 od2 hb2
    have HO2:=Hd o2
    have HD2:=Hd od2
    have HB2:=Hd hb2
    have hl2:(ls.set k (-9)).length=S.length:=by rw [List.length_set]; exact hls
    clear os od o2 od2 hb2 hbel hDx
    generalize ls.getD k 0=old at *
    go_wp2
    go_roundw
    case rel=>exact ⟨k+1,ls.set k (-9),by go_num,by omega,hl2,Uh HO2,Uh HD2,Uh HB2⟩
    case measure=>simp [intOf]; omega
   ·have HDE:=Hd od
    have BE:=Hd hbel
    have LZ:Hid (∀ k,(Value.slice wo S.length wcp).ownBlock=some k→k<wr.heap.size):=fun k hk=>(od.row.lt k hk).2
    have hzs:=hbel.size
    clear os od hbel
    obtain ⟨wz,hwz⟩:∃ wz,wz=wr:=⟨_,rfl⟩
    subst hwz
    -- p,q
    have K13:=Hd ((Uh C7) wz (Uh BE))
    go_wp2_with fail
    refine (Uh K13).mono ?_
    rintro e11 w11 ⟨vp,P,hNP,rfl,hop,b11⟩
    have HNP:=Hd hNP
    have HOP11:=Hd hop
    have LP:Hid (∀ k,vp.ownBlock=some k→wz.heap.size≤k∧k<w11.heap.size):=fun k hk=>by
     have:=hop.2.lt k hk
     exact this
    have HDD11:=Hd ((Uh HDE).below b11)
    have B11:=Hd (bthen (Uh BE) b11)
    have hPl:=hop.1
    rw [List.length_map] at hPl
    obtain ⟨po,pc,hvp,_,_⟩:=hop.sv.shape
    rw [List.length_map] at hvp
    subst hvp
    clear K13 b11 hNP hop HDE
    have K14:=Hd ((Uh C7) w11 (Uh B11))
    go_wp2_with fail
    refine (Uh K14).mono ?_
    rintro e12 w12 ⟨vq,Q0,hNQ,rfl,hoq,b12⟩
    obtain rfl:P=Q0:=(Uh HNP).uniq hNQ
    have HOQ12:=Hd hoq
    have LQ:Hid (∀ k,vq.ownBlock=some k→w11.heap.size≤k):=fun k hk=>(hoq.2.lt k hk).1
    have HOP12:=Hd ((Uh HOP11).below b12)
    have hs1112:=b12.size
    have HDD12:=Hd ((Uh HDD11).below b12)
    have B12:=Hd (bthen (Uh B11) b12)
    obtain ⟨qo,qc,hvq,_,_⟩:=hoq.sv.shape
    rw [List.length_map] at hvq
    subst hvq
    clear K14 b12 hNQ hoq HOP11 HDD11
    have K15:=Hd ((Uh C8) w12 (Uh B12))
    go_wp2_with fail
    refine (Uh K15).mono ?_
    rintro e13 w13 ⟨vt,T0,hNT,rfl,hot,b13⟩
    obtain rfl:P=T0:=(Uh HNP).uniq hNT
    have HOT13:=Hd hot
    have LT:Hid (∀ k,vt.ownBlock=some k→w12.heap.size≤k):=fun k hk=>(hot.2.lt k hk).1
    have HOP13:=Hd ((Uh HOP12).below b13)
    have HOQ13:=Hd ((Uh HOQ12).below b13)
    have HDD13:=Hd ((Uh HDD12).below b13)
    have B13:=Hd (bthen (Uh B12) b13)
    obtain ⟨tt,tc,hvt,_,_⟩:=hot.sv.shape
    rw [List.length_map] at hvt
    subst hvt
    clear K15 b13 hNT hot HOP12 HOQ12 HDD12
    have K16:=Hd (same22 _ _ P w13 (Uh HOP13).sv (Uh HOT13).sv)
    go_wp2_with fail
    refine (Uh K16).mono ?_
    rintro e14 w14 ⟨rfl,m14,rfl⟩
    have b14:Below w13.heap.size w13 (w13.drewN m14):=drewB ⟨m14,rfl⟩
    have HOP14:=Hd ((Uh HOP13).below b14)
    have HOQ14:=Hd ((Uh HOQ13).below b14)
    have HOT14:=Hd ((Uh HOT13).below b14)
    have HDD14:=Hd ((Uh HDD13).below b14)
    have B14:=Hd (bthen (Uh B13) b14)
    clear K16 b14 HOP13 HOQ13 HOT13 HDD13 B13
    generalize w13.drewN m14=w14 at *
    have K17:=Hd ((Uh C9) w14 P (Uh B14) (Uh HNP))
    go_wp2_with fail
    refine (Uh K17).mono ?_
    rintro e15 w15 ⟨rfl,b15⟩
    have HOP15:=Hd ((Uh HOP14).below b15)
    have HOQ15:=Hd ((Uh HOQ14).below b15)
    have HOT15:=Hd ((Uh HOT14).below b15)
    have HDD15:=Hd ((Uh HDD14).below b15)
    have B15:=Hd (bthen (Uh B14) b15)
    have K18:=Hd (plain_nil22 w15 a3 X.length c3)
    have K19:=Hd (scripts_nil22 w15 a3 X.length c3)
    have hple:(decide (P.length≤1) != decide ((P.length:Int)≤1))=false:=by
     by_cases h:P.length≤1
     ·rw [decide_eq_true h,decide_eq_true (by omega)]; rfl
     ·rw [decide_eq_false h,decide_eq_false (by omega)]; rfl
    clear K17 b15 HOP14 HOQ14 HOT14 HDD14 B14
    go_wp2_with (first
     | (go_at_call 20; refine (Uh K18).mono ?_; rintro e16 w16 ⟨rfl,rfl⟩)
     | (go_at_call 17; refine (Uh K19).mono ?_; rintro e17 w17 ⟨rfl,rfl⟩))
    clear K18 K19 C2 C3 C4 C5 C6 C7 C8 C9 HNP hple
    go_loopw [26] (fun ii wr=>∃ (k:Nat) (us:List Value),ii=.int .i64 k∧k≤P.length∧us.length=P.length∧Ow 9 wr wz.heap.size (.slice po P.length pc) us∧Ow 9 wr w11.heap.size (.slice qo P.length qc) (P.map encStr)∧Ow 9 wr w12.heap.size (.slice tt P.length tc) (P.map encStr)∧Ok .i32 21 wr w3.heap.size (.slice wo S.length wcp) S∧Below w2.heap.size w2 wr) (fun ii _=>P.length - (intOf ii).toNat)
    case atStart=>exact ⟨0,P.map encStr,rfl,by omega,by simp,Uh HOP15,Uh HOQ15,Uh HOT15,Uh HDD15,Uh B15⟩
    case round =>
     clear HOP15 HOQ15 HOT15 HDD15 B15
     obtain ⟨k,us,rfl,hk2,hus,op,oq,ot,od,hbel⟩:=hrel
     by_cases hlt2:k<P.length
     ·obtain ⟨gg,hgg⟩:=ow_some22 op (by omega)
      subst hgg
      obtain ⟨o2,hfr,hcell⟩:=ow_set22 op k (.string ⟨#[63]⟩) (by omega)
      have hP:=(Uh LP) gg rfl
      have hgb:w2.heap.size≤gg:=by omega
      have oq2:=ow_keep22 (g:=gg) (k:=k) (u:=.string ⟨#[63]⟩) oq (fun e=>by have:=(Uh LQ) gg e; omega)
      have ot2:=ow_keep22 (g:=gg) (k:=k) (u:=.string ⟨#[63]⟩) ot (fun e=>by have:=(Uh LT) gg e; omega)
      have od2:=row_keep22 (g:=gg) (k:=k) (u:=.string ⟨#[63]⟩) od (fun e=>by have:=(Uh LZ) gg e; omega)
      have hb2:=hbel.setCell (p:=⟨gg,k,none⟩) hgb (.string ⟨#[63]⟩)
      obtain ⟨W5,hW5⟩:∃ W5,wr.setCell ⟨gg,k,none⟩ (.string ⟨#[63]⟩)=W5:=⟨_,rfl⟩
      rw [hW5] at o2 oq2 ot2 od2 hb2
      have HO2:=Hd o2
      have HQ2:=Hd oq2
      have HT2:=Hd ot2
      have HD2:=Hd od2
      have HB2:=Hd hb2
      have hl2:(us.set k (.string ⟨#[63]⟩)).length=P.length:=by rw [List.length_set]; exact hus
      clear op oq ot od o2 oq2 ot2 od2 hb2 hbel hP
      generalize us.getD k undef=old at *
      go_wp2
      go_roundw
      case rel=>exact ⟨k+1,us.set k (.string ⟨#[63]⟩),by go_num,by omega,hl2,Uh HO2,Uh HQ2,Uh HT2,Uh HD2,Uh HB2⟩
      case measure=>simp [intOf]; omega
     ·have HQE:=Hd oq.sv
      have HTE:=Hd ot.sv
      have HDE:=Hd od.sk
      have BE2:=Hd hbel
      clear op oq ot od hbel
      obtain ⟨wy,hwy⟩:∃ wy,wy=wr:=⟨_,rfl⟩
      subst hwy
      have K20:=Hd ((Uh C1) wy (Uh BE2))
      go_wp2_with fail
      refine (Uh K20).mono ?_
      rintro e20 w20 ⟨vr,rfl,ok20,b20⟩
      have HR20:=Hd ok20.sk
      have HQ20:=Hd ((Uh HQE).below b20)
      have HT20:=Hd ((Uh HTE).below b20)
      have HD20:=Hd ((Uh HDE).below b20)
      have B20:=Hd (bthen (Uh BE2) b20)
      obtain ⟨rr,rc,hvr,_,_⟩:=ok20.sk.shape
      subst hvr
      have K21:=Hd (same22 _ _ P w20 (Uh HQ20) (Uh HT20))
      clear K20 ok20 b20 HQE HTE HDE BE2
      go_wp2_with fail
      refine (Uh K21).mono ?_
      rintro e21 w21 ⟨rfl,m21,rfl⟩
      have b21:Below w20.heap.size w20 (w20.drewN m21):=drewB ⟨m21,rfl⟩
      have K22:=Hd (same3_eq _ _ S (w20.drewN m21) ((Uh HR20).below b21) ((Uh HD20).below b21) (by omega))
      have B21:=Hd (bthen (Uh B20) b21)
      clear K21 b21 HR20 HQ20 HT20 HD20 B20
      generalize w20.drewN m21=w21 at *
      go_wp2_with fail
      refine (Uh K22).mono ?_
      rintro e22 w22 ⟨rfl,b22⟩
      have HF:Hid (Tells w true (.returned (.bool true)) w22):=⟨rfl,bthen (Uh HTOP) (bthen (Uh B21) (drewB b22))⟩
      clear K22 b22 B21
      go_wp2
      go_ret
      exact Uh HF
end Go.Proofs.YtihhhjodonkkcaaGreatDoor
