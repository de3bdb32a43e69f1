/- Kj22 -/
import Derived.Test.YtihhhjodonkkcaaGreatDoorX48
import Derived.Laws.Cover1
namespace Go.Proofs.YtihhhjodonkkcaaGreatDoor
open Go.RowKit
open Ti
theorem Cn.names_app22 {A B P Q R:List (List UInt8)} (hP:Cn.Names A P) (hQ:Cn.Names B Q) (hR:Cn.Names (A++B) R):(∀ x∈R,x≠[]∧(x∈P∨x∈Q))∧(∀ x∈P,x∈R)∧(∀ x∈Q,x∈R):=by
 refine ⟨fun x hx=>?_,fun x hx=>?_,fun x hx=>?_⟩
 ·obtain ⟨h1,h2⟩:=(hR.2 x).1 hx
  refine ⟨h2,?_⟩
  rcases List.mem_append.1 h1 with h | h
  ·exact .inl ((hP.2 x).2 ⟨h,h2⟩)
  ·exact .inr ((hQ.2 x).2 ⟨h,h2⟩)
 ·obtain ⟨h1,h2⟩:=(hP.2 x).1 hx
  exact (hR.2 x).2 ⟨List.mem_append_left _ h1,h2⟩
 ·obtain ⟨h1,h2⟩:=(hQ.2 x).1 hx
  exact (hR.2 x).2 ⟨List.mem_append_right _ h1,h2⟩
theorem getD_mem22 {R:List (List UInt8)} {k} (h:k<R.length):R.getD k []∈R:=by simp [List.getD,h]
theorem rise22 {R:List (List UInt8)} (hR:R.Pairwise (fun a b=>a<b)) {j} (h:j+1<R.length):R.getD j []<R.getD (j+1) []:=by
 have:=List.pairwise_iff_getElem.1 hR j (j+1) (by omega) h (by omega)
 simpa [List.getD,h,show j<R.length by omega] using this
theorem sv_cell22 {w:World} {v:Value} {R:List (List UInt8)} (h:Sv w v (R.map encStr)) {k} (hk:k<R.length):∃ b off cap,v=.slice (some ⟨b,off,none⟩) R.length cap∧∀ i,i<R.length→∃ A:ByteArray,A.data.toList=R.getD i []∧w.cell? ⟨b,off+i,none⟩=some (.string A):=by
 obtain ⟨b,off,cap,he,_,_,hc⟩:=h.place (by rw [List.length_map]; omega)
 rw [List.length_map] at he
 exact ⟨b,off,cap,he,fun i hi=>str_cell22 hc hi⟩
set_option maxRecDepth 8000 in
set_option maxHeartbeats 8000000 in
theorem scripts_law22 (v:Value) (rs0:List Rec) (xv:Value) (xs:List Int) (yv:Value) (ys:List Int) (w:World) (hg:Glob w) (hv:Rcs w v rs0) (hx:Sk .i32 w xv xs) (hy:Sk .i32 w yv ys):Calls Tryz.prog 6 #[v,xv,yv] w (Tells w true):=by
 have K1:=Hd (made_any v rs0 w hg hv)
 have hfit:∀ r∈rs0.take 150,RecFit r:=fun r hr=>hv.2.1 r (List.mem_of_mem_take hr)
 have hrl:(rs0.take 150).length≤150:=by rw [List.length_take]; omega
 have HFIT:=Hd hfit
 clear hfit
 obtain ⟨ao,cap,rfl,_,hcap⟩:=hv.shape
 have HX:=Hd hx
 have HY:=Hd hy
 obtain ⟨xo,xcap,hxe,hxc1,hxc2⟩:=hx.shape
 subst hxe
 obtain ⟨yo,ycap,hye,hyc1,hyc2⟩:=hy.shape
 subst hye
 have HG:=Hd hg
 clear hg hv hx hy
 generalize rs0.take 150=rs at *
 generalize rs0.length=L at *
 go_enter Tryz.func6,Tryz.ntmps6
 go_wp2_with fail
 refine (Uh K1).mono ?_
 rintro e1 w1 ⟨b1,h1⟩
 have HB1:=Hd b1
 clear K1 b1
 rcases h1 with ⟨hne,rfl⟩ | ⟨h0,p,v2,ps2,rfl,hD,r2,p2⟩
 ·have K2:=Hd (told22 w1 ((Uh HG).on (Uh HB1)))
  clear hne
  go_wp2_with fail
  refine (Uh K2).mono ?_
  rintro e2 w2 ⟨rfl,b2⟩
  have HB2:=Hd (bthen (Uh HB1) b2)
  clear K2 b2
  go_wp2
  go_ret
  exact ⟨rfl,Uh HB2⟩
 ·have R2:=rcs_new r2 p2 (by omega) (Uh HFIT)
  obtain ⟨a2,cp2,hv2,_,hcp2⟩:=R2.shape
  subst hv2
  have HG1:=(Uh HG).on (Uh HB1)
  have HLK:=Hd (lk22 HG1 hD h0 (Uh HFIT))
  have HX1:=Hd ((Uh HX).below (Uh HB1))
  have HY1:=Hd ((Uh HY).below (Uh HB1))
  have hXl:(xs.take 80).length≤80:=List.length_take_le _ _
  have hYl:(ys.take 80).length≤80:=List.length_take_le _ _
  have K3:=Hd (few22 _ xs 80 w1 (Uh HX1) (by omega))
  have HFE:Hid (∀ W,Below w1.heap.size w1 W→Calls Tryz.prog 9 #[.slice xo xs.length xcap,.int .i64 80] W (RunesNew W (xs.take 80))):=fun W hW=>few22 _ xs 80 W ((Uh HX1).below hW) (by omega)
  clear hD r2 p2 R2 h0 HX HY HG HFIT HG1 HX1
  generalize xs.take 80=X at *
  go_wp2_with fail
  refine (Uh K3).mono ?_
  rintro e2 w2 ⟨v3,rfl,ok2,b2⟩
  have HX2:=Hd ok2
  have K4:=Hd (few22 _ ys 80 w2 ((Uh HY1).below b2) (by omega))
  have HW2:=Hd b2
  obtain ⟨a3,c3,hv3,_,_⟩:=ok2.sk.shape
  subst hv3
  clear K3 ok2 b2 HY1
  generalize ys.take 80=Y at *
  go_wp2_with fail
  refine (Uh K4).mono ?_
  rintro e3 w3 ⟨v4,rfl,ok3,b3⟩
  have HY3:=Hd ok3.sk
  have HX3:=Hd ((Uh HX2).below b3)
  have HW3:=Hd (bthen (Uh HW2) b3)
  obtain ⟨a4,c4,hv4,_,_⟩:=ok3.sk.shape
  subst hv4
  have K5:=Hd ((Uh HLK).sc w3 _ X (Uh HW3) (Uh HX3).sk (by omega))
  clear K4 ok3 b3 HX2 HW2
  -- three times Scripts
  go_wp2_with fail
  refine (Uh K5).mono ?_
  rintro e4 w4 ⟨vp,P,hNP,rfl,hop,b4⟩
  have HNP:=Hd hNP
  have HP4:=Hd hop.sv
  have HX4:=Hd ((Uh HX3).below b4)
  have HY4:=Hd ((Uh HY3).below b4)
  have HW4:=Hd (bthen (Uh HW3) b4)
  have K6:=Hd ((Uh HLK).sc w4 _ Y (Uh HW4) (Uh HY4) (by omega))
  obtain ⟨po,pc,hvp,_,_⟩:=hop.sv.shape
  rw [List.length_map] at hvp
  subst hvp
  clear K5 b4 HX3 HY3 HW3 hop hNP
  go_wp2_with fail
  refine (Uh K6).mono ?_
  rintro e5 w5 ⟨vq,Qn,hNQ,rfl,hoq,b5⟩
  have HNQ:=Hd hNQ
  have HQ5:=Hd hoq.sv
  have HP5:=Hd ((Uh HP4).below b5)
  have HX5:=Hd ((Uh HX4).below b5)
  have HY5:=Hd ((Uh HY4).below b5)
  have HW5:=Hd (bthen (Uh HW4) b5)
  have K7:=Hd ((Uh HFE) w5 (Uh HW5))
  obtain ⟨qo,qc,hvq,_,_⟩:=hoq.sv.shape
  rw [List.length_map] at hvq
  subst hvq
  clear K6 b5 HX4 HY4 HW4 HP4 hoq hNQ HFE
  go_wp2_with fail
  refine (Uh K7).mono ?_
  rintro e6 w6 ⟨v6,rfl,ok6,b6⟩
  have HO6:=Hd ok6
  have HY6:=Hd ((Uh HY5).below b6)
  have HB6:=Hd b6
  have hs6:=b6.size
  obtain ⟨a6,c6,hv6,_,_⟩:=ok6.sk.shape
  subst hv6
  clear K7 ok6 b6
  go_wp2_with (at_builtin; refine app_sk12 rfl (.tmp 43) (.tmp 44) rfl w5.heap.size _ _ X Y rfl rfl (Uh HO6) (Uh HY6) (by omega) hs6 ?_)
  intro v7 w7 ok7 g7
  have b57:Below w5.heap.size w5 w7:=(Uh HB6).grown g7 (Uh HB6).size (fun k hk=>((Uh HO6).row.lt k hk).1)
  have HW7:=Hd (bthen (Uh HW5) b57)
  have HX7:=Hd ((Uh HX5).below b57)
  have HY7:=Hd ((Uh HY5).below b57)
  have HP7:=Hd ((Uh HP5).below b57)
  have HQ7:=Hd ((Uh HQ5).below b57)
  have hxyl:(X++Y).length≤1000:=by rw [List.length_append]; omega
  have K8:=Hd ((Uh HLK).sc w7 v7 (X++Y) (Uh HW7) ok7.sk hxyl)
  obtain ⟨a7,c7,hv7,_,_⟩:=ok7.sk.shape
  rw [List.length_append] at hv7
  subst hv7
  clear ok7 g7 b57 HO6 HY6 HB6 hs6 HX5 HY5 HP5 HQ5 HW5
  go_wp2_with fail
  refine (Uh K8).mono ?_
  rintro e8 w8 ⟨vr,R,hNR,rfl,hor,b8⟩
  rw [List.map_append] at hNR
  obtain ⟨F1,F2,F3⟩:=Cn.names_app22 (Uh HNP) (Uh HNQ) hNR
  have HF1:=Hd F1
  have HF2:=Hd F2
  have HF3:=Hd F3
  have HNR:=Hd hNR
  have HR8:=Hd hor.sv
  have HX8:=Hd ((Uh HX7).below b8)
  have HY8:=Hd ((Uh HY7).below b8)
  have HP8:=Hd ((Uh HP7).below b8)
  have HQ8:=Hd ((Uh HQ7).below b8)
  have HW8:=Hd (bthen (Uh HW7) b8)
  obtain ⟨ro,rc,hvr,_,_⟩:=hor.sv.shape
  have hRl:=hor.1
  rw [List.length_map] at hvr hRl
  subst hvr
  have hPl:=(Uh HP8).1
  have hQl:=(Uh HQ8).1
  rw [List.length_map] at hPl hQl
  clear K8 b8 hor hNR F1 F2 F3 HX7 HY7 HP7 HQ7 HW7
  go_wp2
  go_loopw [15] (fun ii wr=>∃ k:Nat,ii=.int .i64 k∧k≤R.length∧Below w8.heap.size w8 wr) (fun ii _=>R.length - (intOf ii).toNat)
  case atStart=>exact ⟨0,rfl,by omega,Below.refl _ _⟩
  case round =>
   obtain ⟨k,rfl,hk,hbel⟩:=hrel
   by_cases hlt:k<R.length
   ·obtain ⟨rb,rof,rcp,he,hrc⟩:=sv_cell22 (Uh HR8) hlt
    simp only [Value.slice.injEq] at he
    obtain ⟨rfl,-,rfl⟩:=he
    obtain ⟨A,hA,hcA0⟩:=hrc k hlt
    have CA:Hid (∀ W,Below wr.heap.size wr W→W.cell? ⟨rb,rof+k,none⟩=some (.string A)):=fun W hW=>by rw [(bthen hbel hW).cell (lt_of_cell? hcA0)]; exact hcA0
    have hF:=(Uh HF1) _ (getD_mem22 hlt)
    rw [← hA] at hF
    have hs0:(A.toList==[])=false:=by rw [Lib.toList_data]; simpa using hF.1
    have KP:Hid (∀ W,Below wr.heap.size wr W→Calls Tryz.prog 25 #[.slice po P.length pc,.string A] W (BoolIs W (decide (A.data.toList∈P)))):=fun W hW=>among22 _ P A W ((Uh HP8).below (bthen hbel hW))
    have KQ:Hid (∀ W,Below wr.heap.size wr W→Calls Tryz.prog 25 #[.slice qo Qn.length qc,.string A] W (BoolIs W (decide (A.data.toList∈Qn)))):=fun W hW=>among22 _ Qn A W ((Uh HQ8).below (bthen hbel hW))
    have hor:decide (A.data.toList∈P)=true∨(decide (A.data.toList∈P)=false∧decide (A.data.toList∈Qn)=true):=by
     by_cases h:A.data.toList∈P
     ·exact .inl (decide_eq_true h)
     ·exact .inr ⟨decide_eq_false h,decide_eq_true (hF.2.resolve_left h)⟩
    obtain ⟨b1,hb1⟩:∃ b,decide (A.data.toList∈P)=b:=⟨_,rfl⟩
    obtain ⟨b2,hb2⟩:∃ b,decide (A.data.toList∈Qn)=b:=⟨_,rfl⟩
    rw [hb1] at KP hor
    rw [hb2] at KQ hor
    have HBEL:=Hd hbel
    have hbd:Below wr.heap.size wr wr.drew:=(Below.refl wr.heap.size wr).drew
    have KI:Hid (∀ W,Below wr.heap.size wr W→Below w8.heap.size w8 W):=fun W hW=>bthen hbel hW
    clear hb1 hb2 hF hbel
    have KPn:Hid (∀ n,Calls Tryz.prog 25 #[.slice po P.length pc,.string A] (wr.drewN n) fun e w'=>e=.returned (.bool b1)∧w'=wr.drewN n):=fun n=>(Uh KP) _ (drewB ⟨n,rfl⟩)
    have KQn:Hid (∀ n,Calls Tryz.prog 25 #[.slice qo Qn.length qc,.string A] (wr.drewN n) fun e w'=>e=.returned (.bool b2)∧w'=wr.drewN n):=fun n=>(Uh KQ) _ (drewB ⟨n,rfl⟩)
    have hcA:wr.cell? ⟨rb,rof+k,none⟩=some (.string A):=(Uh CA) _ (Below.refl _ _)
    by_cases hk0:0<k
    ·obtain ⟨j,hj⟩:∃ j:Nat,j=k - 1:=⟨_,rfl⟩
     obtain ⟨A',hA',hcB0⟩:=hrc j (by omega)
     have hcB:wr.cell? ⟨rb,rof+j,none⟩=some (.string A'):=by rw [((Uh KI) wr (Below.refl _ _)).cell (lt_of_cell? hcB0)]; exact hcB0
     have hless:Op.bytesLess A'.toList A.toList=true:=by
      have:=rise22 (Uh HNR).1 (j:=j) (by omega)
      rw [show j+1=k by omega] at this
      rw [lss22,hA',hA]
      exact decide_eq_true this
     have hw:IntKind.i64.wrap ((k:Int) - 1)=(j:Int):=by rw [IntKind.wrap_i64]; omega
     have I2:(j:Int)<(R.length:Int):=by omega
     have I3:(0:Int)≤(j:Int):=by omega
     have hd1:decide ((0:Int)<(k:Int))=true:=by simp; omega
     have hd2:decide (0<k)=true:=by simp; omega
     have HREL:Hid (∀ n,Below w8.heap.size w8 (wr.drewN n)):=fun n=>(Uh KI) _ (drewB ⟨n,rfl⟩)
     rcases hor with rfl | ⟨rfl,rfl⟩
     all_goals
      clear hA hA' hcA0 hcB0 hrc hj KP KQ CA KI hbd HBEL
      go_wp2
      go_quiet (first | (go_at_call 25; with_reducible exact Calls.quiet_of_same (Uh KPn _)) | (go_at_call 25; with_reducible exact Calls.quiet_of_same (Uh KQn _)))
      go_wp2
      go_roundw
      case rel=>exact ⟨k+1,by go_num,by omega,(Uh HREL) nq⟩
      case measure=>simp [intOf]; omega
    ·have hd1:decide ((0:Int)<(k:Int))=false:=by simp; omega
     have hd2:decide (0<k)=false:=by simp; omega
     have HREL:Hid (∀ n,Below w8.heap.size w8 (wr.drewN n)):=fun n=>(Uh KI) _ (drewB ⟨n,rfl⟩)
     rcases hor with rfl | ⟨rfl,rfl⟩
     all_goals
      clear hA hcA0 hrc KP KQ CA KI hbd HBEL
      go_wp2
      go_quiet (first | (go_at_call 25; with_reducible exact Calls.quiet_of_same (Uh KPn _)) | (go_at_call 25; with_reducible exact Calls.quiet_of_same (Uh KQn _)))
      go_wp2
      go_roundw
      case rel=>exact ⟨k+1,by go_num,by omega,(Uh HREL) nq⟩
      case measure=>simp [intOf]; omega
   ·obtain rfl:k=R.length:=by omega
    have HBEL:=Hd hbel
    have hbs:=hbel.size
    have HRw:=Hd ((Uh HR8).below hbel)
    have HPw:=Hd ((Uh HP8).below hbel)
    have HQw:=Hd ((Uh HQ8).below hbel)
    have HXw:=Hd ((Uh HX8).below hbel)
    have HYw:=Hd ((Uh HY8).below hbel)
    have HWw:=Hd (bthen (Uh HW8) hbel)
    obtain ⟨wz,hwz⟩:∃ wz,wz=wr:=⟨_,rfl⟩
    subst hwz
    have KA:Hid (∀ A:ByteArray,A.data.toList∈R→Calls Tryz.prog 25 #[.slice ro R.length rc,.string A] wz (BoolIs wz true)):=fun A hA=>by
     have:=among22 _ R A wz (Uh HRw)
     rw [decide_eq_true hA] at this
     exact this
    clear hbel HR8 HP8 HQ8 HX8 HY8 HW8 HBEL
    go_wp2
    go_loop [16] (fun ii=>∃ k:Nat,ii=.int .i64 k∧k≤P.length) (fun ii=>P.length - (intOf ii).toNat)
    case atStart=>exact ⟨0,rfl,by omega⟩
    case round =>
     obtain ⟨k,rfl,hk⟩:=hrel
     by_cases hlt:k<P.length
     ·obtain ⟨rb,rof,rcp,he,hrc⟩:=sv_cell22 (Uh HPw) hlt
      simp only [Value.slice.injEq] at he
      obtain ⟨rfl,-,rfl⟩:=he
      obtain ⟨A,hA,hcA0⟩:=hrc k hlt
      have K:=Hd ((Uh KA) A ((Uh HF2) _ (by rw [hA]; exact getD_mem22 hlt)))
      have hL:(k:Int)<P.length:=by omega
      clear hrc hA
      go_wp2_with (go_at_call 25; refine (Uh K).mono ?_; rintro e9 w9 ⟨rfl,rfl⟩)
      go_round
      case rel=>exact ⟨k+1,by go_num,by omega⟩
      case measure=>simp [intOf]; omega
     ·obtain rfl:k=P.length:=by omega
      have hL:¬ ((P.length:Int)<P.length):=by omega
      go_wp2
      go_loop [17] (fun ii=>∃ k:Nat,ii=.int .i64 k∧k≤Qn.length) (fun ii=>Qn.length - (intOf ii).toNat)
      case atStart=>exact ⟨0,rfl,by omega⟩
      case round =>
       obtain ⟨k,rfl,hk3⟩:=hrel
       by_cases hlt3:k<Qn.length
       ·obtain ⟨rb,rof,rcp,he,hrc⟩:=sv_cell22 (Uh HQw) hlt3
        simp only [Value.slice.injEq] at he
        obtain ⟨rfl,-,rfl⟩:=he
        obtain ⟨A,hA,hcA0⟩:=hrc k hlt3
        have K:=Hd ((Uh KA) A ((Uh HF3) _ (by rw [hA]; exact getD_mem22 hlt3)))
        have hL:(k:Int)<Qn.length:=by omega
        clear hrc hA
        go_wp2_with (go_at_call 25; refine (Uh K).mono ?_; rintro e9 w9 ⟨rfl,rfl⟩)
        go_round
        case rel=>exact ⟨k+1,by go_num,by omega⟩
        case measure=>simp [intOf]; omega
       ·obtain rfl:k=Qn.length:=by omega
        have hL3:¬ ((Qn.length:Int)<Qn.length):=by omega
        have hzs:=(Uh HWw).size
        go_wp2_with (at_builtin; refine app_sk12 rfl (.tmp 119) (.tmp 120) rfl w1.heap.size _ _ X Y rfl rfl (Uh HXw) (Uh HYw) (by omega) hzs ?_)
        intro v20 w20 ok20 g20
        have b20:Below w1.heap.size w1 w20:=(Uh HWw).grown g20 hzs (fun g hg=>((Uh HXw).row.lt g hg).1)
        have B20:=Hd b20
        have hxyl2:(X++Y).length≤1000:=by rw [List.length_append]; omega
        have hNR2:Cn.Names ((X++Y).map (Cn.snm rs)) R:=by rw [List.map_append]; exact Uh HNR
        have K20:=Hd ((Uh HLK).pl w20 v20 (X++Y) R b20 ok20.sk hxyl2 hNR2)
        obtain ⟨a20,c20,hv20,_,_⟩:=ok20.sk.shape
        rw [List.length_append] at hv20
        subst hv20
        have hple:decide ((R.length:Int)≤1)=decide (R.length≤1):=decide_eq_decide.2 (by omega)
        clear ok20 g20 b20 hNR2 hxyl2
        go_wp2_with fail
        refine (Uh K20).mono ?_
        rintro e21 w21 ⟨rfl,b21⟩
        have HF:Hid (Tells w true (.returned (.bool true)) w21):=⟨rfl,bthen (Uh HB1) (bthen (Uh B20) b21)⟩
        clear K20 b21 B20
        generalize decide (R.length≤1)=dd at *
        have hdd:(dd==dd)=true:=by simp
        go_wp2
        go_ret
        exact Uh HF
end Go.Proofs.YtihhhjodonkkcaaGreatDoor
