/- Jk16 -/
import Derived.Test.YthhekhkbbkemjaaGreatDoorW42
namespace Go.Proofs.YthhekhkbbkemjaaGreatDoor
open Go.RowKit
open Ti
theorem and_forty16 (n:Int):∃ c:Int,bits .and .i64 n 1099511627775=c∧0≤c∧c≤1099511627775:=by
 have h:(BitVec.ofInt 64 n &&& BitVec.ofInt 64 1099511627775).toNat≤1099511627775:=by
  rw [BitVec.toNat_and]
  exact Nat.le_trans Nat.and_le_right (by decide)
 have e:bits .and .i64 n 1099511627775=((BitVec.ofInt 64 n &&& BitVec.ofInt 64 1099511627775).toNat:Int):=by
  show IntKind.i64.wrap ((BitVec.ofInt 64 n &&& BitVec.ofInt 64 1099511627775).toNat:Nat)=_
  rw [IntKind.wrap_i64]; omega
 exact ⟨_,e,by omega,by omega⟩
theorem fiti_nat16 {cl j:Int→Int} {X:List Int} {n:Nat} (h:n<X.length):Jn.fiti cl j X (n:Int)=Jn.fit cl j X n:=by unfold Jn.fiti; rw [decide_eq_true (by omega),decide_eq_true (p:=(n:Int)<X.length) (by omega),Int.toNat_natCast]; rfl
theorem near_end16 {cl j:Int→Int} {X A B:List Int} {lo i hi:Nat} (h1:lo≤i) (h2:i<hi) (h3:hi≤X.length) (hA:(A=[]∧lo=0)∨(lo<i∧j (X.getD lo 0)≠5)) (hB:(B=[]∧hi=X.length)∨∃ h,i<h∧h<hi∧j (X.getD h 0)≠5) :
  Jn.fiti cl j (A++(X.drop lo).take (hi - lo)++B) ((A.length+(i - lo):Nat):Int)=Jn.fiti cl j X (i:Int):=by
 have h:=Jn.fit_near (cl:=cl) h1 h2 h3 hA hB
 rw [fiti_nat16 h.2,fiti_nat16 (by omega),h.1]
theorem i32_in16 {xs:List Int} {K:World} {xv:Value} (h:Sk .i32 K xv xs) {k:Nat} (hk:k<xs.length):Rune (xs.getD k 0):=by
 have:=h.1 (xs.getD k 0) (by simp [List.getD,hk])
 exact ⟨this.1,this.2⟩
set_option maxRecDepth 20000 in
set_option maxHeartbeats 16000000 in
theorem near_law16 (v:Value) (rs0:List Rec) (xv:Value) (xs:List Int) (i:Int) (av:Value) (al:List Int) (bv:Value) (bs:List Int) (w:World) (hg:Glob w) (hv:Rcs w v rs0) (hx:Sk .i32 w xv xs) (ha:Sk .i32 w av al) (hbb:Sk .i32 w bv bs):Calls Tryz.prog 4 #[v,xv,.int .i64 i,av,bv] w (Tells w true):=by
 have K1:=Hd (made_any v rs0 w hg hv)
 have hfit:∀ r∈rs0.take 150,RecFit r:=fun r hr=>hv.2.1 r (List.mem_of_mem_take hr)
 have hrl:(rs0.take 150).length≤150:=by rw [List.length_take]; omega
 have HFIT:=Hd hfit
 clear hfit
 obtain ⟨ao,cap,rfl,_,hcap⟩:=hv.shape
 have HX:=Hd hx
 have HA:=Hd ha
 have HB0:=Hd hbb
 obtain ⟨xo,xcap,hxe,hxc1,hxc2⟩:=hx.shape
 subst hxe
 obtain ⟨aa,acap,hae,_,_⟩:=ha.shape
 subst hae
 obtain ⟨ba,bcap,hbe,_,_⟩:=hbb.shape
 subst hbe
 have HG:=Hd hg
 obtain ⟨c40,hc40,hc0,hc1⟩:=and_forty16 i
 clear hg hv hx ha hbb
 generalize rs0.take 150=rs at *
 generalize rs0.length=L at *
 go_enter Tryz.func4,Tryz.ntmps4
 go_wp2_with fail
 refine (Uh K1).mono ?_
 rintro e1 w1 ⟨b1,h1⟩
 have HB1:=Hd b1
 clear K1 b1
 rcases h1 with ⟨hne,rfl⟩ | ⟨h0,p,v2,ps2,rfl,hD,r2,p2⟩
 ·have K2:=Hd (told_any16 w1 ((Uh HG).on (Uh HB1)))
  clear hne
  go_wp2_with fail
  refine (Uh K2).mono ?_
  rintro e2 w2 ⟨rfl,b2⟩
  have HB2:=Hd (bthen (Uh HB1) b2)
  clear K2 b2
  go_wp2
  go_ret
  exact ⟨rfl,Uh HB2⟩
 ·have h6:=(Cn.check_iff.1 h0).1
  have R2:=rcs_new r2 p2 (by omega) (Uh HFIT)
  obtain ⟨a2,cp2,hv2,_,hcp2⟩:=R2.shape
  subst hv2
  have H6:=Hd h6
  have HD1:=Hd hD
  have HR1:=Hd R2
  have hXl:(xs.take 60).length≤60:=List.length_take_le _ _
  have K3:=Hd (few_any16 _ xs 60 w1 ((Uh HX).below (Uh HB1)) (by omega))
  clear hD r2 p2 R2 h6 h0 HX HG HFIT
  generalize xs.take 60=X at *
  go_wp2_with fail
  refine (Uh K3).mono ?_
  rintro e2 w2 ⟨v3,rfl,ok2,b2⟩
  obtain ⟨a3,c3,hv3,hc31,hc32⟩:=ok2.sk.shape
  subst hv3
  have HXS:=Hd ok2.sk
  have HPF:Hid (∀ W,Below w2.heap.size w2 W→∀ yv Y,Sk .i32 W yv Y→∀ i,(-9223372036854775808≤i∧i≤9223372036854775807)→Calls Tryz.prog 9 #[.pointer (some ⟨p,0,none⟩),yv,.int .i64 i] W (Tells W (Jn.fiti (Cn.vget rs 2) (Cn.vget rs 5) Y i))):=fun W hW yv Y hY i hi=>fits_any16 (classC16 (((Uh HD1).below b2).below hW) (Uh H6)) (joinC16 (((Uh HD1).below b2).below hW) (Uh H6)) hY i hi
  have HPC:=Hd (check_any16 (classC16 ((Uh HD1).below b2) (Uh H6)) (joinC16 ((Uh HD1).below b2) (Uh H6)) ok2.sk)
  have KJ:Hid (∀ (k:Nat),k<X.length→∀ W,Below w2.heap.size w2 W→Calls Tryz.prog 13 #[.slice a2 rs.length cp2,.int .i32 (X.getD k 0)] W (IntB W (Cn.vget rs 5 (X.getD k 0)))):=fun k hk W hW=>rjoinC16 (((Uh HR1).below b2).below hW) (Uh H6) _ (i32_in16 (Uh HXS) hk) W (Below.refl _ _)
  have HAF:Hid (∀ W,Below w2.heap.size w2 W→Calls Tryz.prog 8 #[.slice aa al.length acap,.int .i64 30] W (RunesNew W (al.take 30))):=fun W hW=>few_any16 _ al 30 W ((Uh HA).below (bthen (Uh HB1) (bthen b2 hW))) (by omega)
  have HBF:Hid (∀ W,Below w2.heap.size w2 W→Calls Tryz.prog 8 #[.slice ba bs.length bcap,.int .i64 30] W (RunesNew W (bs.take 30))):=fun W hW=>few_any16 _ bs 30 W ((Uh HB0).below (bthen (Uh HB1) (bthen b2 hW))) (by omega)
  have HB2:=Hd (bthen (Uh HB1) b2)
  clear K3 ok2 b2 HD1 HB1 HR1 H6 HA HB0
  generalize Cn.vget rs 2=cl at *
  generalize Cn.vget rs 5=j at *
  rcases Nat.eq_zero_or_pos X.length with hX0 | hX0
  ·obtain rfl:X=[]:=List.eq_nil_of_length_eq_zero hX0
   have K4:=HPC
   rw [show Jn.chk cl j []=-1 from rfl] at K4
   clear HPF HPC KJ HAF HBF HXS
   go_wp2_with fail
   refine (Uh K4).mono ?_
   rintro e3 w3 ⟨rfl,b3⟩
   have HB3:=Hd (bthen (Uh HB2) b3)
   clear K4 b3
   go_wp2
   go_ret
   exact ⟨rfl,Uh HB3⟩
  ·obtain ⟨g,off,cp,he,_,_,hcl⟩:=(Uh HXS).place hX0
   simp only [Value.slice.injEq] at he
   obtain ⟨rfl,-,rfl⟩:=he
   have HC:Hid (∀ (k:Nat),k<X.length→∀ W,Below w2.heap.size w2 W→W.cell? ⟨g,off+k,none⟩=some (.int .i32 (X.getD k 0))):=fun k hk W hW=>by rw [hW.cell (lt_of_cell? (hcl k hk))]; exact hcl k hk
   have hX1:¬ (X.length:Int)=0:=by omega
   have hX2:¬ X.length=0:=by omega
   have hX3:¬ X=[]:=fun h=>hX2 (by rw [h]; rfl)
   have hX4:((X.length:Int)==0)=false:=by rw [beq_eq_false_iff_ne]; exact hX1
   obtain ⟨n0,hn0⟩:∃ n0:Nat,c40.tmod (X.length:Int)=(n0:Int):=⟨(c40.tmod (X.length:Int)).toNat,by rw [Int.tmod_eq_emod_of_nonneg hc0]; have:=Int.emod_nonneg c40 hX1; omega⟩
   have hn1:n0<X.length:=by
    have h1:=Int.emod_lt_of_pos c40 (show (0:Int)<X.length by omega)
    rw [Int.tmod_eq_emod_of_nonneg hc0] at hn0
    omega
   have hw0:IntKind.i64.wrap (n0:Int)=(n0:Int):=by rw [IntKind.wrap_i64]; omega
   have hw1:IntKind.i64.wrap ((n0:Int) - 1)=(n0:Int) - 1:=by rw [IntKind.wrap_i64]; omega
   have hw2:IntKind.i64.wrap ((n0:Int)+1)=(n0:Int)+1:=by rw [IntKind.wrap_i64]; omega
   clear HPC hcl hX0
   go_wp2
   clear hn0 hc40 hw0
   have HB:=Hd (Below.refl w2.heap.size w2)
   go_loopw [15] (fun lv wr=>∃ k:Nat,lv=.int .i64 ((k:Int) - 1)∧k≤n0∧Below w2.heap.size w2 wr) (fun lv _=>(intOf lv+1).toNat)
   case atStart=>exact ⟨n0,rfl,Nat.le_refl _,Uh HB⟩
   case round =>
    clear HB
    obtain ⟨k,rfl,hk,hb⟩:=hrel
    cases k with
    | zero =>
     rw [show (((0:Nat):Int) - 1)=-1 from rfl]
     have HB:=Hd hb
     clear hb
     go_wp2
     have hw2:IntKind.i64.wrap ((n0:Int)+1)=(n0:Int)+1:=by rw [IntKind.wrap_i64]; omega
     go_loopw [16] (fun hv wr=>∃ r:Nat,hv=.int .i64 (r:Int)∧n0<r∧r≤X.length∧Below w2.heap.size w2 wr) (fun hv _=>X.length - (intOf hv).toNat)
     case atStart=>exact ⟨n0+1,by first | rfl | go_num,by omega,by omega,Uh HB⟩
     case round =>
      clear HB
      obtain ⟨r,rfl,hr1,hr2,hb⟩:=hrel
      by_cases hlt:r<X.length
      ·have hL2:(r:Int)<X.length:=by omega
       have x8:=(Uh HC) r hlt wr hb
       have KR:=Hd ((Uh KJ) r hlt wr hb)
       have HBR:=Hd hb
       obtain ⟨z2,hz2⟩:∃ z2,j (X.getD r 0)=z2:=⟨_,rfl⟩
       rw [hz2] at KR
       have HX2:=Hd hz2
       clear hz2 hb
       have HRX:Hid (z2≠5→j (X.getD r 0)≠5):=fun h=>by rw [Uh HX2]; exact h
       clear HX2
       obtain ⟨c2,hc2⟩:∃ c2,X.getD r 0=c2:=⟨_,rfl⟩
       rw [hc2] at KR x8
       clear hc2
       have hw5:IntKind.i64.wrap ((r:Int)+1)=(r:Int)+1:=by rw [IntKind.wrap_i64]; omega
       by_cases z5:z2=5
       ·subst z5
        clear HRX
        go_wp2_with fail
        refine (Uh KR).mono ?_
        rintro e w3 ⟨rfl,b3⟩
        have HB3:=Hd (bthen (Uh HBR) b3)
        clear KR b3 HBR x8
        go_wp2
        go_roundw
        case rel=>exact ⟨r+1,by go_num,by omega,by omega,Uh HB3⟩
        case measure=>simp [intOf] <;> omega
       ·have z5f:(z2==5)=false:=by rw [beq_eq_false_iff_ne]; exact z5
        have HBQ:Hid (∀ B:List Int,(B=[]∧r+1=X.length)∨∃ h,n0<h∧h<r+1∧j (X.getD h 0)≠5):=fun _=>.inr ⟨r,hr1,by omega,(Uh HRX) z5⟩
        have hmin:min ((r:Int)+1) (X.length:Int)=(r:Int)+1:=by omega
        have hh1:r+1≤X.length:=by omega
        have hh2:n0<r+1:=by omega
        clear HRX z5
        go_wp2_with fail
        refine (Uh KR).mono ?_
        rintro e w3 ⟨rfl,b3⟩
        have HBS:=Hd (bthen (Uh HBR) b3)
        clear KR b3 HBR x8
        have hmax:max (-1:Int) 0=0:=by decide
        obtain ⟨M,hM⟩:∃ M,(X.drop 0).take ((r+1) - 0)=M:=⟨_,rfl⟩
        have hMl:M.length≤60:=by rw [← hM,List.length_take,List.length_drop]; omega
        have HCUT:Hid (Sk .i32 w3 (.slice (some ⟨g,off,none⟩) (r+1) c3) M):=by
         have h:=((Uh HXS).below (Uh HBS)).head (k:=(r+1)) (by omega) hc31
         rw [← hM,List.drop_zero,Nat.sub_zero]
         exact h
        have HEND:Hid (∀ B:List Int,Jn.fiti cl j (([]:List Int)++M++B) (n0:Int)=Jn.fiti cl j X (n0:Int)):=fun B=>by
         have h:=near_end16 (cl:=cl) (j:=j) (A:=([]:List Int)) (lo:=0) (i:=n0) (hi:=(r+1)) (by omega) (by omega) (by omega) (.inl ⟨rfl,rfl⟩) ((Uh HBQ) B)
         rw [hM,show (((([]:List Int)).length+(n0 - 0):Nat):Int)=(n0:Int) by simp] at h
         exact h
        clear hM HBQ
        have hsz:=(Uh HBS).size
        go_wp2_with (at_builtin; refine app_sk15 rfl (.tmp 100) (.tmp 108) rfl w2.heap.size _ _ ([]:List Int) M rfl rfl (Ok.nil _ _ _ _) (Uh HCUT) (by first | omega | (simp; omega)) hsz ?_)
        intro v5 w5 ok5 g5
        have HB5:=Hd ((Uh HBS).grown g5 hsz (fun k hk=>(by cases hk)))
        obtain ⟨P,hP⟩:∃ P,M=P:=⟨_,rfl⟩
        rw [hP] at ok5
        have hPl:P.length≤90:=by rw [← hP]; omega
        have HEND2:Hid (∀ B:List Int,Jn.fiti cl j (P++B) (n0:Int)=Jn.fiti cl j X (n0:Int)):=fun B=>by rw [← hP]; exact (Uh HEND) B
        have HO5:=Hd ok5
        obtain ⟨a5,c5,hv5,_,_⟩:=ok5.sk.shape
        subst hv5
        have hsz5:=(Uh HB5).size
        clear hP HEND HCUT ok5 g5 HBS
        have KB:=Hd ((Uh HBF) w5 (Uh HB5))
        go_wp2_with fail
        refine (Uh KB).mono ?_
        rintro e6 w6 ⟨v6,rfl,ok6,b6⟩
        have HB6:=Hd (bthen (Uh HB5) b6)
        have HO6:=Hd ((Uh HO5).below b6)
        have HS6:=Hd ok6.sk
        have hbl:(bs.take 30).length≤30:=List.length_take_le _ _
        obtain ⟨a6,c6,hv6,_,_⟩:=ok6.sk.shape
        subst hv6
        have hsz6:=(Uh HB6).size
        clear KB ok6 b6 HB5 HO5
        generalize bs.take 30=bt at *
        go_wp2_with (at_builtin; refine app_sk15 rfl (.tmp 114) (.tmp 116) rfl w2.heap.size _ _ P bt rfl rfl (Uh HO6) (Uh HS6) (by omega) hsz6 ?_)
        intro v7 w7 ok7 g7
        have HB7:=Hd ((Uh HB6).grown g7 hsz6 (fun k hk=>((Uh HO6).row.lt k hk).1))
        have HE7:=Hd ((Uh HEND2) bt)
        have HO7:=Hd ok7.sk
        obtain ⟨a7,c7,hv7,_,_⟩:=ok7.sk.shape
        subst hv7
        obtain ⟨Y,hY⟩:∃ Y,P++bt=Y:=⟨_,rfl⟩
        rw [hY] at HE7 HO7 ⊢
        clear hY HEND2 HO6 HS6 HB6 g7 ok7
        have K8:=Hd ((Uh HPF) w7 (Uh HB7) _ _ ((Uh HXS).below (Uh HB7)) (n0:Int) ⟨by omega,by omega⟩)
        go_wp2_with fail
        refine (Uh K8).mono ?_
        rintro e8 w8 ⟨rfl,b8⟩
        have K9:=Hd ((Uh HPF) w8 (bthen (Uh HB7) b8) _ _ ((Uh HO7).below b8) (n0:Int) ⟨by omega,by omega⟩)
        rw [Uh HE7] at K9
        have HB8:=Hd (bthen (Uh HB7) b8)
        clear K8 b8 HB7 HO7 HE7
        obtain ⟨fb,hf0⟩:∃ fb,Jn.fiti cl j X (n0:Int)=fb:=⟨_,rfl⟩
        rw [hf0] at K9 ⊢
        clear hf0 HPF HAF HBF KJ HC HXS
        have hfb:(fb==fb)=true:=by simp
        go_wp2_with fail
        refine (Uh K9).mono ?_
        rintro e9 w9 ⟨rfl,b9⟩
        have HB9:=Hd (bthen (Uh HB2) (bthen (Uh HB8) b9))
        clear K9 b9 HB8
        go_wp2
        go_ret
        exact ⟨rfl,Uh HB9⟩
      ·obtain rfl:r=X.length:=by omega
       have HBS:=Hd hb
       have hmin:min ((X.length:Int)+1) (X.length:Int)=(X.length:Int):=by omega
       clear hb
       have hmax:max (-1:Int) 0=0:=by decide
       obtain ⟨M,hM⟩:∃ M,(X.drop 0).take (X.length - 0)=M:=⟨_,rfl⟩
       have hMl:M.length≤60:=by rw [← hM,List.length_take,List.length_drop]; omega
       have HCUT:Hid (Sk .i32 wr (.slice (some ⟨g,off,none⟩) X.length c3) M):=by
        have h:=((Uh HXS).below (Uh HBS)).head (k:=X.length) (by omega) hc31
        rw [← hM,List.drop_zero,Nat.sub_zero]
        exact h
       have HEND:Hid (∀ B:List Int,B=[]→Jn.fiti cl j (([]:List Int)++M++B) (n0:Int)=Jn.fiti cl j X (n0:Int)):=fun B hB=>by
        have h:=near_end16 (cl:=cl) (j:=j) (A:=([]:List Int)) (lo:=0) (i:=n0) (hi:=X.length) (by omega) (by omega) (by omega) (.inl ⟨rfl,rfl⟩) (.inl ⟨hB,rfl⟩)
        rw [hM,show (((([]:List Int)).length+(n0 - 0):Nat):Int)=(n0:Int) by simp] at h
        exact h
       clear hM
       have hsz:=(Uh HBS).size
       go_wp2_with (at_builtin; refine app_sk15 rfl (.tmp 100) (.tmp 108) rfl w2.heap.size _ _ ([]:List Int) M rfl rfl (Ok.nil _ _ _ _) (Uh HCUT) (by first | omega | (simp; omega)) hsz ?_)
       intro v5 w5 ok5 g5
       have HB5:=Hd ((Uh HBS).grown g5 hsz (fun k hk=>(by cases hk)))
       obtain ⟨P,hP⟩:∃ P,M=P:=⟨_,rfl⟩
       rw [hP] at ok5
       have hPl:P.length≤90:=by rw [← hP]; omega
       have HEND2:Hid (∀ B:List Int,B=[]→Jn.fiti cl j (P++B) (n0:Int)=Jn.fiti cl j X (n0:Int)):=fun B hB=>by rw [← hP]; exact (Uh HEND) B hB
       have HO5:=Hd ok5
       obtain ⟨a5,c5,hv5,_,_⟩:=ok5.sk.shape
       subst hv5
       have hsz5:=(Uh HB5).size
       clear hP HEND HCUT ok5 g5 HBS
       have HE7:=Hd ((Uh HEND2) [] rfl)
       rw [List.append_nil] at HE7
       have HB7:=HB5
       have HO7:=Hd (Uh HO5).sk
       clear HEND2 HO5 HB5
       have K8:=Hd ((Uh HPF) w5 (Uh HB7) _ _ ((Uh HXS).below (Uh HB7)) (n0:Int) ⟨by omega,by omega⟩)
       go_wp2_with fail
       refine (Uh K8).mono ?_
       rintro e8 w8 ⟨rfl,b8⟩
       have K9:=Hd ((Uh HPF) w8 (bthen (Uh HB7) b8) _ _ ((Uh HO7).below b8) (n0:Int) ⟨by omega,by omega⟩)
       rw [Uh HE7] at K9
       have HB8:=Hd (bthen (Uh HB7) b8)
       clear K8 b8 HB7 HO7 HE7
       obtain ⟨fb,hf0⟩:∃ fb,Jn.fiti cl j X (n0:Int)=fb:=⟨_,rfl⟩
       rw [hf0] at K9 ⊢
       clear hf0 HPF HAF HBF KJ HC HXS
       have hfb:(fb==fb)=true:=by simp
       go_wp2_with fail
       refine (Uh K9).mono ?_
       rintro e9 w9 ⟨rfl,b9⟩
       have HB9:=Hd (bthen (Uh HB2) (bthen (Uh HB8) b9))
       clear K9 b9 HB8
       go_wp2
       go_ret
       exact ⟨rfl,Uh HB9⟩
    | succ q =>
     rw [show (((q+1:Nat):Int) - 1)=(q:Int) by omega]
     rcases Nat.eq_zero_or_pos q with hq0 | hq0
     ·subst hq0
      rw [show ((0:Nat):Int)=0 from rfl]
      have hk1:0<n0:=by omega
      have HB:=Hd hb
      clear hb
      go_wp2
      have hw2:IntKind.i64.wrap ((n0:Int)+1)=(n0:Int)+1:=by rw [IntKind.wrap_i64]; omega
      go_loopw [16] (fun hv wr=>∃ r:Nat,hv=.int .i64 (r:Int)∧n0<r∧r≤X.length∧Below w2.heap.size w2 wr) (fun hv _=>X.length - (intOf hv).toNat)
      case atStart=>exact ⟨n0+1,by first | rfl | go_num,by omega,by omega,Uh HB⟩
      case round =>
       clear HB
       obtain ⟨r,rfl,hr1,hr2,hb⟩:=hrel
       by_cases hlt:r<X.length
       ·have hL2:(r:Int)<X.length:=by omega
        have x8:=(Uh HC) r hlt wr hb
        have KR:=Hd ((Uh KJ) r hlt wr hb)
        have HBR:=Hd hb
        obtain ⟨z2,hz2⟩:∃ z2,j (X.getD r 0)=z2:=⟨_,rfl⟩
        rw [hz2] at KR
        have HX2:=Hd hz2
        clear hz2 hb
        have HRX:Hid (z2≠5→j (X.getD r 0)≠5):=fun h=>by rw [Uh HX2]; exact h
        clear HX2
        obtain ⟨c2,hc2⟩:∃ c2,X.getD r 0=c2:=⟨_,rfl⟩
        rw [hc2] at KR x8
        clear hc2
        have hw5:IntKind.i64.wrap ((r:Int)+1)=(r:Int)+1:=by rw [IntKind.wrap_i64]; omega
        by_cases z5:z2=5
        ·subst z5
         clear HRX
         go_wp2_with fail
         refine (Uh KR).mono ?_
         rintro e w3 ⟨rfl,b3⟩
         have HB3:=Hd (bthen (Uh HBR) b3)
         clear KR b3 HBR x8
         go_wp2
         go_roundw
         case rel=>exact ⟨r+1,by go_num,by omega,by omega,Uh HB3⟩
         case measure=>simp [intOf] <;> omega
        ·have z5f:(z2==5)=false:=by rw [beq_eq_false_iff_ne]; exact z5
         have HBQ:Hid (∀ B:List Int,(B=[]∧r+1=X.length)∨∃ h,n0<h∧h<r+1∧j (X.getD h 0)≠5):=fun _=>.inr ⟨r,hr1,by omega,(Uh HRX) z5⟩
         have hmin:min ((r:Int)+1) (X.length:Int)=(r:Int)+1:=by omega
         have hh1:r+1≤X.length:=by omega
         have hh2:n0<r+1:=by omega
         clear HRX z5
         go_wp2_with fail
         refine (Uh KR).mono ?_
         rintro e w3 ⟨rfl,b3⟩
         have HBS:=Hd (bthen (Uh HBR) b3)
         clear KR b3 HBR x8
         have x9:=(Uh HC) 0 (by omega) w3 (Uh HBS)
         have KL:=Hd ((Uh KJ) 0 (by omega) w3 (Uh HBS))
         obtain ⟨z1,hz1⟩:∃ z1,j (X.getD 0 0)=z1:=⟨_,rfl⟩
         rw [hz1] at KL
         obtain ⟨c1,hc1'⟩:∃ c1,X.getD 0 0=c1:=⟨_,rfl⟩
         rw [hc1'] at KL x9
         rw [Nat.add_zero] at x9
         have HZ1:=Hd hz1
         clear hz1 hc1'
         have hmax:max (0:Int) 0=0:=by decide
         by_cases z5':z1=5
         ·subst z5'
          clear HZ1
          go_wp2_with fail
          refine (Uh KL).mono ?_
          rintro e w10 ⟨rfl,b10⟩
          replace HBS:=Hd (bthen (Uh HBS) b10)
          clear KL b10 x9
          obtain ⟨M,hM⟩:∃ M,(X.drop 0).take ((r+1) - 0)=M:=⟨_,rfl⟩
          have hMl:M.length≤60:=by rw [← hM,List.length_take,List.length_drop]; omega
          have HCUT:Hid (Sk .i32 w10 (.slice (some ⟨g,off,none⟩) (r+1) c3) M):=by
           have h:=((Uh HXS).below (Uh HBS)).head (k:=(r+1)) (by omega) hc31
           rw [← hM,List.drop_zero,Nat.sub_zero]
           exact h
          have HEND:Hid (∀ B:List Int,Jn.fiti cl j (([]:List Int)++M++B) (n0:Int)=Jn.fiti cl j X (n0:Int)):=fun B=>by
           have h:=near_end16 (cl:=cl) (j:=j) (A:=([]:List Int)) (lo:=0) (i:=n0) (hi:=(r+1)) (by omega) (by omega) (by omega) (.inl ⟨rfl,rfl⟩) ((Uh HBQ) B)
           rw [hM,show (((([]:List Int)).length+(n0 - 0):Nat):Int)=(n0:Int) by simp] at h
           exact h
          clear hM HBQ
          have hsz:=(Uh HBS).size
          go_wp2_with (at_builtin; refine app_sk15 rfl (.tmp 100) (.tmp 108) rfl w2.heap.size _ _ ([]:List Int) M rfl rfl (Ok.nil _ _ _ _) (Uh HCUT) (by first | omega | (simp; omega)) hsz ?_)
          intro v5 w5 ok5 g5
          have HB5:=Hd ((Uh HBS).grown g5 hsz (fun k hk=>(by cases hk)))
          obtain ⟨P,hP⟩:∃ P,M=P:=⟨_,rfl⟩
          rw [hP] at ok5
          have hPl:P.length≤90:=by rw [← hP]; omega
          have HEND2:Hid (∀ B:List Int,Jn.fiti cl j (P++B) (n0:Int)=Jn.fiti cl j X (n0:Int)):=fun B=>by rw [← hP]; exact (Uh HEND) B
          have HO5:=Hd ok5
          obtain ⟨a5,c5,hv5,_,_⟩:=ok5.sk.shape
          subst hv5
          have hsz5:=(Uh HB5).size
          clear hP HEND HCUT ok5 g5 HBS
          have KB:=Hd ((Uh HBF) w5 (Uh HB5))
          go_wp2_with fail
          refine (Uh KB).mono ?_
          rintro e6 w6 ⟨v6,rfl,ok6,b6⟩
          have HB6:=Hd (bthen (Uh HB5) b6)
          have HO6:=Hd ((Uh HO5).below b6)
          have HS6:=Hd ok6.sk
          have hbl:(bs.take 30).length≤30:=List.length_take_le _ _
          obtain ⟨a6,c6,hv6,_,_⟩:=ok6.sk.shape
          subst hv6
          have hsz6:=(Uh HB6).size
          clear KB ok6 b6 HB5 HO5
          generalize bs.take 30=bt at *
          go_wp2_with (at_builtin; refine app_sk15 rfl (.tmp 114) (.tmp 116) rfl w2.heap.size _ _ P bt rfl rfl (Uh HO6) (Uh HS6) (by omega) hsz6 ?_)
          intro v7 w7 ok7 g7
          have HB7:=Hd ((Uh HB6).grown g7 hsz6 (fun k hk=>((Uh HO6).row.lt k hk).1))
          have HE7:=Hd ((Uh HEND2) bt)
          have HO7:=Hd ok7.sk
          obtain ⟨a7,c7,hv7,_,_⟩:=ok7.sk.shape
          subst hv7
          obtain ⟨Y,hY⟩:∃ Y,P++bt=Y:=⟨_,rfl⟩
          rw [hY] at HE7 HO7 ⊢
          clear hY HEND2 HO6 HS6 HB6 g7 ok7
          have K8:=Hd ((Uh HPF) w7 (Uh HB7) _ _ ((Uh HXS).below (Uh HB7)) (n0:Int) ⟨by omega,by omega⟩)
          go_wp2_with fail
          refine (Uh K8).mono ?_
          rintro e8 w8 ⟨rfl,b8⟩
          have K9:=Hd ((Uh HPF) w8 (bthen (Uh HB7) b8) _ _ ((Uh HO7).below b8) (n0:Int) ⟨by omega,by omega⟩)
          rw [Uh HE7] at K9
          have HB8:=Hd (bthen (Uh HB7) b8)
          clear K8 b8 HB7 HO7 HE7
          obtain ⟨fb,hf0⟩:∃ fb,Jn.fiti cl j X (n0:Int)=fb:=⟨_,rfl⟩
          rw [hf0] at K9 ⊢
          clear hf0 HPF HAF HBF KJ HC HXS
          have hfb:(fb==fb)=true:=by simp
          go_wp2_with fail
          refine (Uh K9).mono ?_
          rintro e9 w9 ⟨rfl,b9⟩
          have HB9:=Hd (bthen (Uh HB2) (bthen (Uh HB8) b9))
          clear K9 b9 HB8
          go_wp2
          go_ret
          exact ⟨rfl,Uh HB9⟩
         ·have zn5:(z1 != 5)=true:=by simpa using z5'
          have HZQ2:Hid (j (X.getD 0 0)≠5):=fun h=>z5' (by rw [← Uh HZ1]; exact h)
          clear z5' HZ1
          go_wp2_with fail
          refine (Uh KL).mono ?_
          rintro e w10 ⟨rfl,b10⟩
          replace HBS:=Hd (bthen (Uh HBS) b10)
          clear KL b10 x9
          have KA:=Hd ((Uh HAF) w10 (Uh HBS))
          go_wp2_with fail
          refine (Uh KA).mono ?_
          rintro e4 w4 ⟨v4,rfl,ok4,b4⟩
          have hAl:(al.take 30).length≤30:=List.length_take_le _ _
          have HY:=Hd (ok4.lower (Uh HBS).size)
          obtain ⟨a4,c4,hv4,_,_⟩:=ok4.sk.shape
          subst hv4
          replace HBS:=Hd (bthen (Uh HBS) b4)
          clear KA ok4 b4
          obtain ⟨A,hAA⟩:∃ A,al.take 30=A:=⟨_,rfl⟩
          rw [hAA] at HY hAl ⊢
          clear hAA
          obtain ⟨M,hM⟩:∃ M,(X.drop 0).take ((r+1) - 0)=M:=⟨_,rfl⟩
          have hMl:M.length≤60:=by rw [← hM,List.length_take,List.length_drop]; omega
          have HCUT:Hid (Sk .i32 w4 (.slice (some ⟨g,off,none⟩) (r+1) c3) M):=by
           have h:=((Uh HXS).below (Uh HBS)).head (k:=(r+1)) (by omega) hc31
           rw [← hM,List.drop_zero,Nat.sub_zero]
           exact h
          have HEND:Hid (∀ B:List Int,Jn.fiti cl j (A++M++B) ((A.length:Int)+(n0:Int))=Jn.fiti cl j X (n0:Int)):=fun B=>by
           have h:=near_end16 (cl:=cl) (j:=j) (A:=A) (lo:=0) (i:=n0) (hi:=(r+1)) (by omega) (by omega) (by omega) (.inr ⟨by omega,Uh HZQ2⟩) ((Uh HBQ) B)
           rw [hM,show (((A).length+(n0 - 0):Nat):Int)=((A.length:Int)+(n0:Int)) by omega] at h
           exact h
          clear hM HBQ
          have hwA:IntKind.i64.wrap ((A.length:Int)+(n0:Int))=(A.length:Int)+(n0:Int):=by rw [IntKind.wrap_i64]; omega
          have hsz:=(Uh HBS).size
          go_wp2_with (at_builtin; refine app_sk15 rfl (.tmp 100) (.tmp 108) rfl w2.heap.size _ _ A M rfl rfl (Uh HY) (Uh HCUT) (by first | omega | (simp; omega)) hsz ?_)
          intro v5 w5 ok5 g5
          have HB5:=Hd ((Uh HBS).grown g5 hsz (fun k hk=>((Uh HY).row.lt k hk).1))
          obtain ⟨P,hP⟩:∃ P,A++M=P:=⟨_,rfl⟩
          rw [hP] at ok5
          have hPl:P.length≤90:=by rw [← hP,List.length_append]; omega
          have HEND2:Hid (∀ B:List Int,Jn.fiti cl j (P++B) ((A.length:Int)+(n0:Int))=Jn.fiti cl j X (n0:Int)):=fun B=>by rw [← hP]; exact (Uh HEND) B
          have HO5:=Hd ok5
          obtain ⟨a5,c5,hv5,_,_⟩:=ok5.sk.shape
          subst hv5
          have hsz5:=(Uh HB5).size
          clear hP HEND HCUT ok5 g5 HBS HY
          have KB:=Hd ((Uh HBF) w5 (Uh HB5))
          go_wp2_with fail
          refine (Uh KB).mono ?_
          rintro e6 w6 ⟨v6,rfl,ok6,b6⟩
          have HB6:=Hd (bthen (Uh HB5) b6)
          have HO6:=Hd ((Uh HO5).below b6)
          have HS6:=Hd ok6.sk
          have hbl:(bs.take 30).length≤30:=List.length_take_le _ _
          obtain ⟨a6,c6,hv6,_,_⟩:=ok6.sk.shape
          subst hv6
          have hsz6:=(Uh HB6).size
          clear KB ok6 b6 HB5 HO5
          generalize bs.take 30=bt at *
          go_wp2_with (at_builtin; refine app_sk15 rfl (.tmp 114) (.tmp 116) rfl w2.heap.size _ _ P bt rfl rfl (Uh HO6) (Uh HS6) (by omega) hsz6 ?_)
          intro v7 w7 ok7 g7
          have HB7:=Hd ((Uh HB6).grown g7 hsz6 (fun k hk=>((Uh HO6).row.lt k hk).1))
          have HE7:=Hd ((Uh HEND2) bt)
          have HO7:=Hd ok7.sk
          obtain ⟨a7,c7,hv7,_,_⟩:=ok7.sk.shape
          subst hv7
          obtain ⟨Y,hY⟩:∃ Y,P++bt=Y:=⟨_,rfl⟩
          rw [hY] at HE7 HO7 ⊢
          clear hY HEND2 HO6 HS6 HB6 g7 ok7
          have K8:=Hd ((Uh HPF) w7 (Uh HB7) _ _ ((Uh HXS).below (Uh HB7)) (n0:Int) ⟨by omega,by omega⟩)
          go_wp2_with fail
          refine (Uh K8).mono ?_
          rintro e8 w8 ⟨rfl,b8⟩
          have K9:=Hd ((Uh HPF) w8 (bthen (Uh HB7) b8) _ _ ((Uh HO7).below b8) ((A.length:Int)+(n0:Int)) ⟨by omega,by omega⟩)
          rw [Uh HE7] at K9
          have HB8:=Hd (bthen (Uh HB7) b8)
          clear K8 b8 HB7 HO7 HE7
          obtain ⟨fb,hf0⟩:∃ fb,Jn.fiti cl j X (n0:Int)=fb:=⟨_,rfl⟩
          rw [hf0] at K9 ⊢
          clear hf0 HPF HAF HBF KJ HC HXS
          have hfb:(fb==fb)=true:=by simp
          go_wp2_with fail
          refine (Uh K9).mono ?_
          rintro e9 w9 ⟨rfl,b9⟩
          have HB9:=Hd (bthen (Uh HB2) (bthen (Uh HB8) b9))
          clear K9 b9 HB8
          go_wp2
          go_ret
          exact ⟨rfl,Uh HB9⟩
       ·obtain rfl:r=X.length:=by omega
        have HBS:=Hd hb
        have hmin:min ((X.length:Int)+1) (X.length:Int)=(X.length:Int):=by omega
        clear hb
        have x9:=(Uh HC) 0 (by omega) wr (Uh HBS)
        have KL:=Hd ((Uh KJ) 0 (by omega) wr (Uh HBS))
        obtain ⟨z1,hz1⟩:∃ z1,j (X.getD 0 0)=z1:=⟨_,rfl⟩
        rw [hz1] at KL
        obtain ⟨c1,hc1'⟩:∃ c1,X.getD 0 0=c1:=⟨_,rfl⟩
        rw [hc1'] at KL x9
        rw [Nat.add_zero] at x9
        have HZ1:=Hd hz1
        clear hz1 hc1'
        have hmax:max (0:Int) 0=0:=by decide
        by_cases z5':z1=5
        ·subst z5'
         clear HZ1
         go_wp2_with fail
         refine (Uh KL).mono ?_
         rintro e w10 ⟨rfl,b10⟩
         replace HBS:=Hd (bthen (Uh HBS) b10)
         clear KL b10 x9
         obtain ⟨M,hM⟩:∃ M,(X.drop 0).take (X.length - 0)=M:=⟨_,rfl⟩
         have hMl:M.length≤60:=by rw [← hM,List.length_take,List.length_drop]; omega
         have HCUT:Hid (Sk .i32 w10 (.slice (some ⟨g,off,none⟩) X.length c3) M):=by
          have h:=((Uh HXS).below (Uh HBS)).head (k:=X.length) (by omega) hc31
          rw [← hM,List.drop_zero,Nat.sub_zero]
          exact h
         have HEND:Hid (∀ B:List Int,B=[]→Jn.fiti cl j (([]:List Int)++M++B) (n0:Int)=Jn.fiti cl j X (n0:Int)):=fun B hB=>by
          have h:=near_end16 (cl:=cl) (j:=j) (A:=([]:List Int)) (lo:=0) (i:=n0) (hi:=X.length) (by omega) (by omega) (by omega) (.inl ⟨rfl,rfl⟩) (.inl ⟨hB,rfl⟩)
          rw [hM,show (((([]:List Int)).length+(n0 - 0):Nat):Int)=(n0:Int) by simp] at h
          exact h
         clear hM
         have hsz:=(Uh HBS).size
         go_wp2_with (at_builtin; refine app_sk15 rfl (.tmp 100) (.tmp 108) rfl w2.heap.size _ _ ([]:List Int) M rfl rfl (Ok.nil _ _ _ _) (Uh HCUT) (by first | omega | (simp; omega)) hsz ?_)
         intro v5 w5 ok5 g5
         have HB5:=Hd ((Uh HBS).grown g5 hsz (fun k hk=>(by cases hk)))
         obtain ⟨P,hP⟩:∃ P,M=P:=⟨_,rfl⟩
         rw [hP] at ok5
         have hPl:P.length≤90:=by rw [← hP]; omega
         have HEND2:Hid (∀ B:List Int,B=[]→Jn.fiti cl j (P++B) (n0:Int)=Jn.fiti cl j X (n0:Int)):=fun B hB=>by rw [← hP]; exact (Uh HEND) B hB
         have HO5:=Hd ok5
         obtain ⟨a5,c5,hv5,_,_⟩:=ok5.sk.shape
         subst hv5
         have hsz5:=(Uh HB5).size
         clear hP HEND HCUT ok5 g5 HBS
         have HE7:=Hd ((Uh HEND2) [] rfl)
         rw [List.append_nil] at HE7
         have HB7:=HB5
         have HO7:=Hd (Uh HO5).sk
         clear HEND2 HO5 HB5
         have K8:=Hd ((Uh HPF) w5 (Uh HB7) _ _ ((Uh HXS).below (Uh HB7)) (n0:Int) ⟨by omega,by omega⟩)
         go_wp2_with fail
         refine (Uh K8).mono ?_
         rintro e8 w8 ⟨rfl,b8⟩
         have K9:=Hd ((Uh HPF) w8 (bthen (Uh HB7) b8) _ _ ((Uh HO7).below b8) (n0:Int) ⟨by omega,by omega⟩)
         rw [Uh HE7] at K9
         have HB8:=Hd (bthen (Uh HB7) b8)
         clear K8 b8 HB7 HO7 HE7
         obtain ⟨fb,hf0⟩:∃ fb,Jn.fiti cl j X (n0:Int)=fb:=⟨_,rfl⟩
         rw [hf0] at K9 ⊢
         clear hf0 HPF HAF HBF KJ HC HXS
         have hfb:(fb==fb)=true:=by simp
         go_wp2_with fail
         refine (Uh K9).mono ?_
         rintro e9 w9 ⟨rfl,b9⟩
         have HB9:=Hd (bthen (Uh HB2) (bthen (Uh HB8) b9))
         clear K9 b9 HB8
         go_wp2
         go_ret
         exact ⟨rfl,Uh HB9⟩
        ·have zn5:(z1 != 5)=true:=by simpa using z5'
         have HZQ2:Hid (j (X.getD 0 0)≠5):=fun h=>z5' (by rw [← Uh HZ1]; exact h)
         clear z5' HZ1
         go_wp2_with fail
         refine (Uh KL).mono ?_
         rintro e w10 ⟨rfl,b10⟩
         replace HBS:=Hd (bthen (Uh HBS) b10)
         clear KL b10 x9
         have KA:=Hd ((Uh HAF) w10 (Uh HBS))
         go_wp2_with fail
         refine (Uh KA).mono ?_
         rintro e4 w4 ⟨v4,rfl,ok4,b4⟩
         have hAl:(al.take 30).length≤30:=List.length_take_le _ _
         have HY:=Hd (ok4.lower (Uh HBS).size)
         obtain ⟨a4,c4,hv4,_,_⟩:=ok4.sk.shape
         subst hv4
         replace HBS:=Hd (bthen (Uh HBS) b4)
         clear KA ok4 b4
         obtain ⟨A,hAA⟩:∃ A,al.take 30=A:=⟨_,rfl⟩
         rw [hAA] at HY hAl ⊢
         clear hAA
         obtain ⟨M,hM⟩:∃ M,(X.drop 0).take (X.length - 0)=M:=⟨_,rfl⟩
         have hMl:M.length≤60:=by rw [← hM,List.length_take,List.length_drop]; omega
         have HCUT:Hid (Sk .i32 w4 (.slice (some ⟨g,off,none⟩) X.length c3) M):=by
          have h:=((Uh HXS).below (Uh HBS)).head (k:=X.length) (by omega) hc31
          rw [← hM,List.drop_zero,Nat.sub_zero]
          exact h
         have HEND:Hid (∀ B:List Int,B=[]→Jn.fiti cl j (A++M++B) ((A.length:Int)+(n0:Int))=Jn.fiti cl j X (n0:Int)):=fun B hB=>by
          have h:=near_end16 (cl:=cl) (j:=j) (A:=A) (lo:=0) (i:=n0) (hi:=X.length) (by omega) (by omega) (by omega) (.inr ⟨by omega,Uh HZQ2⟩) (.inl ⟨hB,rfl⟩)
          rw [hM,show (((A).length+(n0 - 0):Nat):Int)=((A.length:Int)+(n0:Int)) by omega] at h
          exact h
         clear hM
         have hwA:IntKind.i64.wrap ((A.length:Int)+(n0:Int))=(A.length:Int)+(n0:Int):=by rw [IntKind.wrap_i64]; omega
         have hsz:=(Uh HBS).size
         go_wp2_with (at_builtin; refine app_sk15 rfl (.tmp 100) (.tmp 108) rfl w2.heap.size _ _ A M rfl rfl (Uh HY) (Uh HCUT) (by first | omega | (simp; omega)) hsz ?_)
         intro v5 w5 ok5 g5
         have HB5:=Hd ((Uh HBS).grown g5 hsz (fun k hk=>((Uh HY).row.lt k hk).1))
         obtain ⟨P,hP⟩:∃ P,A++M=P:=⟨_,rfl⟩
         rw [hP] at ok5
         have hPl:P.length≤90:=by rw [← hP,List.length_append]; omega
         have HEND2:Hid (∀ B:List Int,B=[]→Jn.fiti cl j (P++B) ((A.length:Int)+(n0:Int))=Jn.fiti cl j X (n0:Int)):=fun B hB=>by rw [← hP]; exact (Uh HEND) B hB
         have HO5:=Hd ok5
         obtain ⟨a5,c5,hv5,_,_⟩:=ok5.sk.shape
         subst hv5
         have hsz5:=(Uh HB5).size
         clear hP HEND HCUT ok5 g5 HBS HY
         have HE7:=Hd ((Uh HEND2) [] rfl)
         rw [List.append_nil] at HE7
         have HB7:=HB5
         have HO7:=Hd (Uh HO5).sk
         clear HEND2 HO5 HB5
         have K8:=Hd ((Uh HPF) w5 (Uh HB7) _ _ ((Uh HXS).below (Uh HB7)) (n0:Int) ⟨by omega,by omega⟩)
         go_wp2_with fail
         refine (Uh K8).mono ?_
         rintro e8 w8 ⟨rfl,b8⟩
         have K9:=Hd ((Uh HPF) w8 (bthen (Uh HB7) b8) _ _ ((Uh HO7).below b8) ((A.length:Int)+(n0:Int)) ⟨by omega,by omega⟩)
         rw [Uh HE7] at K9
         have HB8:=Hd (bthen (Uh HB7) b8)
         clear K8 b8 HB7 HO7 HE7
         obtain ⟨fb,hf0⟩:∃ fb,Jn.fiti cl j X (n0:Int)=fb:=⟨_,rfl⟩
         rw [hf0] at K9 ⊢
         clear hf0 HPF HAF HBF KJ HC HXS
         have hfb:(fb==fb)=true:=by simp
         go_wp2_with fail
         refine (Uh K9).mono ?_
         rintro e9 w9 ⟨rfl,b9⟩
         have HB9:=Hd (bthen (Uh HB2) (bthen (Uh HB8) b9))
         clear K9 b9 HB8
         go_wp2
         go_ret
         exact ⟨rfl,Uh HB9⟩
     ·have hq1:(0:Int)<(q:Int):=by omega
      have hq2:q<X.length:=by omega
      have hq3:(q:Int)<X.length:=by omega
      have x7:=(Uh HC) q hq2 wr hb
      have KQ:=Hd ((Uh KJ) q hq2 wr hb)
      have HBR:=Hd hb
      obtain ⟨z,hz⟩:∃ z,j (X.getD q 0)=z:=⟨_,rfl⟩
      rw [hz] at KQ
      have HRX:Hid (z≠5→j (X.getD q 0)≠5):=fun h=>by rw [hz]; exact h
      clear hz hb
      obtain ⟨c,hc⟩:∃ c,X.getD q 0=c:=⟨_,rfl⟩
      rw [hc] at KQ x7
      clear hc
      have hw4:IntKind.i64.wrap ((q:Int) - 1)=(q:Int) - 1:=by rw [IntKind.wrap_i64]; omega
      by_cases z5:z=5
      ·subst z5
       clear HRX
       go_wp2_with fail
       refine (Uh KQ).mono ?_
       rintro e w3 ⟨rfl,b3⟩
       have HB3:=Hd (bthen (Uh HBR) b3)
       clear KQ b3 HBR x7
       go_wp2
       go_roundw
       case rel=>exact ⟨q,rfl,by omega,Uh HB3⟩
       case measure=>simp [intOf] <;> omega
      ·have HZQ:=Hd ((Uh HRX) z5)
       have z5f:(z==5)=false:=by rw [beq_eq_false_iff_ne]; exact z5
       clear HRX z5
       go_wp2_with fail
       refine (Uh KQ).mono ?_
       rintro e w3' ⟨rfl,b3⟩
       have HB:=Hd (bthen (Uh HBR) b3)
       clear KQ b3 HBR x7
       go_wp2
       have hw2:IntKind.i64.wrap ((n0:Int)+1)=(n0:Int)+1:=by rw [IntKind.wrap_i64]; omega
       go_loopw [16] (fun hv wr=>∃ r:Nat,hv=.int .i64 (r:Int)∧n0<r∧r≤X.length∧Below w2.heap.size w2 wr) (fun hv _=>X.length - (intOf hv).toNat)
       case atStart=>exact ⟨n0+1,by first | rfl | go_num,by omega,by omega,Uh HB⟩
       case round =>
        clear HB
        obtain ⟨r,rfl,hr1,hr2,hb⟩:=hrel
        by_cases hlt:r<X.length
        ·have hL2:(r:Int)<X.length:=by omega
         have x8:=(Uh HC) r hlt wr hb
         have KR:=Hd ((Uh KJ) r hlt wr hb)
         have HBR:=Hd hb
         obtain ⟨z2,hz2⟩:∃ z2,j (X.getD r 0)=z2:=⟨_,rfl⟩
         rw [hz2] at KR
         have HX2:=Hd hz2
         clear hz2 hb
         have HRX:Hid (z2≠5→j (X.getD r 0)≠5):=fun h=>by rw [Uh HX2]; exact h
         clear HX2
         obtain ⟨c2,hc2⟩:∃ c2,X.getD r 0=c2:=⟨_,rfl⟩
         rw [hc2] at KR x8
         clear hc2
         have hw5:IntKind.i64.wrap ((r:Int)+1)=(r:Int)+1:=by rw [IntKind.wrap_i64]; omega
         by_cases z5:z2=5
         ·subst z5
          clear HRX
          go_wp2_with fail
          refine (Uh KR).mono ?_
          rintro e w3 ⟨rfl,b3⟩
          have HB3:=Hd (bthen (Uh HBR) b3)
          clear KR b3 HBR x8
          go_wp2
          go_roundw
          case rel=>exact ⟨r+1,by go_num,by omega,by omega,Uh HB3⟩
          case measure=>simp [intOf] <;> omega
         ·have z5f:(z2==5)=false:=by rw [beq_eq_false_iff_ne]; exact z5
          have HBQ:Hid (∀ B:List Int,(B=[]∧r+1=X.length)∨∃ h,n0<h∧h<r+1∧j (X.getD h 0)≠5):=fun _=>.inr ⟨r,hr1,by omega,(Uh HRX) z5⟩
          have hmin:min ((r:Int)+1) (X.length:Int)=(r:Int)+1:=by omega
          have hh1:r+1≤X.length:=by omega
          have hh2:n0<r+1:=by omega
          clear HRX z5
          go_wp2_with fail
          refine (Uh KR).mono ?_
          rintro e w3 ⟨rfl,b3⟩
          have HBS:=Hd (bthen (Uh HBR) b3)
          clear KR b3 HBR x8
          have x9:=(Uh HC) q (by omega) w3 (Uh HBS)
          have KL:=Hd ((Uh KJ) q (by omega) w3 (Uh HBS))
          obtain ⟨z1,hz1⟩:∃ z1,j (X.getD q 0)=z1:=⟨_,rfl⟩
          rw [hz1] at KL
          obtain ⟨c1,hc1'⟩:∃ c1,X.getD q 0=c1:=⟨_,rfl⟩
          rw [hc1'] at KL x9
          have hzq:j (X.getD q 0)≠5:=Uh HZQ
          have zn5:(z1 != 5)=true:=by rw [← hz1]; simpa using hzq
          have HZQ2:=Hd hzq
          clear hz1 hc1' hzq
          go_wp2_with fail
          refine (Uh KL).mono ?_
          rintro e w10 ⟨rfl,b10⟩
          replace HBS:=Hd (bthen (Uh HBS) b10)
          clear KL b10 x9
          have KA:=Hd ((Uh HAF) w10 (Uh HBS))
          go_wp2_with fail
          refine (Uh KA).mono ?_
          rintro e4 w4 ⟨v4,rfl,ok4,b4⟩
          have hAl:(al.take 30).length≤30:=List.length_take_le _ _
          have HY:=Hd (ok4.lower (Uh HBS).size)
          obtain ⟨a4,c4,hv4,_,_⟩:=ok4.sk.shape
          subst hv4
          replace HBS:=Hd (bthen (Uh HBS) b4)
          clear KA ok4 b4
          obtain ⟨A,hAA⟩:∃ A,al.take 30=A:=⟨_,rfl⟩
          rw [hAA] at HY hAl ⊢
          clear hAA
          obtain ⟨M,hM⟩:∃ M,(X.drop q).take ((r+1) - q)=M:=⟨_,rfl⟩
          have hMl:M.length≤60:=by rw [← hM,List.length_take,List.length_drop]; omega
          have hq4:¬ c3=q:=by omega
          have hq5:q≤c3:=by omega
          have hq6:(q:Int)≤(c3:Int):=by omega
          have hq7:(q:Int)≤(r:Int)+1:=by omega
          have hmax:max (q:Int) 0=(q:Int):=by omega
          have HCUT:Hid (Sk .i32 w4 (.slice (some ⟨g,off+q,none⟩) ((r+1) - q) (c3 - q)) M):=by
           have h:=((Uh HXS).below (Uh HBS)).cut (l:=q) (h:=(r+1)) (m:=c3) (by omega) (by omega) (by omega) (by omega)
           have e:sliced (some ⟨g,off,none⟩) q (r+1) c3 1=.slice (some ⟨g,off+q,none⟩) ((r+1) - q) (c3 - q):=by
            unfold sliced
            rw [if_neg (by omega)]
            simp only [Option.map_some,Nat.mul_one,addr_add]
           rw [e,hM] at h
           exact h
          have HEND:Hid (∀ B:List Int,Jn.fiti cl j (A++M++B) ((A.length:Int)+(n0:Int) - (q:Int))=Jn.fiti cl j X (n0:Int)):=fun B=>by
           have h:=near_end16 (cl:=cl) (j:=j) (A:=A) (lo:=q) (i:=n0) (hi:=(r+1)) (by omega) (by omega) (by omega) (.inr ⟨by omega,Uh HZQ2⟩) ((Uh HBQ) B)
           rw [hM,show (((A).length+(n0 - q):Nat):Int)=((A.length:Int)+(n0:Int) - (q:Int)) by omega] at h
           exact h
          clear hM HBQ
          have hwA:IntKind.i64.wrap ((A.length:Int)+(n0:Int))=(A.length:Int)+(n0:Int):=by rw [IntKind.wrap_i64]; omega
          have hwB:IntKind.i64.wrap ((A.length:Int)+(n0:Int) - (q:Int))=(A.length:Int)+(n0:Int) - (q:Int):=by rw [IntKind.wrap_i64]; omega
          have hsz:=(Uh HBS).size
          go_wp2_with (at_builtin; refine app_sk15 rfl (.tmp 100) (.tmp 108) rfl w2.heap.size _ _ A M rfl rfl (Uh HY) (Uh HCUT) (by first | omega | (simp; omega)) hsz ?_)
          intro v5 w5 ok5 g5
          have HB5:=Hd ((Uh HBS).grown g5 hsz (fun k hk=>((Uh HY).row.lt k hk).1))
          obtain ⟨P,hP⟩:∃ P,A++M=P:=⟨_,rfl⟩
          rw [hP] at ok5
          have hPl:P.length≤90:=by rw [← hP,List.length_append]; omega
          have HEND2:Hid (∀ B:List Int,Jn.fiti cl j (P++B) ((A.length:Int)+(n0:Int) - (q:Int))=Jn.fiti cl j X (n0:Int)):=fun B=>by rw [← hP]; exact (Uh HEND) B
          have HO5:=Hd ok5
          obtain ⟨a5,c5,hv5,_,_⟩:=ok5.sk.shape
          subst hv5
          have hsz5:=(Uh HB5).size
          clear hP HEND HCUT ok5 g5 HBS HY
          have KB:=Hd ((Uh HBF) w5 (Uh HB5))
          go_wp2_with fail
          refine (Uh KB).mono ?_
          rintro e6 w6 ⟨v6,rfl,ok6,b6⟩
          have HB6:=Hd (bthen (Uh HB5) b6)
          have HO6:=Hd ((Uh HO5).below b6)
          have HS6:=Hd ok6.sk
          have hbl:(bs.take 30).length≤30:=List.length_take_le _ _
          obtain ⟨a6,c6,hv6,_,_⟩:=ok6.sk.shape
          subst hv6
          have hsz6:=(Uh HB6).size
          clear KB ok6 b6 HB5 HO5
          generalize bs.take 30=bt at *
          go_wp2_with (at_builtin; refine app_sk15 rfl (.tmp 114) (.tmp 116) rfl w2.heap.size _ _ P bt rfl rfl (Uh HO6) (Uh HS6) (by omega) hsz6 ?_)
          intro v7 w7 ok7 g7
          have HB7:=Hd ((Uh HB6).grown g7 hsz6 (fun k hk=>((Uh HO6).row.lt k hk).1))
          have HE7:=Hd ((Uh HEND2) bt)
          have HO7:=Hd ok7.sk
          obtain ⟨a7,c7,hv7,_,_⟩:=ok7.sk.shape
          subst hv7
          obtain ⟨Y,hY⟩:∃ Y,P++bt=Y:=⟨_,rfl⟩
          rw [hY] at HE7 HO7 ⊢
          clear hY HEND2 HO6 HS6 HB6 g7 ok7
          have K8:=Hd ((Uh HPF) w7 (Uh HB7) _ _ ((Uh HXS).below (Uh HB7)) (n0:Int) ⟨by omega,by omega⟩)
          go_wp2_with fail
          refine (Uh K8).mono ?_
          rintro e8 w8 ⟨rfl,b8⟩
          have K9:=Hd ((Uh HPF) w8 (bthen (Uh HB7) b8) _ _ ((Uh HO7).below b8) ((A.length:Int)+(n0:Int) - (q:Int)) ⟨by omega,by omega⟩)
          rw [Uh HE7] at K9
          have HB8:=Hd (bthen (Uh HB7) b8)
          clear K8 b8 HB7 HO7 HE7
          obtain ⟨fb,hf0⟩:∃ fb,Jn.fiti cl j X (n0:Int)=fb:=⟨_,rfl⟩
          rw [hf0] at K9 ⊢
          clear hf0 HPF HAF HBF KJ HC HXS
          have hfb:(fb==fb)=true:=by simp
          go_wp2_with fail
          refine (Uh K9).mono ?_
          rintro e9 w9 ⟨rfl,b9⟩
          have HB9:=Hd (bthen (Uh HB2) (bthen (Uh HB8) b9))
          clear K9 b9 HB8
          go_wp2
          go_ret
          exact ⟨rfl,Uh HB9⟩
        ·obtain rfl:r=X.length:=by omega
         have HBS:=Hd hb
         have hmin:min ((X.length:Int)+1) (X.length:Int)=(X.length:Int):=by omega
         clear hb
         have x9:=(Uh HC) q (by omega) wr (Uh HBS)
         have KL:=Hd ((Uh KJ) q (by omega) wr (Uh HBS))
         obtain ⟨z1,hz1⟩:∃ z1,j (X.getD q 0)=z1:=⟨_,rfl⟩
         rw [hz1] at KL
         obtain ⟨c1,hc1'⟩:∃ c1,X.getD q 0=c1:=⟨_,rfl⟩
         rw [hc1'] at KL x9
         have hzq:j (X.getD q 0)≠5:=Uh HZQ
         have zn5:(z1 != 5)=true:=by rw [← hz1]; simpa using hzq
         have HZQ2:=Hd hzq
         clear hz1 hc1' hzq
         go_wp2_with fail
         refine (Uh KL).mono ?_
         rintro e w10 ⟨rfl,b10⟩
         replace HBS:=Hd (bthen (Uh HBS) b10)
         clear KL b10 x9
         have KA:=Hd ((Uh HAF) w10 (Uh HBS))
         go_wp2_with fail
         refine (Uh KA).mono ?_
         rintro e4 w4 ⟨v4,rfl,ok4,b4⟩
         have hAl:(al.take 30).length≤30:=List.length_take_le _ _
         have HY:=Hd (ok4.lower (Uh HBS).size)
         obtain ⟨a4,c4,hv4,_,_⟩:=ok4.sk.shape
         subst hv4
         replace HBS:=Hd (bthen (Uh HBS) b4)
         clear KA ok4 b4
         obtain ⟨A,hAA⟩:∃ A,al.take 30=A:=⟨_,rfl⟩
         rw [hAA] at HY hAl ⊢
         clear hAA
         obtain ⟨M,hM⟩:∃ M,(X.drop q).take (X.length - q)=M:=⟨_,rfl⟩
         have hMl:M.length≤60:=by rw [← hM,List.length_take,List.length_drop]; omega
         have hq4:¬ c3=q:=by omega
         have hq5:q≤c3:=by omega
         have hq6:(q:Int)≤(c3:Int):=by omega
         have hq7:(q:Int)≤(X.length:Int):=by omega
         have hmax:max (q:Int) 0=(q:Int):=by omega
         have HCUT:Hid (Sk .i32 w4 (.slice (some ⟨g,off+q,none⟩) (X.length - q) (c3 - q)) M):=by
          have h:=((Uh HXS).below (Uh HBS)).cut (l:=q) (h:=X.length) (m:=c3) (by omega) (by omega) (by omega) (by omega)
          have e:sliced (some ⟨g,off,none⟩) q X.length c3 1=.slice (some ⟨g,off+q,none⟩) (X.length - q) (c3 - q):=by
           unfold sliced
           rw [if_neg (by omega)]
           simp only [Option.map_some,Nat.mul_one,addr_add]
          rw [e,hM] at h
          exact h
         have HEND:Hid (∀ B:List Int,B=[]→Jn.fiti cl j (A++M++B) ((A.length:Int)+(n0:Int) - (q:Int))=Jn.fiti cl j X (n0:Int)):=fun B hB=>by
          have h:=near_end16 (cl:=cl) (j:=j) (A:=A) (lo:=q) (i:=n0) (hi:=X.length) (by omega) (by omega) (by omega) (.inr ⟨by omega,Uh HZQ2⟩) (.inl ⟨hB,rfl⟩)
          rw [hM,show (((A).length+(n0 - q):Nat):Int)=((A.length:Int)+(n0:Int) - (q:Int)) by omega] at h
          exact h
         clear hM
         have hwA:IntKind.i64.wrap ((A.length:Int)+(n0:Int))=(A.length:Int)+(n0:Int):=by rw [IntKind.wrap_i64]; omega
         have hwB:IntKind.i64.wrap ((A.length:Int)+(n0:Int) - (q:Int))=(A.length:Int)+(n0:Int) - (q:Int):=by rw [IntKind.wrap_i64]; omega
         have hsz:=(Uh HBS).size
         go_wp2_with (at_builtin; refine app_sk15 rfl (.tmp 100) (.tmp 108) rfl w2.heap.size _ _ A M rfl rfl (Uh HY) (Uh HCUT) (by first | omega | (simp; omega)) hsz ?_)
         intro v5 w5 ok5 g5
         have HB5:=Hd ((Uh HBS).grown g5 hsz (fun k hk=>((Uh HY).row.lt k hk).1))
         obtain ⟨P,hP⟩:∃ P,A++M=P:=⟨_,rfl⟩
         rw [hP] at ok5
         have hPl:P.length≤90:=by rw [← hP,List.length_append]; omega
         have HEND2:Hid (∀ B:List Int,B=[]→Jn.fiti cl j (P++B) ((A.length:Int)+(n0:Int) - (q:Int))=Jn.fiti cl j X (n0:Int)):=fun B hB=>by rw [← hP]; exact (Uh HEND) B hB
         have HO5:=Hd ok5
         obtain ⟨a5,c5,hv5,_,_⟩:=ok5.sk.shape
         subst hv5
         have hsz5:=(Uh HB5).size
         clear hP HEND HCUT ok5 g5 HBS HY
         have HE7:=Hd ((Uh HEND2) [] rfl)
         rw [List.append_nil] at HE7
         have HB7:=HB5
         have HO7:=Hd (Uh HO5).sk
         clear HEND2 HO5 HB5
         have K8:=Hd ((Uh HPF) w5 (Uh HB7) _ _ ((Uh HXS).below (Uh HB7)) (n0:Int) ⟨by omega,by omega⟩)
         go_wp2_with fail
         refine (Uh K8).mono ?_
         rintro e8 w8 ⟨rfl,b8⟩
         have K9:=Hd ((Uh HPF) w8 (bthen (Uh HB7) b8) _ _ ((Uh HO7).below b8) ((A.length:Int)+(n0:Int) - (q:Int)) ⟨by omega,by omega⟩)
         rw [Uh HE7] at K9
         have HB8:=Hd (bthen (Uh HB7) b8)
         clear K8 b8 HB7 HO7 HE7
         obtain ⟨fb,hf0⟩:∃ fb,Jn.fiti cl j X (n0:Int)=fb:=⟨_,rfl⟩
         rw [hf0] at K9 ⊢
         clear hf0 HPF HAF HBF KJ HC HXS
         have hfb:(fb==fb)=true:=by simp
         go_wp2_with fail
         refine (Uh K9).mono ?_
         rintro e9 w9 ⟨rfl,b9⟩
         have HB9:=Hd (bthen (Uh HB2) (bthen (Uh HB8) b9))
         clear K9 b9 HB8
         go_wp2
         go_ret
         exact ⟨rfl,Uh HB9⟩
end Go.Proofs.YthhekhkbbkemjaaGreatDoor
