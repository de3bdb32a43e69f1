/- Ji16 -/
import Derived.Test.YthhekhkbbkemjaaGreatDoorW42
namespace Go.Proofs.YthhekhkbbkemjaaGreatDoor
open Go.RowKit
open Ti
theorem i32_in {xs:List Int} {K:World} {xv:Value} (h:Sk .i32 K xv xs) {k:Nat} (hk:k<xs.length):Rune (xs.getD k 0):=by
 have:=h.1 (xs.getD k 0) (by simp [List.getD,hk])
 exact ⟨this.1,this.2⟩
theorem lit_one16 (W:World) (c:Int) (hc:Rune c):Sk .i32 (W.alloc (.cells #[.int .i32 c] 21)) (.slice (some ⟨W.heap.size,0,none⟩) 1 1) [c]:=lit15 W [c] 1 rfl (by omega) (by omega) _ rfl (fun z hz=>by simp at hz; subst hz; exact hc)
theorem below_app16 {w0 wr w':World} {B:Nat} {v:Value} {Y:List Int} {o:Obj} (hb:Below B w0 wr) (hB:B≤wr.heap.size) (ho:Ok .i32 21 wr B v Y) (hg:(wr.alloc o).grownBy w' v.ownBlock):Below B w0 w':=(hb.alloc hB o).grown hg (by rw [alloc_size15]; omega) (fun k hk=>(ho.2.2.lt k hk).1)
def PlainC16 (Y:List Int):Prop:=∀ c∈Y,c≠8204∧c≠8205
theorem PlainC16.snoc {Y:List Int} (h:PlainC16 Y) {c:Int} (h1:c≠8204) (h2:c≠8205):PlainC16 (Y++[c]):=fun x hx=>by
 rcases List.mem_append.1 hx with hx | hx
 ·exact h x hx
 ·simp at hx; subst hx; exact ⟨h1,h2⟩
def VirC16 (cl:Int→Int) (vr:Int):Prop:=Rune vr∧(vr<0∨(cl vr=9∧vr≠8204∧vr≠8205))
set_option maxRecDepth 20000 in
set_option maxHeartbeats 8000000 in
theorem free_law16 (v:Value) (rs0:List Rec) (xv:Value) (xs:List Int) (w:World) (hg:Glob w) (hv:Rcs w v rs0) (hx:Sk .i32 w xv xs):Calls Tryz.prog 5 #[v,xv] w (Tells w true):=by
 have K1:=Hd (made_any v rs0 w hg hv)
 have hlen:=hx.len
 obtain ⟨ao,cap,rfl,_,hcap⟩:=hv.shape
 have HX:=Hd hx
 obtain ⟨xo,xcap,hxe,hxc1,hxc2⟩:=hx.shape
 subst hxe
 have HG:=Hd hg
 clear hg hv hx
 generalize rs0.take 150=rs at *
 generalize rs0.length=L at *
 go_enter Tryz.func5,Tryz.ntmps5
 go_wp2_with fail
 refine (Uh K1).mono ?_
 rintro e1 w1 ⟨b1,h1⟩
 have HB1:=Hd b1
 clear K1 b1
 rcases h1 with ⟨hne,rfl⟩ | ⟨h0,p,v2,ps2,rfl,hD,r2,_⟩
 ·have K2:=Hd (told_any16 w1 ((Uh HG).on (Uh HB1)))
  clear hne
  go_wp2_with fail
  refine (Uh K2).mono ?_
  rintro e2 w2 ⟨rfl,b2⟩
  have HB2:=Hd (bthen (Uh HB1) b2)
  clear K2 b2
  go_wp2
  go_ret
  exact ⟨rfl,Uh HB2⟩
 ·have h6:=(Cn.check_iff.1 h0).1
  have HCL:=Hd (classC16 hD h6)
  have HCK:Hid (∀ W,Below w1.heap.size w1 W→∀ yv Y,Sk .i32 W yv Y→Calls Tryz.prog 11 #[.pointer (some ⟨p,0,none⟩),yv] W (IntT16 W (Jn.chk (Cn.vget rs 2) (Cn.vget rs 5) Y))):=fun W hW yv Y hY=>check_any16 (classC16 (hD.below hW) h6) (joinC16 (hD.below hW) h6) hY
  have HX1:=Hd ((Uh HX).below (Uh HB1))
  obtain ⟨a2,cp2,hv2⟩:∃ a c,v2=.slice a ps2.length c:=by
   rcases r2.1.2 with ⟨h,h0⟩ | ⟨g,cap,cur,e,_⟩
   ·exact ⟨none,0,by rw [h,h0]⟩
   ·exact ⟨_,_,e⟩
  subst hv2
  clear hD r2 h6 h0 HX HG
  generalize Cn.vget rs 2=cl at *
  generalize Cn.vget rs 5=j at *
  generalize ps2.length=pl at *
  go_wp2
  go_loopw [8,10,11] (fun yv vv iv wr=>∃ (k:Nat) (Y:List Int) (vr:Int),iv=.int .i64 (k:Int)∧vv=.int .i32 vr∧k≤60∧k≤xs.length∧Y.length≤k∧Ok .i32 21 wr w1.heap.size yv Y∧PlainC16 Y∧VirC16 cl vr∧Below w1.heap.size w1 wr) (fun _ _ iv _=>60 - (intOf iv).toNat)
  case atStart=>exact ⟨0,[],-1,rfl,rfl,by omega,by omega,by simp,Ok.nil _ _ _ _,fun c hc=>(by cases hc),⟨⟨by omega,by omega⟩,.inl (by omega)⟩,Below.refl _ _⟩
  case round =>
   obtain ⟨k,Y,vr,rfl,rfl,hk60,hkx,hYk,hok,hpl,hvr,hb⟩:=hrel
   obtain ⟨ya,yc,hyv,hyc1,hyc2⟩:=hok.sk.shape
   subst hyv
   have hbs:=hb.size
   by_cases hlt:k<xs.length∧k<60
   ·obtain ⟨hkl,hk6⟩:=hlt
    have hL1:(k:Int)<xs.length:=by omega
    have hL2:(k:Int)<60:=by omega
    obtain ⟨g,off,cp,he,_,_,hcl⟩:=(Uh HX1).place (by omega)
    simp only [Value.slice.injEq] at he
    obtain ⟨rfl,-,rfl⟩:=he
    have hrn:=i32_in (Uh HX1) hkl
    have HXC:Hid (∀ W,Below w1.heap.size w1 W→W.cell? ⟨g,off+k,none⟩=some (.int .i32 (xs.getD k 0))):=fun W hW=>by rw [hW.cell (lt_of_cell? (hcl k hkl))]; exact hcl k hkl
    have x4:=(Uh HXC) wr hb
    have HCX:Hid (∀ W,Below w1.heap.size w1 W→Calls Tryz.prog 14 #[.pointer (some ⟨p,0,none⟩),.int .i32 (xs.getD k 0)] W (IntDr16 W (cl (xs.getD k 0)))):=fun W hW=>(Uh HCL) _ hrn W hW
    clear hcl
    have HB:=Hd hb
    have HOK:=Hd hok
    have HPL:=Hd hpl
    have HVR:=Hd hvr
    have HRN:=Hd hrn
    have hrn1:=hrn.1
    have hrn2:=hrn.2
    clear hb hok hpl hvr hrn
    obtain ⟨z,hz⟩:∃ z,cl (xs.getD k 0)=z:=⟨_,rfl⟩
    rw [hz] at HCX
    have HZ:=Hd hz
    clear hz
    generalize xs.getD k 0=c at *
    by_cases c1:c=8204
    ·subst c1
     go_wp2
     go_roundw
     case rel=>exact ⟨k+1,Y,vr,by go_num,rfl,by omega,by omega,by omega,Uh HOK,Uh HPL,Uh HVR,Uh HB⟩
     case measure=>simp [intOf]; omega
    ·have n1:(c != 8204)=true:=by simpa using c1
     by_cases c2:c=8205
     ·subst c2
      go_wp2
      go_roundw
      case rel=>exact ⟨k+1,Y,vr,by go_num,rfl,by omega,by omega,by omega,Uh HOK,Uh HPL,Uh HVR,Uh HB⟩
      case measure=>simp [intOf]; omega
     ·have n2:(c != 8205)=true:=by simpa using c2
      have HP2:=Hd ((Uh HPL).snoc c1 c2)
      have HC12:=Hd (And.intro c1 c2)
      clear c1 c2
      go_wp2_with (at_builtin; refine app_sk15 rfl (.tmp 48) (.tmp 53) rfl w1.heap.size _ _ Y [c] rfl rfl (ok_alloc15 (Uh HOK) _) (lit_one16 wr c (Uh HRN)) (by simp; omega) (by rw [alloc_size15]; omega) ?_)
      intro y2 w2 ok2 g2
      have b2:=below_app16 (Uh HB) hbs (Uh HOK) g2
      have x5:=(Uh HXC) w2 b2
      have K5:=Hd ((Uh HCX) w2 b2)
      have HOK2:=Hd ok2
      have HB2:=Hd b2
      have hY2:(Y++[c]).length≤k+1:=by rw [List.length_append]; show _+1≤_; omega
      obtain ⟨ya2,yc2,hyv2,_,_⟩:=ok2.sk.shape
      subst hyv2
      clear ok2 g2 b2 x4 HCX HXC HOK HB HPL hyc1 hyc2
      generalize Y++[c]=Y2 at *
      by_cases z9:z=9
      ·subst z9
       have HVR2:Hid (VirC16 cl c):=⟨Uh HRN,.inr ⟨Uh HZ,Uh HC12⟩⟩
       clear HVR HZ HC12
       go_wp2_with fail
       refine (Uh K5).mono ?_
       rintro e3 w3 ⟨rfl,m3,rfl⟩
       have b3:Below w2.heap.size w2 (w2.drewN m3):=drewB ⟨m3,rfl⟩
       have x6:(w2.drewN m3).cell? ⟨g,off+k,none⟩=some (.int .i32 c):=by rw [b3.cell (lt_of_cell? x5)]; exact x5
       have HOK3:=Hd ((Uh HOK2).below b3)
       have HB3:=Hd (bthen (Uh HB2) b3)
       clear K5 b3 x5 HOK2 HB2
       generalize w2.drewN m3=w3 at *
       go_wp2
       go_roundw
       case rel=>exact ⟨k+1,Y2,c,by go_num,rfl,by omega,by omega,hY2,Uh HOK3,Uh HP2,Uh HVR2,Uh HB3⟩
       case measure=>simp [intOf]; omega
      ·have n9:(z==9)=false:=by rw [beq_eq_false_iff_ne]; exact z9
       clear z9
       go_wp2_with fail
       refine (Uh K5).mono ?_
       rintro e3 w3 ⟨rfl,m3,rfl⟩
       have b3:Below w2.heap.size w2 (w2.drewN m3):=drewB ⟨m3,rfl⟩
       have HOK3:=Hd ((Uh HOK2).below b3)
       have HB3:=Hd (bthen (Uh HB2) b3)
       clear K5 b3 x5 HOK2 HB2
       generalize w2.drewN m3=w3 at *
       go_wp2
       go_roundw
       case rel=>exact ⟨k+1,Y2,vr,by go_num,rfl,by omega,by omega,hY2,Uh HOK3,Uh HP2,Uh HVR,Uh HB3⟩
       case measure=>simp [intOf]; omega
   ·have HSY:=Hd hok.sk
    have HPL:=Hd hpl
    have HVR:=Hd hvr
    have HBW:=Hd hb
    have hvr1:=hvr.1.1
    have hvr2:=hvr.1.2
    have HE:Hid (∀ kk:Nat,True):=fun _=>trivial
    clear hok hpl hvr HE
    obtain ⟨wo,hwo⟩:∃ wo,wo=wr:=⟨_,rfl⟩
    rw [← hwo] at HSY HBW hbs hb
    clear hb
    rcases Decidable.em (k<xs.length) with hlt1 | hlt1
    case' inl=>have hL1:(k:Int)<xs.length:=by omega
    case' inl=>have hL2:¬ ((k:Int)<60):=by omega
    case' inr=>have hL1:¬ ((k:Int)<xs.length):=by omega
    all_goals
     clear hlt hlt1
     go_wp2
     subst hwo
     go_loopw [9,12] (fun zv iv wr=>∃ (k:Nat) (Z:List Int),iv=.int .i64 (k:Int)∧k≤60∧k≤xs.length∧Z.length≤2 * k∧Ok .i32 21 wr wo.heap.size zv Z∧Jn.Led cl Z∧Below wo.heap.size wo wr) (fun _ iv _=>60 - (intOf iv).toNat)
     case atStart=>exact ⟨0,[],rfl,by omega,by omega,by simp,Ok.nil _ _ _ _,Jn.Led.nil,Below.refl _ _⟩
     case round =>
      obtain ⟨q,Z,rfl,hq60,hqx,hZq,hok,hled,hb⟩:=hrel
      obtain ⟨za,zc,hzv,hzc1,hzc2⟩:=hok.sk.shape
      subst hzv
      have hbs2:=hb.size
      have HB:=Hd hb
      have HOK:=Hd hok
      have HLED:=Hd hled
      clear hok hled
      by_cases hlt:(q<xs.length∧q<60)∧0≤vr
      ·obtain ⟨⟨hql,hq6⟩,hv0⟩:=hlt
       have hL1:(q:Int)<xs.length:=by omega
       have hL2:(q:Int)<60:=by omega
       obtain ⟨g,off,cp,he,_,_,hcl⟩:=(Uh HX1).place (by omega)
       simp only [Value.slice.injEq] at he
       obtain ⟨rfl,-,rfl⟩:=he
       have hrn:=i32_in (Uh HX1) hql
       have HXC:Hid (∀ W,Below w1.heap.size w1 W→W.cell? ⟨g,off+q,none⟩=some (.int .i32 (xs.getD q 0))):=fun W hW=>by rw [hW.cell (lt_of_cell? (hcl q hql))]; exact hcl q hql
       have x4:=(Uh HXC) wr (bthen (Uh HBW) hb)
       have HRN:=Hd hrn
       have hrn1:=hrn.1
       have hrn2:=hrn.2
       have HV:Hid (cl vr=9∧vr≠8204∧vr≠8205):=by
        rcases (Uh HVR).2 with h | h
        ·exact absurd hv0 (by omega)
        ·exact h
       clear hb hcl hrn
       generalize xs.getD q 0=c at *
       by_cases cj:c=8204∨c=8205
       ·have HL2:=Hd ((Uh HLED).pair vr c (Uh HV).1 (Uh HV).2)
        rcases cj with rfl | rfl
        all_goals
         go_wp2_with (at_builtin; refine app_sk15 rfl (.tmp 92) (.tmp 94) rfl wo.heap.size _ _ Z [vr] rfl rfl (ok_alloc15 (Uh HOK) _) (lit_one16 wr vr (Uh HVR).1) (by simp; omega) (by rw [alloc_size15]; omega) ?_)
         intro y2 w2 ok2 g2
         have b2:=below_app16 (Uh HB) hbs2 (Uh HOK) g2
         have x5:=(Uh HXC) w2 (bthen (Uh HBW) b2)
         have HOK2:=Hd ok2
         have HB2:=Hd b2
         have hbs3:=b2.size
         obtain ⟨ya2,yc2,hyv2,_,_⟩:=ok2.sk.shape
         subst hyv2
         have hZ2:(Z++[vr]).length≤2 * q+1:=by rw [List.length_append]; show _+1≤_; omega
         clear ok2 g2 b2 x4 HXC HOK HB hzc1 hzc2 HLED
         generalize Z++[vr]=Z2 at *
         go_wp2_with (at_builtin; refine app_sk15 rfl (.tmp 96) (.tmp 101) rfl wo.heap.size _ _ Z2 [_] rfl rfl (ok_alloc15 (Uh HOK2) _) (lit_one16 w2 _ (Uh HRN)) (by simp; omega) (by rw [alloc_size15]; omega) ?_)
         intro y3 w3 ok3 g3
         have b3:=below_app16 (Uh HB2) hbs3 (Uh HOK2) g3
         have HOK3:=Hd ok3
         have HB3:=Hd b3
         obtain ⟨ya3,yc3,hyv3,_,_⟩:=ok3.sk.shape
         subst hyv3
         clear ok3 g3 b3 x5 HOK2 HB2
         go_wp2
         go_roundw
         case rel=>exact ⟨q+1,_,by go_num,by omega,by omega,by simp; omega,Uh HOK3,Uh HL2,Uh HB3⟩
         case measure=>simp [intOf]; omega
       ·have n1:(c==8204)=false:=by rw [beq_eq_false_iff_ne]; exact fun h=>cj (.inl h)
        have n2:(c==8205)=false:=by rw [beq_eq_false_iff_ne]; exact fun h=>cj (.inr h)
        have HL2:=Hd ((Uh HLED).snoc c fun h=>absurd h cj)
        clear cj
        go_wp2_with (at_builtin; refine app_sk15 rfl (.tmp 96) (.tmp 101) rfl wo.heap.size _ _ Z [_] rfl rfl (ok_alloc15 (Uh HOK) _) (lit_one16 wr _ (Uh HRN)) (by simp; omega) (by rw [alloc_size15]; omega) ?_)
        intro y3 w3 ok3 g3
        have b3:=below_app16 (Uh HB) hbs2 (Uh HOK) g3
        have HOK3:=Hd ok3
        have HB3:=Hd b3
        obtain ⟨ya3,yc3,hyv3,_,_⟩:=ok3.sk.shape
        subst hyv3
        have hZ3:(Z++[c]).length≤2 * (q+1):=by rw [List.length_append]; show _+1≤_; omega
        clear ok3 g3 b3 x4 HOK HB HLED
        generalize Z++[c]=Z2 at *
        go_wp2
        go_roundw
        case rel=>exact ⟨q+1,Z2,by go_num,by omega,by omega,hZ3,Uh HOK3,Uh HL2,Uh HB3⟩
        case measure=>simp [intOf]; omega
      ·have HBF:=Hd (bthen (Uh HBW) hb)
       have K6:=Hd ((Uh HCK) wr (Uh HBF) _ _ ((Uh HSY).below hb))
       rw [Jn.chk_plain (Uh HPL)] at K6
       have HSZ:=Hd (Uh HOK).sk
       have HCE:Hid (Jn.chk cl j Z=-1):=Jn.chk_led (Uh HLED)
       have hway:¬ ((q:Int)<xs.length)∨((q:Int)<xs.length∧¬ ((q:Int)<60))∨((q:Int)<xs.length∧(q:Int)<60∧vr<0):=by omega
       clear hb hlt HOK HLED
       rcases hway with q1 | ⟨q1,q2⟩ | ⟨q1,q2,q3⟩
       all_goals
        go_wp2_with fail
        refine (Uh K6).mono ?_
        rintro e7 w7 ⟨rfl,b7⟩
        have HB7:=Hd (bthen (Uh HBF) b7)
        have K8:=Hd ((Uh HCK) w7 (Uh HB7) _ _ ((Uh HSZ).below b7))
        rw [Uh HCE] at K8
        clear K6 b7 HSZ
        go_wp2_with fail
        refine (Uh K8).mono ?_
        rintro e9 w9 ⟨rfl,b9⟩
        have HB9:=Hd (bthen (Uh HB1) (bthen (Uh HB7) b9))
        clear K8 b9 HB7
        go_wp2
        go_ret
        exact ⟨rfl,Uh HB9⟩
end Go.Proofs.YthhekhkbbkemjaaGreatDoor
