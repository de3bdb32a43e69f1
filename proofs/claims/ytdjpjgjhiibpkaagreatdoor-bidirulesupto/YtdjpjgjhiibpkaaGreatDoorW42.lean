/- Bd17 Be17 Bf17 -/
import Derived.Test.YtdjpjgjhiibpkaaGreatDoorW4
import Derived.Test.YtdjpjgjhiibpkaaGreatDoorW31
import Derived.Lib.MinMaxS
namespace Go.Proofs.YtdjpjgjhiibpkaaGreatDoor
open Go.RowKit
set_option maxRecDepth 8000 in
set_option maxHeartbeats 1000000 in
theorem few_any17 (xv:Value) (xs:List Int) (m:Nat) (w:World) (hx:Sk .i32 w xv xs) (hm:m≤100000000):Calls Tryz.prog 8 #[xv,.int .i64 m] w (RunesNew w (xs.take m)):=by
 have hxl:=hx.len
 obtain ⟨ax,cx,hxv,hcx1,hcx2⟩:=hx.shape
 subst hxv
 obtain ⟨n,hn⟩:∃ n,n=min xs.length m:=⟨_,rfl⟩
 have hmin:min (xs.length:Int) (m:Int)=(n:Int):=by omega
 have hn1:n≤xs.length:=by omega
 have hT:=hx.head hn1 hcx1
 have htl:(xs.take n).length=n:=by rw [List.length_take]; omega
 have htt:xs.take m=xs.take n:=by rw [hn,List.take_eq_take_min,Nat.min_comm]
 have hn2:n≤100000000:=by omega
 rw [htt]
 clear htt hx hn
 generalize hys:xs.take n=ys at *
 clear hys
 have HT:=Hd hT
 clear hT
 rcases ax with _ | ax
 all_goals
  go_enter Tryz.func8,Tryz.ntmps8
  go_wp2_with (at_builtin; refine app_sk15 rfl (.tmp 6) (.tmp 12) rfl w.heap.size _ _ [] ys rfl rfl (Ok.nil _ _ _ _) (Uh HT) (by simp; omega) (Nat.le_refl _) ?_)
  intro v1 w1 h1 h2
  have HF:Hid (RunesNew w ys (.returned v1) w1):=⟨v1,rfl,h1,(Below.refl w.heap.size w).grown h2 (Nat.le_refl _) (fun g hh=>by cases hh)⟩
  clear h1 h2
  go_wp2
  go_ret
  exact Uh HF
open Ti
theorem rbidiC17 {tv:Value} {rs:List Rec} {w:World} (hR:Rcs w tv rs) (h6:(Cn.check6 rs).2=0):RPropC17 25 w tv (Cn.vget rs 4):=fun c hc W hW=>by
 rw [← Cn.vget_num h6 4 c (.inl rfl)]; exact refBidi9 tv rs c W (hR.below hW) hc
theorem vget_fit17 {rs:List Rec} (h6:(Cn.check6 rs).2=0) (c:Int):-9223372036854775808≤Cn.vget rs 4 c∧Cn.vget rs 4 c≤9223372036854775807:=by
 unfold Cn.vget
 cases he:Cn.hit rs 4 c with
 | none =>
  show (-9223372036854775808:Int)≤0∧(0:Int)≤9223372036854775807
  omega
 | some r =>
  have hm:=(Cn.hit_iff h6 (by decide) r).1 he
  have hv:=Cn.right_value ((Cn.check6_iff.1 h6).2.1 r hm.1) (fun e=>by
   have h4:=hm.2.1
   rw [e] at h4
   revert h4; decide)
  show -9223372036854775808≤Cn.value r∧Cn.value r≤9223372036854775807
  omega
def HasC17:Prop:=∀ (B p:Nat) (rs:List Rec) (w:World) (xv:Value) (X:List Int),DataAt w B p rs→(Cn.check6 rs).2=0→Sk .i32 w xv X→X.length≤1000→Calls Tryz.prog 9 #[.pointer (some ⟨p,0,none⟩),xv] w (BoolB w (Bd.has (X.map (Cn.vget rs 4))))
def RulC17:Prop:=∀ (B p:Nat) (rs:List Rec) (w:World) (xv:Value) (X:List Int),DataAt w B p rs→(Cn.check6 rs).2=0→Sk .i32 w xv X→X.length≤1000→Calls Tryz.prog 11 #[.pointer (some ⟨p,0,none⟩),xv] w (IntB w (Bd.rules (X.map (Cn.vget rs 4))))
def ToldC17:Prop:=∀ w,Glob w→Calls Tryz.prog 7 #[] w (Tells w true)
namespace Bd
theorem rules_and (K:List Int):(0≤rules K∧rules K≤63)∧(((bits .and .i64 (rules K) 14==0)=true∧(bits .and .i64 (rules K) 1==0)=true)∨(rules K=1∧(bits .and .i64 (rules K) 14==0)=true∧(bits .and .i64 (rules K) 1==0)=false)∨((bits .and .i64 (rules K) 14==0)=false∧(bits .and .i64 (rules K) 48==0)=true∧(bits .and .i64 (rules K) 1==0)=true)):=by
 rcases rules_bits K with e | e | ⟨a,b,ha,hb,e⟩ | ⟨a,b,c,ha,hb,hc,e⟩
 ·rw [e]; decide
 ·rw [e]; decide
 ·rw [e]; rcases ha with rfl | rfl <;> rcases hb with rfl | rfl <;> decide
 ·rw [e]; rcases ha with rfl | rfl <;> rcases hb with rfl | rfl <;> rcases hc with rfl | rfl <;> decide
theorem rules_has {K:List Int} (h:has K=false):(bits .and .i64 (rules K) 14 != 0)=false:=by
 rcases rules_plain h with e | e | e <;> rw [e] <;> decide
end Bd
open Ti
theorem lit_one17 (W:World) (c:Int) (hc:Rune c):Sk .i32 (W.alloc (.cells #[.int .i32 c] 21)) (.slice (some ⟨W.heap.size,0,none⟩) 1 1) [c]:=lit15 W [c] 1 rfl (by omega) (by omega) _ rfl (fun z hz=>by simp at hz; subst hz; exact hc)
theorem below_app17 {w0 wr w':World} {B:Nat} {v:Value} {Y:List Int} {o:Obj} (hb:Below B w0 wr) (hB:B≤wr.heap.size) (ho:Ok .i32 21 wr B v Y) (hg:(wr.alloc o).grownBy w' v.ownBlock):Below B w0 w':=(hb.alloc hB o).grown hg (by rw [alloc_size15]; omega) (fun k hk=>(ho.2.2.lt k hk).1)
set_option maxRecDepth 20000 in
set_option maxHeartbeats 8000000 in
theorem marks_law17 (hHas:HasC17) (hRul:RulC17) (hTold:ToldC17) (v:Value) (rs0:List Rec) (xv:Value) (xs:List Int) (mv:Value) (ms:List Int) (w:World) (hg:Glob w) (hv:Rcs w v rs0) (hx:Sk .i32 w xv xs) (hmm:Sk .i32 w mv ms):Calls Tryz.prog 4 #[v,xv,mv] w (Tells w true):=by
 have K1:=Hd (made_any v rs0 w hg hv)
 have hml:=hmm.len
 obtain ⟨ao,cap,rfl,_,hcap⟩:=hv.shape
 have HX:=Hd hx
 have HMS:=Hd hmm
 obtain ⟨xo,xcap,hxe,hxc1,hxc2⟩:=hx.shape
 subst hxe
 obtain ⟨mo,mcap,hme,_,_⟩:=hmm.shape
 subst hme
 have HG:=Hd hg
 clear hg hv hx hmm
 generalize rs0.take 150=rs at *
 generalize rs0.length=L at *
 go_enter Tryz.func4,Tryz.ntmps4
 go_wp2_with fail
 refine (Uh K1).mono ?_
 rintro e1 w1 ⟨b1,h1⟩
 have HB1:=Hd b1
 clear K1 b1
 rcases h1 with ⟨hne,rfl⟩ | ⟨h0,p,v2,ps2,rfl,hD,r2,_⟩
 ·have K2:=Hd (hTold w1 ((Uh HG).on (Uh HB1)))
  clear hne
  go_wp2_with fail
  refine (Uh K2).mono ?_
  rintro e2 w2 ⟨rfl,b2⟩
  have HB2:=Hd (bthen (Uh HB1) b2)
  clear K2 b2
  go_wp2
  go_ret
  exact ⟨rfl,Uh HB2⟩
 ·have h6:=(Cn.check_iff.1 h0).1
  obtain ⟨a2,cp2,hv2⟩:∃ a c,v2=.slice a ps2.length c:=by
   rcases r2.1.2 with ⟨h,h0⟩ | ⟨g,cap,cur,e,_⟩
   ·exact ⟨none,0,by rw [h,h0]⟩
   ·exact ⟨_,_,e⟩
  subst hv2
  have HHAS:Hid (∀ W,Below w1.heap.size w1 W→∀ yv Y,Sk .i32 W yv Y→Y.length≤1000→Calls Tryz.prog 9 #[.pointer (some ⟨p,0,none⟩),yv] W (BoolB W (Bd.has (Y.map (Cn.vget rs 4))))):=fun W hW yv Y hY hl=>hHas _ p rs W yv Y (hD.below hW) h6 hY hl
  have HRUL:Hid (∀ W,Below w1.heap.size w1 W→∀ yv Y,Sk .i32 W yv Y→Y.length≤1000→Calls Tryz.prog 11 #[.pointer (some ⟨p,0,none⟩),yv] W (IntB W (Bd.rules (Y.map (Cn.vget rs 4))))):=fun W hW yv Y hY hl=>hRul _ p rs W yv Y (hD.below hW) h6 hY hl
  have HBDC:Hid (∀ W,Below w1.heap.size w1 W→∀ c,Rune c→Calls Tryz.prog 15 #[.pointer (some ⟨p,0,none⟩),.int .i32 c] W (IntDraws W (Cn.vget rs 4 c))):=fun W hW c hc=>bidi_any9 c W (hD.below hW) h6 hc
  have HMS1:=Hd ((Uh HMS).below (Uh HB1))
  have hXl:(xs.take 60).length≤60:=List.length_take_le _ _
  have K3:=Hd (few_any17 _ xs 60 w1 ((Uh HX).below (Uh HB1)) (by omega))
  clear hD r2 h6 h0 HX HG HMS
  generalize xs.take 60=X at *
  generalize Cn.vget rs 4=bd at *
  generalize ps2.length=pl at *
  go_wp2_with fail
  refine (Uh K3).mono ?_
  rintro e2 w2 ⟨v3,rfl,ok2,b2⟩
  obtain ⟨a3,c3,hv3,_,_⟩:=ok2.sk.shape
  subst hv3
  have HO2:=Hd ok2
  have HB2:=Hd b2
  have K4:=Hd ((Uh HRUL) w2 b2 _ _ ok2.sk (by omega))
  clear K3 ok2 b2
  have HAND:=Hd (Bd.rules_and (X.map bd))
  have HNO:=Hd (Bd.rules_has (K:=X.map bd))
  have HMK:Hid (0<X.length→∀ M:List Int,(∀ c∈M,bd c=10)→Bd.rules ((X++M).map bd)=Bd.rules (X.map bd)):=fun h M hM=>by
   rw [List.map_append]
   exact Bd.rules_marks (by rw [List.length_map]; exact h) _ fun k hk=>by
    obtain ⟨c,hc,rfl⟩:=List.mem_map.1 hk
    exact hM c hc
  obtain ⟨R,hR⟩:∃ R,Bd.rules (X.map bd)=R:=⟨_,rfl⟩
  rw [hR] at K4 HAND HNO HMK
  clear hR
  have hR0:=(Uh HAND).1.1
  have hR1:=(Uh HAND).1.2
  clear HAND
  go_wp2_with fail
  refine (Uh K4).mono ?_
  rintro e3 w3 ⟨rfl,b3⟩
  have HO3:=Hd ((Uh HO2).below b3)
  have HB3:=Hd (bthen (Uh HB2) b3)
  have K5:=Hd ((Uh HHAS) w3 (Uh HB3) _ _ (Uh HO3).sk (by omega))
  clear K4 b3 HO2 HB2 HHAS
  have hr1:¬ R<0:=by omega
  have hr2:¬ R > 63:=by omega
  obtain ⟨hb,hhb⟩:∃ hb,Bd.has (X.map bd)=hb:=⟨_,rfl⟩
  rw [hhb] at K5 HNO
  clear hhb
  have HN2:Hid (hb=false→(bits BinOp.and IntKind.i64 R 14 != 0)=false):=HNO
  clear HNO
  by_cases hz:R=0
  case' neg =>
   have nz:(R != 0)=true:=by simpa using hz
   clear hz HMK HRUL HBDC HMS1
   cases hb
   case' false=>have nb:=(Uh HN2) rfl
   all_goals
    go_wp2_with fail
    refine (Uh K5).mono ?_
    rintro e4 w4 ⟨rfl,b4⟩
    have HB4:=Hd (bthen (Uh HB1) (bthen (Uh HB3) b4))
    clear K5 b4
    go_wp2
    go_ret
    exact ⟨rfl,Uh HB4⟩
  subst hz
  clear hR0 hR1 hr1 hr2
  have nb0:bits BinOp.and IntKind.i64 0 14=0:=by decide
  clear HN2
  rcases Nat.eq_zero_or_pos X.length with hX0 | hX0
  ·obtain rfl:X=[]:=List.eq_nil_of_length_eq_zero hX0
   clear HMK HRUL HBDC HMS1
   cases hb
   all_goals
    go_wp2_with fail
    refine (Uh K5).mono ?_
    rintro e4 w4 ⟨rfl,b4⟩
    have HB4:=Hd (bthen (Uh HB1) (bthen (Uh HB3) b4))
    clear K5 b4
    go_wp2
    go_ret
    exact ⟨rfl,Uh HB4⟩
  ·have hX1:((X.length:Int)==0)=false:=by rw [beq_eq_false_iff_ne]; omega
   have hX2:¬ X.length=0:=by omega
   have hX3:¬ X=[]:=fun h=>hX2 (by rw [h]; rfl)
   have HMK2:=Hd ((Uh HMK) hX0)
   clear HMK
   cases hb
   all_goals
    go_wp2_with fail
    refine (Uh K5).mono ?_
    rintro e4 w4 ⟨rfl,b4⟩
    have HO4:=Hd ((Uh HO3).below b4)
    have HB4:=Hd (bthen (Uh HB3) b4)
    clear K5 b4 HO3 HB3
    go_wp2
    go_loopw [10,12] (fun yv iv wr=>∃ (k:Nat) (M:List Int),iv=.int .i64 (k:Int)∧k≤60∧k≤ms.length∧(X++M).length≤60+k∧(∀ c∈M,bd c=10)∧Ok .i32 21 wr w1.heap.size yv (X++M)∧Below w1.heap.size w1 wr) (fun _ iv _=>60 - (intOf iv).toNat)
    case atStart=>exact ⟨0,[],rfl,by omega,by omega,by rw [List.append_nil]; omega,fun c hc=>(by cases hc),by rw [List.append_nil]; exact Uh HO4,Uh HB4⟩
    case round =>
     clear HO4 HB4
     obtain ⟨k,M,rfl,hk60,hkm,hYl,hM,hok,hbr⟩:=hrel
     obtain ⟨ya,yc,hyv,hyc1,hyc2⟩:=hok.sk.shape
     subst hyv
     have hbs:=hbr.size
     have HM:=Hd hM
     have HE:=Hd ((Uh HMK2) M hM)
     obtain ⟨Y,hY⟩:∃ Y,X++M=Y:=⟨_,rfl⟩
     rw [hY] at hYl hok HE hyc1 ⊢
     have HY:=Hd hY
     have HOK:=Hd hok
     have HBR:=Hd hbr
     clear hM hok hbr hY
     by_cases hlt:k<ms.length∧k<60
     ·obtain ⟨hkl,hk6⟩:=hlt
      have hL1:(k:Int)<ms.length:=by omega
      have hL2:(k:Int)<60:=by omega
      obtain ⟨g,off,cp,he,_,_,hcl⟩:=(Uh HMS1).place (by omega)
      simp only [Value.slice.injEq] at he
      obtain ⟨rfl,-,rfl⟩:=he
      have hrn:=rune_of (Uh HMS1) hkl
      have HXC:Hid (∀ W,Below w1.heap.size w1 W→W.cell? ⟨g,off+k,none⟩=some (.int .i32 (ms.getD k 0))):=fun W hW=>by rw [hW.cell (lt_of_cell? (hcl k hkl))]; exact hcl k hkl
      have x4:=(Uh HXC) wr (Uh HBR)
      have K6:=Hd ((Uh HBDC) wr (Uh HBR) _ hrn)
      have HRN:=Hd hrn
      obtain ⟨z,hze⟩:∃ z,bd (ms.getD k 0)=z:=⟨_,rfl⟩
      rw [hze] at K6
      have HZ:=Hd hze
      obtain ⟨c,hce⟩:∃ c,ms.getD k 0=c:=⟨_,rfl⟩
      rw [hce] at K6 HXC x4 HRN HZ
      clear hcl hrn hze hce HE HRUL
      by_cases h10:z=10
      ·subst h10
       go_wp2_with fail
       refine (Uh K6).mono ?_
       rintro e5 w5 ⟨rfl,m5,rfl⟩
       have b5:Below wr.heap.size wr (wr.drewN m5):=drewB ⟨m5,rfl⟩
       have HB5:=Hd (bthen (Uh HBR) b5)
       have HO5:=Hd ((Uh HOK).below b5)
       have x5:=(Uh HXC) _ (Uh HB5)
       have hbs5:=(Uh HB5).size
       clear K6 b5 x4 HBR HOK
       generalize wr.drewN m5=w5 at *
       go_wp2_with (at_builtin; refine app_sk15 rfl (.tmp 72) (.tmp 77) rfl w1.heap.size _ _ Y [c] rfl rfl (ok_alloc15 (Uh HO5) _) (lit_one17 w5 c (Uh HRN)) (by first | omega | (simp; omega)) (by rw [alloc_size15]; omega) ?_)
       intro y6 w6 ok6 g6
       have HB6:=Hd (below_app17 (Uh HB5) hbs5 (Uh HO5) g6)
       have hYc:X++(M++[c])=Y++[c]:=by rw [← List.append_assoc,Uh HY]
       rw [← hYc] at ok6
       have HO6:=Hd ok6
       have HM6:Hid (∀ x∈M++[c],bd x=10):=fun x hx=>by
        rcases List.mem_append.1 hx with hx | hx
        ·exact (Uh HM) x hx
        ·simp at hx; rw [hx]; exact Uh HZ
       have hYl6:(X++(M++[c])).length≤60+(k+1):=by rw [hYc,List.length_append]; show _+1≤_; omega
       obtain ⟨ya6,yc6,hyv6,_,_⟩:=ok6.sk.shape
       subst hyv6
       clear ok6 g6 hYc HO5 HB5 x5 HY
       go_wp2
       go_roundw
       case rel=>exact ⟨k+1,M++[c],by go_num,by omega,by omega,hYl6,Uh HM6,Uh HO6,Uh HB6⟩
       case measure=>simp [intOf]; omega
      ·have n10:(z==10)=false:=by rw [beq_eq_false_iff_ne]; exact h10
       clear h10
       go_wp2_with fail
       refine (Uh K6).mono ?_
       rintro e5 w5 ⟨rfl,m5,rfl⟩
       have b5:Below wr.heap.size wr (wr.drewN m5):=drewB ⟨m5,rfl⟩
       have HB5:=Hd (bthen (Uh HBR) b5)
       have HO5:=Hd ((Uh HOK).below b5)
       clear K6 b5 x4 HBR HOK HXC
       generalize wr.drewN m5=w5 at *
       go_wp2
       go_roundw
       case rel=>exact ⟨k+1,M,by go_num,by omega,by omega,by rw [Uh HY]; omega,Uh HM,by rw [Uh HY]; exact Uh HO5,Uh HB5⟩
       case measure=>simp [intOf]; omega
     ·have hway:¬ ((k:Int)<ms.length)∨((k:Int)<ms.length∧¬ ((k:Int)<60)):=by omega
      have K7:=Hd ((Uh HRUL) wr (Uh HBR) _ _ (Uh HOK).sk (by omega))
      rw [Uh HE] at K7
      clear hlt HRUL HBDC HMS1 HE HM HY HMK2
      rcases hway with q1 | ⟨q1,q2⟩
      all_goals
       go_wp2_with fail
       refine (Uh K7).mono ?_
       rintro e8 w8 ⟨rfl,b8⟩
       have HB8:=Hd (bthen (Uh HB1) (bthen (Uh HBR) b8))
       clear K7 b8
       go_wp2
       go_ret
       exact ⟨rfl,Uh HB8⟩
open Ti
def Ltr17 (bd:Int→Int) (Y:List Int):Prop:=(Y.length=0∨bd (Y.getD 0 0)=0)∧∀ c∈Y,bd c=0∨bd c=4
theorem Ltr17.snoc {bd:Int→Int} {Y:List Int} (h:Ltr17 bd Y) {c:Int} (hc:bd c=0∨(bd c=4∧0<Y.length)):Ltr17 bd (Y++[c]):=by
 refine ⟨.inr ?_,fun x hx=>?_⟩
 ·rcases Nat.eq_zero_or_pos Y.length with h0 | h0
  ·rcases hc with hc | ⟨_,h1⟩
   ·rw [List.eq_nil_of_length_eq_zero h0]; exact hc
   ·omega
  ·rcases h.1 with h1 | h1
   ·omega
   ·have e:(Y++[c]).getD 0 0=Y.getD 0 0:=by unfold List.getD; rw [List.getElem?_append_left h0]
    rw [e]; exact h1
 ·rcases List.mem_append.1 hx with hx | hx
  ·exact h.2 x hx
  ·simp at hx; subst hx
   exact hc.imp id And.left
theorem Ltr17.tells {bd:Int→Int} {Y:List Int} (h:Ltr17 bd Y):Bd.rules (Y.map bd)=0∧Bd.has (Y.map bd)=false:=by
 refine Bd.rules_ltr ?_ fun k hk=>?_
 ·rcases h.1 with h1 | h1
  ·exact .inl (by rw [List.length_map]; exact h1)
  ·rcases Nat.eq_zero_or_pos Y.length with h0 | h0
   ·exact .inl (by rw [List.length_map]; exact h0)
   ·exact .inr (by rw [map_get17 h0]; exact h1)
 ·obtain ⟨c,hc,rfl⟩:=List.mem_map.1 hk
  exact h.2 c hc
set_option maxRecDepth 20000 in
set_option maxHeartbeats 8000000 in
theorem plain_law17 (hHas:HasC17) (hRul:RulC17) (hTold:ToldC17) (v:Value) (rs0:List Rec) (xv:Value) (xs:List Int) (w:World) (hg:Glob w) (hv:Rcs w v rs0) (hx:Sk .i32 w xv xs):Calls Tryz.prog 5 #[v,xv] w (Tells w true):=by
 have K1:=Hd (made_any v rs0 w hg hv)
 have hxl:=hx.len
 obtain ⟨ao,cap,rfl,_,hcap⟩:=hv.shape
 have HX:=Hd hx
 obtain ⟨xo,xcap,hxe,hxc1,hxc2⟩:=hx.shape
 subst hxe
 have HG:=Hd hg
 clear hg hv hx
 generalize rs0.take 150=rs at *
 generalize rs0.length=L at *
 go_enter Tryz.func5,Tryz.ntmps5
 go_wp2_with fail
 refine (Uh K1).mono ?_
 rintro e1 w1 ⟨b1,h1⟩
 have HB1:=Hd b1
 clear K1 b1
 rcases h1 with ⟨hne,rfl⟩ | ⟨h0,p,v2,ps2,rfl,hD,r2,_⟩
 ·have K2:=Hd (hTold w1 ((Uh HG).on (Uh HB1)))
  clear hne
  go_wp2_with fail
  refine (Uh K2).mono ?_
  rintro e2 w2 ⟨rfl,b2⟩
  have HB2:=Hd (bthen (Uh HB1) b2)
  clear K2 b2
  go_wp2
  go_ret
  exact ⟨rfl,Uh HB2⟩
 ·have h6:=(Cn.check_iff.1 h0).1
  obtain ⟨a2,cp2,hv2⟩:∃ a c,v2=.slice a ps2.length c:=by
   rcases r2.1.2 with ⟨h,h0⟩ | ⟨g,cap,cur,e,_⟩
   ·exact ⟨none,0,by rw [h,h0]⟩
   ·exact ⟨_,_,e⟩
  subst hv2
  have HHAS:Hid (∀ W,Below w1.heap.size w1 W→∀ yv Y,Sk .i32 W yv Y→Y.length≤1000→Calls Tryz.prog 9 #[.pointer (some ⟨p,0,none⟩),yv] W (BoolB W (Bd.has (Y.map (Cn.vget rs 4))))):=fun W hW yv Y hY hl=>hHas _ p rs W yv Y (hD.below hW) h6 hY hl
  have HRUL:Hid (∀ W,Below w1.heap.size w1 W→∀ yv Y,Sk .i32 W yv Y→Y.length≤1000→Calls Tryz.prog 11 #[.pointer (some ⟨p,0,none⟩),yv] W (IntB W (Bd.rules (Y.map (Cn.vget rs 4))))):=fun W hW yv Y hY hl=>hRul _ p rs W yv Y (hD.below hW) h6 hY hl
  have HBDC:Hid (∀ W,Below w1.heap.size w1 W→∀ c,Rune c→Calls Tryz.prog 15 #[.pointer (some ⟨p,0,none⟩),.int .i32 c] W (IntDraws W (Cn.vget rs 4 c))):=fun W hW c hc=>bidi_any9 c W (hD.below hW) h6 hc
  have HX1:=Hd ((Uh HX).below (Uh HB1))
  clear hD r2 h6 h0 HX HG
  generalize Cn.vget rs 4=bd at *
  generalize ps2.length=pl at *
  go_wp2
  go_loopw [8,9,10] (fun yv iv _ wr=>∃ (k:Nat) (Y:List Int),iv=.int .i64 (k:Int)∧k≤60∧k≤xs.length∧Y.length≤k∧Ltr17 bd Y∧Ok .i32 21 wr w1.heap.size yv Y∧Below w1.heap.size w1 wr) (fun _ iv _ _=>60 - (intOf iv).toNat)
  case atStart=>exact ⟨0,[],rfl,by omega,by omega,by simp,⟨.inl rfl,fun c hc=>(by cases hc)⟩,Ok.nil _ _ _ _,Below.refl _ _⟩
  case round =>
   obtain ⟨k,Y,rfl,hk60,hkx,hYk,hltr,hok,hbr⟩:=hrel
   obtain ⟨ya,yc,hyv,hyc1,hyc2⟩:=hok.sk.shape
   subst hyv
   have HLT:=Hd hltr
   have HOK:=Hd hok
   have HBR:=Hd hbr
   clear hltr hok hbr
   by_cases hlt:k<xs.length∧k<60
   ·obtain ⟨hkl,hk6⟩:=hlt
    have hL1:(k:Int)<xs.length:=by omega
    have hL2:(k:Int)<60:=by omega
    obtain ⟨g,off,cp,he,_,_,hcl⟩:=(Uh HX1).place (by omega)
    simp only [Value.slice.injEq] at he
    obtain ⟨rfl,-,rfl⟩:=he
    have hrn:=rune_of (Uh HX1) hkl
    have HXC:Hid (∀ W,Below w1.heap.size w1 W→W.cell? ⟨g,off+k,none⟩=some (.int .i32 (xs.getD k 0))):=fun W hW=>by rw [hW.cell (lt_of_cell? (hcl k hkl))]; exact hcl k hkl
    have x4:=(Uh HXC) wr (Uh HBR)
    have K6:=Hd ((Uh HBDC) wr (Uh HBR) _ hrn)
    have HRN:=Hd hrn
    obtain ⟨z,hze⟩:∃ z,bd (xs.getD k 0)=z:=⟨_,rfl⟩
    rw [hze] at K6
    have HZ:=Hd hze
    obtain ⟨c,hce⟩:∃ c,xs.getD k 0=c:=⟨_,rfl⟩
    rw [hce] at K6 HXC x4 HRN HZ
    clear hcl hrn hze hce HRUL HHAS HBDC HX1
    by_cases hin:z=0∨(z=4∧0<Y.length)
    ·have HL2:Hid (Ltr17 bd (Y++[c])):=(Uh HLT).snoc (by rw [Uh HZ]; exact hin)
     clear HLT HZ
     rcases hin with rfl | ⟨rfl,hYp⟩
     case' inr=>have hYp1:(0:Int)<Y.length:=by omega
     all_goals
      go_wp2_with fail
      refine (Uh K6).mono ?_
      rintro e5 w5 ⟨rfl,m5,rfl⟩
      have b5:Below wr.heap.size wr (wr.drewN m5):=drewB ⟨m5,rfl⟩
      have HB5:=Hd (bthen (Uh HBR) b5)
      have HO5:=Hd ((Uh HOK).below b5)
      have x5:=(Uh HXC) _ (Uh HB5)
      have hbs5:=(Uh HB5).size
      clear K6 b5 x4 HBR HOK
      generalize wr.drewN m5=w5 at *
      go_wp2_with (at_builtin; refine app_sk15 rfl (.tmp 52) (.tmp 57) rfl w1.heap.size _ _ Y [c] rfl rfl (ok_alloc15 (Uh HO5) _) (lit_one17 w5 c (Uh HRN)) (by first | omega | (simp; omega)) (by rw [alloc_size15]; omega) ?_)
      intro y6 w6 ok6 g6
      have HB6:=Hd (below_app17 (Uh HB5) hbs5 (Uh HO5) g6)
      have HO6:=Hd ok6
      have hYl6:(Y++[c]).length≤k+1:=by rw [List.length_append]; show _+1≤_; omega
      obtain ⟨ya6,yc6,hyv6,_,_⟩:=ok6.sk.shape
      subst hyv6
      clear ok6 g6 HO5 HB5 x5
      generalize Y++[c]=Y2 at *
      go_wp2
      go_roundw
      case rel=>exact ⟨k+1,Y2,by go_num,by omega,by omega,hYl6,Uh HL2,Uh HO6,Uh HB6⟩
      case measure=>simp [intOf]; omega
    ·have n0:(z==0)=false:=by rw [beq_eq_false_iff_ne]; omega
     have hw4:¬ z=4∨(z=4∧¬ 0<Y.length):=by omega
     clear hin HZ
     rcases hw4 with h4 | ⟨rfl,hYp⟩
     case' inl=>have n4:(z==4)=false:=by rw [beq_eq_false_iff_ne]; exact h4
     case' inr =>
      obtain rfl:Y=[]:=List.eq_nil_of_length_eq_zero (by omega)
     all_goals
      go_wp2_with fail
      refine (Uh K6).mono ?_
      rintro e5 w5 ⟨rfl,m5,rfl⟩
      have b5:Below wr.heap.size wr (wr.drewN m5):=drewB ⟨m5,rfl⟩
      have HB5:=Hd (bthen (Uh HBR) b5)
      have HO5:=Hd ((Uh HOK).below b5)
      clear K6 b5 x4 HBR HOK HXC
      generalize wr.drewN m5=w5 at *
      go_wp2
      go_roundw
      case rel=>exact ⟨k+1,_,by go_num,by omega,by omega,by omega,Uh HLT,Uh HO5,Uh HB5⟩
      case measure=>simp [intOf]; omega
   ·have hway:¬ ((k:Int)<xs.length)∨((k:Int)<xs.length∧¬ ((k:Int)<60)):=by omega
    have hXl:(xs.take 60).length≤60:=List.length_take_le _ _
    have K7:=Hd (few_any17 _ xs 60 wr ((Uh HX1).below (Uh HBR)) (by omega))
    have HR:=Hd (Uh HLT).tells
    clear hlt HBDC HX1 HLT
    generalize xs.take 60=X at *
    have HAND:=Hd (Bd.rules_and (X.map bd)).2
    rcases hway with q1 | ⟨q1,q2⟩
    all_goals
     go_wp2_with fail
     refine (Uh K7).mono ?_
     rintro e8 w8 ⟨v8,rfl,ok8,b8⟩
     have HB8:=Hd (bthen (Uh HBR) b8)
     have HY8:=Hd ((Uh HOK).below b8).sk
     have K8:=Hd ((Uh HRUL) w8 (Uh HB8) _ _ ok8.sk (by omega))
     obtain ⟨a8,c8,hv8,_,_⟩:=ok8.sk.shape
     subst hv8
     obtain ⟨R,hRR⟩:∃ R,Bd.rules (X.map bd)=R:=⟨_,rfl⟩
     rw [hRR] at K8 HAND
     clear K7 ok8 b8 HOK HBR hRR
     go_wp2_with fail
     refine (Uh K8).mono ?_
     rintro e9 w9 ⟨rfl,b9⟩
     have HB9:=Hd (bthen (Uh HB8) b9)
     have HY9:=Hd ((Uh HY8).below b9)
     have K9:=Hd ((Uh HRUL) w9 (Uh HB9) _ _ (Uh HY9) (by omega))
     rw [(Uh HR).1] at K9
     clear K8 b9 HB8 HY8 HRUL
     go_wp2_with fail
     refine (Uh K9).mono ?_
     rintro e10 w10 ⟨rfl,b10⟩
     have HB10:=Hd (bthen (Uh HB9) b10)
     have K10:=Hd ((Uh HHAS) w10 (Uh HB10) _ _ ((Uh HY9).below b10) (by omega))
     rw [(Uh HR).2] at K10
     clear K9 b10 HB9 HY9 HHAS HR
     have hand:=Uh HAND
     clear HAND
     rcases hand with ⟨f1,f2⟩ | ⟨rfl,f1,f2⟩ | ⟨f1,f2,f3⟩
     all_goals
      go_wp2_with fail
      refine (Uh K10).mono ?_
      rintro e11 w11 ⟨rfl,b11⟩
      have HB11:=Hd (bthen (Uh HB1) (bthen (Uh HB10) b11))
      clear K10 b11
      go_wp2
      go_ret
      exact ⟨rfl,Uh HB11⟩
end Go.Proofs.YtdjpjgjhiibpkaaGreatDoor
