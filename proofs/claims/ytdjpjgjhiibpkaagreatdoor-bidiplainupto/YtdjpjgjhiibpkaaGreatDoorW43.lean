/- Bi17 Bz17 RwOpen17 -/
import Derived.Test.YtdjpjgjhiibpkaaGreatDoorW44
import Derived.Test.YtdjpjgjhiibpkaaGreatDoorW45
import Derived.Deep.Matrix
namespace Go.Proofs.YtdjpjgjhiibpkaaGreatDoor
open Go.RowKit
open Ti
def DomC17:Prop:=∀ (B p:Nat) (rs:List Rec) (w:World) (lv:Value) (Xs:List (List Int)),DataAt w B p rs→(Cn.check6 rs).2=0→Rws17 w lv Xs→(∀ X∈Xs,X.length≤1000)→Calls Tryz.prog 13 #[.pointer (some ⟨p,0,none⟩),lv] w (BoolB w (Bd.dom (Cn.vget rs 4) Xs))
def DomN17:Prop:=∀ (w:World) (lv:Value) (Xs:List (List Int)),Rws17 w lv Xs→Calls Tryz.prog 13 #[.pointer none,lv] w (BoolB w false)
theorem infoL17:(Tryz.prog.info? 29).map (fun i=>(i.zero,i.size,i.bytes))=some (some (.slice none 0 0),1,24):=by kernel_rfl
def Own17 (w:World) (B:Nat) (v:Value) (ps:List (List Int × Value)):Prop:=w.ownsRow B 29 1 v ps.length (ps.map (·.2))∧∀ p∈ps,Ok .i32 21 w B p.2 p.1
theorem Own17.rws {w:World} {B:Nat} {v:Value} {ps:List (List Int × Value)} (h:Own17 w B v ps) (hl:ps.length≤1000):Rws17 w v (ps.map (·.1)):=by
 refine ⟨by rw [List.length_map]; omega,?_⟩
 rcases h.1.2 with ⟨hv,h0⟩ | ⟨g,cap,cur,hv,hg,hh,hn,hcap,hsz,htake⟩
 ·exact .inl ⟨by rw [List.length_map]; exact h0,none,0,hv,by omega⟩
 ·refine .inr ⟨g,0,cap,by rw [hv,List.length_map],by rw [List.length_map]; exact hn,by unfold maxLen at hcap; omega,fun i hi=>?_⟩
  rw [List.length_map] at hi
  have hm:ps.getD i ([],undef)∈ps:=by simp [List.getD,hi]
  refine ⟨(ps.getD i ([],undef)).2,?_,?_⟩
  ·have e:=h.1.cells (g:=g) (by rw [hv]; rfl) i (ps.getD i ([],undef)).2 (by simp [List.getD,hi])
   rw [addr_add] at e
   exact e
  ·have:=(h.2 _ hm).sk
   have e:(ps.map (·.1)).getD i []=(ps.getD i ([],undef)).1:=by simp [List.getD,hi]
   rw [e]; exact this
theorem Own17.below {w w':World} {B:Nat} {v:Value} {ps:List (List Int × Value)} (h:Own17 w B v ps) (hb:Below w.heap.size w w'):Own17 w' B v ps:=⟨own_keep h.1 fun g hg=>hb.block g (h.1.lt g hg).2,fun p hp=>(h.2 p hp).keep fun g hg=>hb.block g ((h.2 p hp).2.2.lt g hg).2⟩
theorem Own17.more {W1 W2:World} {B:Nat} {v v':Value} {ps:List (List Int × Value)} {q:List Int × Value} (hown:Own17 W1 B v ps) (hq:Ok .i32 21 W1 B q.2 q.1) (hrow:W2.ownsRow B 29 1 v' (ps.length+1) (ps.map (·.2)++[q.2])) (hg:W1.grownBy W2 v.ownBlock):Own17 W2 B v' (ps++[q]):=by
 refine ⟨by rw [List.length_append,List.map_append]; exact hrow,fun p hp=>?_⟩
 have key:∀ p:List Int × Value,Ok .i32 21 W1 B p.2 p.1→Ok .i32 21 W2 B p.2 p.1:=fun p hop=>hop.keep fun g h=>hg.block g (hop.2.2.lt g h).2 (fun e=>own_apart hop.2.2 hown.1 (by decide) h e.symm)
 rcases List.mem_append.1 hp with hp | hp
 ·exact key p (hown.2 p hp)
 ·simp at hp; subst hp; exact key p hq
set_option maxRecDepth 20000 in
set_option maxHeartbeats 8000000 in
theorem rules_law17 (hHas:HasC17) (hRul:RulC17) (hDom:DomC17) (hDomN:DomN17) (hTold:ToldC17) (v:Value) (rs0:List Rec) (lv:Value) (Ls:List (List Int)) (w:World) (hg:Glob w) (hv:Rcs w v rs0) (hx:Rws17 w lv Ls):Calls Tryz.prog 3 #[v,lv] w (Tells w true):=by
 obtain ⟨i0,hi,hz0,hz1,hz2⟩:=info_parts infoL17
 have K1:=Hd (made_any v rs0 w hg hv)
 have hfit:∀ r∈rs0.take 150,RecFit r:=fun r hr=>hv.2.1 r (List.mem_of_mem_take hr)
 have hrl:(rs0.take 150).length≤150:=by rw [List.length_take]; omega
 have HFIT:=Hd hfit
 clear hfit
 have hll:=hx.1
 obtain ⟨ao,cap,rfl,_,hcap⟩:=hv.shape
 have HX:=Hd hx
 obtain ⟨xo,xcap,hxe,hxc1,hxc2⟩:=hx.shape
 subst hxe
 have HG:=Hd hg
 clear hg hv hx
 generalize rs0.take 150=rs at *
 generalize rs0.length=L at *
 go_enter Tryz.func3,Tryz.ntmps3
 go_wp2_with fail
 refine (Uh K1).mono ?_
 rintro e1 w1 ⟨b1,h1⟩
 have HB1:=Hd b1
 clear K1 b1
 rcases h1 with ⟨hne,rfl⟩ | ⟨h0,p,v2,ps2,rfl,hD,r2,p2⟩
 ·have K2:=Hd (hTold w1 ((Uh HG).on (Uh HB1)))
  clear hne
  go_wp2_with fail
  refine (Uh K2).mono ?_
  rintro e2 w2 ⟨rfl,b2⟩
  have HB2:=Hd (bthen (Uh HB1) b2)
  clear K2 b2
  go_wp2
  go_ret
  exact ⟨rfl,Uh HB2⟩
 ·have h6:=(Cn.check_iff.1 h0).1
  have R2:=rcs_new r2 p2 (by omega) (Uh HFIT)
  obtain ⟨a2,cp2,hv2,_,hcp2⟩:=R2.shape
  subst hv2
  have HHAS:Hid (∀ W,Below w1.heap.size w1 W→∀ yv Y,Sk .i32 W yv Y→Y.length≤1000→Calls Tryz.prog 9 #[.pointer (some ⟨p,0,none⟩),yv] W (BoolB W (Bd.has (Y.map (Cn.vget rs 4))))):=fun W hW yv Y hY hl=>hHas _ p rs W yv Y (hD.below hW) h6 hY hl
  have HRUL:Hid (∀ W,Below w1.heap.size w1 W→∀ yv Y,Sk .i32 W yv Y→Y.length≤1000→Calls Tryz.prog 11 #[.pointer (some ⟨p,0,none⟩),yv] W (IntB W (Bd.rules (Y.map (Cn.vget rs 4))))):=fun W hW yv Y hY hl=>hRul _ p rs W yv Y (hD.below hW) h6 hY hl
  have HDOM:Hid (∀ W,Below w1.heap.size w1 W→∀ yv Ys,Rws17 W yv Ys→(∀ Y∈Ys,Y.length≤1000)→Calls Tryz.prog 13 #[.pointer (some ⟨p,0,none⟩),yv] W (BoolB W (Bd.dom (Cn.vget rs 4) Ys))):=fun W hW yv Ys hY hl=>hDom _ p rs W yv Ys (hD.below hW) h6 hY hl
  have RHAS:Hid (∀ W,Below w1.heap.size w1 W→∀ yv Y,Sk .i32 W yv Y→Calls Tryz.prog 10 #[.slice a2 rs.length cp2,yv] W (BoolB W (Bd.has (Y.map (Cn.vget rs 4))))):=fun W hW yv Y hY=>refHas17 a2 rs.length cp2 W (rbidiC17 (R2.below hW) h6) hY
  have RRUL:Hid (∀ W,Below w1.heap.size w1 W→∀ yv Y,Sk .i32 W yv Y→Y.length≤1000→Calls Tryz.prog 12 #[.slice a2 rs.length cp2,yv] W (IntB W (Bd.rules (Y.map (Cn.vget rs 4))))):=fun W hW yv Y hY hl=>refRules17 a2 rs.length cp2 W (rbidiC17 (R2.below hW) h6) (fun c=>vget_fit17 h6 c) hY (by omega)
  have RDOM:Hid (∀ W,Below w1.heap.size w1 W→∀ yv Ys,Rws17 W yv Ys→Calls Tryz.prog 14 #[.slice a2 rs.length cp2,yv] W (BoolB W (Bd.dom (Cn.vget rs 4) Ys))):=fun W hW yv Ys hY=>refDomain17 a2 rs.length cp2 W (rbidiC17 (R2.below hW) h6) hY
  have HX1:=Hd ((Uh HX).below (Uh HB1))
  clear hD r2 p2 R2 h6 h0 HX HG HFIT
  generalize Cn.vget rs 4=bd at *
  go_wp2
  go_loopw [8,9,10] (fun yv iv _ wr=>∃ (k:Nat) (ps:List (List Int × Value)),iv=.int .i64 (k:Int)∧k≤20∧k≤Ls.length∧ps.length=k∧(∀ q∈ps,q.1.length≤60)∧Own17 wr w1.heap.size yv ps∧Below w1.heap.size w1 wr) (fun _ iv _ _=>20 - (intOf iv).toNat)
  case atStart=>exact ⟨0,[],rfl,by omega,by omega,rfl,fun q hq=>(by cases hq),⟨World.ownsRow_nil _ _ _ _,fun q hq=>(by cases hq)⟩,Below.refl _ _⟩
  case round =>
   obtain ⟨k,ps,rfl,hk20,hkl,hpl,hps,hown,hbr⟩:=hrel
   have HBR:=Hd hbr
   have HPS:=Hd hps
   have HPL:=Hd hpl
   by_cases hlt:k<Ls.length∧k<20
   ·obtain ⟨hk1,hk2⟩:=hlt
    have hL1:(k:Int)<Ls.length:=by omega
    have hL2:(k:Int)<20:=by omega
    have hat:=((Uh HX1).below hbr).at hk1
    obtain ⟨b,off,lx,hxo,x4,hlsk⟩:=hat
    subst hxo
    have K3:=Hd (few_any17 _ _ 60 wr hlsk (by omega))
    obtain ⟨la,lc,hlx,_,_⟩:=hlsk.shape
    subst hlx
    have hXl:((Ls.getD k []).take 60).length≤60:=List.length_take_le _ _
    have HOWN:=Hd hown
    clear hps hpl hown hbr hlsk
    generalize (Ls.getD k []).take 60=X at *
    generalize (Ls.getD k []).length=ll at *
    go_wp2_with fail
    refine (Uh K3).mono ?_
    rintro e2 w2 ⟨v3,rfl,ok2,b2⟩
    obtain ⟨a3,c3,hv3,_,_⟩:=ok2.sk.shape
    subst hv3
    have HB2:=Hd (bthen (Uh HBR) b2)
    have HO2:=Hd (ok2.lower (Uh HBR).size)
    have HW2:=Hd ((Uh HOWN).below b2)
    have C1:=Hd ((Uh HHAS) w2 (Uh HB2) _ _ ok2.sk (by omega))
    clear K3 ok2 b2 HOWN HBR x4
    obtain ⟨hb,hhb⟩:∃ hb,Bd.has (X.map bd)=hb:=⟨_,rfl⟩
    rw [hhb] at C1
    go_wp2_with fail
    refine (Uh C1).mono ?_
    rintro e3 w3 ⟨rfl,b3⟩
    have HB3:=Hd (bthen (Uh HB2) b3)
    have HO3:=Hd ((Uh HO2).below b3)
    have HW3:=Hd ((Uh HW2).below b3)
    have C2:=Hd ((Uh RHAS) w3 (Uh HB3) _ _ (Uh HO3).sk)
    rw [hhb] at C2
    clear C1 b3 HB2 HO2 HW2 hhb
    have hbb:(hb != hb)=false:=by simp
    go_wp2_with fail
    refine (Uh C2).mono ?_
    rintro e4 w4 ⟨rfl,b4⟩
    have HB4:=Hd (bthen (Uh HB3) b4)
    have HO4:=Hd ((Uh HO3).below b4)
    have HW4:=Hd ((Uh HW3).below b4)
    have C3:=Hd ((Uh HRUL) w4 (Uh HB4) _ _ (Uh HO4).sk (by omega))
    clear C2 b4 HB3 HO3 HW3
    obtain ⟨R,hR⟩:∃ R,Bd.rules (X.map bd)=R:=⟨_,rfl⟩
    rw [hR] at C3
    go_wp2_with fail
    refine (Uh C3).mono ?_
    rintro e5 w5 ⟨rfl,b5⟩
    have HB5:=Hd (bthen (Uh HB4) b5)
    have HO5:=Hd ((Uh HO4).below b5)
    have HW5:=Hd ((Uh HW4).below b5)
    have C4:=Hd ((Uh RRUL) w5 (Uh HB5) _ _ (Uh HO5).sk (by omega))
    rw [hR] at C4
    clear C3 b5 HB4 HO4 HW4 hR
    have hRR:(R != R)=false:=by simp
    go_wp2_with fail
    refine (Uh C4).mono ?_
    rintro e6 w6 ⟨rfl,b6⟩
    have HB6:=Hd (bthen (Uh HB5) b6)
    have HO6:=Hd ((Uh HO5).below b6)
    have HW6:=Hd ((Uh HW5).below b6)
    have hs6:=(Uh HB6).size
    have hpk:=Uh HPL
    have HROW:Hid (∀ o,(w6.alloc o).ownsRow w1.heap.size 29 1 u8 ps.length (ps.map (·.2))):=fun o=>(Uh HW6).1.alloc o
    have hpk20:ps.length≤20:=by omega
    have HNEW:Hid (∀ j u,([Value.slice a3 X.length c3]:List Value)[j]?=some u→(w6.alloc (.cells #[.slice a3 X.length c3] 29)).cell? ((⟨w6.heap.size,0,none⟩:Addr).add j)=some u):=fun j u hu=>by
     have hh:(w6.alloc (.cells #[.slice a3 X.length c3] 29)).heap[w6.heap.size]?=some (.cells #[.slice a3 X.length c3] 29 (0,0)):=by
      show (w6.heap.push _)[w6.heap.size]?=_
      simp
     have hj:j=0:=by
      rcases Nat.eq_zero_or_pos j with h | h
      ·exact h
      ·rw [List.getElem?_eq_none (by simp; omega)] at hu; cases hu
     subst hj
     rw [addr_add,Nat.zero_add,cell_of (j:=0) hh (by show 0<1; omega)]
     exact hu
    clear C4 b6 HB5 HO5 HW5 hpk
    go_wp2_with (at_builtin; refine wpList_append_own _ rfl (.tmp 55) (.tmp 57) 23 rfl w1.heap.size 29 i0 (.slice none 0 0) 1 24 Tryz.underlying23 hi hz0 hz1 hz2 rfl (by decide) _ _ _ rfl ((Uh HROW) _) ⟨w6.heap.size,0,none⟩ 1 1 [.slice a3 X.length c3] rfl rfl (Uh HNEW) (fun u hu=>by simp at hu; subst hu; rfl) (by unfold maxLen; omega) (by omega) (by rw [alloc_size15]; omega) ?_)
    intro v7 w7 hrow7 hg7 _
    have hO6a:Ok .i32 21 (w6.alloc (.cells #[.slice a3 X.length c3] 29)) w1.heap.size (.slice a3 X.length c3) X:=ok_alloc15 (Uh HO6) _
    have hW6a:Own17 (w6.alloc (.cells #[.slice a3 X.length c3] 29)) w1.heap.size u8 ps:=(Uh HW6).below ((Below.refl _ _).alloc (Nat.le_refl _) _)
    have HW7:=Hd (hW6a.more (q:=(X,.slice a3 X.length c3)) hO6a hrow7 hg7)
    have HB7:=Hd (((Uh HB6).alloc hs6 _).grown hg7 (by rw [alloc_size15]; omega) (fun g hgg=>((Uh HW6).1.lt g hgg).1))
    have HPS7:Hid (∀ q∈ps++[(X,Value.slice a3 X.length c3)],q.1.length≤60):=fun q hq=>by
     rcases List.mem_append.1 hq with hq | hq
     ·exact (Uh HPS) q hq
     ·simp at hq; subst hq; exact hXl
    have HPL7:Hid ((ps++[(X,Value.slice a3 X.length c3)]).length=k+1):=by
     show (ps++[(X,Value.slice a3 X.length c3)]).length=k+1
     rw [List.length_append,Uh HPL]; rfl
    obtain ⟨g7,cp7,hv7⟩:∃ g cap,v7=.slice (some ⟨g,0,none⟩) (ps.length+1) cap:=by
     rcases hrow7.2 with ⟨_,h0⟩ | ⟨g,cap,cur,e,_⟩
     ·omega
     ·exact ⟨g,cap,e⟩
    subst hv7
    clear hrow7 hg7 hO6a hW6a HROW HNEW HW6 HO6 HB6 HPS HPL
    go_wp2
    go_roundw
    case rel=>exact ⟨k+1,_,by go_num,by omega,by omega,Uh HPL7,Uh HPS7,Uh HW7,Uh HB7⟩
    case measure=>simp [intOf]; omega
   ·have hrws:=hown.rws (by omega)
    have HRW:=Hd hrws
    have HSM:Hid (∀ Y∈ps.map (·.1),Y.length≤1000):=fun Y hY=>by
     obtain ⟨q,hq,rfl⟩:=List.mem_map.1 hY
     have:=hps q hq; omega
    obtain ⟨ya,yc,hyv,_,_⟩:=hrws.shape
    have hway:¬ ((k:Int)<Ls.length)∨((k:Int)<Ls.length∧¬ ((k:Int)<20)):=by omega
    clear hown hrws hps hpl hlt HX1 HHAS HRUL RHAS RRUL HPS HPL hbr
    generalize ps.map (·.1)=Ys at *
    subst hyv
    have C1:=Hd ((Uh HDOM) wr (Uh HBR) _ _ (Uh HRW) (Uh HSM))
    obtain ⟨db,hdb⟩:∃ db,Bd.dom bd Ys=db:=⟨_,rfl⟩
    rw [hdb] at C1
    rcases hway with q1 | ⟨q1,q2⟩
    all_goals
     go_wp2_with fail
     refine (Uh C1).mono ?_
     rintro e3 w3 ⟨rfl,b3⟩
     have HB3:=Hd (bthen (Uh HBR) b3)
     have HR3:=Hd ((Uh HRW).below b3)
     have C2:=Hd ((Uh RDOM) w3 (Uh HB3) _ _ (Uh HR3))
     rw [hdb] at C2
     clear C1 b3 HRW hdb
     have hdd:(db==db)=true:=by simp
     go_wp2_with fail
     refine (Uh C2).mono ?_
     rintro e4 w4 ⟨rfl,b4⟩
     have HB4:=Hd (bthen (Uh HB3) b4)
     have C3:=Hd (hDomN w4 _ _ ((Uh HR3).below b4))
     clear C2 b4 HR3
     go_wp2_with fail
     refine (Uh C3).mono ?_
     rintro e5 w5 ⟨rfl,b5⟩
     have HB5:=Hd (bthen (Uh HB1) (bthen (Uh HB4) b5))
     clear C3 b5
     go_wp2
     go_ret
     exact ⟨rfl,Uh HB5⟩
open Ti
namespace Cn
theorem right_bidi {r:Rec} (h:right r=0) (hk:r.kind=9):0≤r.n∧r.n≤10:=by
 have hf:=right_kind h
 unfold right at h
 rw [if_neg hf,if_neg (by omega)] at h
 have hc:=if_zero h
 rw [Bool.and_eq_true] at hc
 have h2:=hc.2
 rw [if_neg (by omega),if_neg (by omega),if_neg (by omega),if_neg (by omega),if_neg (by omega),if_neg (by omega),if_neg (by omega),if_neg (by omega),if_pos hk] at h2
 simp only [Bool.and_eq_true] at h2
 exact of_decide_eq_true h2.2
theorem fam_four {k:Int} (h:fam k=4):k=9:=by
 unfold fam at h
 split at h
 ·omega
 ·split at h
  ·omega
  ·split at h
   ·omega
   ·split at h <;> omega
theorem vget_bidi {rs:List Rec} (h6:(check6 rs).2=0) (c:Int):0≤vget rs 4 c∧vget rs 4 c≤10:=by
 unfold vget
 cases he:hit rs 4 c with
 | none=>exact ⟨by decide,by decide⟩
 | some r =>
  have hm:=(hit_iff h6 (by decide) r).1 he
  have hk:=fam_four hm.2.1
  have hv:=right_bidi ((check6_iff.1 h6).2.1 r hm.1) hk
  show 0≤value r∧value r≤10
  unfold value
  rw [if_neg (by omega),if_neg (by omega),if_neg (by omega),if_neg (by omega),if_neg (by omega)]
  exact hv
end Cn
theorem pbd17 {B p:Nat} {rs:List Rec} {w:World} (hD:DataAt w B p rs) (h6:(Cn.check6 rs).2=0):PBd17 p (Cn.vget rs 4) w:=⟨Cn.vget_bidi h6,fun c hc W hW=>(bidi_any9 c W (hD.below hW) h6 hc).mono fun _ _ h=>⟨h.1,drewB h.2⟩⟩
theorem hasC:HasC17:=fun _ _ _ _ _ _ hD h6 hx _=>hasP17 (pbd17 hD h6) hx
theorem rulC:RulC17:=fun _ _ _ _ _ _ hD h6 hx _=>rulP17 (pbd17 hD h6) hx
theorem domC:DomC17:=fun _ _ _ _ _ _ hD h6 hx _=>domP17 hx fun _ _ _ hW hs=>hasP17 ((pbd17 hD h6).on hW) hs
theorem domN:DomN17:=fun w lv Xs hx=>by
 have h:=domP17 (pv:=none) (p:=fun _=>false) hx fun W xv X _ hs=>hasN17 W xv X hs
 have e:(Xs.any fun _=>false)=false:=by simp
 rw [e] at h
 exact h
theorem toldC:ToldC17:=told_any17 hasC rulC hasN17 rulN17
open Go.RowKit Go.ChangeShapes Go.WideShapes Go.Deep
theorem bulkAll_lits17 {H:Type} (k:IntKind) (zs:List Int):Rows.uptoBulkAll (lits (H:=H) k zs)=zs.length:=by
 induction zs with
 | nil=>rfl
 | cons z zs ih =>
  have e:lits (H:=H) k (z :: zs)=.lit (.int k z) :: lits k zs:=rfl
  rw [e,Rows.uptoBulkAll,ih]
  simp [Rows.uptoBulk]; omega
theorem bulk_intRow17 {H:Type} (k:IntKind) (A:Option Addr) (L:Nat) (zs:List Int) (h:A=none→zs=[]):(zs.take L).length+1≤Rows.uptoBulk (intRow (H:=H) k A L zs):=by
 cases A with
 | none=>rw [h rfl]; simp [intRow,Rows.uptoBulk]
 | some a =>
  simp only [intRow,Rows.uptoBulk,bulkAll_lits17]
  omega
theorem bulk_row17 {H:Type} {α:Type} (f:α→DataW H) (l:List α):∀ x∈l,Rows.uptoBulk (f x)≤Rows.uptoBulkAll (l.map f):=by
 induction l with
 | nil=>intro x hx; cases hx
 | cons y l ih =>
  intro x hx
  simp only [List.map_cons,Rows.uptoBulkAll]
  rcases List.mem_cons.1 hx with rfl | hx
  ·omega
  ·have:=ih x hx; omega
theorem bulk_len17 {H:Type} {α:Type} (f:α→DataW H) (l:List α) (h:∀ x∈l,1≤Rows.uptoBulk (f x)):l.length≤Rows.uptoBulkAll (l.map f):=by
 induction l with
 | nil=>simp
 | cons y l ih =>
  have h1:=h y (List.mem_cons_self)
  have h2:=ih fun x hx=>h x (List.mem_cons_of_mem _ hx)
  simp only [List.map_cons,Rows.uptoBulkAll,List.length_cons]
  omega
theorem rows_open17 {H:Type} {enc:TypeId × Value→H} {P:Program} {W:World} {base:Nat} {held:Bool} {t e q:TypeId} {a:Option Addr} {len cap:Nat} {d:DataW H} {p:List MemPlace} (ht:P.underlying t=some (.slice e)) (he:P.underlying e=some (.slice q)) (hq:P.underlying q=some (.int .i32)) (ce:P.cellsOf e=1) (cq:P.cellsOf q=1)
  (h:DataW.Trod enc P W base (fun _=>true) held t (.slice a len cap) d p) (hb:Rows.uptoBulk d≤1048576):∃ Xs,Rws17 W (.slice a len cap) Xs∧∀ X∈Xs,X.length≤1048576:=by
 obtain ⟨fuel,hf⟩:=h
 rcases open_int_rows ht he hq ce cq hf with ⟨hcs,_⟩ | ⟨x,l,c,A,L,C,Z,hcs,_,hl,hm,hx,hcell⟩
 ·simp [Value.cells] at hcs
  obtain ⟨rfl,rfl,rfl⟩:=hcs
  exact ⟨[],⟨by simp,.inl ⟨rfl,none,0,rfl,by omega⟩⟩,fun X hX=>by cases hX⟩
 ·simp [Value.cells] at hcs
  obtain ⟨rfl,rfl,rfl⟩:=hcs
  simp only [Prod.mk.injEq] at hx
  have hnone:∀ r,r<cap→A r=none→Z r=[]:=fun r hr hn=>List.eq_nil_of_length_eq_zero (by rw [(hcell r hr).2.2.2.1]; exact (hcell r hr).2.2.2.2.2.1 hn)
  have hall:Rows.uptoBulkAll ((List.range len).map fun r=>intRow (H:=H) .i32 (A r) (L r) (Z r))≤Rows.uptoBulk d:=by
   rw [hx.1,Rows.uptoBulk]; omega
  have hone:∀ r∈List.range len,((Z r).take (L r)).length+1≤Rows.uptoBulk (intRow (H:=H) .i32 (A r) (L r) (Z r)):=fun r hr=>bulk_intRow17 _ _ _ _ (hnone r (by have:=List.mem_range.1 hr; omega))
  have hlen:len≤1048576:=by
   have:=bulk_len17 (fun r=>intRow (H:=H) .i32 (A r) (L r) (Z r)) (List.range len) fun r hr=>Nat.le_trans (by omega) (hone r hr)
   rw [List.length_range] at this
   omega
  have hrow:∀ r,r<len→((Z r).take (L r)).length≤1048576:=fun r hr=>by
   have h1:=hone r (List.mem_range.2 hr)
   have h2:=bulk_row17 (fun r=>intRow (H:=H) .i32 (A r) (L r) (Z r)) (List.range len) r (List.mem_range.2 hr)
   omega
  have hrl:∀ r,r<len→L r≤1048576:=fun r hr=>by
   have h4:((Z r).take (L r)).length=L r:=by
    have:=hcell r (by omega)
    rw [List.length_take,this.2.2.2.1]; omega
   have:=hrow r hr
   omega
  unfold maxLen at hm
  refine ⟨(List.range len).map fun r=>(Z r).take (L r),⟨by simp; omega,?_⟩,fun X hX=>?_⟩
  ·rcases Nat.eq_zero_or_pos len with h0 | h0
   ·subst h0
    exact .inl ⟨rfl,some x,cap,rfl,by omega⟩
   ·have hx0:=(hcell 0 (by omega)).1
    have hx1:x.add 0=x:=by simp [Addr.add]
    rw [hx1] at hx0
    have hp:=plain_of_cell hx0
    generalize x.block=b at *
    generalize x.off=o at *
    subst hp
    refine .inr ⟨b,o,cap,by simp,by simp; omega,by omega,fun i hi=>?_⟩
    simp only [List.length_map,List.length_range] at hi
    have hc:=hcell i (by omega)
    have e2:((List.range len).map fun r=>(Z r).take (L r)).getD i []=(Z i).take (L i):=by simp [List.getD,hi]
    refine ⟨.slice (A i) (L i) (C i),by rw [← addr_add,hc.1],?_⟩
    rw [e2]
    have hli:=hrl i hi
    cases hA:A i with
    | none =>
     have hc0:=hc.2.2.2.2.2.1 hA
     have hl0:L i=0:=by have:=hc.2.1; omega
     rw [hl0,hc0,List.take_zero]
     exact Sk.nil _ _
    | some y =>
     refine sk_of_row (.inr ⟨y,rfl,hc.2.1,hc.2.2.1,hc.2.2.2.1,fun j hj=>?_,hc.2.2.2.2.1⟩) (by omega)
     exact (hc.2.2.2.2.2.2 y hA).2 j (by rw [← hc.2.2.2.1]; exact hj)
  ·obtain ⟨r,hr,rfl⟩:=List.mem_map.1 hX
   exact hrow r (List.mem_range.1 hr)
end Go.Proofs.YtdjpjgjhiibpkaaGreatDoor
