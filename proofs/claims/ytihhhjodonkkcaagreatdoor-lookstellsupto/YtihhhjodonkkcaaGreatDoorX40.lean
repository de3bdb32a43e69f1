/- Of12 Og12 -/
import Derived.Test.YtihhhjodonkkcaaGreatDoorX37
import Derived.Deep.CutBlock
import Derived.Deep.DeepCutAuto
namespace Go.Proofs.YtihhhjodonkkcaaGreatDoor
open Go.RowKit
set_option maxRecDepth 8000 in
set_option maxHeartbeats 4000000 in
theorem refOpenAll12 {rs:List Rec} (tv v:Value) (xs:List Int) (w:World) (ht:Rcs w tv rs) (hk:(Cn.check rs).2=0) (hx:Sk .i32 w v xs) (hxl:xs.length≤65536):Calls Tryz.prog 53 #[tv,v] w (RunesNew w (Cn.openAll rs xs)):=by
 obtain ⟨ta,tcp,hte,_,_⟩:=ht.shape
 obtain ⟨i0,hi,hz0,hz1,hz2⟩:=info_parts infoR9
 have HX:=Hd hx
 obtain ⟨vo,vc,hve,hv1,hv2⟩:=hx.shape
 subst hve
 have HF:Hid (∀ c W,Rune c→Below w.heap.size w W→Calls Tryz.prog 85 #[tv,.int .i32 c] W (RunesNew W (Cn.full rs c).1)):=fun c W hc hW=>refFull12 tv rs c W (ht.below hW) hc
 have HSN:=fun k (h:k<xs.length)=>Hd (Cn.openAll_snoc rs xs h)
 have HLN:=fun k=>Hd (Cn.openAll_len hk (xs.take k))
 have HFL:=fun c=>Hd (Cn.leaves hk c).2.2.1
 have HF0:=fun c=>Hd (Cn.leaves hk c).2.1
 have HEND:Hid (Cn.openAll rs (xs.take xs.length)=Cn.openAll rs xs):=by grind
 subst hte
 go_enter Tryz.func53,Tryz.ntmps53
 go_wp2
 go_loopw [5,6] (fun yy ii wr=>∃ k:Nat,ii=.int .i64 k∧k≤xs.length∧Ok .i32 21 wr w.heap.size yy (Cn.openAll rs (xs.take k))∧Below w.heap.size w wr) (fun _ ii _=>xs.length - (intOf ii).toNat)
 case atStart=>exact ⟨0,rfl,by omega,Ok.nil _ _ _ _,Below.refl _ _⟩
 case round =>
  obtain ⟨k,rfl,hkl,hok,hb⟩:=hrel
  by_cases hlt:k<xs.length
  ·obtain ⟨bx,ox,cqx,hex,_,_,hclx⟩:=(Uh HX).place (by omega)
   simp only [Value.slice.injEq] at hex
   obtain ⟨rfl,h9,rfl⟩:=hex
   have hcell:wr.cell? ⟨bx,ox+k,none⟩=some (.int .i32 (xs.getD k 0)):=by
    have h3:=hclx k hlt
    rw [hb.cell (lt_of_cell? h3)]; exact h3
   have hrn:Rune (xs.getD k 0):=by
    have:=(Uh HX).1 (xs.getD k 0) (by simp [List.getD,hlt])
    exact ⟨this.1,this.2⟩
   have KF:=Hd ((Uh HF) (xs.getD k 0) wr hrn hb)
   have HNX:=Hd (Uh (HSN k hlt))
   have hln:=Uh (HLN k)
   rw [List.length_take] at hln
   have hfl:=Uh (HFL (xs.getD k 0))
   have hf0:=Uh (HF0 (xs.getD k 0))
   have hbs:=hb.size
   have HB:=Hd hb
   have HOK:=Hd hok
   obtain ⟨yo,yc,hye,_,_⟩:=hok.sk.shape
   subst hye
   generalize hzs:Cn.openAll rs (xs.take k)=zs at *
   generalize hfs:(Cn.full rs (xs.getD k 0)).1=fs at *
   generalize xs.getD k 0=c at *
   have hzl:zs.length≤2097152:=by omega
   go_wp2_with fail
   refine (Uh KF).mono ?_
   rintro e1 w1 ⟨v1,rfl,ok1,b1⟩
   obtain ⟨fb,fo,fc,hfe,_,_,hfc⟩:=ok1.sk.place hf0
   subst hfe
   have hcells:∀ j u,(fs.map (Value.int .i32))[j]?=some u→w1.cell? ((⟨fb,fo,none⟩:Addr).add j)=some u:=by
    intro j u hu
    obtain ⟨hj,hu⟩:=List.getElem?_eq_some_iff.1 hu
    rw [List.length_map] at hj
    rw [addr_add,hfc j hj,← hu]
    simp [List.getD,hj]
   have hrow:w1.ownsRow w.heap.size 21 1 (.slice yo zs.length yc) zs.length (zs.map (Value.int .i32)):=by
    have:=((Uh HOK).below b1).row
    simpa using this
   have hs1:=b1.size
   have HROW:=Hd hrow
   have HCELLS:=Hd hcells
   have HFZ:=Hd (Uh HOK).1
   have HFF:=Hd ok1.1
   have HB1:=Hd (bthen (Uh HB) b1)
   go_wp2_with (at_builtin; refine wpList_append_own _ rfl (.tmp 13) (.tmp 19) 23 rfl w.heap.size 21 i0 (.int .i32 0) 1 4 Tryz.underlying23 hi hz0 hz1 hz2 rfl (by decide) _ _ _ rfl (Uh HROW) ⟨fb,fo,none⟩ fs.length fc (fs.map (Value.int .i32)) rfl (by simp) (Uh HCELLS) (fun u hu=>by obtain ⟨z,_,rfl⟩:=List.mem_map.1 hu; rfl) (by unfold maxLen; omega) (by omega) (by omega) ?_)
   intro v2 w2 hrow2 hg2 _
   have hok2:Ok .i32 21 w2 w.heap.size v2 (zs++fs):=by
    refine Ok.of (n:=zs.length+fs.length) (us:=zs.map (Value.int .i32)++fs.map (Value.int .i32)) (fun z hz=>?_) (by simp; omega) hrow2 (by simp) (by simp)
    rcases List.mem_append.1 hz with hz | hz
    ·exact (Uh HFZ) z hz
    ·exact (Uh HFF) z hz
   have hb2:Below w.heap.size w w2:=(Uh HB1).grown hg2 (by omega) (fun j hj=>((Uh HROW).lt j hj).1)
   have HO2:=Hd hok2
   have HB2:=Hd hb2
   go_wp2
   go_roundw
   case rel=>exact ⟨k+1,by go_num,by omega,by rw [Uh HNX]; exact Uh HO2,Uh HB2⟩
   case measure=>simp [intOf]; omega
  ·obtain rfl:k=xs.length:=by omega
   rw [Uh HEND] at hok
   have HFN:Hid (RunesNew w (Cn.openAll rs xs) (.returned u5) wr):=⟨u5,rfl,hok,hb⟩
   obtain ⟨yo,yl,yc,hye⟩:∃ yo yl yc,u5=.slice yo yl yc:=by
    obtain ⟨yo,yc,e,_,_⟩:=hok.sk.shape
    exact ⟨yo,_,yc,e⟩
   subst hye
   go_wp2
   go_ret
   exact Uh HFN
namespace Cn
end Cn
namespace Cn
def innerD (rs:List Rec):Nat→List Int→List Int
 | 0,l=>l
 | k+1,l=>if cls rs (l.getD (k+1) 0)≠0∧cls rs (l.getD (k+1) 0)<cls rs (l.getD k 0) then innerD rs k ((l.set (k+1) (l.getD k 0)).set k (l.getD (k+1) 0)) else l
def outerD (rs:List Rec):Nat→Nat→List Int→List Int
 | 0,_,l=>l
 | f+1,i,l=>outerD rs f (i+1) (innerD rs i l)
def docSort (rs:List Rec) (xs:List Int):List Int:=outerD rs (xs.length - 1) 1 xs
theorem innerD_len (rs:List Rec):∀ (k:Nat) (l:List Int),(innerD rs k l).length=l.length
 | 0,_=>rfl
 | k+1,l=>by
  rw [innerD]
  split
  ·rw [innerD_len rs k]; simp
  ·rfl
end Cn
set_option maxRecDepth 8000 in
set_option maxHeartbeats 8000000 in
theorem refSort12 {rs:List Rec} (tv v:Value) (xs:List Int) (w:World) (ht:Rcs w tv rs) (h6:(Cn.check6 rs).2=0) (hx:Sk .i32 w v xs) (hxl:xs.length≤3000000):Calls Tryz.prog 52 #[tv,v] w (RunesNew w (Cn.docSort rs xs)):=by
 obtain ⟨i0,hi,hz0,hz1,hz2⟩:=info_parts infoR9
 obtain ⟨ta,tcp,hte,_,_⟩:=ht.shape
 have HC:Hid (∀ c W,Rune c→Below w.heap.size w W→Calls Tryz.prog 84 #[tv,.int .i32 c] W (IntB W (Cn.cls rs c))):=fun c W hc hW=>refClass9 tv rs c W (ht.below hW) hc
 have HR:Hid (∀ c,0≤Cn.cls rs c∧Cn.cls rs c≤254):=fun c=>Cn.cls_range h6 c
 subst hte
 obtain ⟨res,hres⟩:∃ r,Cn.docSort rs xs=r:=⟨_,rfl⟩
 rw [hres]
 have HRES:=Hd hres
 have HFX:=Hd hx.1
 clear ht h6 hres
 rcases hx.2.src with ⟨hnil0,hve⟩ | ⟨ad,vcap,hve,hcells⟩
 ·subst hve
  have hnil:xs=[]:=by simpa using hnil0
  have HF:Hid (RunesNew w res (.returned (.slice none 0 0)) w):=by
   have h:=Uh HRES
   rw [hnil] at h
   rw [← h]
   exact ⟨_,rfl,Ok.nil _ _ _ _,Below.refl _ _⟩
  clear hx hnil0 hnil HRES HC
  go_enter Tryz.func52,Tryz.ntmps52
  go_wp2_with (at_builtin; refine wpList_append_own_none rfl (.tmp 9) (.tmp 10) 23 rfl w.heap.size 21 i0 1 Tryz.underlying23 hi _ _ _ rfl (World.ownsRow_nil _ _ _ _) rfl ?_)
  go_wp2
  refine wp_loop_rounds 1 ?_
  rw [rounds_succ]
  go_wp2
  go_ret
  exact Uh HF
 ·have hml:(xs.map (Value.int .i32)).length=xs.length:=List.length_map _
  rw [hml] at hve
  subst hve
  have HCL:=Hd hcells
  clear hx hcells hml
  go_enter Tryz.func52,Tryz.ntmps52
  go_wp2_with (at_builtin; refine wpList_append_own _ rfl (.tmp 9) (.tmp 10) 23 rfl w.heap.size 21 i0 (.int .i32 0) 1 4 Tryz.underlying23 hi hz0 hz1 hz2 rfl (by decide) _ _ _ rfl (World.ownsRow_nil _ _ _ _) ad xs.length vcap (xs.map (Value.int .i32)) rfl (by simp) (Uh HCL) (fun u hu=>by obtain ⟨z,_,rfl⟩:=List.mem_map.1 hu; rfl) (by unfold maxLen; omega) (by omega) (by omega) ?_)
  intro v1 w1 hrow1 hg1 _
  have hok1:Ok .i32 21 w1 w.heap.size v1 xs:=Ok.of (Uh HFX) (by omega) hrow1 (by simp) (by simp)
  have hb1:Below w.heap.size w w1:=(Below.refl _ _).grown hg1 (Nat.le_refl _) (fun k hk=>by cases hk)
  rcases Nat.eq_zero_or_pos xs.length with hn0 | hn0
  ·obtain ⟨yo,yl,yc,hye⟩:∃ yo yl yc,v1=.slice yo yl yc:=by
    obtain ⟨yo,yc,e,_,_⟩:=hok1.sk.shape
    exact ⟨yo,_,yc,e⟩
   have hyl:yl=0:=by
    obtain ⟨yo',yc',e,_,_⟩:=hok1.sk.shape
    rw [hye] at e
    simp only [Value.slice.injEq] at e
    omega
   subst hye hyl
   have HF:Hid (RunesNew w res (.returned (.slice yo 0 yc)) w1):=by
    have h:=Uh HRES
    rw [List.eq_nil_of_length_eq_zero hn0] at h hok1
    rw [← h]
    exact ⟨_,rfl,hok1,hb1⟩
   clear hrow1 hg1 hok1 hb1 HRES HC HCL
   go_wp2
   refine wp_loop_rounds 1 ?_
   rw [rounds_succ]
   go_wp2
   go_ret
   exact Uh HF
  ·obtain ⟨g,cap,hve,hcap1,hcap2⟩:∃ g cap,v1=.slice (some ⟨g,0,none⟩) xs.length cap∧xs.length≤cap∧cap≤9223372036854775807:=by
    rcases hok1.row.2 with ⟨_,h0⟩ | ⟨g,cap,cur,e,_,_,hn,hc,_⟩
    ·exact absurd (by simpa using h0:xs=[]) (fun e=>by rw [e] at hn0; simp at hn0)
    ·exact ⟨g,cap,by simpa using e,by simpa using hn,by unfold maxLen at hc; omega⟩
   subst hve
   have hgw:w.heap.size≤g:=(hok1.row.lt g rfl).1
   obtain ⟨n,hn⟩:∃ n,xs.length=n:=⟨_,rfl⟩
   have HO1:=Hd hok1
   have HB1:=Hd hb1
   have HN:=Hd hn
   rw [hn] at hn0 hcap1 hxl HO1 ⊢
   clear hrow1 hg1 hok1 hb1 hn HCL
   go_wp2
   go_loopw [6,7,8] (fun ii _ _ wr=>∃ (i:Nat) (l:List Int),ii=.int .i64 i∧1≤i∧i≤n∧l.length=n∧Cn.outerD rs (n - i) i l=res∧Ok .i32 21 wr w.heap.size (.slice (some ⟨g,0,none⟩) n cap) l∧Below w.heap.size w wr) (fun ii _ _ _=>n - (intOf ii).toNat)
   case atStart=>exact ⟨1,xs,rfl,by omega,by omega,Uh HN,by have h:=Uh HRES; unfold Cn.docSort at h; rw [Uh HN] at h; exact h,Uh HO1,Uh HB1⟩
   case round =>
    clear HO1 HB1 HRES
    obtain ⟨i,l,rfl,hi1,hin,hll,hou,hok,hb⟩:=hrel
    obtain ⟨wo,hwo⟩:∃ wo,wo=wr:=⟨_,rfl⟩
    subst hwo
    by_cases hlt:i<n
    ·obtain ⟨R,hR⟩:∃ R,Cn.innerD rs i l=R:=⟨_,rfl⟩
     have hou2:Cn.outerD rs (n - (i+1)) (i+1) R=res:=by
      rw [← hou,show n - i=(n - (i+1))+1 by omega,Cn.outerD,hR]
     have hRl:R.length=n:=by rw [← hR,Cn.innerD_len]; exact hll
     have HOU:=Hd hou2
     have HRL:=Hd hRl
     have HOK:=Hd hok
     have HB:=Hd hb
     have HRR:=Hd hR
     have HLL:=Hd hll
     clear hou hou2 hRl hok hb hR hll
     go_upto_block 1 with fail
     go_cut [7,8] (fun _ _ wd=>Ok .i32 21 wd w.heap.size (.slice (some ⟨g,0,none⟩) n cap) R∧Below w.heap.size w wd)
     case first =>
      clear HOU HRL
      go_wp2
      go_loopw [7,8] (fun kk _ wr=>∃ (k:Nat) (m:List Int),kk=.int .i64 k∧k≤i∧m.length=n∧Cn.innerD rs k m=R∧Ok .i32 21 wr w.heap.size (.slice (some ⟨g,0,none⟩) n cap) m∧Below w.heap.size w wr) (fun kk _ _=>(intOf kk).toNat)
      case atStart=>exact ⟨i,l,rfl,Nat.le_refl _,Uh HLL,Uh HRR,Uh HOK,Uh HB⟩
      case round =>
       clear HOK HB HRR HLL
       obtain ⟨k,m,rfl,hki,hml,hin2,hok,hb⟩:=hrel
       have HOK:=Hd hok
       have HB:=Hd hb
       cases k with
       | zero =>
        have hR:m=R:=hin2
        subst hR
        clear hok hb
        go_wp2
        refine wp_region_held_drew (S:=fun w'=>wr.heap.size≤w'.heap.size) (by kernel_rfl) ((drewB ⟨1,rfl⟩:Below wr.heap.size wr wr.drew).size) (fun hHeld=>?_)
        refine tk9 0 (.int .i64 0) ?_
        refine tk9 1 (.bool false) ?_
        refine tk9 2 (.bool false) ?_
        refine tn9 3 ?_
        refine tn9 4 ?_
        refine tn9 5 ?_
        refine tn9 6 ?_
        refine tn9 7 ?_
        refine tn9 8 ?_
        refine tn9 9 ?_
        refine tk9 10 (.bool false) ?_
        refine tk9 11 (.bool false) ?_
        refine tn9 12 ?_
        refine tn9 13 ?_
        refine tn9 14 ?_
        refine tn9 15 ?_
        refine tn9 16 ?_
        refine tn9 17 ?_
        refine tn9 18 ?_
        refine tn9 19 ?_
        refine tn9 20 ?_
        refine tn9 21 ?_
        refine tn9 22 ?_
        refine tn9 23 ?_
        refine tn9 24 ?_
        refine tn9 25 ?_
        refine tk9 26 (.bool false) ?_
        refine wpAnyH_done (by kernel_rfl) ?_ _
        have hbd:Below wr.heap.size wr wr.drew:=drewB ⟨1,rfl⟩
        have HOK2:=Hd ((Uh HOK).below hbd)
        have HB2:=Hd (bthen (Uh HB) hbd)
        clear hbd hHeld HOK HB
        generalize wr.drew=w9 at *
        go_wp2
        go_meet
        case rel=>exact ⟨Uh HOK2,Uh HB2⟩
       | succ k =>
        rw [Cn.innerD] at hin2
        obtain ⟨bx,ox,cq,he,_,_,hcl⟩:=hok.sk.place (by omega)
        simp only [Value.slice.injEq,Option.some.injEq,Addr.mk.injEq] at he
        obtain ⟨⟨rfl,rfl,hx1⟩,hx2,rfl⟩:=he
        clear hx1 hx2
        have hc1:=hcl (k+1) (by omega)
        have hc0:=hcl k (by omega)
        rw [Nat.zero_add] at hc1 hc0
        have hf1:=hok.1 (m.getD (k+1) 0) (by simp [List.getD,show k+1<m.length by omega])
        have hf0:=hok.1 (m.getD k 0) (by simp [List.getD,show k<m.length by omega])
        have HS:Hid (∀ W,Below wr.heap.size wr W→W.cell? ⟨g,k+1,none⟩=some (.int .i32 (m.getD (k+1) 0))∧W.cell? ⟨g,k,none⟩=some (.int .i32 (m.getD k 0))):=fun W hW=>⟨by rw [hW.cell (lt_of_cell? hc1)]; exact hc1,by rw [hW.cell (lt_of_cell? hc0)]; exact hc0⟩
        have KC1:Hid (∀ W,Below wr.heap.size wr W→Calls Tryz.prog 84 #[.slice ta rs.length tcp,.int .i32 (m.getD (k+1) 0)] W (IntB W (Cn.cls rs (m.getD (k+1) 0)))):=fun W hW=>(Uh HC) _ W ⟨hf1.1,hf1.2⟩ (bthen hb hW)
        have KC0:Hid (∀ W,Below wr.heap.size wr W→Calls Tryz.prog 84 #[.slice ta rs.length tcp,.int .i32 (m.getD k 0)] W (IntB W (Cn.cls rs (m.getD k 0)))):=fun W hW=>(Uh HC) _ W ⟨hf0.1,hf0.2⟩ (bthen hb hW)
        have hq:=(Uh HR) (m.getD (k+1) 0)
        have hr:=(Uh HR) (m.getD k 0)
        obtain ⟨c1,hc1e⟩:∃ c,m.getD (k+1) 0=c:=⟨_,rfl⟩
        obtain ⟨c0,hc0e⟩:∃ c,m.getD k 0=c:=⟨_,rfl⟩
        rw [hc1e] at hin2 hc1 hf1 HS KC1 hq
        rw [hc0e] at hin2 hc0 hf0 HS KC0 hr
        have hgg:w.heap.size≤g:=hgw
        have HSW:Hid (∀ W,Below wr.heap.size wr W→W.frozen? ⟨g,k+1,none⟩=false∧(W.setCell ⟨g,k+1,none⟩ (.int .i32 c0)).frozen? ⟨g,k,none⟩=false∧(W.setCell ⟨g,k+1,none⟩ (.int .i32 c0)).cell? ⟨g,k,none⟩=some (.int .i32 c0)∧Ok .i32 21 ((W.setCell ⟨g,k+1,none⟩ (.int .i32 c0)).setCell ⟨g,k,none⟩ (.int .i32 c1)) w.heap.size (.slice (some ⟨g,0,none⟩) n cap) ((m.set (k+1) c0).set k c1)∧Below w.heap.size w ((W.setCell ⟨g,k+1,none⟩ (.int .i32 c0)).setCell ⟨g,k,none⟩ (.int .i32 c1))):=fun W hW=>by
         obtain ⟨o1,f1⟩:=(hok.below hW).setAt9 (k+1) c0 (fun z hz=>by rw [List.mem_singleton] at hz; rw [hz]; exact hf0)
         obtain ⟨o2,f2⟩:=o1.setAt9 k c1 (fun z hz=>by rw [List.mem_singleton] at hz; rw [hz]; exact hf1)
         have hcc:(W.setCell ⟨g,k+1,none⟩ (.int .i32 c0)).cell? ⟨g,k,none⟩=some (.int .i32 c0):=by
          obtain ⟨b3,o3,q3,e3,_,_,h3⟩:=o1.sk.place (by rw [List.length_set]; omega)
          simp only [Value.slice.injEq,Option.some.injEq,Addr.mk.injEq] at e3
          obtain ⟨⟨rfl,rfl,_⟩,_,_⟩:=e3
          have h4:=h3 k (by rw [List.length_set]; omega)
          rw [Nat.zero_add] at h4
          rw [h4,List.getD,List.getElem?_set_ne (by omega)]
          rw [← hc0e]; rfl
         exact ⟨f1,f2,hcc,o2,below_set (below_set (bthen hb hW) hgg _) hgg _⟩
        have hsl:((m.set (k+1) c0).set k c1).length=n:=by simp [hml]
        have HSL:=Hd hsl
        have HIN:=Hd hin2
        clear hin2 hcl hc1 hc0 hok hb hf1 hf0 hc1e hc0e hml hsl
        generalize Cn.cls rs c1=q at *
        generalize Cn.cls rs c0=r at *
        obtain ⟨hq0,hq1⟩:=hq
        obtain ⟨hr0,hr1⟩:=hr
        have hkw:IntKind.i64.wrap ((k:Int)+1 - 1)=(k:Int):=by rw [IntKind.wrap_i64]; omega
        by_cases hqz:q=0
        ·have hin:=Uh HIN
         rw [if_neg (fun h=>h.1 hqz)] at hin
         subst hin
         subst hqz
         clear HIN HSW HSL KC0
         go_wp2
         refine wp_region_held_drew (S:=fun w'=>(w'.cell? ⟨g,k+1,none⟩=some (.int .i32 c1)∧w'.cell? ⟨g,k,none⟩=some (.int .i32 c0))) (by kernel_rfl) ((Uh HS) _ (drewB ⟨1,rfl⟩)) (fun hHeld=>?_)
         refine tk9 0 (.int .i64 ((k:Int)+1)) ?_ (hy:=by (intro w hSw; obtain ⟨s1,s0⟩:=hSw; go_simp; try (first | done | omega)))
         refine tk9 1 (.bool true) ?_ (hy:=by (intro w hSw; obtain ⟨s1,s0⟩:=hSw; go_simp; try (first | done | omega)))
         refine tk9 2 (.bool true) ?_ (hy:=by (intro w hSw; obtain ⟨s1,s0⟩:=hSw; go_simp; try (first | done | omega)))
         refine tk9 3 (.slice ta rs.length tcp) ?_ (hy:=by (intro w hSw; obtain ⟨s1,s0⟩:=hSw; go_simp; try (first | done | omega)))
         refine tk9 4 (.slice (some ⟨g,0,none⟩) n cap) ?_ (hy:=by (intro w hSw; obtain ⟨s1,s0⟩:=hSw; go_simp; try (first | done | omega)))
         refine tk9 5 (.int .i64 ((k:Int)+1)) ?_ (hy:=by (intro w hSw; obtain ⟨s1,s0⟩:=hSw; go_simp; try (first | done | omega)))
         refine tk9 6 (.pointer (some ⟨g,k+1,none⟩)) ?_ (hy:=by (intro w hSw; obtain ⟨s1,s0⟩:=hSw; go_simp; try (first | done | omega)))
         refine tk9 7 (.int .i32 c1) ?_ (hy:=by (intro w hSw; obtain ⟨s1,s0⟩:=hSw; go_simp; try (first | done | omega)))
         refine rd9 8 fun K hK=>?_
         go_simp
         refine ((Uh KC1) _ (drewB ⟨1,rfl⟩)).mono ?_
         rintro e2 w2 ⟨rfl,hb2⟩
         have HB2:=Hd (bthen (drewB ⟨1,rfl⟩) hb2:Below wr.heap.size wr w2)
         clear hb2
         refine hK.out _ _ ?_ (fun hHeld=>?_)
         ·exact (Uh HS) _ (Uh HB2)
         clear hK K
         try simp only [Act.put,sa9,sb9,sc9]
         refine tk9 9 (.bool false) ?_ (hy:=by (intro w hSw; obtain ⟨s1,s0⟩:=hSw; go_simp))
         refine tk9 10 (.bool false) ?_ (hy:=by (intro w hSw; obtain ⟨s1,s0⟩:=hSw; go_simp))
         refine tk9 11 (.bool false) ?_ (hy:=by (intro w hSw; obtain ⟨s1,s0⟩:=hSw; go_simp))
         refine tn9 12 ?_
         refine tn9 13 ?_
         refine tn9 14 ?_
         refine tn9 15 ?_
         refine tn9 16 ?_
         refine tn9 17 ?_
         refine tn9 18 ?_
         refine tn9 19 ?_
         refine tn9 20 ?_
         refine tn9 21 ?_
         refine tn9 22 ?_
         refine tn9 23 ?_
         refine tn9 24 ?_
         refine tn9 25 ?_
         refine tk9 26 (.bool false) ?_ (hy:=by (intro w hSw; obtain ⟨s1,s0⟩:=hSw; go_simp))
         refine wpAnyH_done (by kernel_rfl) ?_ _
         have HOK2:=Hd ((Uh HOK).below (Uh HB2))
         have HBB:=Hd (bthen (Uh HB) (Uh HB2))
         clear hHeld HOK HB HB2 HS KC1
         go_wp2
         go_meet
         case rel=>exact ⟨Uh HOK2,Uh HBB⟩
        ·have hnz:(q != 0)=true:=bne_iff_ne.2 hqz
         go_wp2
         refine wp_region_held_drew (S:=fun w'=>(w'.cell? ⟨g,k+1,none⟩=some (.int .i32 c1)∧w'.cell? ⟨g,k,none⟩=some (.int .i32 c0))) (by kernel_rfl) ((Uh HS) _ (drewB ⟨1,rfl⟩)) (fun hHeld=>?_)
         refine tk9 0 (.int .i64 ((k:Int)+1)) ?_ (hy:=by (intro w hSw; obtain ⟨s1,s0⟩:=hSw; go_simp; try (first | done | omega)))
         refine tk9 1 (.bool true) ?_ (hy:=by (intro w hSw; obtain ⟨s1,s0⟩:=hSw; go_simp; try (first | done | omega)))
         refine tk9 2 (.bool true) ?_ (hy:=by (intro w hSw; obtain ⟨s1,s0⟩:=hSw; go_simp; try (first | done | omega)))
         refine tk9 3 (.slice ta rs.length tcp) ?_ (hy:=by (intro w hSw; obtain ⟨s1,s0⟩:=hSw; go_simp; try (first | done | omega)))
         refine tk9 4 (.slice (some ⟨g,0,none⟩) n cap) ?_ (hy:=by (intro w hSw; obtain ⟨s1,s0⟩:=hSw; go_simp; try (first | done | omega)))
         refine tk9 5 (.int .i64 ((k:Int)+1)) ?_ (hy:=by (intro w hSw; obtain ⟨s1,s0⟩:=hSw; go_simp; try (first | done | omega)))
         refine tk9 6 (.pointer (some ⟨g,k+1,none⟩)) ?_ (hy:=by (intro w hSw; obtain ⟨s1,s0⟩:=hSw; go_simp; try (first | done | omega)))
         refine tk9 7 (.int .i32 c1) ?_ (hy:=by (intro w hSw; obtain ⟨s1,s0⟩:=hSw; go_simp; try (first | done | omega)))
         refine rd9 8 fun K hK=>?_
         go_simp
         refine ((Uh KC1) _ (drewB ⟨1,rfl⟩)).mono ?_
         rintro e2 w2 ⟨rfl,hb2⟩
         have HB2:=Hd (bthen (drewB ⟨1,rfl⟩) hb2:Below wr.heap.size wr w2)
         clear hb2
         refine hK.out _ _ ?_ (fun hHeld=>?_)
         ·exact (Uh HS) _ (Uh HB2)
         clear hK K
         try simp only [Act.put,sa9,sb9,sc9]
         refine tk9 9 (.bool true) ?_ (hy:=by (intro w hSw; obtain ⟨s1,s0⟩:=hSw; go_simp))
         refine tk9 10 (.bool true) ?_ (hy:=by (intro w hSw; obtain ⟨s1,s0⟩:=hSw; go_simp))
         refine tk9 11 (.bool true) ?_ (hy:=by (intro w hSw; obtain ⟨s1,s0⟩:=hSw; go_simp))
         refine tk9 12 (.slice ta rs.length tcp) ?_ (hy:=by (intro w hSw; obtain ⟨s1,s0⟩:=hSw; go_simp; try (first | done | omega)))
         refine tk9 13 (.slice (some ⟨g,0,none⟩) n cap) ?_ (hy:=by (intro w hSw; obtain ⟨s1,s0⟩:=hSw; go_simp; try (first | done | omega)))
         refine tk9 14 (.int .i64 ((k:Int)+1)) ?_ (hy:=by (intro w hSw; obtain ⟨s1,s0⟩:=hSw; go_simp; try (first | done | omega)))
         refine tk9 15 (.int .i64 (k:Int)) ?_ (hy:=by (intro w hSw; obtain ⟨s1,s0⟩:=hSw; go_simp; first | done | omega | (rw [IntKind.wrap_i64]; omega)))
         refine tk9 16 (.pointer (some ⟨g,k,none⟩)) ?_ (hy:=by (intro w hSw; obtain ⟨s1,s0⟩:=hSw; go_simp; try (first | done | omega)))
         refine tk9 17 (.int .i32 c0) ?_ (hy:=by (intro w hSw; obtain ⟨s1,s0⟩:=hSw; go_simp; try (first | done | omega)))
         refine tk9 19 (.slice ta rs.length tcp) ?_ (hy:=by (intro w hSw; obtain ⟨s1,s0⟩:=hSw; go_simp; try (first | done | omega)))
         refine tk9 20 (.slice (some ⟨g,0,none⟩) n cap) ?_ (hy:=by (intro w hSw; obtain ⟨s1,s0⟩:=hSw; go_simp; try (first | done | omega)))
         refine tk9 21 (.int .i64 ((k:Int)+1)) ?_ (hy:=by (intro w hSw; obtain ⟨s1,s0⟩:=hSw; go_simp; try (first | done | omega)))
         refine tk9 22 (.pointer (some ⟨g,k+1,none⟩)) ?_ (hy:=by (intro w hSw; obtain ⟨s1,s0⟩:=hSw; go_simp; try (first | done | omega)))
         refine tk9 23 (.int .i32 c1) ?_ (hy:=by (intro w hSw; obtain ⟨s1,s0⟩:=hSw; go_simp; try (first | done | omega)))
         refine rd9 18 fun K hK=>?_
         go_simp
         refine ((Uh KC0) _ (Uh HB2)).mono ?_
         rintro e3 w3 ⟨rfl,hb3⟩
         have HB3:=Hd (bthen (Uh HB2) hb3)
         clear hb3
         refine hK.out _ _ ?_ (fun hHeld=>?_)
         ·exact (Uh HS) _ (Uh HB3)
         clear hK K
         try simp only [Act.put,sa9,sb9,sc9]
         refine rd9 24 fun K hK=>?_
         go_simp
         refine ((Uh KC1) _ (Uh HB3)).mono ?_
         rintro e4 w4 ⟨rfl,hb4⟩
         have HB4:=Hd (bthen (Uh HB3) hb4)
         clear hb4
         refine hK.out _ _ ?_ (fun hHeld=>?_)
         ·exact (Uh HS) _ (Uh HB4)
         clear hK K
         try simp only [Act.put,sa9,sb9,sc9]
         refine tk9 25 (.bool (decide (q<r))) ?_ (hy:=by (intro w hSw; obtain ⟨s1,s0⟩:=hSw; go_simp))
         refine tk9 26 (.bool (decide (q<r))) ?_ (hy:=by (intro w hSw; obtain ⟨s1,s0⟩:=hSw; go_simp))
         refine wpAnyH_done (by kernel_rfl) ?_ _
         clear hHeld KC0 KC1
         have hcs:=(Uh HS) w4 (Uh HB4)
         obtain ⟨hs1,hs0⟩:=hcs
         by_cases hlt2:q<r
         ·have hin:=Uh HIN
          rw [if_pos ⟨hqz,hlt2⟩] at hin
          have HIN2:=Hd hin
          obtain ⟨f1,f2,hcc,o2,bb2⟩:=(Uh HSW) w4 (Uh HB4)
          have HO2:=Hd o2
          have HBB:=Hd bb2
          clear HIN hin HSW HS o2 bb2 HOK HB HB2 HB3 HB4
          rw [decide_eq_true hlt2]
          go_wp2
          exact ⟨⟨k,_,rfl,by omega,Uh HSL,Uh HIN2,Uh HO2,Uh HBB⟩,by simp [intOf]⟩
         ·have hin:=Uh HIN
          rw [if_neg (fun h=>hlt2 h.2)] at hin
          subst hin
          have HOK2:=Hd ((Uh HOK).below (Uh HB4))
          have HBB:=Hd (bthen (Uh HB) (Uh HB4))
          clear HIN HSW HS HOK HB HB2 HB3 HB4
          rw [decide_eq_false hlt2]
          go_wp2
          go_meet
          case rel=>exact ⟨Uh HOK2,Uh HBB⟩
     case rest =>
      obtain ⟨hok,hb⟩:=hcut
      have HOK2:=Hd hok
      have HB2:=Hd hb
      clear hok hb HOK HB HRR HLL
      go_wp2
      go_roundw
      case rel=>exact ⟨i+1,R,by go_num,by omega,by omega,Uh HRL,Uh HOU,Uh HOK2,Uh HB2⟩
      case measure=>simp [intOf]; omega
    ·obtain rfl:i=n:=by omega
     rw [Nat.sub_self] at hou
     have hou:l=res:=hou
     subst hou
     have HF:Hid (RunesNew w l (.returned (.slice (some ⟨g,0,none⟩) i cap)) wo):=⟨_,rfl,hok,hb⟩
     clear hok hb
     go_wp2
     go_ret
     exact Uh HF
end Go.Proofs.YtihhhjodonkkcaaGreatDoor
