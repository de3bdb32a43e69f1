/- Vq9 -/
import Derived.Test.YtnpdonnijonpnaaGreatDoorW41
namespace Go.Proofs.YtnpdonnijonpnaaGreatDoor
open Go.RowKit
open Ti
namespace Cn
theorem seven_at {rs:List Rec} (h6:(check6 rs).2=0) {k:Nat} (hk:k<rs.length) (h7:(rs.getD k none).kind=7):(rs.getD k none).to.length=2∧scalar ((rs.getD k none).lo)=true:=by
 have hm:rs.getD k none∈rs:=by simp [List.getD,hk]
 obtain ⟨_,d2,d3⟩:=right_decomp ((check6_iff.1 h6).2.1 _ hm) h7
 unfold list at d3
 have:=of_decide_eq_true (Bool.and_eq_true_iff.1 d3).1
 exact ⟨by omega,d2⟩
theorem sec_yes {rs:List Rec} {c:Int} {k:Nat} (hk:k<rs.length) (h7:(rs.getD k none).kind=7) (hc:(rs.getD k none).to.getD 1 0=c):0<secOf rs c:=by
 unfold secOf
 exact List.countP_pos_iff.2 ⟨rs.getD k none,by simp [List.getD,hk],decide_eq_true ⟨h7,hc⟩⟩
theorem sec_no {rs:List Rec} {c:Int} (h:∀ j,j<rs.length→¬ ((rs.getD j none).kind=7∧(rs.getD j none).to.getD 1 0=c)):¬ 0<secOf rs c:=by
 unfold secOf
 intro hp
 obtain ⟨r,hr,hd⟩:=List.countP_pos_iff.1 hp
 obtain ⟨j,hj,rfl⟩:=List.getElem_of_mem hr
 have:=h j hj
 rw [show rs.getD j none=rs[j] by simp [List.getD,hj]] at this
 exact this (of_decide_eq_true hd)
end Cn
set_option maxRecDepth 8000 in
set_option maxHeartbeats 4000000 in
theorem refSecond7 (tv:Value) (rs:List Rec) (c:Int) (w:World) (ht:Rcs w tv rs) (h6:(Cn.check6 rs).2=0) (hc:Rune c):Calls Tryz.prog 36 #[tv,.int .i32 c] w fun e w'=>e=.returned (.bool (secB rs c))∧w'=w:=by
 have K1:=Hd (refJv_any c w hc)
 have K2:=Hd (refJt_any c w hc)
 obtain ⟨ta,tcp,hte,htc1,htc2⟩:=ht.shape
 have HT:=Hd ht
 have H6:=Hd h6
 have htl:=ht.1
 subst hte
 obtain ⟨res,hres⟩:∃ r,secB rs c=r:=⟨_,rfl⟩
 have HRES:=Hd hres
 rw [hres]
 clear ht h6 hres
 cases hv:Cn.jv c with
 | true =>
  have hr:true=res:=by rw [← Uh HRES]; unfold secB; rw [hv]; rfl
  subst hr
  rw [hv] at K1
  clear hv HRES K2 HT H6
  go_enter Tryz.func36,Tryz.ntmps36
  go_wp2_with fail
  refine (Uh K1).mono ?_
  rintro e1 w1 ⟨rfl,rfl⟩
  clear K1
  go_wp2
  go_ret
  exact ⟨rfl,rfl⟩
 | false =>
  rw [hv] at K1
  cases hq:Cn.jt c with
  | true =>
   have hr:true=res:=by rw [← Uh HRES]; unfold secB; rw [hv,hq]; rfl
   subst hr
   rw [hq] at K2
   clear hv hq HRES HT H6
   go_enter Tryz.func36,Tryz.ntmps36
   go_wp2_with fail
   refine (Uh K1).mono ?_
   rintro e1 w1 ⟨rfl,rfl⟩
   clear K1
   go_wp2_with fail
   refine (Uh K2).mono ?_
   rintro e2 w2 ⟨rfl,rfl⟩
   clear K2
   go_wp2
   go_ret
   exact ⟨rfl,rfl⟩
  | false =>
   rw [hq] at K2
   have HYES:Hid (∀ k,k<rs.length→(rs.getD k Cn.none).kind=7→(rs.getD k Cn.none).to.getD 1 0=c→true=res):=fun k hk h7 he=>by
    rw [← Uh HRES]; unfold secB; rw [hv,hq,decide_eq_true (Cn.sec_yes hk h7 he)]; rfl
   have HNO:Hid ((∀ j,j<rs.length→¬ ((rs.getD j Cn.none).kind=7∧(rs.getD j Cn.none).to.getD 1 0=c))→false=res):=fun h=>by
    rw [← Uh HRES]; unfold secB; rw [hv,hq,decide_eq_false (Cn.sec_no h)]; rfl
   have HSV:Hid (∀ k,k<rs.length→(rs.getD k Cn.none).kind=7→(rs.getD k Cn.none).to.length=2):=fun k hk h7=>(Cn.seven_at (Uh H6) hk h7).1
   clear hv hq HRES H6
   go_enter Tryz.func36,Tryz.ntmps36
   go_wp2_with fail
   refine (Uh K1).mono ?_
   rintro e1 w1 ⟨rfl,rfl⟩
   clear K1
   go_wp2_with fail
   refine (Uh K2).mono ?_
   rintro e2 w ⟨rfl,rfl⟩
   clear K2
   go_wp2
   go_loopw [5] (fun ii wr=>wr=w∧∃ k:Nat,ii=.int .i64 k∧k≤rs.length∧∀ j,j<k→¬ ((rs.getD j Cn.none).kind=7∧(rs.getD j Cn.none).to.getD 1 0=c)) (fun ii _=>rs.length - (intOf ii).toNat)
   case atStart=>exact ⟨rfl,0,rfl,by omega,fun j hj=>by omega⟩
   case round =>
    obtain ⟨rfl,k,rfl,hk,hno⟩:=hrel
    by_cases hlt:k<rs.length
    ·obtain ⟨b,off,cp,he,_,_,hat⟩:=(Uh HT).place (by omega)
     simp only [Value.slice.injEq] at he
     obtain ⟨rfl,h9,rfl⟩:=he
     clear h9
     obtain ⟨z0,_,_,_,⟨vk,z4,skk⟩,_,_,_⟩:=hat k hlt
     have hY:=(Uh HYES) k hlt
     have hS:=(Uh HSV) k hlt
     have HNN:Hid (¬ ((rs.getD k Cn.none).kind=7∧(rs.getD k Cn.none).to.getD 1 0=c)→∀ j,j<k+1→¬ ((rs.getD j Cn.none).kind=7∧(rs.getD j Cn.none).to.getD 1 0=c)):=fun h j hj=>by
      rcases Nat.lt_or_ge j k with h' | h'
      ·exact hno j h'
      ·obtain rfl:j=k:=by omega
       exact h
     clear hat hno HYES HNO HSV
     by_cases e1:(rs.getD k Cn.none).kind=7
     ·obtain ⟨kb,koff,kcap,rfl,kc1,kc2,k0,k1⟩:=two_cells skk (hS e1)
      have hY2:=Hd (hY e1)
      rw [e1] at z0
      clear skk hS hY
      by_cases e2:(rs.getD k Cn.none).to.getD 1 0=c
      ·have hr:=(Uh hY2) e2
       rw [e2] at k1
       subst hr
       clear hY2 HNN e1 e2
       generalize (rs.getD k Cn.none).to.getD 0 0=ka at *
       have hcc:(c==c)=true:=by simp
       go_wp2
       go_ret
       exact ⟨rfl,rfl⟩
      ·have HN2:=Hd ((Uh HNN) (fun h=>e2 h.2))
       have hcc:((rs.getD k Cn.none).to.getD 1 0==c)=false:=beq_eq_false_iff_ne.2 e2
       clear hY2 HNN e1 e2
       generalize (rs.getD k Cn.none).to.getD 0 0=ka at *
       generalize (rs.getD k Cn.none).to.getD 1 0=kb2 at *
       go_wp2
       go_roundw
       case rel=>exact ⟨by first | rfl | trivial,k+1,by go_num,by omega,Uh HN2⟩
       case measure=>simp [intOf]; omega
     ·have HN2:=Hd ((Uh HNN) (fun h=>e1 h.1))
      have hk7:((rs.getD k Cn.none).kind==7)=false:=beq_eq_false_iff_ne.2 e1
      clear hY hS skk HNN e1
      generalize (rs.getD k Cn.none).kind=kk at *
      go_wp2
      go_roundw
      case rel=>exact ⟨by first | rfl | trivial,k+1,by go_num,by omega,Uh HN2⟩
      case measure=>simp [intOf]; omega
    ·obtain rfl:k=rs.length:=by omega
     have hr:=(Uh HNO) hno
     subst hr
     clear hno HNO HYES HSV
     go_wp2
     go_ret
     exact ⟨rfl,rfl⟩
namespace Cn
theorem pair_at {rs:List Rec} (h:(check rs).2=0) {a b:Int} {k:Nat} (hk:k<rs.length) (h7:(rs.getD k none).kind=7) (ha:(rs.getD k none).to.getD 0 0=a) (hb:(rs.getD k none).to.getD 1 0=b):pairOf rs a b=some (rs.getD k none).lo:=by
 obtain ⟨_,_,hp,_⟩:=check_iff.1 h
 have hg:rs.getD k none=rs[k]:=by simp [List.getD,hk]
 unfold pairOf
 cases hf:rs.reverse.find? (isP a b) with
 | none =>
  have:=List.find?_eq_none.1 hf (rs.getD k none) (List.mem_reverse.2 (by rw [hg]; exact List.getElem_mem hk))
  exact absurd (decide_eq_true ⟨h7,ha,hb⟩) this
 | some r =>
  have hm:=List.mem_reverse.1 (List.mem_of_find?_eq_some hf)
  have hip:isP a b r=true:=List.find?_some hf
  have hi:r.kind=7∧r.to.getD 0 0=a∧r.to.getD 1 0=b:=of_decide_eq_true hip
  obtain ⟨j,hj,rfl⟩:=List.getElem_of_mem hm
  rw [hg] at h7 ha hb ⊢
  rw [List.pairwise_iff_getElem] at hp
  rcases Nat.lt_trichotomy j k with hl | hl | hl
  ·exact absurd (show sameTo rs[j] rs[k] from ⟨hi.1,h7,by rw [hi.2.1,ha],by rw [hi.2.2,hb]⟩) (hp j k hj hk hl)
  ·subst hl; rfl
  ·exact absurd (show sameTo rs[k] rs[j] from ⟨h7,hi.1,by rw [hi.2.1,ha],by rw [hi.2.2,hb]⟩) (hp k j hk hj hl)
theorem pair_no {rs:List Rec} {a b:Int} (h:∀ j,j<rs.length→¬ ((rs.getD j none).kind=7∧(rs.getD j none).to.getD 0 0=a∧(rs.getD j none).to.getD 1 0=b)):pairOf rs a b=Option.none:=by
 unfold pairOf
 rw [List.find?_eq_none.2 (fun r hr=>?_)]
 ·rfl
 ·obtain ⟨j,hj,rfl⟩:=List.getElem_of_mem (List.mem_reverse.1 hr)
  have:=h j hj
  rw [show rs.getD j none=rs[j] by simp [List.getD,hj]] at this
  intro e
  exact this (of_decide_eq_true e)
end Cn
end Go.Proofs.YtnpdonnijonpnaaGreatDoor
