/- Vm9 Vn9 Vo9 -/
import Derived.Test.YteccdnacpmbfcaaGreatDoorW41
import Derived.Test.YteccdnacpmbfcaaGreatDoorYP0
namespace Go.Proofs.YteccdnacpmbfcaaGreatDoor
open Go.RowKit
open Ti
namespace Cn
def looks (rs:List Rec) (c:Int):List Int:=if (rget rs 8 c).to=[] then [c] else (rget rs 8 c).to
section
variable {rs:List Rec} {c:Int}
end
end Cn
open Ti
def secB (rs:List Rec) (c:Int):Bool:=(Cn.jv c || Cn.jt c) || decide (0<Cn.secOf rs c)
set_option maxRecDepth 8000 in
set_option maxHeartbeats 2000000 in
theorem second_any9 {B p:Nat} {rs:List Rec} (c:Int) (w:World) (hD:DataAt w B p rs):Calls Tryz.prog 14 #[.pointer (some ⟨p,0,none⟩),.int .i32 c] w fun e w'=>e=.returned (.bool (secB rs c))∧w'=w:=by
 obtain ⟨t1,t2,t3,t4,t5,a1,l1,a2,l2,a3,l3,a4,l4,a5,l5,c1,c2,x1,h1,h2,h3⟩:=hD
 have K:=Hd (uends_any c w)
 have x:w.cell? ⟨p,16,none⟩=some c2:=cell_of (j:=16) h1 (by show 16<18; omega)
 obtain ⟨r1,r2,e1,rfl,b1,b2,g1,g2⟩:=h3.co
 have HLK:=(g_look (w:=w) (M:=77) (z:=.int .i64 0) klR Tryz.underlying77 zero_i64 (r:=r2) g2 (k:=.int .i32 c) ⟨c,rfl⟩).2
 have hsl:=Cn.secOf_le rs c
 have hse:(secC rs (.int .i32 c)).getD (.int .i64 0)=.int .i64 (Cn.secOf rs c:Nat):=by
  unfold secC
  by_cases h:Cn.secOf rs c=0
  ·simp [h]
  ·simp [h]
 rw [hse] at HLK
 unfold secB
 clear h1 h2 h3 g1 g2 e1 hse
 generalize Cn.secOf rs c=n at *
 generalize (Cn.jv c || Cn.jt c)=q at *
 cases q with
 | true =>
  clear HLK
  go_enter Tryz.func14,Tryz.ntmps14
  go_wp2_with fail
  refine (Uh K).mono ?_
  rintro e wq ⟨rfl,rfl⟩
  clear K
  go_wp2
  go_ret
  exact ⟨rfl,rfl⟩
 | false =>
  by_cases hn:0<n
  ·have hd:decide ((0:Int)<(n:Int))=true:=decide_eq_true (by omega)
   rw [show decide (0<n)=true from decide_eq_true hn]
   go_enter Tryz.func14,Tryz.ntmps14
   go_wp2_with fail
   refine (Uh K).mono ?_
   rintro e wq ⟨rfl,rfl⟩
   clear K
   go_wp2
   go_ret
   exact ⟨by first | rfl | simp [hn],rfl⟩
  ·obtain rfl:n=0:=by omega
   rw [show decide (0<0)=false from rfl]
   go_enter Tryz.func14,Tryz.ntmps14
   go_wp2_with fail
   refine (Uh K).mono ?_
   rintro e wq ⟨rfl,rfl⟩
   clear K
   go_wp2
   go_ret
   exact ⟨rfl,rfl⟩
namespace Cn
end Cn
open Ti
namespace Cn
theorem syl_none {l:List Rec} (h:(check l).2=0) {c:Int} (hs:syl c=true) {f:Int} (hf:f=2∨f=3):hit l f c=Option.none:=by
 obtain ⟨h6,hr,_,_⟩:=check_iff.1 h
 cases e:hit l f c with
 | none=>rfl
 | some r =>
  obtain ⟨h1,h2,h3⟩:=hit_some e
  have hp:=speaks_span h3
  have hq:=of_decide_eq_true hs
  have h0:=hr r h1
  unfold record at h0
  rw [if_neg (by omega)] at h0
  split at h0
  ·exact absurd h0 (by decide)
  ·split at h0
   ·exact absurd h0 (by decide)
   ·next hn =>
    refine absurd ?_ hn
    simp only [Bool.or_eq_true,covers,decide_eq_true_eq]
    exact .inr (by omega)
theorem syl_cls {l:List Rec} (h:(check l).2=0) {c:Int} (hs:syl c=true):cls l c=0:=by
 unfold cls
 rw [syl_none h hs (Or.inl rfl)]
theorem pair_rec {l:List Rec} (h:(check l).2=0) {a b p:Int} (hp:pairOf l a b=some p):∃ r∈l,r.kind=7∧r.to=[a,b]∧r.lo=p∧right r=0∧record l 0 r=0∧hit l 3 p=some r:=by
 obtain ⟨h6,hrec,_,_⟩:=check_iff.1 h
 unfold pairOf at hp
 obtain ⟨r,hr,rfl⟩:=Option.map_eq_some_iff.1 hp
 have hm:=List.mem_reverse.1 (List.mem_of_find?_eq_some hr)
 have hip:isP a b r=true:=List.find?_some hr
 have hi:r.kind=7∧r.to.getD 0 0=a∧r.to.getD 1 0=b:=of_decide_eq_true hip
 have hri:=(check6_iff.1 h6).2.1 r hm
 obtain ⟨d1,d2,d3⟩:=right_decomp hri hi.1
 have hl:r.to.length=2:=by
  unfold list at d3
  have:=of_decide_eq_true (Bool.and_eq_true_iff.1 d3).1
  omega
 have hto:r.to=[a,b]:=by
  match hq:r.to,hl with
  | [x,y],_ =>
   have h1:=hi.2
   rw [hq] at h1
   simp at h1
   rw [h1.1,h1.2]
 have hst:step r=1:=by unfold step; rw [if_neg (by omega)]
 have hsn:=right_span hri (by omega)
 have hsp:speaks r r.lo=true:=by
  unfold speaks
  refine decide_eq_true ⟨by omega,by omega,by omega,by omega,by omega,by omega,?_⟩
  rw [hst]; omega
 exact ⟨r,hm,hi.1,hto,rfl,hri,hrec r hm,(hit_iff h6 (by omega) r).2 ⟨hm,by rw [hi.1]; rfl,hsp⟩⟩
theorem pairs9 {l:List Rec} (h:(check l).2=0) {a b:Int} (hc:(cmp9 l a b).2=true):opn l (cmp9 l a b).1=[a,b]∧secB l b=true∧cls l (cmp9 l a b).1=0∧cls l a=0∧-2147483648≤(cmp9 l a b).1∧(cmp9 l a b).1≤2147483647:=by
 unfold cmp9 at hc ⊢
 by_cases hs:(sylOf a b).2=true
 ·rw [if_pos hs]
  unfold sylOf at hs ⊢
  by_cases h1:(jl a && jv b)=true
  ·rw [if_pos h1]
   obtain ⟨ha,hb⟩:=Bool.and_eq_true_iff.1 h1
   have ha':=of_decide_eq_true ha
   have hb':=of_decide_eq_true hb
   have hsy:syl (44032+((a - 4352) * 21+b - 4449) * 28)=true:=decide_eq_true (by omega)
   refine ⟨?_,?_,syl_cls h hsy,jamo_cls h (Or.inl ha'),by simp only; omega,by simp only; omega⟩
   ·rw [opn_lv hsy (by omega)]
    congr 1
    ·omega
    ·congr 1; omega
   ·unfold secB; rw [hb]; rfl
  ·rw [if_neg h1] at hs ⊢
   by_cases h2:(bare2 a && jt b)=true
   ·rw [if_pos h2]
    obtain ⟨ha,hb⟩:=Bool.and_eq_true_iff.1 h2
    unfold bare2 at ha
    obtain ⟨ha1,ha2⟩:=Bool.and_eq_true_iff.1 ha
    have ha':=of_decide_eq_true ha1
    have ha3:=of_decide_eq_true ha2
    have hb':=of_decide_eq_true hb
    have hsy:syl (a+b - 4520+1)=true:=decide_eq_true (by omega)
    refine ⟨?_,?_,syl_cls h hsy,syl_cls h ha1,by simp only; omega,by simp only; omega⟩
    ·rw [opn_lvt hsy (by omega)]
     congr 1
     ·omega
     ·congr 1; omega
    ·unfold secB; rw [hb]; simp
   ·rw [if_neg h2] at hs; cases hs
 ·rw [if_neg hs] at hc ⊢
  simp only at hc ⊢
  obtain ⟨p,hp⟩:=Option.isSome_iff_exists.1 hc
  obtain ⟨r,hm,h7,hto,hlo,hri,hre,hh⟩:=pair_rec h hp
  rw [hp]
  simp only [Option.getD_some]
  have hns:syl p≠true:=fun e=>by
   have:=syl_none h e (f:=3) (Or.inr rfl)
   rw [this] at hh; cases hh
  have hsn:=right_span hri (by omega)
  have hpr:pair l 0 r=true:=by
   cases hq:pair l 0 r with
   | true=>rfl
   | false =>
    exfalso
    unfold record at hre
    rw [if_neg (by rw [h7]; decide)] at hre
    split at hre
    ·exact absurd hre (by decide)
    ·split at hre
     ·exact absurd hre (by decide)
     ·split at hre
      ·exact absurd hre (by decide)
      ·rw [if_neg (by rw [h7]; decide)] at hre
       split at hre
       ·rename_i hne
        exact hne hre
       ·split at hre
        ·exact absurd hre (by decide)
        ·rw [if_pos ⟨h7,hq⟩] at hre
         exact absurd hre (by decide)
  unfold pair at hpr
  have hx:=(Bool.and_eq_true_iff.1 hpr).1
  simp only [Bool.not_eq_true',Bool.or_eq_false_iff,decide_eq_false_iff_not,hto,hlo] at hx
  refine ⟨?_,?_,?_,?_,by omega,by omega⟩
  ·unfold opn
   rw [if_neg hns,hh]
   exact hto
  ·unfold secB
   have:0<secOf l b:=by
    unfold secOf
    exact List.countP_pos_iff.2 ⟨r,hm,decide_eq_true ⟨h7,by rw [hto]; rfl⟩⟩
   simp [this]
  ·exact Classical.not_not.1 hx.1.1.1.1.1
  ·have:=Classical.not_not.1 hx.1.1.1.1.2
   simpa using this
end Cn
end Go.Proofs.YteccdnacpmbfcaaGreatDoor
