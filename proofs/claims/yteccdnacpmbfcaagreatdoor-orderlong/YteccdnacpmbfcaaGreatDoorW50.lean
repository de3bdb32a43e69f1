/- Ow12 -/
import Derived.Test.YteccdnacpmbfcaaGreatDoorW45
namespace Go.Proofs.YteccdnacpmbfcaaGreatDoor
open Go.RowKit
open Ti Od
theorem and_mask12 (n:Int) (m:Nat) (hm:m<9223372036854775808):∃ c:Int,bits .and .i64 n (m:Int)=c∧0≤c∧c≤m:=by
 refine ⟨_,rfl,?_⟩
 have h:(BitVec.ofInt 64 n &&& BitVec.ofInt 64 (m:Int)).toNat≤m:=by
  rw [BitVec.toNat_and]
  refine Nat.le_trans Nat.and_le_right ?_
  rw [BitVec.ofInt_natCast,BitVec.toNat_ofNat]
  exact Nat.mod_le _ _
 show 0≤IntKind.i64.wrap ((BitVec.ofInt 64 n &&& BitVec.ofInt 64 (m:Int)).toNat:Int)∧IntKind.i64.wrap ((BitVec.ofInt 64 n &&& BitVec.ofInt 64 (m:Int)).toNat:Int)≤m
 generalize (BitVec.ofInt 64 n &&& BitVec.ofInt 64 (m:Int)).toNat=c at *
 rw [IntKind.wrap_i64]
 omega
theorem make_zeros12 (n:Nat) (w:World) (hn:n≤70000):∃ W,(Instr.makeSlice 23 (.int .i64 (n:Int)) (.int .i64 (n:Int))).run Tryz.prog w=.ok (.slice (some ⟨w.heap.size,0,none⟩) n n) W∧Blk W w.heap.size 21 (ir (List.replicate n 0))∧Below w.heap.size w W:=by
 obtain ⟨i0,hi,hz0,hz1,hz2⟩:=info_parts infoR9
 have h:=run_make (P:=Tryz.prog) w 23 21 i0 (.int .i32 0) Tryz.underlying23 hi hz0 .i64 .i64 (n:Int) (n:Int) (by omega) (by omega) (by rw [hz2]; omega) (by omega)
 rw [Int.toNat_natCast,hz1,Nat.mul_one] at h
 refine ⟨_,h,Blk.new w _ _ _ ?_,(Below.refl _ _).alloc (Nat.le_refl _) _⟩
 apply Array.ext'
 refine List.ext_getElem (by simp [madeCells,ir]) fun i h1 h2=>?_
 simp [madeCells,Value.cells,Nat.mod_one,ir]
theorem fill12 {l:List Int} {n:Nat} {c:Int} (hl:l.length=n) (h:∀ j,j<n→l.getD j 0=c):l=List.replicate n c:=by
 refine List.eq_replicate_iff.2 ⟨hl,fun b hb=>?_⟩
 obtain ⟨i,hi,rfl⟩:=List.getElem_of_mem hb
 have:=h i (by omega)
 simpa [List.getD,hi] using this
namespace Cn
theorem nfd_rep {rs:List Rec} (h6:(check6 rs).2=0) (n:Nat) (c:Int):(nfd rs (List.replicate n c)).length=n * (full rs c).1.length:=by
 unfold nfd
 rw [Od.ord_len (fun c=>cls_range h6 c)]
 unfold openAll
 rw [List.map_replicate,List.length_flatten,List.map_replicate,List.sum_replicate_nat]
end Cn
set_option maxRecDepth 8000 in
set_option maxHeartbeats 8000000 in
theorem long_any12 (c nn:Int) (w:World) (hg:Glob w) (hc:Rune c):Calls Tryz.prog 8 #[.int .i32 c,.int .i64 nn] w (Tells w true):=by
 have K1:=Hd (little_any w)
 have HG:=Hd hg
 obtain ⟨m0,hm0,hm1,hm2⟩:=and_mask12 nn 3 (by decide)
 obtain ⟨m,hm⟩:∃ m:Nat,m0=(m:Int):=⟨m0.toNat,by omega⟩
 subst hm
 have hm0':bits .and .i64 nn 3=(m:Int):=hm0
 have HRC:=Hd hc
 clear hg hm0 hc
 go_enter Tryz.func8,Tryz.ntmps8
 go_wp2_with fail
 refine (Uh K1).mono ?_
 rintro e1 w1 ⟨v1,ps1,rfl,p1,r1,b1⟩
 have R1:=rcs_new r1 p1 (by decide) lt_fit
 have K2:=Hd (made_any _ _ w1 ((Uh HG).on b1) R1)
 rw [Cn.lt_len] at K2
 obtain ⟨a1,cp1,hv1,_,hcp1⟩:=R1.shape
 subst hv1
 have HB1:=Hd b1
 clear K1 R1 r1 b1 p1
 go_wp2_with fail
 refine (Uh K2).mono ?_
 rintro e2 w2 ⟨b2,h2⟩
 have HB2:=Hd (bthen (Uh HB1) b2)
 clear K2 b2 HB1
 rcases h2 with ⟨hne,_⟩ | ⟨hck,p,v2,ps2,rfl,hD,r2,p2⟩
 ·exact absurd (by rw [Cn.little_check]) hne
 ·have R2:=rcs_new r2 p2 (by decide) lt_fit
  obtain ⟨a2,cp2,hv2,_,hcp2⟩:=R2.shape
  have HT2:=Hd R2
  subst hv2
  obtain ⟨n,hn⟩:∃ n:Nat,n=65534+m:=⟨_,rfl⟩
  have hnI:(65534:Int)+(m:Int)=(n:Int):=by omega
  obtain ⟨W3,hmk,hB3,hb3⟩:=make_zeros12 n w2 (by omega)
  obtain ⟨g,hgg⟩:∃ g,w2.heap.size=g:=⟨_,rfl⟩
  rw [hgg] at hmk hB3
  have HD2:=Hd hD
  have HG2:=Hd ((Uh HG).on (Uh HB2))
  have HB3:=Hd hB3
  have Hb3:=Hd hb3
  have HL0:Hid ((List.replicate n (0:Int)).length=n):=List.length_replicate
  have hgw:w2.heap.size≤g:=by omega
  have HN:=Hd hn
  have hnb:(n:Int)≤65537:=by omega
  clear hD r2 p2 R2 hB3 hb3 HG hgg hn
  go_wp2
  clear hmk
  go_loopw [9] (fun ii wr=>∃ (k:Nat) (l:List Int),ii=.int .i64 k∧k≤n∧l.length=n∧(∀ j,j<k→l.getD j 0=c)∧Blk wr g 21 (ir l)∧Below w2.heap.size w2 wr) (fun ii _=>n - (intOf ii).toNat)
  case atStart=>exact ⟨0,_,rfl,by omega,Uh HL0,fun j hj=>by omega,Uh HB3,Uh Hb3⟩
  case round =>
   clear HB3 Hb3 HL0
   obtain ⟨k,l,rfl,hk,hll,hall,hbk,hb⟩:=hrel
   by_cases hlt:k<n
   ·have hcell:=hbk.cell (ir_at (zs:=l) (i:=k) (by omega))
    have hfr:=hbk.frozen k
    have h2:Blk (wr.setCell ⟨g,k,none⟩ (.int .i32 c)) g 21 (ir (l.set k c)):=by
     have e:(ir l).set k (.int .i32 c)=ir (l.set k c):=by unfold ir; rw [List.map_set]
     rw [← e]; exact hbk.set k _
    have hb2:=hb.setCell (p:=⟨g,k,none⟩) hgw (.int .i32 c)
    have hal2:Hid (∀ j,j<k+1→(l.set k c).getD j 0=c):=by
     intro j hj
     rw [set_at l k j _ (by omega)]
     split
     ·rfl
     ·exact hall j (by omega)
    obtain ⟨W5,hW5⟩:∃ W5,wr.setCell ⟨g,k,none⟩ (.int .i32 c)=W5:=⟨_,rfl⟩
    rw [hW5] at h2 hb2
    have H2:=Hd h2
    have HB5:=Hd hb2
    clear hbk hb hall h2 hb2
    generalize l.getD k 0=old at *
    go_wp2
    go_roundw
    case rel=>exact ⟨k+1,l.set k c,by go_num,by omega,by simp [hll],Uh hal2,Uh H2,Uh HB5⟩
    case measure=>simp [intOf]; omega
   ·obtain rfl:k=n:=by omega
    have hl:=fill12 hll hall
    have hx:Sk .i32 wr (.slice (some ⟨g,0,none⟩) k k) (List.replicate k c):=by
     have hrow:wr.ownsRow w2.heap.size 21 1 (.slice (some ⟨g,0,none⟩) k k) k (ir l):=⟨by rw [ir_len]; omega,Or.inr ⟨g,k,_,rfl,hgw,hbk,Nat.le_refl _,by unfold maxLen; omega,by simp [ir_len,hll],List.take_of_length_le (by simp [ir_len,hll])⟩⟩
     have ho:Ok .i32 21 wr w2.heap.size (.slice (some ⟨g,0,none⟩) k k) l:=Ok.of (fun z hz=>by
      have:z=c:=by rw [hl] at hz; exact List.eq_of_mem_replicate hz
      rw [this]; exact i32_fit (Uh HRC)) (by omega) hrow hll.symm rfl
     rw [← hl]; exact ho.sk
    have hrl:(List.replicate k c).length=k:=List.length_replicate
    have HXR:=Hd hx
    have HW:=Hd (bthen (Uh HB2) hb)
    have HD3:=Hd ((Uh HD2).below hb)
    have HG3:=Hd ((Uh HG2).on hb)
    have HT3:=Hd ((Uh HT2).below hb)
    have HNL:=Hd (Cn.nfd_rep Cn.lt_six k c)
    have HFL:=Hd (Cn.leaves hck c)
    have HOL:=Hd (Od.ord_len (k:=Cn.cls Cn.little) (fun c=>Cn.cls_range Cn.lt_six c) (List.replicate k c))
    rw [hrl] at HOL
    have K3:=Hd (nfd_any12 _ (List.replicate k c) wr (Uh HG3) (Uh HD3) hck hx)
    have K4:Hid (∀ W,Below wr.heap.size wr W→Calls Tryz.prog 20 #[.pointer (some ⟨p,0,none⟩),.slice (some ⟨g,0,none⟩) k k] W (if 65536<k then SeqE W [] 2 else SeqE W (Od.ord (Cn.cls Cn.little) (List.replicate k c)) 0)):=fun W hW=>by
     have:=sort_any12 (.slice (some ⟨g,0,none⟩) k k) (List.replicate k c) W ((Uh HD3).below hW) hck ((Uh HXR).below hW)
     rw [hrl] at this
     exact this
    rw [hrl] at K3
    clear hx hbk hb hall hll hl hrl HD2 HG2 HT2 HB2 HXR
    generalize List.replicate k c=xs at *
    have hnn:=Uh HN
    by_cases h3:m=3
    ·rw [if_pos (by omega)] at K3
     have hm3:(m:Int)=3:=by omega
     have HW0:=Hd (by omega:65536<k)
     clear hnn HN HFL HNL HOL h3
     go_wp2_with fail
     refine (Uh K3).mono ?_
     rintro e3 w3 ⟨v3,rfl,ok3,b3⟩
     have K5:=Hd ((Uh K4) w3 b3)
     rw [if_pos (Uh HW0)] at K5
     have HW3:=Hd (bthen (Uh HW) b3)
     have HG4:=Hd ((Uh HG3).on b3)
     obtain ⟨a3,c3,hv3,_,_⟩:=ok3.sk.shape
     subst hv3
     clear K3 K4 ok3 b3 HW HG3 HD3 HT3
     go_wp2_with fail
     refine (Uh K5).mono ?_
     rintro e4 w4 ⟨v4,rfl,ok4,b4⟩
     have K6:=Hd (told_any12 w4 ((Uh HG4).on b4))
     have HW4:=Hd (bthen (Uh HW3) b4)
     obtain ⟨a4,c4,hv4,_,_⟩:=ok4.sk.shape
     subst hv4
     clear K5 ok4 b4 HW3 HG4
     go_wp2_with fail
     refine (Uh K6).mono ?_
     rintro e5 w5 ⟨rfl,b5⟩
     have HW5:=Hd (bthen (Uh HW4) b5)
     clear K6 b5 HW4
     go_wp2
     go_ret
     exact ⟨rfl,Uh HW5⟩
    ·rw [if_neg (by omega)] at K3
     have hm3:¬ ((m:Int)=3):=by omega
     have HW0:=Hd (by omega:¬ 65536<k)
     clear hnn HN h3
     go_wp2_with fail
     refine (Uh K3).mono ?_
     rintro e3 w3 ⟨v3,rfl,ok3,b3⟩
     have K5:=Hd ((Uh K4) w3 b3)
     rw [if_neg (Uh HW0)] at K5
     have HW3:=Hd (bthen (Uh HW) b3)
     have HG4:=Hd ((Uh HG3).on b3)
     have HT4:=Hd ((Uh HT3).below b3)
     obtain ⟨a3,c3,hv3,_,_⟩:=ok3.sk.shape
     subst hv3
     clear K3 K4 ok3 b3 HW HG3 HD3 HT3
     generalize (Cn.nfd Cn.little xs).length=L3 at *
     go_wp2_with fail
     refine (Uh K5).mono ?_
     rintro e4 w4 ⟨v4,rfl,ok4,b4⟩
     have K6:=Hd (refFull12 _ Cn.little c w4 ((Uh HT4).below b4) (Uh HRC))
     have HW4:=Hd (bthen (Uh HW3) b4)
     have HG5:=Hd ((Uh HG4).on b4)
     obtain ⟨a4,c4,hv4,_,_⟩:=ok4.sk.shape
     rw [Uh HOL] at hv4
     subst hv4
     have hfl:=(Uh HFL).2.2.1
     clear K5 ok4 b4 HW3 HG4 HT4 HFL HOL
     have hkk:((k:Int)==(k:Int))=true:=by simp
     go_wp2_with fail
     refine (Uh K6).mono ?_
     rintro e5 w5 ⟨v5,rfl,ok5,b5⟩
     have K7:=Hd (told_any12 w5 ((Uh HG5).on b5))
     have HW5:=Hd (bthen (Uh HW4) b5)
     obtain ⟨a5,c5,hv5,_,_⟩:=ok5.sk.shape
     subst hv5
     have hLe:=Uh HNL
     clear K6 ok5 b5 HW4 HG5 HNL
     generalize (Cn.full Cn.little c).1.length=f at *
     have hb1:(k:Int) * (f:Int)≤65537 * 32:=Int.mul_le_mul hnb (by omega) (by omega) (by omega)
     have hb0:0≤(k:Int) * (f:Int):=Int.mul_nonneg (by omega) (by omega)
     have hw1:IntKind.i64.wrap ((k:Int) * (f:Int))=(k:Int) * (f:Int):=by rw [IntKind.wrap_i64]; omega
     have hLI:(L3:Int)=(k:Int) * (f:Int):=by rw [hLe]; simp
     have hLq:((L3:Int)==(k:Int) * (f:Int))=true:=by rw [hLI]; simp
     clear hLe hLI hb1 hb0
     go_wp2_with fail
     refine (Uh K7).mono ?_
     rintro e6 w6 ⟨rfl,b6⟩
     have HW6:=Hd (bthen (Uh HW5) b6)
     clear K7 b6 HW5
     go_wp2
     go_ret
     exact ⟨rfl,Uh HW6⟩
end Go.Proofs.YteccdnacpmbfcaaGreatDoor
