/- Rm15 -/
import Derived.Test.YtfemhegfjfhnbaaGreatDoorW44
namespace Go.Proofs.YtfemhegfjfhnbaaGreatDoor
open Go.RowKit
open Ti
theorem and_mask15 (n:Int) (m:Nat) (hm:m<9223372036854775808):∃ c:Nat,bits .and .i64 n (m:Int)=(c:Int)∧c≤m:=by
 have h:(BitVec.ofInt 64 n &&& BitVec.ofInt 64 (m:Int)).toNat≤m:=by
  rw [BitVec.toNat_and]
  refine Nat.le_trans Nat.and_le_right ?_
  rw [BitVec.ofInt_natCast,BitVec.toNat_ofNat]
  exact Nat.mod_le _ _
 refine ⟨(BitVec.ofInt 64 n &&& BitVec.ofInt 64 (m:Int)).toNat,?_,h⟩
 show IntKind.i64.wrap ((BitVec.ofInt 64 n &&& BitVec.ofInt 64 (m:Int)).toNat:Int)=_
 generalize (BitVec.ofInt 64 n &&& BitVec.ofInt 64 (m:Int)).toNat=c at *
 rw [IntKind.wrap_i64]
 omega
theorem make_zeros15 (n:Nat) (w:World) (hn:n≤70000):∃ W,(Instr.makeSlice 23 (.int .i64 (n:Int)) (.int .i64 (n:Int))).run Tryz.prog w=.ok (.slice (some ⟨w.heap.size,0,none⟩) n n) W∧Ok .i32 21 W w.heap.size (.slice (some ⟨w.heap.size,0,none⟩) n n) (List.replicate n 0)∧Below w.heap.size w W:=by
 obtain ⟨i0,hi,hz0,hz1,hz2⟩:=info_parts infoR15
 have h:=run_make (P:=Tryz.prog) w 23 21 i0 (.int .i32 0) Tryz.underlying23 hi hz0 .i64 .i64 (n:Int) (n:Int) (by omega) (by omega) (by rw [hz2]; omega) (by omega)
 rw [Int.toNat_natCast,hz1,Nat.mul_one] at h
 refine ⟨_,h,?_,(Below.refl _ _).alloc (Nat.le_refl _) _⟩
 refine Ok.of (n:=n) (us:=(List.replicate n (0:Int)).map (Value.int .i32)) (fun z hz=>by rw [List.eq_of_mem_replicate hz]; exact i32_fit (by omega)) (by simp; omega) ⟨by simp,Or.inr ⟨w.heap.size,n,_,rfl,Nat.le_refl _,World.alloc_heap_new w _,Nat.le_refl _,by unfold maxLen; omega,by simp [madeCells],?_⟩⟩ (by simp) rfl
 rw [Nat.mul_one,List.take_of_length_le (by simp [madeCells])]
 refine List.ext_getElem (by simp [madeCells]) fun i h1 h2=>?_
 simp [madeCells,Value.cells,Nat.mod_one]
theorem fill15 {l:List Int} {n:Nat} {c:Int} (hl:l.length=n) (h:∀ j,j<n→l.getD j 0=c):l=List.replicate n c:=by
 refine List.eq_replicate_iff.2 ⟨hl,fun b hb=>?_⟩
 obtain ⟨i,hi,rfl⟩:=List.getElem_of_mem hb
 have:=h i (by omega)
 simpa [List.getD,hi] using this
theorem set_at15 (l:List Int) (k j:Nat) (c:Int) (hk:k<l.length):(l.set k c).getD j 0=if j=k then c else l.getD j 0:=by
 simp only [List.getD,List.getElem?_set]
 by_cases e:k=j
 ·subst e; simp [hk]
 ·simp [e,Ne.symm e]
theorem flat_rep15 (ys:Int→List Int) (n:Nat) (c:Int):(flat15 ys (List.replicate n c)).length=n * (ys c).length:=by
 unfold flat15
 rw [List.map_replicate,List.length_flatten,List.map_replicate,List.sum_replicate_nat]
namespace Cn
def lrec15 (q:Nat):Rec:=⟨3,9312,9312,0,List.replicate q 97,⟨#[]⟩,⟨#[]⟩,0⟩
def ltl15 (q:Nat):List Rec:=little++[lrec15 q]
set_option maxRecDepth 100000 in
theorem long_check15 (q:Nat) (h1:1≤q) (h8:q≤8):(check (ltl15 q)).2=0:=by
 have h:q=1∨q=2∨q=3∨q=4∨q=5∨q=6∨q=7∨q=8:=by omega
 rcases h with rfl | rfl | rfl | rfl | rfl | rfl | rfl | rfl <;> decide +kernel
theorem long_one15 (q:Nat) (h1:1≤q) (h8:q≤8):one15 (ltl15 q) (tr15 0) 9312=List.replicate q 97:=by
 have h:q=1∨q=2∨q=3∨q=4∨q=5∨q=6∨q=7∨q=8:=by omega
 rcases h with rfl | rfl | rfl | rfl | rfl | rfl | rfl | rfl <;> decide +kernel
theorem long_len15 (q:Nat):(ltl15 q).length=11:=by simp [ltl15,little]
theorem long_take15 (q:Nat):(ltl15 q).take 150=ltl15 q:=List.take_of_length_le (by rw [long_len15]; omega)
end Cn
theorem long_fit15 (q:Nat) (h8:q≤8):∀ r∈Cn.ltl15 q,RecFit r:=by
 intro r hr
 rcases List.mem_append.1 hr with h | h
 ·exact lt_fit r h
 ·rw [List.mem_singleton] at h
  subst h
  exact ⟨by unfold I64; simp [Cn.lrec15],by unfold I64; simp [Cn.lrec15],by unfold I64; simp [Cn.lrec15],by unfold I64; simp [Cn.lrec15],by simp [Cn.lrec15]; omega,by simp [Cn.lrec15]⟩
theorem rown_lower15 {W:World} {B B':Nat} {v:Value} {ps:List (Rec × Value)} (h:Rown W B v ps) (hB:B'≤B):Rown W B' v ps:=⟨⟨h.1.1,by
 rcases h.1.2 with h1 | ⟨g,cap,cur,e,h2,h3⟩
 ·exact .inl h1
 ·exact .inr ⟨g,cap,cur,e,by omega,h3⟩⟩,fun p hp=>(h.2 p hp).lower hB⟩
set_option maxRecDepth 20000 in
set_option maxHeartbeats 8000000 in
theorem long_any15 (n k:Int) (w:World) (hg:Glob w):Calls Tryz.prog 6 #[.int .i64 n,.int .i64 k] w (Tells w true):=by
 obtain ⟨i1,hj,hy0,hy1,hy2⟩:=info_parts Tryz.info50
 have HG:=Hd hg
 obtain ⟨q0,hq0,hq1⟩:=and_mask15 k 7 (by decide)
 obtain ⟨m,hm0,hm1⟩:=and_mask15 n 3 (by decide)
 have hq0':bits .and .i64 k 7=(q0:Int):=hq0
 have hm0':bits .and .i64 n 3=(m:Int):=hm0
 obtain ⟨q,hq⟩:∃ q,q=q0+1:=⟨_,rfl⟩
 have hqI:(q0:Int)+1=(q:Int):=by omega
 have hqa:1≤q:=by omega
 have hqb:q≤8:=by omega
 clear hg hq0 hm0 hq hq1
 go_enter Tryz.func6,Tryz.ntmps6
 go_wp2
 go_loopw [5,6] (fun o i wr=>∃ j:Nat,i=.int .i64 j∧j≤q∧Ok .i32 21 wr w.heap.size o (List.replicate j 97)∧Below w.heap.size w wr) (fun _ i _=>q - (intOf i).toNat)
 case atStart=>exact ⟨0,rfl,Nat.zero_le _,Ok.nil _ _ _ _,Below.refl _ _⟩
 case round =>
  obtain ⟨j,rfl,hjq,hok,hb⟩:=hrel
  by_cases hlt:j<q
  ·have hs:=hb.size
   have HS1:Hid (Sk .i32 (wr.alloc (.cells #[.int .i32 97] 21)) (.slice (some ⟨wr.heap.size,0,none⟩) 1 1) [97]):=(ok_one9 wr 0 (Nat.zero_le _) 97 (by omega)).sk
   have HO8:=Hd (ok_alloc15 hok (.cells #[.int .i32 97] 21))
   have HB8:=Hd (hb.alloc hs (.cells #[.int .i32 97] 21))
   have HS8:=Hd (alloc_size15 wr (.cells #[.int .i32 97] 21))
   obtain ⟨a1,c1,hv1,_,_⟩:=hok.sk.shape
   rw [List.length_replicate] at hv1
   subst hv1
   have HLT:Hid (∀ i,(Value.slice a1 j c1).ownBlock=some i→w.heap.size≤i):=fun i hi=>(hok.row.lt i hi).1
   have HRP:Hid (List.replicate j (97:Int)++[97]=List.replicate (j+1) 97):=(List.replicate_succ' ..).symm
   clear hok hb
   go_wp2_with (at_builtin; refine app_sk15 rfl (.tmp 23) (.tmp 24) rfl w.heap.size _ _ _ [97] rfl rfl (Uh HO8) (Uh HS1) (by simp; omega) (by have:=Uh HS8; omega) ?_)
   intro v8 w8 ok8 g8
   have b8:Below w.heap.size w w8:=(Uh HB8).grown g8 (by have:=Uh HS8; omega) (Uh HLT)
   rw [Uh HRP] at ok8
   have HO9:=Hd ok8
   have HB9:=Hd b8
   obtain ⟨a9,c9,hv9,_,_⟩:=ok8.sk.shape
   subst hv9
   clear ok8 g8 b8 HO8 HB8 HS1 HS8 HLT HRP
   go_wp2
   go_roundw
   case rel=>exact ⟨j+1,by go_num,by omega,Uh HO9,Uh HB9⟩
   case measure=>simp [intOf]; omega
  ·obtain rfl:j=q:=by omega
   have K1:=Hd (little_any wr)
   have HO:=Hd hok
   have HB:=Hd hb
   obtain ⟨a1,c1,hv1,_,_⟩:=hok.sk.shape
   rw [List.length_replicate] at hv1
   subst hv1
   clear hok hb
   go_wp2_with fail
   refine (Uh K1).mono ?_
   rintro e1 w1 ⟨v1,ps1,rfl,p1,r1,b1⟩
   have hpl:ps1.length=10:=by have:=congrArg List.length p1; rwa [List.length_map] at this
   have hs1:=b1.size
   have hsr:=(Uh HB).size
   have r2:=rown_lower15 r1 hsr
   have o1:=(Uh HO).below b1
   have B1:=bthen (Uh HB) b1
   obtain ⟨g1,cp1,hv1⟩:∃ g cap,v1=.slice (some ⟨g,0,none⟩) 10 cap:=by
    rcases r1.1.2 with ⟨_,h0⟩ | ⟨g,cap,cur,e,_⟩
    ·omega
    ·exact ⟨g,cap,by rw [e,hpl]⟩
   subst hv1
   obtain ⟨W2,hW2⟩:∃ W2,w1.alloc (.cells (rcells [(Cn.lrec15 j,.slice a1 j c1)]).toArray 50)=W2:=⟨_,rfl⟩
   have b2:Below w1.heap.size w1 W2:=by rw [← hW2]; exact (Below.refl _ _).alloc (Nat.le_refl _) _
   have s2:W2.heap.size=w1.heap.size+1:=by rw [← hW2]; exact alloc_size15 _ _
   have hlies:=lit_lies w1 [(Cn.lrec15 j,.slice a1 j c1)]
   rw [hW2] at hlies
   have HRR:Hid (Rown W2 w.heap.size (.slice (some ⟨g1,0,none⟩) 10 cp1) ps1):=by rw [← hW2]; exact r2.alloc9 _
   have HRE:Hid (W2.ownsRow w.heap.size 50 8 (.slice (some ⟨g1,0,none⟩) 10 cp1) 10 (rcells ps1)):=by have:=(Uh HRR).1; rw [hpl] at this; exact this
   have HQ:Hid (∀ x∈[(Cn.lrec15 j,Value.slice a1 j c1)],Ok .i32 21 W2 w.heap.size x.2 x.1.to):=fun x hx=>by
    rw [List.mem_singleton] at hx
    subst hx
    exact o1.below b2
   have HLIES:=Hd hlies
   have HONE:=Hd (one_all [(Cn.lrec15 j,.slice a1 j c1)] (fun x hx=>by rw [List.mem_singleton] at hx; subst hx; rfl))
   have HB2:=Hd (bthen B1 b2)
   have HP1:=Hd p1
   have hBs:=(bthen B1 b2).size
   clear K1 r1 r2 o1 b1 b2 B1 hlies p1 HO HB
   replace hW2:w1.alloc (.cells #[.int .i64 3,.int .i64 9312,.int .i64 9312,.int .i64 0,.slice a1 j c1,.string ⟨#[]⟩,.string ⟨#[]⟩,.float .f64 0] 50)=W2:=hW2
   go_wp2_with (at_builtin; refine wpList_append_own _ rfl (.tmp 26) (.tmp 29) 22 rfl w.heap.size 50 i1 (.agg #[.int .i64 0,.int .i64 0,.int .i64 0,.int .i64 0,.slice none 0 0,.string ⟨#[]⟩,.string ⟨#[]⟩,.float .f64 0]) 8 96 Tryz.underlying22 hj hy0 hy1 hy2 rfl (by decide) _ _ _ rfl (Uh HRE) ⟨w1.heap.size,0,none⟩ 1 1 (rcells [(Cn.lrec15 j,.slice a1 j c1)]) rfl (by rw [rcells_length]; rfl) (Uh HLIES) (Uh HONE) (by unfold maxLen; omega) (by omega) (by omega) ?_)
   intro v3 w3 hrow3 hg3 _
   have hR3:Rown w3 w.heap.size v3 (ps1++[(Cn.lrec15 j,.slice a1 j c1)]):=rows_more (Uh HRR) (Uh HQ) (by rw [hpl]; exact hrow3) hg3
   have hp3:(ps1++[(Cn.lrec15 j,Value.slice a1 j c1)]).map (·.1)=Cn.ltl15 j:=by rw [List.map_append,Uh HP1]; rfl
   have hb3:Below w.heap.size w w3:=(Uh HB2).grown hg3 hBs (fun i hi=>((Uh HRR).1.lt i hi).1)
   have R3:=rcs_new hR3 hp3 (by rw [Cn.long_len15]; omega) (long_fit15 j hqb)
   have K4:=Hd (made_any _ _ w3 ((Uh HG).on hb3) R3)
   rw [Cn.long_take15] at K4
   obtain ⟨a3,cp3,hv3,_,_⟩:=R3.shape
   subst hv3
   have HB3:=Hd hb3
   clear hR3 hp3 hb3 R3 hrow3 hg3 HRR HRE HQ HLIES HONE HB2 HP1 hW2 s2 HG
   go_wp2_with fail
   refine (Uh K4).mono ?_
   rintro e4 w4 ⟨b4,h4⟩
   have HB4:=Hd (bthen (Uh HB3) b4)
   clear K4 b4 HB3
   rcases h4 with ⟨hne,_⟩ | ⟨hck,p,v4,ps4,rfl,hD,r4,p4⟩
   ·exact absurd (Cn.long_check15 j hqa hqb) hne
   ·have R4:=rcs_new r4 p4 (by rw [Cn.long_len15]; omega) (long_fit15 j hqb)
    obtain ⟨a4,cp4,hv4,_,_⟩:=R4.shape
    subst hv4
    have H6:=Hd (Cn.check_iff.1 hck).1
    have HD4:=Hd hD
    obtain ⟨d,hd⟩:∃ d:Nat,d=65536 / j:=⟨_,rfl⟩
    have hdI:(65536:Int) / (j:Int)=(d:Int):=by rw [hd]; rfl
    have hd1:d≤65536:=by rw [hd]; exact Nat.div_le_self _ _
    have hd2:8192≤d:=by rw [hd]; exact Nat.le_trans (by decide:8192≤65536 / 8) (Nat.div_le_div_left hqb (by omega))
    obtain ⟨N,hN⟩:∃ N:Nat,N=d+m - 1:=⟨_,rfl⟩
    have hNI:(d:Int)+(m:Int) - 1=(N:Int):=by omega
    have hNb:N≤65538:=by omega
    obtain ⟨W5,hmk,ok5,b5⟩:=make_zeros15 N w4 (by omega)
    have HO5:=Hd ok5
    have HB5:=Hd b5
    have HL0:Hid ((List.replicate N (0:Int)).length=N):=List.length_replicate
    obtain ⟨g,hgg⟩:∃ g,w4.heap.size=g:=⟨_,rfl⟩
    rw [hgg] at hmk HO5
    have hgw:w4.heap.size≤g:=by omega
    have hdb:(d:Int)≤65536:=by omega
    have hdc:(8192:Int)≤(d:Int):=by omega
    have HN:=Hd hN
    clear hD r4 p4 R4 hck hd ok5 b5 hN hd1 hd2
    go_wp2
    clear hmk hNI hdI hdb hdc
    go_loopw [12] (fun ii wr=>∃ (i:Nat) (l:List Int),ii=.int .i64 i∧i≤N∧l.length=N∧(∀ s,s<i→l.getD s 0=9312)∧Ok .i32 21 wr g (.slice (some ⟨g,0,none⟩) N N) l∧Below w4.heap.size w4 wr) (fun ii _=>N - (intOf ii).toNat)
    case atStart=>exact ⟨0,_,rfl,Nat.zero_le _,Uh HL0,fun s hs=>by omega,Uh HO5,Uh HB5⟩
    case round =>
     clear HO5 HB5 HL0
     obtain ⟨i,l,rfl,hi,hll,hall,oa,hb⟩:=hrel
     by_cases hil:i<N
     ·obtain ⟨hcell,hfr⟩:=row_cell15 (k:=i) oa (by omega)
      have o2:=(oa.setAt9 i 9312 (fun z hz=>by simp at hz; subst hz; exact i32_fit (by omega))).1
      have hb2:=hb.setCell (p:=⟨g,i,none⟩) hgw (.int .i32 9312)
      have hal2:Hid (∀ s,s<i+1→(l.set i 9312).getD s 0=9312):=by
       intro s hs
       rw [set_at15 l i s _ (by omega)]
       split
       ·rfl
       ·exact hall s (by omega)
      have HO2:=Hd o2
      have HB2:=Hd hb2
      clear oa hb hall o2 hb2
      generalize l.getD i 0=old at *
      go_wp2
      go_roundw
      case rel=>exact ⟨i+1,l.set i 9312,by go_num,by omega,by simp [hll],Uh hal2,Uh HO2,Uh HB2⟩
      case measure=>simp [intOf]; omega
     ·obtain rfl:i=N:=by omega
      have hl:=fill15 hll hall
      rw [hl] at oa
      have HX:=Hd oa.sk
      have HD6:=Hd ((Uh HD4).below hb)
      have HB6:=Hd (bthen (Uh HB4) hb)
      have HFL:=Hd (flat_rep15 (Cn.one15 (Cn.ltl15 j) (tr15 0)) i 9312)
      rw [Cn.long_one15 j hqa hqb,List.length_replicate] at HFL
      have K7:=Hd (map_any15 p 0 _ _ (List.replicate i 9312) wr oa.sk (by rw [List.length_replicate]; omega) (oneC15 0 wr (Uh HD6) (Uh H6) (long_fit15 j hqb)))
      have hmul:i * j≤65538 * 8:=Nat.mul_le_mul hNb hqb
      have hmI:((i * j:Nat):Int)=(i:Int) * (j:Int):=Int.natCast_mul i j
      have hw1:IntKind.i64.wrap ((i:Int) * (j:Int))=(i:Int) * (j:Int):=by rw [IntKind.wrap_i64]; omega
      clear oa hb hall hll hl HD4 HB4
      by_cases hbig:65536<i * j
      ·have hbI:(65536:Int)<(i:Int) * (j:Int):=by omega
       have HST:Hid (stl15 (Cn.one15 (Cn.ltl15 j) (tr15 0)) (List.replicate i 9312)=false):=by
        show stl15 (Cn.one15 (Cn.ltl15 j) (tr15 0)) (List.replicate i 9312)=false
        unfold stl15
        rw [decide_eq_false (by have:=Uh HFL; omega),Bool.false_and]
       go_wp2_with fail
       refine (Uh K7).mono ?_
       rintro e7 w7 ⟨b7,⟨hle,_⟩ | ⟨_,rfl⟩⟩
       ·exact absurd hle (by have:=Uh HFL; omega)
       have K8:=Hd (settled_any15 p 0 _ _ (List.replicate i 9312) w7 ((Uh HX).below b7) (by rw [List.length_replicate]; omega) (oneC15 0 w7 ((Uh HD6).below b7) (Uh H6) (long_fit15 j hqb)))
       rw [Uh HST] at K8
       have HB7:=Hd (bthen (Uh HB6) b7)
       clear K7 b7 HX HD6 HB6 HFL HST hmul hmI
       go_wp2_with fail
       refine (Uh K8).mono ?_
       rintro e8 w8 ⟨rfl,b8⟩
       have HB8:=Hd (bthen (Uh HB7) b8)
       clear K8 b8 HB7
       go_wp2
       go_ret
       exact ⟨rfl,Uh HB8⟩
      ·have hbI:(i:Int) * (j:Int)≤65536:=by omega
       go_wp2_with fail
       refine (Uh K7).mono ?_
       rintro e7 w7 ⟨b7,⟨_,v7,rfl,ok7⟩ | ⟨hgt,_⟩⟩
       rotate_left
       ·exact absurd hgt (by have:=Uh HFL; omega)
       have HB7:=Hd (bthen (Uh HB6) b7)
       obtain ⟨a7,c7,hv7,_,_⟩:=ok7.sk.shape
       rw [Uh HFL] at hv7
       subst hv7
       have hq9:(((i * j:Nat):Int)==(i:Int) * (j:Int))=true:=by rw [hmI]; simp
       clear K7 b7 HX HD6 HB6 HFL hmul ok7
       go_wp2
       go_ret
       exact ⟨rfl,Uh HB7⟩
end Go.Proofs.YtfemhegfjfhnbaaGreatDoor
