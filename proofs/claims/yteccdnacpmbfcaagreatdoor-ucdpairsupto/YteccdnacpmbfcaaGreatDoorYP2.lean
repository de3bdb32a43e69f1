/- Vp9 -/
import Derived.Test.YteccdnacpmbfcaaGreatDoorYP1
namespace Go.Proofs.YteccdnacpmbfcaaGreatDoor
open Go.RowKit
open Ti
theorem lit9 (W:World) (a b:Int) (ha:Rune a) (hb:Rune b):Sk .i32 (W.alloc (.cells #[.int .i32 a,.int .i32 b] 21)) (.slice (some ⟨W.heap.size,0,none⟩) 2 2) [a,b]:=by
 have h:Ok .i32 21 (W.alloc (.cells #[.int .i32 a,.int .i32 b] 21)) W.heap.size (.slice (some ⟨W.heap.size,0,none⟩) 2 2) [a,b]:=by
  refine Ok.of (n:=2) (us:=[.int .i32 a,.int .i32 b]) (fun z h=>?_) (by simp) ⟨rfl,Or.inr ⟨W.heap.size,2,_,rfl,Nat.le_refl _,heap_alloc_last W _,Nat.le_refl _,by unfold maxLen; omega,rfl,rfl⟩⟩ rfl rfl
  rcases List.mem_cons.1 h with rfl | h
  ·exact i32_fit ha
  ·obtain rfl:=List.mem_singleton.1 h; exact i32_fit hb
 exact h.sk
set_option maxRecDepth 8000 in
set_option maxHeartbeats 16000000 in
theorem pairs_any9 (v:Value) (rs0:List Rec) (cv:Value) (cs:List Int) (w:World) (hg:Glob w) (hv:Rcs w v rs0) (hc:Sk .i32 w cv cs):Calls Tryz.prog 3 #[v,cv] w (Tells w true):=by
 have K1:=Hd (made_any v rs0 w hg hv)
 have hfit:∀ r∈rs0.take 150,RecFit r:=fun r hr=>hv.2.1 r (List.mem_of_mem_take hr)
 have hrl:(rs0.take 150).length≤150:=by rw [List.length_take]; omega
 obtain ⟨ao,cap,rfl,_,hcap⟩:=hv.shape
 have HCV:=Hd hc
 have hcl:=hc.len
 obtain ⟨co,ccap,hce,hcc1,hcc2⟩:=hc.shape
 subst hce
 have HG:=Hd hg
 have HFIT:=Hd hfit
 clear hg hv hc hfit
 generalize rs0.take 150=rs at *
 generalize rs0.length=L at *
 go_enter Tryz.func3,Tryz.ntmps3
 go_wp2_with fail
 refine (Uh K1).mono ?_
 rintro e1 w1 ⟨b1,h1⟩
 have HB1:=Hd b1
 clear K1 b1
 rcases h1 with ⟨hne,rfl⟩ | ⟨h0,p,v2,ps2,rfl,hD,r2,p2⟩
 ·have K2:=Hd (told_any9 w1 ((Uh HG).on (Uh HB1)))
  clear hne
  go_wp2_with fail
  refine (Uh K2).mono ?_
  rintro e2 w2 ⟨rfl,b2⟩
  have HB2:=Hd (bthen (Uh HB1) b2)
  clear K2 b2
  go_wp2
  go_ret
  exact ⟨rfl,Uh HB2⟩
 ·have R2:=rcs_new r2 p2 (by omega) (Uh HFIT)
  obtain ⟨a2,cp2,hv2,_,hcp2⟩:=R2.shape
  subst hv2
  have hC1:=(Uh HCV).below (Uh HB1)
  have HC1:=Hd hC1
  have hG1:=(Uh HG).on (Uh HB1)
  have h6:=(Cn.check_iff.1 h0).1
  have KP:Hid (∀ a b W,Rune a→Rune b→Below w1.heap.size w1 W→Calls Tryz.prog 11 #[.pointer (some ⟨p,0,none⟩),.int .i32 a,.int .i32 b] W fun e w'=>e=.returned (.tuple #[.int .i32 (Cn.cmp9 rs a b).1,.bool (Cn.cmp9 rs a b).2])∧w'=W):=fun a b W ha hb hW=>compose_any9 a b W (hD.below hW) ha hb
  have KO:Hid (∀ c W,Rune c→Below w1.heap.size w1 W→Calls Tryz.prog 13 #[.pointer (some ⟨p,0,none⟩),.int .i32 c] W (RunesNew W (Cn.opn rs c))):=fun c W hc hW=>open_any9 c W (hG1.on hW) (hD.below hW) h0 hc
  have KS:Hid (∀ c W,Below w1.heap.size w1 W→Calls Tryz.prog 14 #[.pointer (some ⟨p,0,none⟩),.int .i32 c] W fun e w'=>e=.returned (.bool (secB rs c))∧w'=W):=fun c W hW=>second_any9 c W (hD.below hW)
  have KC:Hid (∀ c W,Rune c→Below w1.heap.size w1 W→Calls Tryz.prog 15 #[.pointer (some ⟨p,0,none⟩),.int .i32 c] W (IntDraws W (Cn.cls rs c))):=fun c W hc hW=>by
   rw [Cn.vget_cls h6]; exact class_any9 c W (hD.below hW) h6 hc
  have KF:Hid (∀ c W,Rune c→Below w1.heap.size w1 W→Calls Tryz.prog 16 #[.pointer (some ⟨p,0,none⟩),.int .i32 c] W (RunesNew W (Cn.full rs c).1)):=fun c W hc hW=>full_any9 c W (hG1.on hW) (hD.below hW) h0 hc
  have HPL:Hid (∀ a b,(Cn.cmp9 rs a b).2=true→Cn.opn rs (Cn.cmp9 rs a b).1=[a,b]∧secB rs b=true∧Cn.cls rs (Cn.cmp9 rs a b).1=0∧Cn.cls rs a=0∧Rune (Cn.cmp9 rs a b).1):=fun a b h=>by
   obtain ⟨x1,x2,x3,x4,x5,x6⟩:=Cn.pairs9 h0 h
   exact ⟨x1,x2,x3,x4,x5,x6⟩
  have HLV:Hid (∀ c,0<(Cn.full rs c).1.length∧(Cn.full rs c).1.length≤32∧∀ x∈(Cn.full rs c).1,Cn.opn rs x=[]):=fun c=>⟨(Cn.leaves h0 c).2.1,(Cn.leaves h0 c).2.2.1,(Cn.leaves h0 c).2.2.2.1⟩
  have HRN:Hid (∀ i,i<cs.length→Rune (cs.getD i 0)):=fun i hi=>by
   have:=hC1.1 (cs.getD i 0) (by simp [List.getD,hi])
   exact ⟨this.1,this.2⟩
  clear hD r2 p2 R2 h0 h6 hC1 hG1 HG HFIT HCV
  go_wp2
  go_loopw [8,9,10,11,12,13] (fun ii _ _ _ _ _ wr=>∃ i:Nat,ii=.int .i64 i∧i≤cs.length∧i≤40∧Below w1.heap.size w1 wr) (fun ii _ _ _ _ _ _=>40 - (intOf ii).toNat)
  case atStart=>exact ⟨0,rfl,by omega,by omega,Below.refl _ _⟩
  case round =>
   obtain ⟨i,rfl,hi,hi40,hb⟩:=hrel
   obtain ⟨wo,hwo⟩:∃ wo,wo=wr:=⟨_,rfl⟩
   subst hwo
   have HBO:=Hd hb
   clear hb
   by_cases hlt:i<cs.length
   ·by_cases h40:i<40
    ·obtain ⟨bx,ox,cqx,hex,_,_,hclx⟩:=(Uh HC1).place (by omega)
     simp only [Value.slice.injEq] at hex
     obtain ⟨rfl,h9,rfl⟩:=hex
     clear h9
     have HCX:Hid (∀ W,Below w1.heap.size w1 W→∀ j,j<cs.length→W.cell? ⟨bx,ox+j,none⟩=some (.int .i32 (cs.getD j 0))):=fun W hW j hj=>by
      have h3:=hclx j hj
      rw [hW.cell (lt_of_cell? h3)]; exact h3
     have hrx:=(Uh HRN) i hlt
     clear hclx
     obtain ⟨x,hxe⟩:∃ x,cs.getD i 0=x:=⟨_,rfl⟩
     have HXE:=Hd hxe
     rw [hxe] at hrx
     clear hxe
     go_wp2
     rw [show decide ((i:Int)<40)=true from decide_eq_true (by omega)]
     go_loopw [9,10,11] (fun jj _ _ wr=>∃ j:Nat,jj=.int .i64 j∧j≤cs.length∧j≤40∧Below w1.heap.size w1 wr) (fun jj _ _ _=>40 - (intOf jj).toNat)
     case atStart=>exact ⟨0,rfl,by omega,by omega,Uh HBO⟩
     case round =>
      clear HBO
      obtain ⟨j,rfl,hj,hj40,hb⟩:=hrel
      have HB:=Hd hb
      clear hb
      by_cases hjl:j<cs.length
      ·by_cases hj4:j<40
       ·have hry:=(Uh HRN) j hjl
        obtain ⟨y,hye⟩:∃ y,cs.getD j 0=y:=⟨_,rfl⟩
        have HYE:=Hd hye
        rw [hye] at hry
        clear hye
        have hcx:=(Uh HCX) wr (Uh HB) i hlt
        rw [Uh HXE] at hcx
        have hcy:=(Uh HCX) wr (Uh HB) j hjl
        rw [Uh HYE] at hcy
        have HCM:=fun n=>Hd ((Uh KP) x y (wr.drewN n) hrx hry (bthen (Uh HB) (below_drewN (Below.refl _ _) n)))
        have HPX:=Hd ((Uh HPL) x y)
        obtain ⟨pc,hpc⟩:∃ pc,(Cn.cmp9 rs x y).1=pc:=⟨_,rfl⟩
        rw [hpc] at HPX HCM
        clear hpc
        go_wp2
        cases hok:(Cn.cmp9 rs x y).2 with
        | false =>
         rw [hok] at HCM HPX
         clear hok
         go_quiet (first | (go_at_call 11; exact Calls.quiet_of_same (Uh (HCM _))))
         have hb5:=bthen (Uh HB) (drewB ⟨nq,rfl⟩:Below wr.heap.size wr (wr.drewN nq))
         have HB5:=Hd hb5
         clear hb5 HCM HB hcx hcy
         generalize wr.drewN nq=w5 at *
         clear HPX
         go_wp2
         refine wp_region_held_drew (S:=fun w'=>Below w1.heap.size w1 w') (by kernel_rfl) ((Uh HB5).drew) (fun hHeld=>?_)
         generalize w5.drew=W0 at *
         refine tk9 0 ⟨some 60,_,_,_,_,_⟩ (.bool false) rfl ?_ hHeld ?_
         ·intro w hSw
          go_simp
         try simp only [Act.put,sa9,sb9,sc9]
         refine tk9 1 ⟨some 61,_,_,_,_,_⟩ (.bool false) rfl ?_ hHeld ?_
         ·intro w hSw
          go_simp
         try simp only [Act.put,sa9,sb9,sc9]
         refine tn9 2 ⟨some 62,_,_,_,_,_⟩ undef rfl hHeld ?_
         try simp only [Act.put,sa9,sb9,sc9]
         refine tn9 3 ⟨some 63,_,_,_,_,_⟩ undef rfl hHeld ?_
         try simp only [Act.put,sa9,sb9,sc9]
         refine tn9 4 ⟨some 64,_,_,_,_,_⟩ undef rfl hHeld ?_
         try simp only [Act.put,sa9,sb9,sc9]
         refine tn9 5 ⟨some 65,_,_,_,_,_⟩ undef rfl hHeld ?_
         try simp only [Act.put,sa9,sb9,sc9]
         refine tn9 6 ⟨some 66,_,_,_,_,_⟩ undef rfl hHeld ?_
         try simp only [Act.put,sa9,sb9,sc9]
         refine tn9 7 ⟨some 67,_,_,_,_,_⟩ undef rfl hHeld ?_
         try simp only [Act.put,sa9,sb9,sc9]
         refine tn9 8 ⟨some 68,_,_,_,_,_⟩ undef rfl hHeld ?_
         try simp only [Act.put,sa9,sb9,sc9]
         refine tn9 9 ⟨some 69,_,_,_,_,_⟩ undef rfl hHeld ?_
         try simp only [Act.put,sa9,sb9,sc9]
         refine tn9 10 ⟨some 70,_,_,_,_,_⟩ undef rfl hHeld ?_
         try simp only [Act.put,sa9,sb9,sc9]
         refine tn9 11 ⟨some 71,_,_,_,_,_⟩ undef rfl hHeld ?_
         try simp only [Act.put,sa9,sb9,sc9]
         refine tn9 12 ⟨some 72,_,_,_,_,_⟩ undef rfl hHeld ?_
         try simp only [Act.put,sa9,sb9,sc9]
         refine tn9 13 ⟨some 73,_,_,_,_,_⟩ undef rfl hHeld ?_
         try simp only [Act.put,sa9,sb9,sc9]
         refine tn9 14 ⟨some 74,_,_,_,_,_⟩ undef rfl hHeld ?_
         try simp only [Act.put,sa9,sb9,sc9]
         refine tn9 15 ⟨some 75,_,_,_,_,_⟩ undef rfl hHeld ?_
         try simp only [Act.put,sa9,sb9,sc9]
         refine tn9 16 ⟨some 76,_,_,_,_,_⟩ undef rfl hHeld ?_
         try simp only [Act.put,sa9,sb9,sc9]
         refine tn9 17 ⟨some 77,_,_,_,_,_⟩ undef rfl hHeld ?_
         try simp only [Act.put,sa9,sb9,sc9]
         refine tn9 18 ⟨some 78,_,_,_,_,_⟩ undef rfl hHeld ?_
         try simp only [Act.put,sa9,sb9,sc9]
         refine tn9 19 ⟨some 79,_,_,_,_,_⟩ undef rfl hHeld ?_
         try simp only [Act.put,sa9,sb9,sc9]
         refine tn9 20 ⟨some 80,_,_,_,_,_⟩ undef rfl hHeld ?_
         try simp only [Act.put,sa9,sb9,sc9]
         refine tn9 21 ⟨some 81,_,_,_,_,_⟩ undef rfl hHeld ?_
         try simp only [Act.put,sa9,sb9,sc9]
         refine tn9 22 ⟨some 82,_,_,_,_,_⟩ undef rfl hHeld ?_
         try simp only [Act.put,sa9,sb9,sc9]
         refine tn9 23 ⟨some 83,_,_,_,_,_⟩ undef rfl hHeld ?_
         try simp only [Act.put,sa9,sb9,sc9]
         refine tn9 24 ⟨some 84,_,_,_,_,_⟩ undef rfl hHeld ?_
         try simp only [Act.put,sa9,sb9,sc9]
         refine tn9 25 ⟨some 85,_,_,_,_,_⟩ undef rfl hHeld ?_
         try simp only [Act.put,sa9,sb9,sc9]
         refine tn9 26 ⟨some 86,_,_,_,_,_⟩ undef rfl hHeld ?_
         try simp only [Act.put,sa9,sb9,sc9]
         refine tn9 27 ⟨some 87,_,_,_,_,_⟩ undef rfl hHeld ?_
         try simp only [Act.put,sa9,sb9,sc9]
         refine tn9 28 ⟨some 88,_,_,_,_,_⟩ undef rfl hHeld ?_
         try simp only [Act.put,sa9,sb9,sc9]
         refine tn9 29 ⟨some 89,_,_,_,_,_⟩ undef rfl hHeld ?_
         try simp only [Act.put,sa9,sb9,sc9]
         refine tn9 30 ⟨some 90,_,_,_,_,_⟩ undef rfl hHeld ?_
         try simp only [Act.put,sa9,sb9,sc9]
         refine tn9 31 ⟨some 91,_,_,_,_,_⟩ undef rfl hHeld ?_
         try simp only [Act.put,sa9,sb9,sc9]
         refine tn9 32 ⟨some 92,_,_,_,_,_⟩ undef rfl hHeld ?_
         try simp only [Act.put,sa9,sb9,sc9]
         refine tn9 33 ⟨some 93,_,_,_,_,_⟩ undef rfl hHeld ?_
         try simp only [Act.put,sa9,sb9,sc9]
         refine tn9 34 ⟨some 94,_,_,_,_,_⟩ undef rfl hHeld ?_
         try simp only [Act.put,sa9,sb9,sc9]
         refine tn9 35 ⟨some 95,_,_,_,_,_⟩ undef rfl hHeld ?_
         try simp only [Act.put,sa9,sb9,sc9]
         refine tn9 36 ⟨some 96,_,_,_,_,_⟩ undef rfl hHeld ?_
         try simp only [Act.put,sa9,sb9,sc9]
         refine tn9 37 ⟨some 97,_,_,_,_,_⟩ undef rfl hHeld ?_
         try simp only [Act.put,sa9,sb9,sc9]
         refine tn9 38 ⟨some 98,_,_,_,_,_⟩ undef rfl hHeld ?_
         try simp only [Act.put,sa9,sb9,sc9]
         refine tn9 39 ⟨some 99,_,_,_,_,_⟩ undef rfl hHeld ?_
         try simp only [Act.put,sa9,sb9,sc9]
         refine tk9 40 ⟨some 100,_,_,_,_,_⟩ (.bool false) rfl ?_ hHeld ?_
         ·intro w hSw
          go_simp
         try simp only [Act.put,sa9,sb9,sc9]
         refine wpAnyH_done (by kernel_rfl) ?_ _
         have HBN:=Hd hHeld
         clear hHeld
         go_wp2
         go_roundw
         case rel=>exact ⟨j+1,by go_num,by omega,by omega,Uh HBN⟩
         case measure=>simp [intOf]; omega
        | true =>
         rw [hok] at HCM HPX
         clear hok
         go_quiet (first | (go_at_call 11; exact Calls.quiet_of_same (Uh (HCM _))))
         have hb5:=bthen (Uh HB) (drewB ⟨nq,rfl⟩:Below wr.heap.size wr (wr.drewN nq))
         have HB5:=Hd hb5
         clear hb5 HCM HB hcx hcy
         generalize wr.drewN nq=w5 at *
         obtain ⟨y1,y2,y3,y4,hrp⟩:=(Uh HPX) rfl
         have HOP:=Hd y1
         have HSE:=Hd y2
         have HCP:=Hd y3
         have HCX0:=Hd y4
         clear y1 y2 y3 y4 HPX
         go_wp2
         refine wp_region_held_drew (S:=fun w'=>Below w1.heap.size w1 w') (by kernel_rfl) ((Uh HB5).drew) (fun hHeld=>?_)
         generalize w5.drew=W0 at *
         refine tk9 0 ⟨some 60,_,_,_,_,_⟩ (.bool true) rfl ?_ hHeld ?_
         ·intro w hSw
          go_simp
         try simp only [Act.put,sa9,sb9,sc9]
         refine tk9 1 ⟨some 61,_,_,_,_,_⟩ (.bool true) rfl ?_ hHeld ?_
         ·intro w hSw
          go_simp
         try simp only [Act.put,sa9,sb9,sc9]
         refine tk9 2 ⟨some 62,_,_,_,_,_⟩ (.pointer (some ⟨p,0,none⟩)) rfl ?_ hHeld ?_
         ·intro w hSw
          go_simp
         try simp only [Act.put,sa9,sb9,sc9]
         refine tk9 3 ⟨some 63,_,_,_,_,_⟩ (.int .i32 pc) rfl ?_ hHeld ?_
         ·intro w hSw
          go_simp
         try simp only [Act.put,sa9,sb9,sc9]
         refine tk9 5 ⟨some 65,_,_,_,_,_⟩ (.slice (some ⟨bx,ox,none⟩) cs.length ccap) rfl ?_ hHeld ?_
         ·intro w hSw
          go_simp
         try simp only [Act.put,sa9,sb9,sc9]
         refine tk9 6 ⟨some 66,_,_,_,_,_⟩ (.int .i64 (i:Int)) rfl ?_ hHeld ?_
         ·intro w hSw
          go_simp
         try simp only [Act.put,sa9,sb9,sc9]
         refine tk9 7 ⟨some 67,_,_,_,_,_⟩ (.pointer (some ⟨bx,ox+i,none⟩)) rfl ?_ hHeld ?_
         ·intro w hSw
          go_simp
         try simp only [Act.put,sa9,sb9,sc9]
         refine tk9 8 ⟨some 68,_,_,_,_,_⟩ (.int .i32 x) rfl ?_ hHeld ?_
         ·intro w hSw
          have hc9:=(Uh HCX) w hSw i hlt; rw [Uh HXE] at hc9; go_simp
         try simp only [Act.put,sa9,sb9,sc9]
         refine tk9 9 ⟨some 69,_,_,_,_,_⟩ (.slice (some ⟨bx,ox,none⟩) cs.length ccap) rfl ?_ hHeld ?_
         ·intro w hSw
          go_simp
         try simp only [Act.put,sa9,sb9,sc9]
         refine tk9 10 ⟨some 70,_,_,_,_,_⟩ (.int .i64 (j:Int)) rfl ?_ hHeld ?_
         ·intro w hSw
          go_simp
         try simp only [Act.put,sa9,sb9,sc9]
         refine tk9 11 ⟨some 71,_,_,_,_,_⟩ (.pointer (some ⟨bx,ox+j,none⟩)) rfl ?_ hHeld ?_
         ·intro w hSw
          go_simp
         try simp only [Act.put,sa9,sb9,sc9]
         refine tk9 12 ⟨some 72,_,_,_,_,_⟩ (.int .i32 y) rfl ?_ hHeld ?_
         ·intro w hSw
          have hc9:=(Uh HCX) w hSw j hjl; rw [Uh HYE] at hc9; go_simp
         try simp only [Act.put,sa9,sb9,sc9]
         refine wpAnyH_ready (rs:=[4,13]) (by kernel_rfl) (by simp) ?_
         refine AllReadyH.cons (o:=⟨some 64,_,_,_,_,_⟩) rfl (fun K hK=>?pa) (AllReadyH.cons (o:=⟨some 73,_,_,_,_,_⟩) rfl (fun K hK=>?pb) AllReadyH.nil)
         case' pa =>
          have K4:=Hd ((Uh KO) pc W0 hrp hHeld)
          rw [Uh HOP] at K4
          go_simp
          refine (Uh K4).mono ?_
          rintro e4 W1 ⟨v4,rfl,ok4,b4⟩
          have HS1:=bthen hHeld b4
          obtain ⟨va,vc,hv4,_,_⟩:=ok4.sk.shape
          subst hv4
          have HO1:=Hd ok4.sk
          clear K4 ok4 b4
          refine hK.out _ _ (HS1) (fun hHeld=>?_)
          clear hK K
          try simp only [Act.put,sa9,sb9,sc9]
          refine wpAnyH_ready (rs:=[13]) (by kernel_rfl) (by simp) ?_
          refine AllReadyH.cons (o:=⟨some 73,_,_,_,_,_⟩) rfl (fun K hK=>?_) AllReadyH.nil
          obtain ⟨W2,hW2⟩:∃ W2,W1.alloc (.cells #[.int .i32 x,.int .i32 y] 21)=W2:=⟨_,rfl⟩
          obtain ⟨gl,hgl⟩:∃ gl,W1.heap.size=gl:=⟨_,rfl⟩
          have hba:Below W1.heap.size W1 W2:=by rw [← hW2]; exact (Below.refl _ _).alloc (Nat.le_refl _) _
          have HS2:=bthen HS1 hba
          have K14:Hid (Calls Tryz.prog 12 #[.slice va 2 vc,.slice (some ⟨gl,0,none⟩) 2 2] W2 (Draws W2 true)):=by
           have hs:=lit9 W1 x y hrx hry
           rw [hW2,hgl] at hs
           exact same3_eq _ _ [x,y] W2 ((Uh HO1).below hba) hs (by simp)
          go_simp
          refine hK.out _ _ (HS2) (fun hHeld=>?_)
          clear hK K
          try simp only [Act.put,sa9,sb9,sc9]
          clear HO1 hba hW2 hgl HS1
         case' pb =>
          obtain ⟨W1,hW1⟩:∃ W1,W0.alloc (.cells #[.int .i32 x,.int .i32 y] 21)=W1:=⟨_,rfl⟩
          obtain ⟨gl,hgl⟩:∃ gl,W0.heap.size=gl:=⟨_,rfl⟩
          have hba:Below W0.heap.size W0 W1:=by rw [← hW1]; exact (Below.refl _ _).alloc (Nat.le_refl _) _
          have HS1:=bthen hHeld hba
          have HL1:Hid (Sk .i32 W1 (.slice (some ⟨gl,0,none⟩) 2 2) [x,y]):=by
           have hs:=lit9 W0 x y hrx hry
           rw [hW1,hgl] at hs
           exact hs
          go_simp
          refine hK.out _ _ (HS1) (fun hHeld=>?_)
          clear hK K
          try simp only [Act.put,sa9,sb9,sc9]
          clear hba hW1 hgl
          refine wpAnyH_ready (rs:=[4]) (by kernel_rfl) (by simp) ?_
          refine AllReadyH.cons (o:=⟨some 64,_,_,_,_,_⟩) rfl (fun K hK=>?_) AllReadyH.nil
          have K4:=Hd ((Uh KO) pc W1 hrp HS1)
          rw [Uh HOP] at K4
          go_simp
          refine (Uh K4).mono ?_
          rintro e4 W2 ⟨v4,rfl,ok4,b4⟩
          have HS2:=bthen HS1 b4
          obtain ⟨va,vc,hv4,_,_⟩:=ok4.sk.shape
          subst hv4
          have K14:Hid (Calls Tryz.prog 12 #[.slice va 2 vc,.slice (some ⟨gl,0,none⟩) 2 2] W2 (Draws W2 true)):=same3_eq _ _ [x,y] W2 ok4.sk ((Uh HL1).below b4) (by simp)
          clear K4 ok4 b4 HL1
          refine hK.out _ _ (HS2) (fun hHeld=>?_)
          clear hK K
          try simp only [Act.put,sa9,sb9,sc9]
          clear HS1
         all_goals
          refine wpAnyH_ready (rs:=[14]) (by kernel_rfl) (by simp) ?_
          refine AllReadyH.cons (o:=⟨some 74,_,_,_,_,_⟩) rfl (fun K hK=>?_) AllReadyH.nil
          go_simp
          refine (Uh K14).mono ?_
          rintro e14 W3 ⟨rfl,m14,rfl⟩
          have HS3:=bthen HS2 (drewB ⟨m14,rfl⟩:Below W2.heap.size W2 (W2.drewN m14))
          refine hK.out _ _ (HS3) (fun hHeld=>?_)
          clear hK K
          try simp only [Act.put,sa9,sb9,sc9]
          clear K14 HS2
          generalize W2.drewN m14=W3 at *
          refine tk9 15 ⟨some 75,_,_,_,_,_⟩ (.bool false) rfl ?_ hHeld ?_
          ·intro w hSw
           go_simp
          try simp only [Act.put,sa9,sb9,sc9]
          refine tk9 16 ⟨some 76,_,_,_,_,_⟩ (.bool false) rfl ?_ hHeld ?_
          ·intro w hSw
           go_simp
          try simp only [Act.put,sa9,sb9,sc9]
          refine tk9 17 ⟨some 77,_,_,_,_,_⟩ (.pointer (some ⟨p,0,none⟩)) rfl ?_ hHeld ?_
          ·intro w hSw
           go_simp
          try simp only [Act.put,sa9,sb9,sc9]
          refine tk9 18 ⟨some 78,_,_,_,_,_⟩ (.slice (some ⟨bx,ox,none⟩) cs.length ccap) rfl ?_ hHeld ?_
          ·intro w hSw
           go_simp
          try simp only [Act.put,sa9,sb9,sc9]
          refine tk9 19 ⟨some 79,_,_,_,_,_⟩ (.int .i64 (j:Int)) rfl ?_ hHeld ?_
          ·intro w hSw
           go_simp
          try simp only [Act.put,sa9,sb9,sc9]
          refine tk9 20 ⟨some 80,_,_,_,_,_⟩ (.pointer (some ⟨bx,ox+j,none⟩)) rfl ?_ hHeld ?_
          ·intro w hSw
           go_simp
          try simp only [Act.put,sa9,sb9,sc9]
          refine tk9 21 ⟨some 81,_,_,_,_,_⟩ (.int .i32 y) rfl ?_ hHeld ?_
          ·intro w hSw
           have hc9:=(Uh HCX) w hSw j hjl; rw [Uh HYE] at hc9; go_simp
          try simp only [Act.put,sa9,sb9,sc9]
          refine wpAnyH_ready (rs:=[22]) (by kernel_rfl) (by simp) ?_
          refine AllReadyH.cons (o:=⟨some 82,_,_,_,_,_⟩) rfl (fun K hK=>?_) AllReadyH.nil
          have K22:=Hd ((Uh KS) y W3 HS3)
          rw [Uh HSE] at K22
          go_simp
          refine (Uh K22).mono ?_
          rintro e22 W4 ⟨rfl,rfl⟩
          refine hK.out _ _ (HS3) (fun hHeld=>?_)
          clear hK K
          try simp only [Act.put,sa9,sb9,sc9]
          clear K22
          refine tk9 23 ⟨some 83,_,_,_,_,_⟩ (.bool false) rfl ?_ hHeld ?_
          ·intro w hSw
           go_simp
          try simp only [Act.put,sa9,sb9,sc9]
          refine tk9 24 ⟨some 84,_,_,_,_,_⟩ (.bool false) rfl ?_ hHeld ?_
          ·intro w hSw
           go_simp
          try simp only [Act.put,sa9,sb9,sc9]
          refine tk9 25 ⟨some 85,_,_,_,_,_⟩ (.bool false) rfl ?_ hHeld ?_
          ·intro w hSw
           go_simp
          try simp only [Act.put,sa9,sb9,sc9]
          refine tk9 26 ⟨some 86,_,_,_,_,_⟩ (.pointer (some ⟨p,0,none⟩)) rfl ?_ hHeld ?_
          ·intro w hSw
           go_simp
          try simp only [Act.put,sa9,sb9,sc9]
          refine tk9 27 ⟨some 87,_,_,_,_,_⟩ (.int .i32 pc) rfl ?_ hHeld ?_
          ·intro w hSw
           go_simp
          try simp only [Act.put,sa9,sb9,sc9]
          refine wpAnyH_ready (rs:=[28]) (by kernel_rfl) (by simp) ?_
          refine AllReadyH.cons (o:=⟨some 88,_,_,_,_,_⟩) rfl (fun K hK=>?_) AllReadyH.nil
          have K28:=Hd ((Uh KC) pc W4 hrp HS3)
          rw [Uh HCP] at K28
          go_simp
          refine (Uh K28).mono ?_
          rintro e28 W5 ⟨rfl,m28,rfl⟩
          have HS5:=bthen HS3 (drewB ⟨m28,rfl⟩:Below W4.heap.size W4 (W4.drewN m28))
          refine hK.out _ _ (HS5) (fun hHeld=>?_)
          clear hK K
          try simp only [Act.put,sa9,sb9,sc9]
          clear K28 HS3
          generalize W4.drewN m28=W5 at *
          refine tk9 29 ⟨some 89,_,_,_,_,_⟩ (.bool false) rfl ?_ hHeld ?_
          ·intro w hSw
           go_simp
          try simp only [Act.put,sa9,sb9,sc9]
          refine tk9 30 ⟨some 90,_,_,_,_,_⟩ (.bool false) rfl ?_ hHeld ?_
          ·intro w hSw
           go_simp
          try simp only [Act.put,sa9,sb9,sc9]
          refine tk9 31 ⟨some 91,_,_,_,_,_⟩ (.bool false) rfl ?_ hHeld ?_
          ·intro w hSw
           go_simp
          try simp only [Act.put,sa9,sb9,sc9]
          refine tk9 32 ⟨some 92,_,_,_,_,_⟩ (.pointer (some ⟨p,0,none⟩)) rfl ?_ hHeld ?_
          ·intro w hSw
           go_simp
          try simp only [Act.put,sa9,sb9,sc9]
          refine tk9 33 ⟨some 93,_,_,_,_,_⟩ (.slice (some ⟨bx,ox,none⟩) cs.length ccap) rfl ?_ hHeld ?_
          ·intro w hSw
           go_simp
          try simp only [Act.put,sa9,sb9,sc9]
          refine tk9 34 ⟨some 94,_,_,_,_,_⟩ (.int .i64 (i:Int)) rfl ?_ hHeld ?_
          ·intro w hSw
           go_simp
          try simp only [Act.put,sa9,sb9,sc9]
          refine tk9 35 ⟨some 95,_,_,_,_,_⟩ (.pointer (some ⟨bx,ox+i,none⟩)) rfl ?_ hHeld ?_
          ·intro w hSw
           go_simp
          try simp only [Act.put,sa9,sb9,sc9]
          refine tk9 36 ⟨some 96,_,_,_,_,_⟩ (.int .i32 x) rfl ?_ hHeld ?_
          ·intro w hSw
           have hc9:=(Uh HCX) w hSw i hlt; rw [Uh HXE] at hc9; go_simp
          try simp only [Act.put,sa9,sb9,sc9]
          refine wpAnyH_ready (rs:=[37]) (by kernel_rfl) (by simp) ?_
          refine AllReadyH.cons (o:=⟨some 97,_,_,_,_,_⟩) rfl (fun K hK=>?_) AllReadyH.nil
          have K37:=Hd ((Uh KC) x W5 hrx HS5)
          rw [Uh HCX0] at K37
          go_simp
          refine (Uh K37).mono ?_
          rintro e37 W6 ⟨rfl,m37,rfl⟩
          have HS6:=bthen HS5 (drewB ⟨m37,rfl⟩:Below W5.heap.size W5 (W5.drewN m37))
          refine hK.out _ _ (HS6) (fun hHeld=>?_)
          clear hK K
          try simp only [Act.put,sa9,sb9,sc9]
          clear K37 HS5
          generalize W5.drewN m37=W6 at *
          refine tk9 38 ⟨some 98,_,_,_,_,_⟩ (.bool false) rfl ?_ hHeld ?_
          ·intro w hSw
           go_simp
          try simp only [Act.put,sa9,sb9,sc9]
          refine tk9 39 ⟨some 99,_,_,_,_,_⟩ (.bool false) rfl ?_ hHeld ?_
          ·intro w hSw
           go_simp
          try simp only [Act.put,sa9,sb9,sc9]
          refine tk9 40 ⟨some 100,_,_,_,_,_⟩ (.bool false) rfl ?_ hHeld ?_
          ·intro w hSw
           go_simp
          try simp only [Act.put,sa9,sb9,sc9]
          refine wpAnyH_done (by kernel_rfl) ?_ _
          have HBN:=Hd HS6
          clear hHeld HS6
          go_wp2
          go_roundw
          case rel=>exact ⟨j+1,by go_num,by omega,by omega,Uh HBN⟩
          case measure=>simp [intOf]; omega
       ·have hjj:¬ ((j:Int)<40):=by omega
        have hcx:=(Uh HCX) wr (Uh HB) i hlt
        rw [Uh HXE] at hcx
        have K50:=Hd ((Uh KF) x wr hrx (Uh HB))
        obtain ⟨f1,f2,f3⟩:=(Uh HLV) x
        have HF3:=Hd f3
        clear f3
        generalize (Cn.full rs x).1=fs at *
        go_wp2_with fail
        refine (Uh K50).mono ?_
        rintro e50 w50 ⟨v50,rfl,ok50,b50⟩
        have HB50:=Hd (bthen (Uh HB) b50)
        have HF50:=Hd ok50.sk
        obtain ⟨fa,fc,hv50,hfc1,hfc2⟩:=ok50.sk.shape
        subst hv50
        clear K50 ok50 b50 HB hcx
        go_wp2
        go_loopw [13] (fun jj wr=>∃ k:Nat,jj=.int .i64 k∧k≤fs.length∧Below w50.heap.size w50 wr) (fun jj _=>fs.length - (intOf jj).toNat)
        case atStart=>exact ⟨0,rfl,by omega,Below.refl _ _⟩
        case round =>
         obtain ⟨k,rfl,hk,hb⟩:=hrel
         by_cases hkl:k<fs.length
         ·obtain ⟨bf,of,cqf,hef,_,_,hclf⟩:=(Uh HF50).place f1
          simp only [Value.slice.injEq] at hef
          obtain ⟨rfl,h9,rfl⟩:=hef
          clear h9
          have hcell:wr.cell? ⟨bf,of+k,none⟩=some (.int .i32 (fs.getD k 0)):=by
           have h3:=hclf k hkl
           rw [hb.cell (lt_of_cell? h3)]; exact h3
          have hmem:fs.getD k 0∈fs:=by simp [List.getD,hkl]
          have hrf:Rune (fs.getD k 0):=by
           have:=(Uh HF50).1 _ hmem
           exact ⟨this.1,this.2⟩
          have K60:=Hd ((Uh KO) (fs.getD k 0) wr hrf (bthen (Uh HB50) hb))
          rw [(Uh HF3) _ hmem] at K60
          have HBW:=Hd hb
          clear hclf hb hmem hrf
          generalize fs.getD k 0=z at *
          go_wp2_with fail
          refine (Uh K60).mono ?_
          rintro e60 w60 ⟨v60,rfl,ok60,b60⟩
          have HB60:=Hd (bthen (Uh HBW) b60)
          obtain ⟨za,zc,hz60,_,_⟩:=ok60.sk.shape
          subst hz60
          clear K60 ok60 b60 HBW hcell
          go_wp2
          go_roundw
          case rel=>exact ⟨k+1,by go_num,by omega,Uh HB60⟩
          case measure=>simp [intOf]; omega
         ·have HBE:=Hd (bthen (Uh HB50) hb)
          have hfz:¬ ((fs.length:Int)=0):=by omega
          clear hb
          go_wp2
          go_roundw
          case rel=>exact ⟨i+1,by go_num,by omega,by omega,Uh HBE⟩
          case measure=>simp [intOf]; omega
      ·have hcx:=(Uh HCX) wr (Uh HB) i hlt
       rw [Uh HXE] at hcx
       have K50:=Hd ((Uh KF) x wr hrx (Uh HB))
       obtain ⟨f1,f2,f3⟩:=(Uh HLV) x
       have HF3:=Hd f3
       clear f3
       generalize (Cn.full rs x).1=fs at *
       go_wp2_with fail
       refine (Uh K50).mono ?_
       rintro e50 w50 ⟨v50,rfl,ok50,b50⟩
       have HB50:=Hd (bthen (Uh HB) b50)
       have HF50:=Hd ok50.sk
       obtain ⟨fa,fc,hv50,hfc1,hfc2⟩:=ok50.sk.shape
       subst hv50
       clear K50 ok50 b50 HB hcx
       go_wp2
       go_loopw [13] (fun jj wr=>∃ k:Nat,jj=.int .i64 k∧k≤fs.length∧Below w50.heap.size w50 wr) (fun jj _=>fs.length - (intOf jj).toNat)
       case atStart=>exact ⟨0,rfl,by omega,Below.refl _ _⟩
       case round =>
        obtain ⟨k,rfl,hk,hb⟩:=hrel
        by_cases hkl:k<fs.length
        ·obtain ⟨bf,of,cqf,hef,_,_,hclf⟩:=(Uh HF50).place f1
         simp only [Value.slice.injEq] at hef
         obtain ⟨rfl,h9,rfl⟩:=hef
         clear h9
         have hcell:wr.cell? ⟨bf,of+k,none⟩=some (.int .i32 (fs.getD k 0)):=by
          have h3:=hclf k hkl
          rw [hb.cell (lt_of_cell? h3)]; exact h3
         have hmem:fs.getD k 0∈fs:=by simp [List.getD,hkl]
         have hrf:Rune (fs.getD k 0):=by
          have:=(Uh HF50).1 _ hmem
          exact ⟨this.1,this.2⟩
         have K60:=Hd ((Uh KO) (fs.getD k 0) wr hrf (bthen (Uh HB50) hb))
         rw [(Uh HF3) _ hmem] at K60
         have HBW:=Hd hb
         clear hclf hb hmem hrf
         generalize fs.getD k 0=z at *
         go_wp2_with fail
         refine (Uh K60).mono ?_
         rintro e60 w60 ⟨v60,rfl,ok60,b60⟩
         have HB60:=Hd (bthen (Uh HBW) b60)
         obtain ⟨za,zc,hz60,_,_⟩:=ok60.sk.shape
         subst hz60
         clear K60 ok60 b60 HBW hcell
         go_wp2
         go_roundw
         case rel=>exact ⟨k+1,by go_num,by omega,Uh HB60⟩
         case measure=>simp [intOf]; omega
        ·have HBE:=Hd (bthen (Uh HB50) hb)
         have hfz:¬ ((fs.length:Int)=0):=by omega
         clear hb
         go_wp2
         go_roundw
         case rel=>exact ⟨i+1,by go_num,by omega,by omega,Uh HBE⟩
         case measure=>simp [intOf]; omega
    ·have hii:¬ ((i:Int)<40):=by omega
     have HBF:=Hd (bthen (Uh HB1) (Uh HBO))
     clear HBO KP KO KS KC KF HPL HLV HRN
     go_wp2
     go_ret
     exact ⟨rfl,Uh HBF⟩
   ·have HBF:=Hd (bthen (Uh HB1) (Uh HBO))
    clear HBO KP KO KS KC KF HPL HLV HRN
    go_wp2
    go_ret
    exact ⟨rfl,Uh HBF⟩
end Go.Proofs.YteccdnacpmbfcaaGreatDoor
