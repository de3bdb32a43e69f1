/- Vu9 -/
import Derived.Test.YtnpdonnijonpnaaGreatDoorW44
namespace Go.Proofs.YtnpdonnijonpnaaGreatDoor
open Go.RowKit
open Ti
theorem opn_len9 {rs:List Rec} (hfit:∀ r∈rs,RecFit r) (c:Int):(Cn.opn rs c).length≤1000000000:=by
 unfold Cn.opn
 split
 ·split <;> simp
 ·cases he:Cn.hit rs 3 c with
  | none=>simp
  | some r=>exact (hfit r (Cn.hit_some he).1).len
theorem looks_len9 {rs:List Rec} (h6:(Cn.check6 rs).2=0) (hfit:∀ r∈rs,RecFit r) (c:Int):(Cn.looks rs c).length≤1000000000:=by
 unfold Cn.looks
 split
 ·simp
 ·rcases Cn.rget_cases h6 (f:=8) (by decide) c with ⟨_,e⟩ | ⟨_,hm,_⟩
  ·rw [e]; simp [Cn.none]
  ·exact (hfit _ hm).len
theorem row_cell9 {W:World} {B g n cap k:Nat} {l:List Int} (h:Ok .i32 21 W B (.slice (some ⟨g,0,none⟩) n cap) l) (hk:k<l.length):W.cell? ⟨g,k,none⟩=some (.int .i32 (l.getD k 0))∧W.frozen? ⟨g,k,none⟩=false:=by
 rcases h.row.2 with ⟨e,_⟩ | ⟨g',cap',cur,e,_,e3,_,_,_,e7⟩
 ·simp at e
 ·simp only [Value.slice.injEq,Option.some.injEq,Addr.mk.injEq] at e
  obtain ⟨⟨e1,_⟩,_,_⟩:=e
  subst e1
  refine ⟨?_,frozen_of_row _ _ _ _ _ e3⟩
  rw [cell_of_row _ _ _ _ _ _ e3]
  have h1:(cur.toList.take (l.length * 1))[k]?=(l.map (Value.int .i32))[k]?:=by rw [e7]
  rw [List.getElem?_take,if_pos (by omega),Array.getElem?_toList,List.getElem?_map,List.getElem?_eq_getElem hk] at h1
  rw [h1]; simp [List.getD,hk]
theorem row_keep9 {W:World} {B g k:Nat} {v u:Value} {l:List Int} (h:Ok .i32 21 W B v l) (hne:v.ownBlock≠some g):Ok .i32 21 (W.setCell ⟨g,k,none⟩ u) B v l:=h.keep (fun j hj=>heap_setCell_other W ⟨g,k,none⟩ j u (fun e=>hne (by rw [hj]; exact congrArg some e)))
theorem own_some9 {W:World} {B n cap:Nat} {ao:Option Addr} {l:List Int} (h:Ok .i32 21 W B (.slice ao n cap) l) (hn:0<l.length):∃ g,ao=some ⟨g,0,none⟩:=by
 obtain ⟨g,c,e,_⟩:=own_shape h.row hn
 simp only [Value.slice.injEq] at e
 exact ⟨g,e.1⟩
set_option maxHeartbeats 1000000 in
theorem refOpen9 (v:Value) (rs:List Rec) (c:Int) (w:World) (hv:Rcs w v rs) (hc:Rune c):Calls Tryz.prog 10 #[v,.int .i32 c] w (RunesNew w (Cn.opn rs c)):=by
 have K:=Hd (refOpen_any v rs c w hv hc)
 obtain ⟨c0,c1⟩:=hc
 obtain ⟨ao,cap,rfl,_,_⟩:=hv.shape
 clear hv
 generalize Cn.opn rs c=z at *
 go_enter Tryz.func10,Tryz.ntmps10
 go_wp2_with fail
 refine (Uh K).mono ?_
 rintro e w1 ⟨v1,rfl,ok1,hb⟩
 have HF:Hid (RunesNew w z (.returned v1) w1):=⟨v1,rfl,ok1,hb⟩
 clear K hb ok1
 go_wp2
 go_ret
 exact Uh HF
set_option maxHeartbeats 1000000 in
theorem refFull9 (v:Value) (rs:List Rec) (c:Int) (w:World) (hv:Rcs w v rs) (hc:Rune c):Calls Tryz.prog 11 #[v,.int .i32 c] w (RunesNew w (Cn.full rs c).1):=by
 have K:=Hd (refFull_any v rs c w hv hc)
 obtain ⟨c0,c1⟩:=hc
 obtain ⟨ao,cap,rfl,_,_⟩:=hv.shape
 clear hv
 generalize Cn.full rs c=z at *
 go_enter Tryz.func11,Tryz.ntmps11
 go_wp2_with fail
 refine (Uh K).mono ?_
 rintro e w1 ⟨v1,rfl,ok1,hb⟩
 have HF:Hid (RunesNew w z.1 (.returned v1) w1):=⟨v1,rfl,ok1,hb⟩
 clear K hb ok1
 go_wp2
 go_ret
 exact Uh HF
set_option maxRecDepth 8000 in
set_option maxHeartbeats 16000000 in
theorem opens_any9 (v:Value) (rs0:List Rec) (cv:Value) (cs:List Int) (w:World) (hg:Glob w) (hv:Rcs w v rs0) (hc:Sk .i32 w cv cs):Calls Tryz.prog 3 #[v,cv] w (Tells w true):=by
 have K1:=Hd (made_any v rs0 w hg hv)
 have hfit:∀ r∈rs0.take 150,RecFit r:=fun r hr=>hv.2.1 r (List.mem_of_mem_take hr)
 have hrl:(rs0.take 150).length≤150:=by rw [List.length_take]; omega
 obtain ⟨ao,cap,rfl,_,hcap⟩:=hv.shape
 have HCV:=Hd hc
 have hcl:=hc.len
 obtain ⟨co,ccap,hce,hcc1,hcc2⟩:=hc.shape
 subst hce
 have HG:=Hd hg
 have HFIT:=Hd hfit
 clear hg hv hc hfit
 generalize rs0.take 150=rs at *
 generalize rs0.length=L at *
 go_enter Tryz.func3,Tryz.ntmps3
 go_wp2_with fail
 refine (Uh K1).mono ?_
 rintro e1 w1 ⟨b1,h1⟩
 have HB1:=Hd b1
 clear K1 b1
 rcases h1 with ⟨hne,rfl⟩ | ⟨h0,p,v2,ps2,rfl,hD,r2,p2⟩
 ·have K2:=Hd (told_any9 w1 ((Uh HG).on (Uh HB1)))
  clear hne
  go_wp2_with fail
  refine (Uh K2).mono ?_
  rintro e2 w2 ⟨rfl,b2⟩
  have HB2:=Hd (bthen (Uh HB1) b2)
  clear K2 b2
  go_wp2
  go_ret
  exact ⟨rfl,Uh HB2⟩
 ·have R2:=rcs_new r2 p2 (by omega) (Uh HFIT)
  obtain ⟨a2,cp2,hv2,_,hcp2⟩:=R2.shape
  subst hv2
  have hC1:=(Uh HCV).below (Uh HB1)
  have HC1:=Hd hC1
  have hG1:=(Uh HG).on (Uh HB1)
  have h6:=(Cn.check_iff.1 h0).1
  have KP:Hid (∀ a b W,Rune a→Rune b→Below w1.heap.size w1 W→Calls Tryz.prog 15 #[.pointer (some ⟨p,0,none⟩),.int .i32 a,.int .i32 b] W fun e w'=>e=.returned (.tuple #[.int .i32 (Cn.cmp9 rs a b).1,.bool (Cn.cmp9 rs a b).2])∧w'=W):=fun a b W ha hb hW=>compose_any9 a b W (hD.below hW) ha hb
  have KO:Hid (∀ c W,Rune c→Below w1.heap.size w1 W→Calls Tryz.prog 6 #[.pointer (some ⟨p,0,none⟩),.int .i32 c] W (RunesNew W (Cn.opn rs c))):=fun c W hc hW=>open_any9 c W (hG1.on hW) (hD.below hW) h0 hc
  have KS:Hid (∀ c W,Below w1.heap.size w1 W→Calls Tryz.prog 13 #[.pointer (some ⟨p,0,none⟩),.int .i32 c] W fun e w'=>e=.returned (.bool (secB rs c))∧w'=W):=fun c W hW=>second_any9 c W (hD.below hW)
  have KF:Hid (∀ c W,Rune c→Below w1.heap.size w1 W→Calls Tryz.prog 7 #[.pointer (some ⟨p,0,none⟩),.int .i32 c] W (RunesNew W (Cn.full rs c).1)):=fun c W hc hW=>full_any9 c W (hG1.on hW) (hD.below hW) h0 hc
  have hfit:=Uh HFIT
  have KL:Hid (∀ c W,Rune c→Below w1.heap.size w1 W→Calls Tryz.prog 8 #[.pointer (some ⟨p,0,none⟩),.int .i32 c] W (RunesNew W (Cn.looks rs c))):=fun c W hc hW=>looks_any9 c W (hD.below hW) h6 hfit hc
  have DO:Hid (∀ c W,Rune c→Below w1.heap.size w1 W→Calls Tryz.prog 10 #[.slice a2 rs.length cp2,.int .i32 c] W (RunesNew W (Cn.opn rs c))):=fun c W hc hW=>refOpen9 _ rs c W (R2.below hW) hc
  have DF:Hid (∀ c W,Rune c→Below w1.heap.size w1 W→Calls Tryz.prog 11 #[.slice a2 rs.length cp2,.int .i32 c] W (RunesNew W (Cn.full rs c).1)):=fun c W hc hW=>refFull9 _ rs c W (R2.below hW) hc
  have DL:Hid (∀ c W,Rune c→Below w1.heap.size w1 W→Calls Tryz.prog 12 #[.slice a2 rs.length cp2,.int .i32 c] W (RunesNew W (Cn.looks rs c))):=fun c W hc hW=>refLooks9 _ rs c W (R2.below hW) h6 hc
  have DS:Hid (∀ c W,Rune c→Below w1.heap.size w1 W→Calls Tryz.prog 14 #[.slice a2 rs.length cp2,.int .i32 c] W fun e w'=>e=.returned (.bool (secB rs c))∧w'=W):=fun c W hc hW=>refSecond9 _ rs c W (R2.below hW) h6 hc
  have DP:Hid (∀ a b W,Rune a→Rune b→Below w1.heap.size w1 W→Calls Tryz.prog 16 #[.slice a2 rs.length cp2,.int .i32 a,.int .i32 b] W fun e w'=>e=.returned (.tuple #[.int .i32 (Cn.cmp9 rs a b).1,.bool (Cn.cmp9 rs a b).2])∧w'=W):=fun a b W ha hb hW=>refCompose9 _ rs a b W (R2.below hW) h0 ha hb
  have HLN:Hid (∀ c,(Cn.opn rs c).length≤1000000000∧(Cn.full rs c).1.length≤32∧(Cn.looks rs c).length≤1000000000):=fun c=>⟨opn_len9 hfit c,(Cn.leaves h0 c).2.2.1,looks_len9 h6 hfit c⟩
  have HRN:Hid (∀ i,i<cs.length→Rune (cs.getD i 0)):=fun i hi=>by
   have:=hC1.1 (cs.getD i 0) (by simp [List.getD,hi])
   exact ⟨this.1,this.2⟩
  clear hD r2 p2 R2 h0 h6 hC1 hG1 HG HFIT HCV hfit
  go_wp2
  go_loopw [8,9,10,11,12,13,14,15,16,17,18,19,20] (fun ii _ _ _ _ _ _ _ _ _ _ _ _ wr=>∃ i:Nat,ii=.int .i64 i∧i≤cs.length∧i≤40∧Below w1.heap.size w1 wr) (fun ii _ _ _ _ _ _ _ _ _ _ _ _ _=>40 - (intOf ii).toNat)
  case atStart=>exact ⟨0,rfl,by omega,by omega,Below.refl _ _⟩
  case round =>
   obtain ⟨i,rfl,hi,hi40,hb⟩:=hrel
   obtain ⟨w0,hwo⟩:∃ w0,w0=wr:=⟨_,rfl⟩
   subst hwo
   have B0:=Hd hb
   clear hb
   by_cases hlt:i<cs.length
   ·by_cases h40:i<40
    ·obtain ⟨bx,ox,cqx,hex,_,_,hclx⟩:=(Uh HC1).place (by omega)
     simp only [Value.slice.injEq] at hex
     obtain ⟨rfl,h9,rfl⟩:=hex
     clear h9
     have HCX:Hid (∀ W,Below w1.heap.size w1 W→∀ j,j<cs.length→W.cell? ⟨bx,ox+j,none⟩=some (.int .i32 (cs.getD j 0))):=fun W hW j hj=>by
      have h3:=hclx j hj
      rw [hW.cell (lt_of_cell? h3)]; exact h3
     have hrx:=(Uh HRN) i hlt
     have hcx:=(Uh HCX) w0 (Uh B0) i hlt
     clear hclx
     obtain ⟨x,hxe⟩:∃ x,cs.getD i 0=x:=⟨_,rfl⟩
     rw [hxe] at hrx hcx
     clear hxe
     have KA:=Hd ((Uh KO) x w0 hrx (Uh B0))
     have KFx:Hid (∀ W,Below w1.heap.size w1 W→Calls Tryz.prog 7 #[.pointer (some ⟨p,0,none⟩),.int .i32 x] W (RunesNew W (Cn.full rs x).1)):=fun W hW=>(Uh KF) x W hrx hW
     have KOx:Hid (∀ W,Below w1.heap.size w1 W→Calls Tryz.prog 6 #[.pointer (some ⟨p,0,none⟩),.int .i32 x] W (RunesNew W (Cn.opn rs x))):=fun W hW=>(Uh KO) x W hrx hW
     have KLx:Hid (∀ W,Below w1.heap.size w1 W→Calls Tryz.prog 8 #[.pointer (some ⟨p,0,none⟩),.int .i32 x] W (RunesNew W (Cn.looks rs x))):=fun W hW=>(Uh KL) x W hrx hW
     have DOx:Hid (∀ W,Below w1.heap.size w1 W→Calls Tryz.prog 10 #[.slice a2 rs.length cp2,.int .i32 x] W (RunesNew W (Cn.opn rs x))):=fun W hW=>(Uh DO) x W hrx hW
     have DFx:Hid (∀ W,Below w1.heap.size w1 W→Calls Tryz.prog 11 #[.slice a2 rs.length cp2,.int .i32 x] W (RunesNew W (Cn.full rs x).1)):=fun W hW=>(Uh DF) x W hrx hW
     have DLx:Hid (∀ W,Below w1.heap.size w1 W→Calls Tryz.prog 12 #[.slice a2 rs.length cp2,.int .i32 x] W (RunesNew W (Cn.looks rs x))):=fun W hW=>(Uh DL) x W hrx hW
     have KSx:Hid (∀ W,Below w1.heap.size w1 W→Calls Tryz.prog 13 #[.pointer (some ⟨p,0,none⟩),.int .i32 x] W fun e w'=>e=.returned (.bool (secB rs x))∧w'=W):=fun W hW=>(Uh KS) x W hW
     have DSx:Hid (∀ W,Below w1.heap.size w1 W→Calls Tryz.prog 14 #[.slice a2 rs.length cp2,.int .i32 x] W fun e w'=>e=.returned (.bool (secB rs x))∧w'=W):=fun W hW=>(Uh DS) x W hrx hW
     have KPx:Hid (∀ b W,Rune b→Below w1.heap.size w1 W→Calls Tryz.prog 15 #[.pointer (some ⟨p,0,none⟩),.int .i32 x,.int .i32 b] W fun e w'=>e=.returned (.tuple #[.int .i32 (Cn.cmp9 rs x b).1,.bool (Cn.cmp9 rs x b).2])∧w'=W):=fun b W hb hW=>(Uh KP) x b W hrx hb hW
     have DPx:Hid (∀ b W,Rune b→Below w1.heap.size w1 W→Calls Tryz.prog 16 #[.slice a2 rs.length cp2,.int .i32 x,.int .i32 b] W fun e w'=>e=.returned (.tuple #[.int .i32 (Cn.cmp9 rs x b).1,.bool (Cn.cmp9 rs x b).2])∧w'=W):=fun b W hb hW=>(Uh DP) x b W hrx hb hW
     obtain ⟨hA9,hQ9,hC9⟩:=(Uh HLN) x
     clear KO KF KL DO DF DL KS DS KP DP
     generalize Cn.opn rs x=A at *
     generalize (Cn.full rs x).1=Q at *
     generalize Cn.looks rs x=C at *
     generalize secB rs x=sb at *
     go_wp2_with fail
     refine (Uh KA).mono ?_
     rintro e3 w3 ⟨va,rfl,ok3,b3⟩
     have HA3:=Hd ok3
     have B3:=Hd b3
     obtain ⟨aa,ac,hva,_,hac2⟩:=ok3.sk.shape
     have hAl:=ok3.sk.len
     subst hva
     have K5:=Hd ((Uh KFx) w3 (bthen (Uh B0) b3))
     clear KA ok3 b3 hcx
     go_wp2_with fail
     refine (Uh K5).mono ?_
     rintro e4 w4 ⟨vb,rfl,ok4,b4⟩
     have HA4:=Hd ((Uh HA3).below b4)
     have HBb4:=Hd ok4
     have B4:=Hd (bthen (Uh B3) b4)
     have hs3:=(Uh B3).size
     have hs34:=b4.size
     obtain ⟨ba,bc,hvb,_,hbc2⟩:=ok4.sk.shape
     have hBl:=ok4.sk.len
     subst hvb
     have K6:=Hd ((Uh KLx) w4 (bthen (Uh B0) (Uh B4)))
     have LA3:Hid (∀ k,(Value.slice aa A.length ac).ownBlock=some k→w0.heap.size≤k∧k<w3.heap.size):=fun k hk=>(Uh HA3).row.lt k hk
     clear K5 ok4 b4 HA3 B3
     go_wp2_with fail
     refine (Uh K6).mono ?_
     rintro e5 w5 ⟨vc,rfl,ok5,b5⟩
     have HA5:=Hd ((Uh HA4).below b5)
     have HBb5:=Hd ((Uh HBb4).below b5)
     have HC5:=Hd ok5
     have B5:=Hd (bthen (Uh B4) b5)
     obtain ⟨ca,cc,hvc,_,hcc2⟩:=ok5.sk.shape
     have hCl:=ok5.sk.len
     subst hvc
     have LB4:Hid (∀ k,(Value.slice ba Q.length bc).ownBlock=some k→w3.heap.size≤k∧k<w4.heap.size):=fun k hk=>(Uh HBb4).row.lt k hk
     have LC5:Hid (∀ k,(Value.slice ca C.length cc).ownBlock=some k→w4.heap.size≤k):=fun k hk=>(ok5.row.lt k hk).1
     have hs4:=(Uh B4).size
     clear K6 ok5 b5 HA4 HBb4 B4
     go_wp2_with fail
     refine ((Uh DOx) w5 (bthen (Uh B0) (Uh B5))).mono ?_
     rintro e6 w6 ⟨v6,rfl,ok6,b6⟩
     have B6:=Hd (bthen (Uh B5) b6)
     have HA6:=Hd ((Uh HA5).below b6)
     have HBb6:=Hd ((Uh HBb5).below b6)
     have HC6:=Hd ((Uh HC5).below b6)
     have KS6:=Hd (same3_eq _ _ A w6 (Uh HA6).sk ok6.sk (by omega))
     obtain ⟨o6,q6,hv6,_,_⟩:=ok6.sk.shape
     subst hv6
     clear ok6 b6 B5 HA5 HBb5 HC5
     go_wp2_with fail
     refine (Uh KS6).mono ?_
     rintro e7 w7 ⟨rfl,m7,rfl⟩
     have b7:Below w6.heap.size w6 (w6.drewN m7):=drewB ⟨m7,rfl⟩
     have B7:=Hd (bthen (Uh B6) b7)
     have HA7:=Hd ((Uh HA6).below b7)
     have HBb7:=Hd ((Uh HBb6).below b7)
     have HC7:=Hd ((Uh HC6).below b7)
     clear KS6 b7 B6 HA6 HBb6 HC6
     generalize w6.drewN m7=w7 at *
     go_wp2_with fail
     refine ((Uh DFx) w7 (bthen (Uh B0) (Uh B7))).mono ?_
     rintro e8 w8 ⟨v8,rfl,ok8,b8⟩
     have B8:=Hd (bthen (Uh B7) b8)
     have HA8:=Hd ((Uh HA7).below b8)
     have HBb8:=Hd ((Uh HBb7).below b8)
     have HC8:=Hd ((Uh HC7).below b8)
     have KS8:=Hd (same3_eq _ _ Q w8 (Uh HBb8).sk ok8.sk (by omega))
     obtain ⟨o8,q8,hv8,_,_⟩:=ok8.sk.shape
     subst hv8
     clear ok8 b8 B7 HA7 HBb7 HC7
     go_wp2_with fail
     refine (Uh KS8).mono ?_
     rintro e9 w9 ⟨rfl,m9,rfl⟩
     have b9:Below w8.heap.size w8 (w8.drewN m9):=drewB ⟨m9,rfl⟩
     have B9:=Hd (bthen (Uh B8) b9)
     have HA9:=Hd ((Uh HA8).below b9)
     have HBb9:=Hd ((Uh HBb8).below b9)
     have HC9:=Hd ((Uh HC8).below b9)
     clear KS8 b9 B8 HA8 HBb8 HC8
     generalize w8.drewN m9=w9 at *
     go_wp2_with fail
     refine ((Uh DLx) w9 (bthen (Uh B0) (Uh B9))).mono ?_
     rintro e10 w10 ⟨v10,rfl,ok10,b10⟩
     have B10:=Hd (bthen (Uh B9) b10)
     have HA10:=Hd ((Uh HA9).below b10)
     have HBb10:=Hd ((Uh HBb9).below b10)
     have HC10:=Hd ((Uh HC9).below b10)
     have KS10:=Hd (same3_eq _ _ C w10 (Uh HC10).sk ok10.sk (by omega))
     obtain ⟨o10,q10,hv10,_,_⟩:=ok10.sk.shape
     subst hv10
     clear ok10 b10 B9 HA9 HBb9 HC9
     go_wp2_with fail
     refine (Uh KS10).mono ?_
     rintro e11 w11 ⟨rfl,m11,rfl⟩
     have b11:Below w10.heap.size w10 (w10.drewN m11):=drewB ⟨m11,rfl⟩
     have B11:=Hd (bthen (Uh B10) b11)
     have HA11:=Hd ((Uh HA10).below b11)
     have HBb11:=Hd ((Uh HBb10).below b11)
     have HC11:=Hd ((Uh HC10).below b11)
     clear KS10 b11 B10 HA10 HBb10 HC10
     generalize w10.drewN m11=w11 at *
     go_wp2_with fail
     refine ((Uh KSx) w11 (bthen (Uh B0) (Uh B11))).mono ?_
     rintro e12 w12 ⟨rfl,rfl⟩
     go_wp2_with fail
     refine ((Uh DSx) w12 (bthen (Uh B0) (Uh B11))).mono ?_
     rintro e13 w13 ⟨rfl,rfl⟩
     have hsb:(sb != sb)=false:=by simp
     clear KSx DSx
     go_wp2
     go_loopw [13] (fun ii wr=>∃ (k:Nat) (la lb lc:List Int),ii=.int .i64 k∧k≤A.length∧la.length=A.length∧Ok .i32 21 wr w0.heap.size (.slice aa A.length ac) la∧lb.length=Q.length∧Ok .i32 21 wr w3.heap.size (.slice ba Q.length bc) lb∧lc.length=C.length∧Ok .i32 21 wr w4.heap.size (.slice ca C.length cc) lc∧Below w0.heap.size w0 wr) (fun ii _=>A.length - (intOf ii).toNat)
     case atStart=>exact ⟨0,A,Q,C,rfl,by omega,rfl,Uh HA11,rfl,Uh HBb11,rfl,Uh HC11,Uh B11⟩
     case round =>
      clear B11 HA11 HBb11 HC11
      obtain ⟨k,la,lb,lc,rfl,hk,hla,oa,hlb,ob,hlc,oc,hbel⟩:=hrel
      by_cases hlt:k<A.length
      ·obtain ⟨gg,hgg⟩:=own_some9 oa (by omega)
       subst hgg
       obtain ⟨hcell,hfr⟩:=row_cell9 (k:=k) oa (by omega)
       have hgb:w0.heap.size≤gg:=by have:=(oa.row.lt gg rfl).1; omega
       have o2:=(oa.setAt9 k (-9) (fun z hz=>by simp at hz; subst hz; exact i32_fit (by omega))).1
       have hQx:(Value.slice ba Q.length bc).ownBlock≠some gg:=fun e=>by
        have u1:=(Uh LB4) gg e
        have u2:=(Uh LA3) gg rfl
        omega
       have ob2:=row_keep9 (k:=k) (u:=.int .i32 (-9)) ob hQx
       have hCx:(Value.slice ca C.length cc).ownBlock≠some gg:=fun e=>by
        have u1:=(Uh LC5) gg e
        have u2:=(Uh LA3) gg rfl
        omega
       have oc2:=row_keep9 (k:=k) (u:=.int .i32 (-9)) oc hCx
       have hb2:=hbel.setCell (p:=⟨gg,k,none⟩) hgb (.int .i32 (-9))
       obtain ⟨W5,hW5⟩:∃ W5,wr.setCell ⟨gg,k,none⟩ (.int .i32 (-9))=W5:=⟨_,rfl⟩
       rw [hW5] at o2 ob2 oc2 hb2
       have HO2:=Hd o2
       have Hob2:=Hd ob2
       have Hoc2:=Hd oc2
       have HB2:=Hd hb2
       have hl2:(la.set k (-9)).length=A.length:=by rw [List.length_set]; exact hla
       clear oa ob oc o2 ob2 oc2 hb2 hbel hQx hCx
       generalize la.getD k 0=old at *
       go_wp2
       go_roundw
       case rel=>exact ⟨k+1,la.set k (-9),lb,lc,by go_num,by omega,hl2,Uh HO2,hlb,Uh Hob2,hlc,Uh Hoc2,Uh HB2⟩
       case measure=>simp [intOf]; omega
      ·have hke:=hk
       have HOA:=Hd oa
       have HOB:=Hd ob
       have HOC:=Hd oc
       have HBE:=Hd hbel
       clear oa ob oc hbel
       obtain ⟨wo,hwo⟩:∃ wo,wo=wr:=⟨_,rfl⟩
       subst hwo
       go_wp2
       clear hlt hk hke
       go_loopw [14] (fun ii wr=>∃ (k:Nat) (la lb lc:List Int),ii=.int .i64 k∧k≤Q.length∧la.length=A.length∧Ok .i32 21 wr w0.heap.size (.slice aa A.length ac) la∧lb.length=Q.length∧Ok .i32 21 wr w3.heap.size (.slice ba Q.length bc) lb∧lc.length=C.length∧Ok .i32 21 wr w4.heap.size (.slice ca C.length cc) lc∧Below w0.heap.size w0 wr) (fun ii _=>Q.length - (intOf ii).toNat)
       case atStart=>exact ⟨0,la,lb,lc,rfl,by omega,hla,Uh HOA,hlb,Uh HOB,hlc,Uh HOC,Uh HBE⟩
       case round =>
        clear HOA HOB HOC HBE
        obtain ⟨k,la,lb,lc,rfl,hk,hla,oa,hlb,ob,hlc,oc,hbel⟩:=hrel
        by_cases hlt:k<Q.length
        ·obtain ⟨gg,hgg⟩:=own_some9 ob (by omega)
         subst hgg
         obtain ⟨hcell,hfr⟩:=row_cell9 (k:=k) ob (by omega)
         have hgb:w0.heap.size≤gg:=by have:=(ob.row.lt gg rfl).1; omega
         have o2:=(ob.setAt9 k (-9) (fun z hz=>by simp at hz; subst hz; exact i32_fit (by omega))).1
         have hAx:(Value.slice aa A.length ac).ownBlock≠some gg:=fun e=>by
          have u1:=(Uh LA3) gg e
          have u2:=(Uh LB4) gg rfl
          omega
         have oa2:=row_keep9 (k:=k) (u:=.int .i32 (-9)) oa hAx
         have hCx:(Value.slice ca C.length cc).ownBlock≠some gg:=fun e=>by
          have u1:=(Uh LC5) gg e
          have u2:=(Uh LB4) gg rfl
          omega
         have oc2:=row_keep9 (k:=k) (u:=.int .i32 (-9)) oc hCx
         have hb2:=hbel.setCell (p:=⟨gg,k,none⟩) hgb (.int .i32 (-9))
         obtain ⟨W5,hW5⟩:∃ W5,wr.setCell ⟨gg,k,none⟩ (.int .i32 (-9))=W5:=⟨_,rfl⟩
         rw [hW5] at o2 oa2 oc2 hb2
         have HO2:=Hd o2
         have Hoa2:=Hd oa2
         have Hoc2:=Hd oc2
         have HB2:=Hd hb2
         have hl2:(lb.set k (-9)).length=Q.length:=by rw [List.length_set]; exact hlb
         clear oa ob oc o2 oa2 oc2 hb2 hbel hAx hCx
         generalize lb.getD k 0=old at *
         go_wp2
         go_roundw
         case rel=>exact ⟨k+1,la,lb.set k (-9),lc,by go_num,by omega,hla,Uh Hoa2,hl2,Uh HO2,hlc,Uh Hoc2,Uh HB2⟩
         case measure=>simp [intOf]; omega
        ·have hke:=hk
         have HOA:=Hd oa
         have HOB:=Hd ob
         have HOC:=Hd oc
         have HBE:=Hd hbel
         clear oa ob oc hbel
         obtain ⟨wo,hwo⟩:∃ wo,wo=wr:=⟨_,rfl⟩
         subst hwo
         go_wp2
         clear hlt hk hke
         go_loopw [15] (fun ii wr=>∃ (k:Nat) (la lb lc:List Int),ii=.int .i64 k∧k≤C.length∧la.length=A.length∧Ok .i32 21 wr w0.heap.size (.slice aa A.length ac) la∧lb.length=Q.length∧Ok .i32 21 wr w3.heap.size (.slice ba Q.length bc) lb∧lc.length=C.length∧Ok .i32 21 wr w4.heap.size (.slice ca C.length cc) lc∧Below w0.heap.size w0 wr) (fun ii _=>C.length - (intOf ii).toNat)
         case atStart=>exact ⟨0,la,lb,lc,rfl,by omega,hla,Uh HOA,hlb,Uh HOB,hlc,Uh HOC,Uh HBE⟩
         case round =>
          clear HOA HOB HOC HBE
          obtain ⟨k,la,lb,lc,rfl,hk,hla,oa,hlb,ob,hlc,oc,hbel⟩:=hrel
          by_cases hlt:k<C.length
          ·obtain ⟨gg,hgg⟩:=own_some9 oc (by omega)
           subst hgg
           obtain ⟨hcell,hfr⟩:=row_cell9 (k:=k) oc (by omega)
           have hgb:w0.heap.size≤gg:=by have:=(oc.row.lt gg rfl).1; omega
           have o2:=(oc.setAt9 k (-9) (fun z hz=>by simp at hz; subst hz; exact i32_fit (by omega))).1
           have hAx:(Value.slice aa A.length ac).ownBlock≠some gg:=fun e=>by
            have u1:=(Uh LA3) gg e
            have u2:=(Uh LC5) gg rfl
            omega
           have oa2:=row_keep9 (k:=k) (u:=.int .i32 (-9)) oa hAx
           have hQx:(Value.slice ba Q.length bc).ownBlock≠some gg:=fun e=>by
            have u1:=(Uh LB4) gg e
            have u2:=(Uh LC5) gg rfl
            omega
           have ob2:=row_keep9 (k:=k) (u:=.int .i32 (-9)) ob hQx
           have hb2:=hbel.setCell (p:=⟨gg,k,none⟩) hgb (.int .i32 (-9))
           obtain ⟨W5,hW5⟩:∃ W5,wr.setCell ⟨gg,k,none⟩ (.int .i32 (-9))=W5:=⟨_,rfl⟩
           rw [hW5] at o2 oa2 ob2 hb2
           have HO2:=Hd o2
           have Hoa2:=Hd oa2
           have Hob2:=Hd ob2
           have HB2:=Hd hb2
           have hl2:(lc.set k (-9)).length=C.length:=by rw [List.length_set]; exact hlc
           clear oa ob oc o2 oa2 ob2 hb2 hbel hAx hQx
           generalize lc.getD k 0=old at *
           go_wp2
           go_roundw
           case rel=>exact ⟨k+1,la,lb,lc.set k (-9),by go_num,by omega,hla,Uh Hoa2,hlb,Uh Hob2,hl2,Uh HO2,Uh HB2⟩
           case measure=>simp [intOf]; omega
          ·have hke:=hk
           have HOA:=Hd oa
           have HOB:=Hd ob
           have HOC:=Hd oc
           have HBE:=Hd hbel
           clear oa ob oc hbel
           obtain ⟨wo,hwo⟩:∃ wo,wo=wr:=⟨_,rfl⟩
           subst hwo
           have B20:=Hd (bthen (Uh B0) (Uh HBE))
           clear HOA HOB HOC HBE B0 LA3 LB4 LC5
           go_wp2_with fail
           refine ((Uh KOx) wo (Uh B20)).mono ?_
           rintro e21 w21 ⟨v21,rfl,ok21,b21⟩
           have B21:=Hd (bthen (Uh B20) b21)
           have HR21:=Hd ok21
           obtain ⟨o21,q21,hv21,_,_⟩:=ok21.sk.shape
           subst hv21
           clear ok21 b21 B20
           go_wp2_with fail
           refine ((Uh DOx) w21 (Uh B21)).mono ?_
           rintro e22 w22 ⟨v22,rfl,ok22,b22⟩
           have B22:=Hd (bthen (Uh B21) b22)
           have KS22:=Hd (same3_eq _ _ A w22 ((Uh HR21).below b22).sk ok22.sk (by omega))
           obtain ⟨o22,q22,hv22,_,_⟩:=ok22.sk.shape
           subst hv22
           clear ok22 b22 B21 HR21
           go_wp2_with fail
           refine (Uh KS22).mono ?_
           rintro e23 w23 ⟨rfl,m23,rfl⟩
           have B23:=Hd (bthen (Uh B22) (drewB ⟨m23,rfl⟩:Below w22.heap.size w22 (w22.drewN m23)))
           clear KS22 B22
           generalize w22.drewN m23=w23 at *
           go_wp2_with fail
           refine ((Uh KFx) w23 (Uh B23)).mono ?_
           rintro e24 w24 ⟨v24,rfl,ok24,b24⟩
           have B24:=Hd (bthen (Uh B23) b24)
           have HR24:=Hd ok24
           obtain ⟨o24,q24,hv24,_,_⟩:=ok24.sk.shape
           subst hv24
           clear ok24 b24 B23
           go_wp2_with fail
           refine ((Uh DFx) w24 (Uh B24)).mono ?_
           rintro e25 w25 ⟨v25,rfl,ok25,b25⟩
           have B25:=Hd (bthen (Uh B24) b25)
           have KS25:=Hd (same3_eq _ _ Q w25 ((Uh HR24).below b25).sk ok25.sk (by omega))
           obtain ⟨o25,q25,hv25,_,_⟩:=ok25.sk.shape
           subst hv25
           clear ok25 b25 B24 HR24
           go_wp2_with fail
           refine (Uh KS25).mono ?_
           rintro e26 w26 ⟨rfl,m26,rfl⟩
           have B26:=Hd (bthen (Uh B25) (drewB ⟨m26,rfl⟩:Below w25.heap.size w25 (w25.drewN m26)))
           clear KS25 B25
           generalize w25.drewN m26=w26 at *
           go_wp2_with fail
           refine ((Uh KLx) w26 (Uh B26)).mono ?_
           rintro e27 w27 ⟨v27,rfl,ok27,b27⟩
           have B27:=Hd (bthen (Uh B26) b27)
           have HR27:=Hd ok27
           obtain ⟨o27,q27,hv27,_,_⟩:=ok27.sk.shape
           subst hv27
           clear ok27 b27 B26
           go_wp2_with fail
           refine ((Uh DLx) w27 (Uh B27)).mono ?_
           rintro e28 w28 ⟨v28,rfl,ok28,b28⟩
           have B28:=Hd (bthen (Uh B27) b28)
           have KS28:=Hd (same3_eq _ _ C w28 ((Uh HR27).below b28).sk ok28.sk (by omega))
           obtain ⟨o28,q28,hv28,_,_⟩:=ok28.sk.shape
           subst hv28
           clear ok28 b28 B27 HR27
           go_wp2_with fail
           refine (Uh KS28).mono ?_
           rintro e29 w29 ⟨rfl,m29,rfl⟩
           have B29:=Hd (bthen (Uh B28) (drewB ⟨m29,rfl⟩:Below w28.heap.size w28 (w28.drewN m29)))
           clear KS28 B28
           generalize w28.drewN m29=w29 at *
           clear KOx KFx KLx DOx DFx DLx
           go_wp2
           go_loopw [16,17,18,19,20] (fun jj _ _ _ _ wr=>∃ j:Nat,jj=.int .i64 j∧j≤cs.length∧j≤40∧Below w1.heap.size w1 wr) (fun jj _ _ _ _ _=>40 - (intOf jj).toNat)
           case atStart=>exact ⟨0,rfl,by omega,by omega,Uh B29⟩
           case round =>
            clear B29
            obtain ⟨j,rfl,hj,hj40,hb⟩:=hrel
            have HB:=Hd hb
            clear hb
            by_cases hjl:j<cs.length
            ·by_cases hj4:j<40
             ·have hry:=(Uh HRN) j hjl
              have hcy:=(Uh HCX) wr (Uh HB) j hjl
              obtain ⟨y,hye⟩:∃ y,cs.getD j 0=y:=⟨_,rfl⟩
              rw [hye] at hry hcy
              clear hye
              have K40:=Hd ((Uh KPx) y wr hry (Uh HB))
              have K41:=Hd ((Uh DPx) y wr hry (Uh HB))
              generalize Cn.cmp9 rs x y=pc at *
              go_wp2_with fail
              refine (Uh K40).mono ?_
              rintro e40 w40 ⟨rfl,rfl⟩
              clear K40
              go_wp2_with fail
              refine (Uh K41).mono ?_
              rintro e41 w41 ⟨rfl,rfl⟩
              clear K41
              have hpp:(pc.2 != pc.2)=false:=by simp
              go_wp2
              go_roundw
              case rel=>exact ⟨j+1,by go_num,by omega,by omega,Uh HB⟩
              case measure=>simp [intOf]; omega
             ·have hjj:¬ ((j:Int)<40):=by omega
              go_wp2
              go_roundw
              case rel=>exact ⟨i+1,by go_num,by omega,by omega,Uh HB⟩
              case measure=>simp [intOf]; omega
            ·go_wp2
             go_roundw
             case rel=>exact ⟨i+1,by go_num,by omega,by omega,Uh HB⟩
             case measure=>simp [intOf]; omega
    ·have hii:¬ ((i:Int)<40):=by omega
     have HBF:=Hd (bthen (Uh HB1) (Uh B0))
     clear B0 KP KO KS KF KL DO DF DL DS DP HRN HLN
     go_wp2
     go_ret
     exact ⟨rfl,Uh HBF⟩
   ·have HBF:=Hd (bthen (Uh HB1) (Uh B0))
    clear B0 KP KO KS KF KL DO DF DL DS DP HRN HLN
    go_wp2
    go_ret
    exact ⟨rfl,Uh HBF⟩
end Go.Proofs.YtnpdonnijonpnaaGreatDoor
