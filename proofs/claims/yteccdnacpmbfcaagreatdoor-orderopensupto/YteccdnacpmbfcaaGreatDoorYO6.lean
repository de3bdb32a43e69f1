/- Ox12 -/
import Derived.Test.YteccdnacpmbfcaaGreatDoorYO5
namespace Go.Proofs.YteccdnacpmbfcaaGreatDoor
open Go.RowKit
open Ti
set_option maxRecDepth 8000 in
set_option maxHeartbeats 4000000 in
theorem whole_any12 (g cap:Nat) (xs:List Int) (xo:Option Addr) (xcap B:Nat) (w:World) (hin:Ok .i32 21 w B (.slice (some ⟨g,0,none⟩) (xs.length+2) cap) (xs++[-7,-8])) (hx:Sk .i32 w (.slice xo xs.length xcap) xs) (hxc:xs.length≤xcap∧xcap≤9223372036854775807) (hl:xs.length≤2000):Calls Tryz.prog 27 #[.slice (some ⟨g,0,none⟩) xs.length cap,.slice xo xs.length xcap] w (Draws w true):=by
 have hr:=hin.row
 rw [List.map_append,List.length_append] at hr
 have hin2:Sk .i32 w (.slice (some ⟨g,0,none⟩) xs.length cap) xs:=(Ok.of (fun z hz=>hin.1 z (List.mem_append_left _ hz)) (by omega) (own_head12 hr (by simp)) rfl rfl:Ok .i32 21 w B _ xs).sk
 have K1:=Hd (same3_eq _ _ xs w hin2 hx (by omega))
 obtain ⟨hcap,hcap2⟩:xs.length+2≤cap∧cap≤9223372036854775807:=by
  obtain ⟨_,_,e,h1,h2⟩:=hin.sk.shape
  simp only [Value.slice.injEq,List.length_append,List.length_cons,List.length_nil] at e
  have h3:(xs++[-7,-8]).length=xs.length+2:=by simp
  omega
 obtain ⟨b,o,c,e,_,_,hcl⟩:=hin.sk.place (by simp)
 simp only [Value.slice.injEq,Option.some.injEq,Addr.mk.injEq] at e
 obtain ⟨⟨e1,e2,_⟩,e3,e4⟩:=e
 subst e1 e2 e4
 have c0:=hcl xs.length (by simp)
 have c1:=hcl (xs.length+1) (by simp)
 have d0:(xs++[-7,-8]).getD xs.length 0=-7:=by simp [List.getD]
 have d1:(xs++[-7,-8]).getD (xs.length+1) 0=-8:=by simp [List.getD]
 rw [d0,Nat.zero_add] at c0
 rw [d1,Nat.zero_add] at c1
 have HC0:Hid (∀ m,(w.drewN m).cell? ⟨g,xs.length,none⟩=some (.int .i32 (-7))∧(w.drewN m).cell? ⟨g,xs.length+1,none⟩=some (.int .i32 (-8))):=fun m=>by
  have hb:Below w.heap.size w (w.drewN m):=drewB ⟨m,rfl⟩
  exact ⟨by rw [hb.cell (lt_of_cell? c0)]; exact c0,by rw [hb.cell (lt_of_cell? c1)]; exact c1⟩
 obtain ⟨hxc1,hxc2⟩:=hxc
 clear hr hin2 hin hx hcl e3 d0 d1 c0 c1
 generalize xs.length=n at *
 go_enter Tryz.func27,Tryz.ntmps27
 go_wp2_with fail
 refine (Uh K1).mono ?_
 rintro e1 w1 ⟨rfl,m1,rfl⟩
 obtain ⟨c0,c1⟩:=(Uh HC0) m1
 have HF:Hid (∃ m,w.drewN m1=w.drewN m):=⟨m1,rfl⟩
 clear K1 HC0
 generalize w.drewN m1=w1 at *
 go_wp2
 go_ret
 exact ⟨rfl,Uh HF⟩
theorem row_cell12 {W:World} {B g n cap k:Nat} {l:List Int} (h:Ok .i32 21 W B (.slice (some ⟨g,0,none⟩) n cap) l) (hk:k<l.length):W.cell? ⟨g,k,none⟩=some (.int .i32 (l.getD k 0))∧W.frozen? ⟨g,k,none⟩=false:=by
 rcases h.row.2 with ⟨e,_⟩ | ⟨g',cap',cur,e,_,e3,_,_,_,e7⟩
 ·simp at e
 ·simp only [Value.slice.injEq,Option.some.injEq,Addr.mk.injEq] at e
  obtain ⟨⟨e1,_⟩,_,_⟩:=e
  subst e1
  refine ⟨?_,frozen_of_row _ _ _ _ _ e3⟩
  rw [cell_of_row _ _ _ _ _ _ e3]
  have h1:(cur.toList.take (l.length * 1))[k]?=(l.map (Value.int .i32))[k]?:=by rw [e7]
  rw [List.getElem?_take,if_pos (by omega),Array.getElem?_toList,List.getElem?_map,List.getElem?_eq_getElem hk] at h1
  rw [h1]; simp [List.getD,hk]
theorem row_keep12 {W:World} {B g k:Nat} {v u:Value} {l:List Int} (h:Ok .i32 21 W B v l) (hne:v.ownBlock≠some g):Ok .i32 21 (W.setCell ⟨g,k,none⟩ u) B v l:=h.keep (fun j hj=>heap_setCell_other W ⟨g,k,none⟩ j u (fun e=>hne (by rw [hj]; exact congrArg some e)))
theorem own_some12 {W:World} {B n cap:Nat} {ao:Option Addr} {l:List Int} (h:Ok .i32 21 W B (.slice ao n cap) l) (hn:0<l.length):∃ g,ao=some ⟨g,0,none⟩:=by
 obtain ⟨g,c,e,_⟩:=own_shape h.row hn
 simp only [Value.slice.injEq] at e
 exact ⟨g,e.1⟩
set_option maxRecDepth 8000 in
set_option maxHeartbeats 16000000 in
theorem opens_law12 (v:Value) (rs0:List Rec) (xv:Value) (xs:List Int) (w:World) (hg:Glob w) (hv:Rcs w v rs0) (hx:Sk .i32 w xv xs):Calls Tryz.prog 4 #[v,xv] w (Tells w true):=by
 have K1:=Hd (made_any v rs0 w hg hv)
 have hfit:∀ r∈rs0.take 150,RecFit r:=fun r hr=>hv.2.1 r (List.mem_of_mem_take hr)
 have hrl:(rs0.take 150).length≤150:=by rw [List.length_take]; omega
 have HFIT:=Hd hfit
 clear hfit
 obtain ⟨ao,cap,rfl,_,hcap⟩:=hv.shape
 have HX:=Hd hx
 obtain ⟨xo,xcap,hxe,hxc1,hxc2⟩:=hx.shape
 subst hxe
 have HG:=Hd hg
 clear hg hv hx
 generalize rs0.take 150=rs at *
 generalize rs0.length=L at *
 go_enter Tryz.func4,Tryz.ntmps4
 go_wp2_with fail
 refine (Uh K1).mono ?_
 rintro e1 w1 ⟨b1,h1⟩
 have HB1:=Hd b1
 clear K1 b1
 rcases h1 with ⟨hne,rfl⟩ | ⟨h0,p,v2,ps2,rfl,hD,r2,p2⟩
 ·have K2:=Hd (told_any12 w1 ((Uh HG).on (Uh HB1)))
  clear hne
  go_wp2_with fail
  refine (Uh K2).mono ?_
  rintro e2 w2 ⟨rfl,b2⟩
  have HB2:=Hd (bthen (Uh HB1) b2)
  clear K2 b2
  go_wp2
  go_ret
  exact ⟨rfl,Uh HB2⟩
 ·have R2:=rcs_new r2 p2 (by omega) (Uh HFIT)
  obtain ⟨a2,cp2,hv2,_,hcp2⟩:=R2.shape
  have HT1:=Hd R2
  subst hv2
  have H0:=Hd h0
  have H6:=Hd (check6_of h0)
  have HD1:=Hd hD
  have HG1:=Hd ((Uh HG).on (Uh HB1))
  have HX1:=Hd ((Uh HX).below (Uh HB1))
  have hXl:(xs.take 200).length≤200:=List.length_take_le _ _
  have hXx:(xs.take 200).length≤xs.length:=by rw [List.length_take]; omega
  have HXX:Hid (xs.take (xs.take 200).length=xs.take 200):=by
   show _=_
   rw [List.length_take,← List.take_eq_take_min]
  have K3:=Hd (few12_any _ xs 200 w1 (Uh HX1) (by omega))
  clear hD r2 p2 R2 h0 HX HG HFIT
  generalize xs.take 200=X at *
  go_wp2_with fail
  refine (Uh K3).mono ?_
  rintro e2 w2 ⟨g,icap,rfl,ok2,b2⟩
  have HD2:=Hd ((Uh HD1).below b2)
  have HG2:=Hd ((Uh HG1).on b2)
  have HT2:=Hd ((Uh HT1).below b2)
  have HX2:Hid (Sk .i32 w2 (.slice xo X.length xcap) X):=by
   have:=((Uh HX1).below b2).head hXx hxc1
   rw [Uh HXX] at this
   exact this
  have HI2:=Hd ok2
  have HN2:Hid (Sk .i32 w2 (.slice (some ⟨g,0,none⟩) X.length icap) X):=by
   have hr:=ok2.row
   rw [List.map_append,List.length_append] at hr
   exact (Ok.of (fun z hz=>ok2.1 z (List.mem_append_left _ hz)) (by omega) (own_head12 hr (by simp)) rfl rfl:Ok .i32 21 w2 w1.heap.size _ X).sk
  have HW2:=Hd (bthen (Uh HB1) b2)
  have hxc3:X.length≤xcap:=by omega
  clear K3 ok2 b2 HD1 HG1 HT1 HX1 HB1 HXX
  -- a
  have K4:=Hd (open_any12 _ X w2 (Uh HG2) (Uh HD2) (Uh H0) (Uh HN2))
  rw [if_neg (by omega)] at K4
  go_wp2_with fail
  refine (Uh K4).mono ?_
  rintro e3 w3 ⟨va,rfl,ok3,b3⟩
  have HA3:=Hd ok3
  have B23:=Hd b3
  obtain ⟨aa,ac,hva,_,hac2⟩:=ok3.sk.shape
  subst hva
  have K5:=Hd (sort_any12 _ X w3 ((Uh HD2).below b3) (Uh H0) ((Uh HN2).below b3))
  rw [if_neg (by omega)] at K5
  clear K4 ok3 b3
  -- b
  go_wp2_with fail
  refine (Uh K5).mono ?_
  rintro e4 w4 ⟨vb,rfl,ok4,b4⟩
  have HA4:=Hd ((Uh HA3).below b4)
  have HBb4:=Hd ok4
  have B24:=Hd (bthen (Uh B23) b4)
  have hs3:=(Uh B23).size
  have hs34:=b4.size
  obtain ⟨ba,bc,hvb,_,hbc2⟩:=ok4.sk.shape
  subst hvb
  have K6:=Hd (nfd_any12 _ X w4 ((Uh HG2).on (Uh B24)) ((Uh HD2).below (Uh B24)) (Uh H0) ((Uh HN2).below (Uh B24)))
  rw [if_neg (by omega)] at K6
  have LA3:Hid (∀ k,(Value.slice aa (Cn.openAll rs X).length ac).ownBlock=some k→w2.heap.size≤k∧k<w3.heap.size):=fun k hk=>(Uh HA3).row.lt k hk
  clear K5 ok4 b4 HA3 B23
  -- c
  go_wp2_with fail
  refine (Uh K6).mono ?_
  rintro e5 w5 ⟨vc,rfl,ok5,b5⟩
  have HA5:=Hd ((Uh HA4).below b5)
  have HBb5:=Hd ((Uh HBb4).below b5)
  have HC5:=Hd ok5
  have B25:=Hd (bthen (Uh B24) b5)
  obtain ⟨ca,cc,hvc,_,hcc2⟩:=ok5.sk.shape
  subst hvc
  have LB4:Hid (∀ k,(Value.slice ba (Od.ord (Cn.cls rs) X).length bc).ownBlock=some k→w3.heap.size≤k∧k<w4.heap.size):=fun k hk=>(Uh HBb4).row.lt k hk
  have LC5:Hid (∀ k,(Value.slice ca (Cn.nfd rs X).length cc).ownBlock=some k→w4.heap.size≤k):=fun k hk=>(ok5.row.lt k hk).1
  have hAl:=Cn.openAll_len (Uh H0) X
  have hBl:(Od.ord (Cn.cls rs) X).length≤200:=by rw [Od.ord_len (k:=Cn.cls rs) (fun c=>Cn.cls_range (Uh H6) c) X]; omega
  have hCl:=Cn.nfd_len (Uh H0) X
  have hs4:=(Uh B24).size
  clear K6 ok5 b5 HA4 HBb4 B24
  -- the document's
  have KA:=Hd (refOpenAll12 _ _ X w5 ((Uh HT2).below (Uh B25)) (Uh H0) ((Uh HX2).below (Uh B25)) (by omega))
  have KB:Hid (∀ W,Below w2.heap.size w2 W→Calls Tryz.prog 23 #[.slice a2 rs.length cp2,.slice xo X.length xcap] W (RunesNew W (Od.ord (Cn.cls rs) X))):=fun W hW=>by
   have:=refSort12 (.slice a2 rs.length cp2) (.slice xo X.length xcap) X W ((Uh HT2).below hW) (Uh H6) ((Uh HX2).below hW) (by omega)
   rw [Cn.docSort_ord (Uh H6)] at this
   exact this
  have KC:Hid (∀ W,Below w2.heap.size w2 W→Calls Tryz.prog 24 #[.slice a2 rs.length cp2,.slice xo X.length xcap] W (RunesNew W (Cn.nfd rs X))):=fun W hW=>refNFD12 _ _ X W ((Uh HT2).below hW) (Uh H0) ((Uh HX2).below hW) (by omega)
  have KD:Hid (∀ W,Below w2.heap.size w2 W→Calls Tryz.prog 25 #[.pointer (some ⟨p,0,none⟩),.slice (some ⟨g,0,none⟩) X.length icap] W (BoolB W (Cn.srtA rs 0 X))):=fun W hW=>sorted_any12 _ X W ((Uh HD2).below hW) (Uh H6) ((Uh HN2).below hW)
  have KE:Hid (∀ W,Below w2.heap.size w2 W→Calls Tryz.prog 26 #[.slice a2 rs.length cp2,.slice xo X.length xcap] W (BoolB W (Cn.srtA rs 0 X))):=fun W hW=>refSorted12 _ _ X W ((Uh HT2).below hW) (Uh H6) ((Uh HX2).below hW)
  have KF:Hid (∀ W,Below w2.heap.size w2 W→Calls Tryz.prog 21 #[.pointer (some ⟨p,0,none⟩),.slice (some ⟨g,0,none⟩) X.length icap] W (SeqE W (Cn.nfd rs X) 0)):=fun W hW=>by
   have:=nfd_any12 _ X W ((Uh HG2).on hW) ((Uh HD2).below hW) (Uh H0) ((Uh HN2).below hW)
   rw [if_neg (by omega)] at this
   exact this
  have KW:Hid (∀ W,Below w2.heap.size w2 W→Calls Tryz.prog 27 #[.slice (some ⟨g,0,none⟩) X.length icap,.slice xo X.length xcap] W (Draws W true)):=fun W hW=>whole_any12 g icap X xo xcap w1.heap.size W ((Uh HI2).below hW) ((Uh HX2).below hW) ⟨hxc3,hxc2⟩ (by omega)
  have KG:=KC
  clear HD2 HG2 HT2 HX2 HI2 HN2 H0 H6
  generalize Cn.openAll rs X=A at *
  generalize Od.ord (Cn.cls rs) X=Q at *
  generalize Cn.nfd rs X=C at *
  generalize Cn.srtA rs 0 X=sb at *
  go_wp2_with fail
  refine (Uh KA).mono ?_
  rintro e6 w6 ⟨v6,rfl,ok6,b6⟩
  have B26:=Hd (bthen (Uh B25) b6)
  have HA6:=Hd ((Uh HA5).below b6)
  have HBb6:=Hd ((Uh HBb5).below b6)
  have HC6:=Hd ((Uh HC5).below b6)
  have KS6:=Hd (same3_eq _ _ A w6 (Uh HA6).sk ok6.sk (by omega))
  obtain ⟨o6,q6,hv6,_,_⟩:=ok6.sk.shape
  subst hv6
  clear KA ok6 b6
  clear B25 HA5 HBb5 HC5
  go_wp2_with fail
  refine (Uh KS6).mono ?_
  rintro e7 w7 ⟨rfl,m7,rfl⟩
  have b7:Below w6.heap.size w6 (w6.drewN m7):=drewB ⟨m7,rfl⟩
  have B27:=Hd (bthen (Uh B26) b7)
  have HA7:=Hd ((Uh HA6).below b7)
  have HBb7:=Hd ((Uh HBb6).below b7)
  have HC7:=Hd ((Uh HC6).below b7)
  clear KS6 b7
  clear B26 HA6 HBb6 HC6
  generalize w6.drewN m7=w7 at *
  go_wp2_with fail
  refine ((Uh KB) w7 (Uh B27)).mono ?_
  rintro e8 w8 ⟨v8,rfl,ok8,b8⟩
  have B28:=Hd (bthen (Uh B27) b8)
  have HA8:=Hd ((Uh HA7).below b8)
  have HBb8:=Hd ((Uh HBb7).below b8)
  have HC8:=Hd ((Uh HC7).below b8)
  have KS8:=Hd (same3_eq _ _ Q w8 (Uh HBb8).sk ok8.sk (by omega))
  obtain ⟨o8,q8,hv8,_,_⟩:=ok8.sk.shape
  subst hv8
  clear KB ok8 b8
  clear B27 HA7 HBb7 HC7
  go_wp2_with fail
  refine (Uh KS8).mono ?_
  rintro e9 w9 ⟨rfl,m9,rfl⟩
  have b9:Below w8.heap.size w8 (w8.drewN m9):=drewB ⟨m9,rfl⟩
  have B29:=Hd (bthen (Uh B28) b9)
  have HA9:=Hd ((Uh HA8).below b9)
  have HBb9:=Hd ((Uh HBb8).below b9)
  have HC9:=Hd ((Uh HC8).below b9)
  clear KS8 b9
  clear B28 HA8 HBb8 HC8
  generalize w8.drewN m9=w9 at *
  go_wp2_with fail
  refine ((Uh KC) w9 (Uh B29)).mono ?_
  rintro e10 w10 ⟨v10,rfl,ok10,b10⟩
  have B210:=Hd (bthen (Uh B29) b10)
  have HA10:=Hd ((Uh HA9).below b10)
  have HBb10:=Hd ((Uh HBb9).below b10)
  have HC10:=Hd ((Uh HC9).below b10)
  have KS10:=Hd (same3_eq _ _ C w10 (Uh HC10).sk ok10.sk (by omega))
  obtain ⟨o10,q10,hv10,_,_⟩:=ok10.sk.shape
  subst hv10
  clear KC ok10 b10
  clear B29 HA9 HBb9 HC9
  go_wp2_with fail
  refine (Uh KS10).mono ?_
  rintro e11 w11 ⟨rfl,m11,rfl⟩
  have b11:Below w10.heap.size w10 (w10.drewN m11):=drewB ⟨m11,rfl⟩
  have B211:=Hd (bthen (Uh B210) b11)
  have HA11:=Hd ((Uh HA10).below b11)
  have HBb11:=Hd ((Uh HBb10).below b11)
  have HC11:=Hd ((Uh HC10).below b11)
  clear KS10 b11
  clear B210 HA10 HBb10 HC10
  generalize w10.drewN m11=w11 at *
  go_wp2_with fail
  refine ((Uh KD) w11 (Uh B211)).mono ?_
  rintro e12 w12 ⟨rfl,b12⟩
  have B212:=Hd (bthen (Uh B211) b12)
  have HA12:=Hd ((Uh HA11).below b12)
  have HBb12:=Hd ((Uh HBb11).below b12)
  have HC12:=Hd ((Uh HC11).below b12)
  clear KD b12
  clear B211 HA11 HBb11 HC11
  go_wp2_with fail
  refine ((Uh KE) w12 (Uh B212)).mono ?_
  rintro e13 w13 ⟨rfl,b13⟩
  have B213:=Hd (bthen (Uh B212) b13)
  have HA13:=Hd ((Uh HA12).below b13)
  have HBb13:=Hd ((Uh HBb12).below b13)
  have HC13:=Hd ((Uh HC12).below b13)
  clear KE b13
  clear B212 HA12 HBb12 HC12
  have hsb:(sb != sb)=false:=by simp
  go_wp2
  go_loopw [15] (fun ii wr=>∃ (k:Nat) (la lb lc:List Int),ii=.int .i64 k∧k≤A.length∧la.length=A.length∧Ok .i32 21 wr w2.heap.size (.slice aa A.length ac) la∧lb.length=Q.length∧Ok .i32 21 wr w3.heap.size (.slice ba Q.length bc) lb∧lc.length=C.length∧Ok .i32 21 wr w4.heap.size (.slice ca C.length cc) lc∧Below w2.heap.size w2 wr) (fun ii _=>A.length - (intOf ii).toNat)
  case atStart=>exact ⟨0,A,Q,C,rfl,by omega,rfl,Uh HA13,rfl,Uh HBb13,rfl,Uh HC13,Uh B213⟩
  case round =>
   clear B213 HA13 HBb13 HC13
   obtain ⟨k,la,lb,lc,rfl,hk,hla,oa,hlb,ob,hlc,oc,hbel⟩:=hrel
   by_cases hlt:k<A.length
   ·obtain ⟨gg,hgg⟩:=own_some12 oa (by omega)
    subst hgg
    obtain ⟨hcell,hfr⟩:=row_cell12 (k:=k) oa (by omega)
    have hgb:w2.heap.size≤gg:=by have:=(oa.row.lt gg rfl).1; omega
    have o2:=(oa.setAt9 k (-9) (fun z hz=>by simp at hz; subst hz; exact i32_fit (by omega))).1
    have hQx:(Value.slice ba Q.length bc).ownBlock≠some gg:=fun e=>by
     have u1:=(Uh LB4) gg e
     have u2:=(Uh LA3) gg rfl
     omega
    have ob2:=row_keep12 (k:=k) (u:=.int .i32 (-9)) ob hQx
    have hCx:(Value.slice ca C.length cc).ownBlock≠some gg:=fun e=>by
     have u1:=(Uh LC5) gg e
     have u2:=(Uh LA3) gg rfl
     omega
    have oc2:=row_keep12 (k:=k) (u:=.int .i32 (-9)) oc hCx
    have hb2:=hbel.setCell (p:=⟨gg,k,none⟩) hgb (.int .i32 (-9))
    obtain ⟨W5,hW5⟩:∃ W5,wr.setCell ⟨gg,k,none⟩ (.int .i32 (-9))=W5:=⟨_,rfl⟩
    rw [hW5] at o2 ob2 oc2 hb2
    have HO2:=Hd o2
    have Hob2:=Hd ob2
    have Hoc2:=Hd oc2
    have HB2:=Hd hb2
    have hl2:(la.set k (-9)).length=A.length:=by rw [List.length_set]; exact hla
    clear oa ob oc o2 ob2 oc2 hb2 hbel hQx hCx
    generalize la.getD k 0=old at *
    go_wp2
    go_roundw
    case rel=>exact ⟨k+1,la.set k (-9),lb,lc,by go_num,by omega,hl2,Uh HO2,hlb,Uh Hob2,hlc,Uh Hoc2,Uh HB2⟩
    case measure=>simp [intOf]; omega
   ·have hke:=hk
    have HOA:=Hd oa
    have HOB:=Hd ob
    have HOC:=Hd oc
    have HBE:=Hd hbel
    clear oa ob oc hbel
    obtain ⟨wo,hwo⟩:∃ wo,wo=wr:=⟨_,rfl⟩
    subst hwo
    go_wp2
    clear hlt hk hke
    go_loopw [16] (fun ii wr=>∃ (k:Nat) (la lb lc:List Int),ii=.int .i64 k∧k≤Q.length∧la.length=A.length∧Ok .i32 21 wr w2.heap.size (.slice aa A.length ac) la∧lb.length=Q.length∧Ok .i32 21 wr w3.heap.size (.slice ba Q.length bc) lb∧lc.length=C.length∧Ok .i32 21 wr w4.heap.size (.slice ca C.length cc) lc∧Below w2.heap.size w2 wr) (fun ii _=>Q.length - (intOf ii).toNat)
    case atStart=>exact ⟨0,la,lb,lc,rfl,by omega,hla,Uh HOA,hlb,Uh HOB,hlc,Uh HOC,Uh HBE⟩
    case round =>
     clear HOA HOB HOC HBE
     obtain ⟨k,la,lb,lc,rfl,hk,hla,oa,hlb,ob,hlc,oc,hbel⟩:=hrel
     by_cases hlt:k<Q.length
     ·obtain ⟨gg,hgg⟩:=own_some12 ob (by omega)
      subst hgg
      obtain ⟨hcell,hfr⟩:=row_cell12 (k:=k) ob (by omega)
      have hgb:w2.heap.size≤gg:=by have:=(ob.row.lt gg rfl).1; omega
      have o2:=(ob.setAt9 k (-9) (fun z hz=>by simp at hz; subst hz; exact i32_fit (by omega))).1
      have hAx:(Value.slice aa A.length ac).ownBlock≠some gg:=fun e=>by
       have u1:=(Uh LA3) gg e
       have u2:=(Uh LB4) gg rfl
       omega
      have oa2:=row_keep12 (k:=k) (u:=.int .i32 (-9)) oa hAx
      have hCx:(Value.slice ca C.length cc).ownBlock≠some gg:=fun e=>by
       have u1:=(Uh LC5) gg e
       have u2:=(Uh LB4) gg rfl
       omega
      have oc2:=row_keep12 (k:=k) (u:=.int .i32 (-9)) oc hCx
      have hb2:=hbel.setCell (p:=⟨gg,k,none⟩) hgb (.int .i32 (-9))
      obtain ⟨W5,hW5⟩:∃ W5,wr.setCell ⟨gg,k,none⟩ (.int .i32 (-9))=W5:=⟨_,rfl⟩
      rw [hW5] at o2 oa2 oc2 hb2
      have HO2:=Hd o2
      have Hoa2:=Hd oa2
      have Hoc2:=Hd oc2
      have HB2:=Hd hb2
      have hl2:(lb.set k (-9)).length=Q.length:=by rw [List.length_set]; exact hlb
      clear oa ob oc o2 oa2 oc2 hb2 hbel hAx hCx
      generalize lb.getD k 0=old at *
      go_wp2
      go_roundw
      case rel=>exact ⟨k+1,la,lb.set k (-9),lc,by go_num,by omega,hla,Uh Hoa2,hl2,Uh HO2,hlc,Uh Hoc2,Uh HB2⟩
      case measure=>simp [intOf]; omega
     ·have hke:=hk
      have HOA:=Hd oa
      have HOB:=Hd ob
      have HOC:=Hd oc
      have HBE:=Hd hbel
      clear oa ob oc hbel
      obtain ⟨wo,hwo⟩:∃ wo,wo=wr:=⟨_,rfl⟩
      subst hwo
      go_wp2
      clear hlt hk hke
      go_loopw [17] (fun ii wr=>∃ (k:Nat) (la lb lc:List Int),ii=.int .i64 k∧k≤C.length∧la.length=A.length∧Ok .i32 21 wr w2.heap.size (.slice aa A.length ac) la∧lb.length=Q.length∧Ok .i32 21 wr w3.heap.size (.slice ba Q.length bc) lb∧lc.length=C.length∧Ok .i32 21 wr w4.heap.size (.slice ca C.length cc) lc∧Below w2.heap.size w2 wr) (fun ii _=>C.length - (intOf ii).toNat)
      case atStart=>exact ⟨0,la,lb,lc,rfl,by omega,hla,Uh HOA,hlb,Uh HOB,hlc,Uh HOC,Uh HBE⟩
      case round =>
       clear HOA HOB HOC HBE
       obtain ⟨k,la,lb,lc,rfl,hk,hla,oa,hlb,ob,hlc,oc,hbel⟩:=hrel
       by_cases hlt:k<C.length
       ·obtain ⟨gg,hgg⟩:=own_some12 oc (by omega)
        subst hgg
        obtain ⟨hcell,hfr⟩:=row_cell12 (k:=k) oc (by omega)
        have hgb:w2.heap.size≤gg:=by have:=(oc.row.lt gg rfl).1; omega
        have o2:=(oc.setAt9 k (-9) (fun z hz=>by simp at hz; subst hz; exact i32_fit (by omega))).1
        have hAx:(Value.slice aa A.length ac).ownBlock≠some gg:=fun e=>by
         have u1:=(Uh LA3) gg e
         have u2:=(Uh LC5) gg rfl
         omega
        have oa2:=row_keep12 (k:=k) (u:=.int .i32 (-9)) oa hAx
        have hQx:(Value.slice ba Q.length bc).ownBlock≠some gg:=fun e=>by
         have u1:=(Uh LB4) gg e
         have u2:=(Uh LC5) gg rfl
         omega
        have ob2:=row_keep12 (k:=k) (u:=.int .i32 (-9)) ob hQx
        have hb2:=hbel.setCell (p:=⟨gg,k,none⟩) hgb (.int .i32 (-9))
        obtain ⟨W5,hW5⟩:∃ W5,wr.setCell ⟨gg,k,none⟩ (.int .i32 (-9))=W5:=⟨_,rfl⟩
        rw [hW5] at o2 oa2 ob2 hb2
        have HO2:=Hd o2
        have Hoa2:=Hd oa2
        have Hob2:=Hd ob2
        have HB2:=Hd hb2
        have hl2:(lc.set k (-9)).length=C.length:=by rw [List.length_set]; exact hlc
        clear oa ob oc o2 oa2 ob2 hb2 hbel hAx hQx
        generalize lc.getD k 0=old at *
        go_wp2
        go_roundw
        case rel=>exact ⟨k+1,la,lb,lc.set k (-9),by go_num,by omega,hla,Uh Hoa2,hlb,Uh Hob2,hl2,Uh HO2,Uh HB2⟩
        case measure=>simp [intOf]; omega
       ·have hke:=hk
        have HOA:=Hd oa
        have HOB:=Hd ob
        have HOC:=Hd oc
        have HBE:=Hd hbel
        clear oa ob oc hbel
        obtain ⟨wo,hwo⟩:∃ wo,wo=wr:=⟨_,rfl⟩
        subst hwo
        have K20:=Hd ((Uh KF) wo (Uh HBE))
        clear KF HOA HOB HOC
        go_wp2_with fail
        refine (Uh K20).mono ?_
        rintro e20 w20 ⟨v20,rfl,ok20,b20⟩
        have HB20:=Hd (bthen (Uh HBE) b20)
        have HH20:=Hd ok20.sk
        obtain ⟨o20,q20,hv20,_,_⟩:=ok20.sk.shape
        subst hv20
        have K21:=Hd ((Uh KW) w20 (Uh HB20))
        clear K20 ok20 b20 HBE KW
        go_wp2_with fail
        refine (Uh K21).mono ?_
        rintro e21 w21 ⟨rfl,m21,rfl⟩
        have b21:Below w20.heap.size w20 (w20.drewN m21):=drewB ⟨m21,rfl⟩
        have HB21:=Hd (bthen (Uh HB20) b21)
        have HH21:=Hd ((Uh HH20).below b21)
        clear K21 b21 HB20 HH20
        generalize w20.drewN m21=w21 at *
        have K22:=Hd ((Uh KG) w21 (Uh HB21))
        clear KG
        go_wp2_with fail
        refine (Uh K22).mono ?_
        rintro e22 w22 ⟨v22,rfl,ok22,b22⟩
        have HB22:=Hd (bthen (Uh HB21) b22)
        have K23:=Hd (same3_eq _ _ C w22 ((Uh HH21).below b22) ok22.sk (by omega))
        obtain ⟨o22,q22,hv22,_,_⟩:=ok22.sk.shape
        subst hv22
        clear K22 ok22 b22 HB21 HH21
        go_wp2_with fail
        refine (Uh K23).mono ?_
        rintro e23 w23 ⟨rfl,m23,rfl⟩
        have HW23:=Hd (bthen (Uh HW2) (bthen (Uh HB22) (drewB ⟨m23,rfl⟩)))
        clear K23 HB22
        generalize w22.drewN m23=w23 at *
        go_wp2
        go_ret
        exact ⟨rfl,Uh HW23⟩
end Go.Proofs.YteccdnacpmbfcaaGreatDoor
