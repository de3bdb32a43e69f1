/- Om12 On12 Oq12 Or12 -/
import Derived.Test.YteccdnacpmbfcaaGreatDoorYO2
import Derived.Test.YteccdnacpmbfcaaGreatDoorYO0
namespace Go.Proofs.YteccdnacpmbfcaaGreatDoor
open Go.RowKit
open Ti
namespace Od
theorem RowAt.below {w w':World} {k:Int→Int} {g:Nat} {ms:List Int} (h:RowAt w k g ms) (hb:Below w.heap.size w w'):RowAt w' k g ms:=by
 obtain ⟨mv,h1,h2,h3⟩:=h
 refine ⟨mv,h1.below hb h1.lt,h2,?_⟩
 rcases h3 with h3 | ⟨j,cap,cur,e1,e2,e3,e4⟩
 ·exact Or.inl h3
 ·exact Or.inr ⟨j,cap,cur,e1,e2,by rw [hb.block j (Array.getElem?_eq_some_iff.1 e3).1]; exact e3,e4⟩
theorem zc_row:Tryz.zeroCells116=(Value.slice none 0 0 :: ia z255).toArray:=by kernel_rfl
theorem RowAt.new (w:World) (k:Int→Int):RowAt (w.alloc (.cells Tryz.zeroCells116 116)) k w.heap.size []:=⟨.slice none 0 0,by rw [cnts_nil]; exact Blk.new w _ _ _ zc_row,rfl,Or.inl ⟨rfl,rfl⟩⟩
theorem ir_append (a b:List Int):ir (a++b)=ir a++ir b:=List.map_append
theorem lay_any12 (k:Int→Int) (g yb n cap:Nat) (D ms R:List Int) (C:List Value) (w:World) (h:RowAt w k g ms) (hy:Blk w yb 21 (ir (D++ms++R)++C)) (hn:D.length+ms.length=n) (hcap:n≤cap∧cap≤9223372036854775807) (hk:Od.Mk k ms) (hs:n≤3000000) (hgy:yb<g):Calls Tryz.prog 67 #[.pointer (some ⟨g,0,none⟩),.slice (some ⟨yb,0,none⟩) n cap] w fun e w'=>e=.returned (.tuple #[])∧Blk w' yb 21 (ir (D++Od.bkt k ms++R)++C)∧RowAt w' k g []∧Below yb w w':=by
 rcases Nat.eq_zero_or_pos ms.length with h0 | h0
 ·obtain rfl:=List.eq_nil_of_length_eq_zero h0
  refine (lay_none12 k g _ w h).mono ?_
  rintro e w' ⟨rfl,rfl⟩
  rw [Od.bkt_nil]
  exact ⟨rfl,hy,h,Below.refl _ _⟩
 ·subst hn
  have hy2:Blk w yb 21 (ir D++ir ms++(ir R++C)):=by
   rw [ir_append,ir_append] at hy
   simpa [List.append_assoc] using hy
  refine (lay_some12 k g yb D.length cap ms ms (ir D) (ir R++C) w h hy2 (ir_len D) rfl hcap hk (by omega) (by omega) h0 hgy).mono ?_
  rintro e w' ⟨rfl,a,b,c⟩
  refine ⟨rfl,?_,b,c⟩
  rw [ir_append,ir_append]
  simpa [List.append_assoc] using a
theorem ordA_cons0 (k:Int→Int) (ms:List Int) {c:Int} (l:List Int) (h:k c=0):Od.ordA k ms (c :: l)=Od.bkt k ms++c :: Od.ordA k [] l:=by rw [Od.ordA,if_pos h]
theorem ordA_cons1 (k:Int→Int) (ms:List Int) {c:Int} (l:List Int) (h:k c≠0):Od.ordA k ms (c :: l)=Od.ordA k (ms++[c]) l:=by rw [Od.ordA,if_neg h]
theorem drop_getD {xs:List Int} {i:Nat} (h:i<xs.length):xs.drop i=xs.getD i 0 :: xs.drop (i+1):=by
 rw [List.drop_eq_getElem_cons h]; simp [List.getD,h]
set_option maxRecDepth 8000 in
set_option maxHeartbeats 4000000 in
theorem put_some12 {p:Nat} {k:Int→Int} (w0 w1:World) (hcl:∀ c W,Rune c→Below w0.heap.size w0 W→Calls Tryz.prog 15 #[.pointer (some ⟨p,0,none⟩),.int .i32 c] W (IntDraws W (k c))) (hkr:∀ c,0≤k c∧k c≤254) (hb:Below w0.heap.size w0 w1) (yb cap:Nat) (xs:List Int) (C:List Value) (hyb:w0.heap.size≤yb) (hy:Blk w1 yb 21 (ir xs++C)) (hfit:∀ z∈xs,Rune z) (hc1:xs.length≤cap) (hc2:cap≤9223372036854775807) (hl:xs.length≤3000000):Calls Tryz.prog 50 #[.pointer (some ⟨p,0,none⟩),.slice (some ⟨yb,0,none⟩) xs.length cap] w1 fun e w'=>e=.returned (.tuple #[])∧Blk w' yb 21 (ir (Od.ord k xs)++C)∧Below w0.heap.size w0 w':=by
 have HR:=Hd hkr
 have HC:=Hd hcl
 obtain ⟨g,hg⟩:∃ g,w1.heap.size=g:=⟨_,rfl⟩
 obtain ⟨W2,hW2⟩:∃ W2,w1.alloc (.cells Tryz.zeroCells116 116)=W2:=⟨_,rfl⟩
 have hyl:=hy.lt
 have r2:RowAt W2 k g []:=by rw [← hW2,← hg]; exact RowAt.new w1 k
 have y2:Blk W2 yb 21 (ir xs++C):=by rw [← hW2]; exact hy.alloc _
 have b2:Below w0.heap.size w0 W2:=by rw [← hW2]; exact hb.alloc hb.size _
 have hyg:yb<g:=by omega
 have HFX:=Hd hfit
 have HR2:=Hd r2
 have HY2:=Hd y2
 have HB2:=Hd b2
 obtain ⟨n,hn⟩:∃ n,xs.length=n:=⟨_,rfl⟩
 have HN:=Hd hn
 rw [hn] at hc1 hl ⊢
 have HOR:Hid (([]:List Int)++Od.ordA k [] (xs.drop 0)=Od.ord k xs):=by show _=_; rw [List.drop_zero]; rfl
 obtain ⟨res,hres⟩:∃ r,Od.ord k xs=r:=⟨_,rfl⟩
 rw [hres] at HOR ⊢
 clear hcl hkr hb hy hfit r2 y2 b2 hres hn hyl
 go_enter Tryz.func50,Tryz.ntmps50
 go_wp2
 clear hW2 hg
 go_loopw [5,6,9] (fun _ _ ii wr=>∃ (i:Nat) (D ms:List Int),ii=.int .i64 i∧i≤n∧D.length+ms.length=i∧Od.Mk k ms∧D++Od.ordA k ms (xs.drop i)=res∧RowAt wr k g ms∧Blk wr yb 21 (ir (D++ms++xs.drop i)++C)∧Below w0.heap.size w0 wr) (fun _ _ ii _=>n - (intOf ii).toNat)
 case atStart=>exact ⟨0,[],[],rfl,by omega,rfl,fun _ h=>(by cases h),Uh HOR,Uh HR2,by simpa using Uh HY2,Uh HB2⟩
 case round =>
  clear HR2 HY2 HB2 HOR
  obtain ⟨i,D,ms,rfl,hin,hdm,hmk,hor,hrw,hyw,hbw⟩:=hrel
  by_cases hlt:i<n
  ·have hix:i<xs.length:=by rw [Uh HN]; exact hlt
   have hdr:=drop_getD hix
   have hcell:wr.cell? ⟨yb,i,none⟩=some (.int .i32 (xs.getD i 0)):=by
    refine hyw.cell ?_
    rw [List.getElem?_append_left (by rw [ir_len]; simp; omega),hdr,ir_append,List.getElem?_append_right (by rw [ir_len]; simp; omega),ir_len,List.length_append,hdm,Nat.sub_self]
    rfl
   have hrn:Rune (xs.getD i 0):=(Uh HFX) _ (by simp [List.getD,hix])
   have KC:=Hd ((Uh HC) (xs.getD i 0) wr hrn hbw)
   obtain ⟨q0,q1⟩:=(Uh HR) (xs.getD i 0)
   have HRW:=Hd hrw
   have HYW:=Hd hyw
   have HBW:=Hd hbw
   have HMK:=Hd hmk
   have HORR:=Hd hor
   have HDR:=Hd hdr
   clear hrw hyw hbw hrn hmk hor hdr
   obtain ⟨c,hc⟩:∃ c,xs.getD i 0=c:=⟨_,rfl⟩
   rw [hc] at hcell KC q0 q1 HDR
   obtain ⟨q,hq⟩:∃ q:Nat,k c=(q:Int):=⟨(k c).toNat,by omega⟩
   rw [hq] at KC
   have HQ:=Hd hq
   clear hc hix
   rw [hq] at q0 q1
   clear hq
   go_wp2_with fail
   refine (Uh KC).mono ?_
   rintro e1 w2 ⟨rfl,m1,rfl⟩
   have bd:Below wr.heap.size wr (wr.drewN m1):=drewB ⟨m1,rfl⟩
   have hrw2:RowAt (wr.drewN m1) k g ms:=(Uh HRW).below bd
   have hyw2:Blk (wr.drewN m1) yb 21 (ir (D++ms++xs.drop i)++C):=(Uh HYW).below bd (Uh HYW).lt
   have hbw2:=bthen (Uh HBW) bd
   have hcell2:(wr.drewN m1).cell? ⟨yb,i,none⟩=some (.int .i32 c):=by rw [bd.cell (Uh HYW).lt]; exact hcell
   clear KC hcell HRW HYW HBW bd
   generalize wr.drewN m1=w2 at *
   by_cases hq0:q=0
   ·subst hq0
    have KL:=Hd (lay_any12 k g yb i cap D ms (xs.drop i) C w2 hrw2 hyw2 hdm ⟨by omega,hc2⟩ (Uh HMK) (by omega) hyg)
    have HB2:=Hd hbw2
    have HE:Hid ((D++Od.bkt k ms++[c])++Od.ordA k [] (xs.drop (i+1))=res):=by
     have:=Uh HORR
     rw [Uh HDR,ordA_cons0 k ms _ (Uh HQ)] at this
     show _=_
     rw [← this]; simp
    have HL:Hid ((D++Od.bkt k ms++[c]).length+([]:List Int).length=i+1):=by
     show _=_
     simp [Od.bkt_len (Uh HMK)]; omega
    clear hrw2 hyw2 hbw2 HORR
    go_wp2_with fail
    refine (Uh KL).mono ?_
    rintro e3 w3 ⟨rfl,hy3,hr3,b3⟩
    have hb3:Below w0.heap.size w0 w3:=(Uh HB2).trans (b3.mono hyb)
    have HY3:=Hd hy3
    have HR3:=Hd hr3
    have HB3:=Hd hb3
    clear KL HB2 hy3 hr3 b3 hb3 hcell2
    go_wp2
    go_roundw
    case rel =>
     refine ⟨i+1,D++Od.bkt k ms++[c],[],by go_num,by omega,Uh HL,fun _ h=>(by cases h),Uh HE,Uh HR3,?_,Uh HB3⟩
     have:=Uh HY3
     rw [Uh HDR] at this
     simpa using this
    case measure=>simp [intOf]; omega
   ·have KG:=Hd (gather_any12 k g ms c q w2 hrw2 (Uh HQ) (by omega) (by omega) (by omega))
    have HB2:=Hd hbw2
    have HYY:=Hd hyw2
    have HE:Hid (D++Od.ordA k (ms++[c]) (xs.drop (i+1))=res):=by
     have:=Uh HORR
     rw [Uh HDR,ordA_cons1 k ms _ (by rw [Uh HQ]; omega)] at this
     exact this
    have hqi:¬ ((q:Int)=0):=by omega
    clear hrw2 hyw2 hbw2 HORR
    go_wp2_with fail
    refine (Uh KG).mono ?_
    rintro e3 w3 ⟨rfl,hr3,b3⟩
    have hb3:Below w0.heap.size w0 w3:=(Uh HB2).trans (b3.mono (by omega))
    have hy3:=(Uh HYY).below b3 hyg
    have HY3:=Hd hy3
    have HR3:=Hd hr3
    have HB3:=Hd hb3
    clear KG HB2 hy3 hr3 b3 hb3 hcell2 HYY
    go_wp2
    go_roundw
    case rel =>
     refine ⟨i+1,D,ms++[c],by go_num,by omega,by simp; omega,Od.mk_snoc (Uh HMK) (by rw [Uh HQ]; omega) (by rw [Uh HQ]; omega),Uh HE,Uh HR3,?_,Uh HB3⟩
     have:=Uh HY3
     rw [Uh HDR] at this
     simpa using this
    case measure=>simp [intOf]; omega
  ·obtain rfl:i=n:=by omega
   have hdn:xs.drop i=[]:=List.drop_of_length_le (by rw [Uh HN]; omega)
   rw [hdn] at hor hyw
   have KL:=Hd (lay_any12 k g yb i cap D ms [] C wr hrw hyw hdm ⟨hc1,hc2⟩ hmk hl hyg)
   have HB:=Hd hbw
   have HE:Hid (D++Od.bkt k ms++[]=res):=by show _=_; rw [List.append_nil]; exact hor
   clear hor hrw hyw hbw hmk HC HR HFX
   go_wp2_with fail
   refine (Uh KL).mono ?_
   rintro e3 w3 ⟨rfl,hy3,hr3,b3⟩
   rw [Uh HE] at hy3
   have HF:=Hd (And.intro hy3 ((Uh HB).trans (b3.mono hyb)))
   clear KL HB hy3 hr3 b3
   go_wp2
   go_end0
   exact ⟨rfl,Uh HF⟩
theorem put_any12 {p:Nat} {k:Int→Int} (w0 w1:World) (v:Value) (xs:List Int) (hcl:∀ c W,Rune c→Below w0.heap.size w0 W→Calls Tryz.prog 15 #[.pointer (some ⟨p,0,none⟩),.int .i32 c] W (IntDraws W (k c))) (hkr:∀ c,0≤k c∧k c≤254) (hb:Below w0.heap.size w0 w1) (hx:Ok .i32 21 w1 w0.heap.size v xs) (hl:xs.length≤3000000):Calls Tryz.prog 50 #[.pointer (some ⟨p,0,none⟩),v] w1 fun e w'=>e=.returned (.tuple #[])∧Ok .i32 21 w' w0.heap.size v (Od.ord k xs)∧Below w0.heap.size w0 w':=by
 have hfit:∀ z∈xs,Rune z:=fun z hz=>⟨(hx.1 z hz).1,(hx.1 z hz).2⟩
 have hfo:Fit .i32 (Od.ord k xs):=fun z hz=>hx.1 z (Od.ord_mem hkr hz)
 have hlo:=Od.ord_len hkr xs
 rcases hx.row.2 with ⟨rfl,h0⟩ | ⟨yb,cap,cur,rfl,hyb,hcur,hc1,hc2,hcs,hct⟩
 ·obtain rfl:=List.eq_nil_of_length_eq_zero h0
  obtain ⟨g,hg⟩:∃ g,w1.heap.size=g:=⟨_,rfl⟩
  obtain ⟨W2,hW2⟩:∃ W2,w1.alloc (.cells Tryz.zeroCells116 116)=W2:=⟨_,rfl⟩
  have r2:RowAt W2 k g []:=by rw [← hW2,← hg]; exact RowAt.new w1 k
  have b2:Below w0.heap.size w0 W2:=by rw [← hW2]; exact hb.alloc hb.size _
  have KL:=Hd (lay_none12 k g (.slice none 0 0) W2 r2)
  have HF:Hid (Ok .i32 21 W2 w0.heap.size (.slice none 0 0) (Od.ord k [])∧Below w0.heap.size w0 W2):=⟨by rw [show Od.ord k []=[] from Od.bkt_nil k]; exact Ok.nil _ _ _ _,b2⟩
  clear hx hfit hfo hlo hb r2 b2 hcl
  go_enter Tryz.func50,Tryz.ntmps50
  go_wp2
  refine wp_loop_rounds 1 ?_
  rw [rounds_succ]
  go_wp2_with fail
  refine (Uh KL).mono ?_
  rintro e w3 ⟨rfl,rfl⟩
  clear KL hW2 hg
  go_wp2
  go_end0
  exact ⟨rfl,Uh HF⟩
 ·have hy:Blk w1 yb 21 (ir xs++cur.toList.drop (xs.length * 1)):=by
   have e:ir xs=cur.toList.take (xs.length * 1):=hct.symm
   rw [e,List.take_append_drop]
   unfold Blk; rw [hcur]
  refine (put_some12 w0 w1 hcl hkr hb yb cap xs _ hyb hy hfit hc1 (by unfold maxLen at hc2; omega) hl).mono ?_
  rintro e w' ⟨rfl,a,b⟩
  refine ⟨rfl,?_,b⟩
  have hcl2:cur.toList.length=cap * 1:=(Array.length_toList (xs:=cur)).trans hcs
  refine Ok.of (n:=xs.length) (us:=ir (Od.ord k xs)) hfo (by rw [hlo]; omega) ⟨by rw [ir_len,hlo]; omega,Or.inr ⟨yb,cap,_,rfl,hyb,a,hc1,hc2,?_,?_⟩⟩ hlo.symm rfl
  ·rw [List.size_toArray,List.length_append,ir_len,hlo,List.length_drop,hcl2]; omega
  ·rw [List.take_append_of_le_length (by rw [ir_len,hlo]; omega),List.take_of_length_le (by rw [ir_len,hlo]; omega)]
end Od
open Ti Od
namespace Cn
def nfd (rs:List Rec) (xs:List Int):List Int:=Od.ord (cls rs) (openAll rs xs)
end Cn
theorem class_all12 {B p:Nat} {rs:List Rec} {w:World} (hD:DataAt w B p rs) (h6:(Cn.check6 rs).2=0):∀ c W,Rune c→Below w.heap.size w W→Calls Tryz.prog 15 #[.pointer (some ⟨p,0,none⟩),.int .i32 c] W (IntDraws W (Cn.cls rs c)):=fun c W hc hW=>by
 rw [Cn.vget_cls h6]; exact class_any9 c W (hD.below hW) h6 hc
theorem check6_of {rs:List Rec} (hk:(Cn.check rs).2=0):(Cn.check6 rs).2=0:=by
 exact (Cn.check_iff.1 hk).1
set_option maxRecDepth 8000 in
set_option maxHeartbeats 2000000 in
theorem normal_any12 {B p:Nat} {rs:List Rec} (v:Value) (xs:List Int) (w:World) (hg:Glob w) (hD:DataAt w B p rs) (hk:(Cn.check rs).2=0) (hx:Sk .i32 w v xs) (hxl:xs.length≤65536):Calls Tryz.prog 51 #[.pointer (some ⟨p,0,none⟩),v] w (RunesNew w (Cn.nfd rs xs)):=by
 have h6:=check6_of hk
 have K1:=Hd (opened_any12 v xs w hg hD hk hx hxl)
 have hll:=Cn.openAll_len hk xs
 have K2:Hid (∀ v1 w1,Ok .i32 21 w1 w.heap.size v1 (Cn.openAll rs xs)→Below w.heap.size w w1→Calls Tryz.prog 50 #[.pointer (some ⟨p,0,none⟩),v1] w1 fun e w'=>e=.returned (.tuple #[])∧Ok .i32 21 w' w.heap.size v1 (Cn.nfd rs xs)∧Below w.heap.size w w'):=fun v1 w1 h1 h2=>put_any12 w w1 v1 _ (class_all12 hD h6) (fun c=>Cn.cls_range h6 c) h2 h1 (by omega)
 obtain ⟨vo,vc,hve,hv1,hv2⟩:=hx.shape
 subst hve
 clear hg hD hk hx h6 hll
 generalize Cn.openAll rs xs=zs at *
 generalize Cn.nfd rs xs=ys at *
 go_enter Tryz.func51,Tryz.ntmps51
 go_wp2_with fail
 refine (Uh K1).mono ?_
 rintro e1 w1 ⟨v1,rfl,ok1,b1⟩
 have K3:=Hd ((Uh K2) v1 w1 ok1 b1)
 obtain ⟨yo,yc,hye,_,_⟩:=ok1.sk.shape
 subst hye
 clear K1 K2 ok1 b1
 go_wp2_with fail
 refine (Uh K3).mono ?_
 rintro e2 w2 ⟨rfl,ok2,b2⟩
 have HF:Hid (RunesNew w ys (.returned (.slice yo zs.length yc)) w2):=⟨_,rfl,ok2,b2⟩
 clear K3 ok2 b2
 go_wp2
 go_ret
 exact Uh HF
theorem nfd_nil12 (w:World):Calls Tryz.prog 21 #[.pointer none,.slice none 0 0] w (SeqE w [] 1):=by
 have K1:Hid (∀ W v,Calls Tryz.prog 48 #[.pointer none,v] W fun e w'=>e=.returned (.int .i64 1)∧w'=W):=fun W v=>refused_nil v W
 obtain ⟨W0,hW0⟩:∃ W0,w.alloc (.cells #[.slice none 0 0] 23)=W0:=⟨_,rfl⟩
 have hb0:Below w.heap.size w W0:=by rw [← hW0]; exact (Below.refl _ _).alloc (Nat.le_refl _) _
 have HF:Hid (SeqE w [] 1 (.returned (.tuple #[.slice none 0 0,.int .i64 1])) W0):=⟨_,rfl,Ok.nil _ _ _ _,hb0⟩
 clear hb0
 go_enter Tryz.func21,Tryz.ntmps21
 go_wp2_with fail
 refine ((Uh K1) _ _).mono ?_
 rintro e1 w1 ⟨rfl,rfl⟩
 clear K1 hW0
 go_wp2
 go_ret2
 exact Uh HF
set_option maxRecDepth 8000 in
set_option maxHeartbeats 2000000 in
theorem nfd_any12 {B p:Nat} {rs:List Rec} (v:Value) (xs:List Int) (w:World) (hg:Glob w) (hD:DataAt w B p rs) (hk:(Cn.check rs).2=0) (hx:Sk .i32 w v xs):Calls Tryz.prog 21 #[.pointer (some ⟨p,0,none⟩),v] w (if 65536<xs.length then SeqE w [] 2 else SeqE w (Cn.nfd rs xs) 0):=by
 obtain ⟨vo,vc,hve,hv1,hv2⟩:=hx.shape
 subst hve
 obtain ⟨W0,hW0⟩:∃ W0,w.alloc (.cells #[.slice vo xs.length vc] 23)=W0:=⟨_,rfl⟩
 have hb0:Below w.heap.size w W0:=by rw [← hW0]; exact (Below.refl _ _).alloc (Nat.le_refl _) _
 have hc0:W0.cell? ⟨w.heap.size,0,none⟩=some (.slice vo xs.length vc):=by rw [← hW0]; exact one_cell w vo xs.length vc _
 have K1:=Hd (refused_any12 p w.heap.size 1 [xs.length] W0 rfl (by omega) (fun i hi=>by
  obtain rfl:i=0:=by omega
  exact ⟨vo,vc,hc0,hv2,hv1⟩))
 have HB0:=Hd hb0
 by_cases hl:65536<xs.length
 ·rw [if_pos hl]
  rw [show refN [xs.length]=2 by unfold refN; rw [List.any_cons,decide_eq_true hl]; rfl] at K1
  clear hg hD hk hx hc0 hb0
  go_enter Tryz.func21,Tryz.ntmps21
  go_wp2_with fail
  refine (Uh K1).mono ?_
  rintro e1 w1 ⟨rfl,rfl⟩
  have HF:Hid (SeqE w [] 2 (.returned (.tuple #[.slice none 0 0,.int .i64 2])) w1):=⟨_,rfl,Ok.nil _ _ _ _,Uh HB0⟩
  clear K1 hW0
  go_wp2
  go_ret2
  exact Uh HF
 ·rw [if_neg hl]
  rw [show refN [xs.length]=0 by unfold refN; rw [List.any_cons,decide_eq_false hl]; rfl] at K1
  have K2:=Hd (normal_any12 _ xs W0 (hg.on hb0) (hD.below hb0) hk (hx.below hb0) (by omega))
  clear hg hD hk hx hc0 hb0
  generalize Cn.nfd rs xs=zs at *
  go_enter Tryz.func21,Tryz.ntmps21
  go_wp2_with fail
  refine (Uh K1).mono ?_
  rintro e1 w1 ⟨rfl,rfl⟩
  clear K1
  go_wp2_with fail
  refine (Uh K2).mono ?_
  rintro e2 w2 ⟨v2,rfl,ok2,b2⟩
  have HF:Hid (SeqE w zs 0 (.returned (.tuple #[v2,.int .i64 0])) w2):=⟨v2,rfl,ok2.lower (Uh HB0).size,bthen (Uh HB0) b2⟩
  clear K2 ok2 b2 hW0
  go_wp2
  go_ret2
  exact Uh HF
set_option maxRecDepth 8000 in
set_option maxHeartbeats 2000000 in
theorem sort_any12 {B p:Nat} {rs:List Rec} (v:Value) (xs:List Int) (w:World) (hD:DataAt w B p rs) (hk:(Cn.check rs).2=0) (hx:Sk .i32 w v xs):Calls Tryz.prog 20 #[.pointer (some ⟨p,0,none⟩),v] w (if 65536<xs.length then SeqE w [] 2 else SeqE w (Od.ord (Cn.cls rs) xs) 0):=by
 have h6:=check6_of hk
 obtain ⟨vo,vc,hve,hv1,hv2⟩:=hx.shape
 subst hve
 obtain ⟨W0,hW0⟩:∃ W0,w.alloc (.cells #[.slice vo xs.length vc] 23)=W0:=⟨_,rfl⟩
 have hb0:Below w.heap.size w W0:=by rw [← hW0]; exact (Below.refl _ _).alloc (Nat.le_refl _) _
 have hc0:W0.cell? ⟨w.heap.size,0,none⟩=some (.slice vo xs.length vc):=by rw [← hW0]; exact one_cell w vo xs.length vc _
 have K1:=Hd (refused_any12 p w.heap.size 1 [xs.length] W0 rfl (by omega) (fun i hi=>by
  obtain rfl:i=0:=by omega
  exact ⟨vo,vc,hc0,hv2,hv1⟩))
 have HB0:=Hd hb0
 by_cases hl:65536<xs.length
 ·rw [if_pos hl]
  rw [show refN [xs.length]=2 by unfold refN; rw [List.any_cons,decide_eq_true hl]; rfl] at K1
  clear hD hk hx hc0 hb0 h6
  go_enter Tryz.func20,Tryz.ntmps20
  go_wp2_with fail
  refine (Uh K1).mono ?_
  rintro e1 w1 ⟨rfl,rfl⟩
  have HF:Hid (SeqE w [] 2 (.returned (.tuple #[.slice none 0 0,.int .i64 2])) w1):=⟨_,rfl,Ok.nil _ _ _ _,Uh HB0⟩
  clear K1 hW0
  go_wp2
  go_ret2
  exact Uh HF
 ·rw [if_neg hl]
  rw [show refN [xs.length]=0 by unfold refN; rw [List.any_cons,decide_eq_false hl]; rfl] at K1
  have K2:=Hd (clone_any _ xs W0 (hx.below hb0) (by omega))
  have K3:Hid (∀ v1 w1,Ok .i32 21 w1 W0.heap.size v1 xs→Below W0.heap.size W0 w1→Calls Tryz.prog 50 #[.pointer (some ⟨p,0,none⟩),v1] w1 fun e w'=>e=.returned (.tuple #[])∧Ok .i32 21 w' W0.heap.size v1 (Od.ord (Cn.cls rs) xs)∧Below W0.heap.size W0 w'):=fun v1 w1 h1 h2=>put_any12 W0 w1 v1 _ (class_all12 (hD.below hb0) h6) (fun c=>Cn.cls_range h6 c) h2 h1 (by omega)
  clear hD hk hx hc0 hb0 h6
  generalize Od.ord (Cn.cls rs) xs=zs at *
  go_enter Tryz.func20,Tryz.ntmps20
  go_wp2_with fail
  refine (Uh K1).mono ?_
  rintro e1 w1 ⟨rfl,rfl⟩
  clear K1
  go_wp2_with fail
  refine (Uh K2).mono ?_
  rintro e2 w2 ⟨v2,rfl,ok2,b2⟩
  have K4:=Hd ((Uh K3) v2 w2 ok2 b2)
  obtain ⟨yo,yc,hye,_,_⟩:=ok2.sk.shape
  subst hye
  clear K2 K3 ok2 b2 hW0
  go_wp2_with fail
  refine (Uh K4).mono ?_
  rintro e3 w3 ⟨rfl,ok3,b3⟩
  have HF:Hid (SeqE w zs 0 (.returned (.tuple #[.slice yo xs.length yc,.int .i64 0])) w3):=⟨_,rfl,ok3.lower (Uh HB0).size,bthen (Uh HB0) b3⟩
  clear K4 ok3 b3
  go_wp2
  go_ret2
  exact Uh HF
theorem lit12 (W:World) (zs:List Int) (n:Nat) (hn:zs.length=n) (h0:0<n) (hs:n≤100) (C:Array Value) (hC:C=(zs.map (Value.int .i32)).toArray) (hz:∀ z∈zs,-2147483648≤z∧z≤2147483647):Sk .i32 (W.alloc (.cells C 21)) (.slice (some ⟨W.heap.size,0,none⟩) n n) zs:=by
 have h:Ok .i32 21 (W.alloc (.cells C 21)) W.heap.size (.slice (some ⟨W.heap.size,0,none⟩) n n) zs:=by
  refine Ok.of (n:=n) (us:=zs.map (Value.int .i32)) (fun z h=>i32_fit (hz z h)) (by omega) ⟨by simp [hn],Or.inr ⟨W.heap.size,n,C,rfl,Nat.le_refl _,heap_alloc_last W _,Nat.le_refl _,by unfold maxLen; omega,by rw [hC]; simp [hn],by rw [hC]; exact List.take_of_length_le (by simp [hn])⟩⟩ hn.symm rfl
 exact h.sk
theorem ok_alloc12 {K:IntKind} {e:TypeId} {w:World} {B:Nat} {v:Value} {zs:List Int} (h:Ok K e w B v zs) (o:Obj):Ok K e (w.alloc o) B v zs:=⟨h.1,h.2.1,h.2.2.alloc o⟩
theorem alloc_size12 (w:World) (o:Obj):(w.alloc o).heap.size=w.heap.size+1:=by show (w.heap.push o).size=_; rw [Array.size_push]
theorem app_sk12 {w:World} {ops:Array Oper} {rest:List Oper} {o:Oper} {a:Act} {Q:Exit→Act→World→Prop} (hgd:o.guard=none) (s x:Operand)
  (ho:o.op=.call { callee:=.builtin .append,args:=#[s,x],argTypes:=#[23,23] }) (B:Nat) (v u:Value) (xs ys:List Int) (hs:a.eval s=v) (hx:a.eval x=u)
  (hv:Ok .i32 21 w B v xs) (hu:Sk .i32 w u ys) (hl:xs.length+ys.length≤1000000000) (hB:B≤w.heap.size)
  (h:∀ v' w',Ok .i32 21 w' B v' (xs++ys)→w.grownBy w' v.ownBlock→wpList Tryz.prog ops Q rest (a.put o.dst v') w'):wpList Tryz.prog ops Q (o :: rest) a w:=by
 obtain ⟨i0,hi,hz0,hz1,hz2⟩:=info_parts infoR9
 rcases hu.2.src with ⟨h0,rfl⟩ | ⟨ad,cap,hve,hcells⟩
 ·obtain rfl:ys=[]:=by simpa using h0
  refine wpList_append_own_none hgd s x 23 ho B 21 i0 1 Tryz.underlying23 hi v _ _ hs hv.row hx ?_
  exact h v w (by rw [List.append_nil]; exact hv) (World.grownBy.refl w _)
 ·rw [List.length_map] at hve
  subst hve
  refine wpList_append_own w hgd s x 23 ho B 21 i0 (.int .i32 0) 1 4 Tryz.underlying23 hi hz0 hz1 hz2 rfl (by decide) v _ _ hs hv.row ad ys.length cap (ys.map (Value.int .i32)) hx (by simp) hcells (ints_one .i32 ys) (by unfold maxLen; omega) (by omega) hB ?_
  intro v' w' h1 h2 _
  exact h v' w' (Ok.of (hv.1.app hu.1) (by simp; omega) h1 (by simp) (by simp)) h2
def FewQ (w:World) (xs:List Int) (e:Ending) (w':World):Prop:=∃ g cap,e=.returned (.slice (some ⟨g,0,none⟩) xs.length cap)∧Ok .i32 21 w' w.heap.size (.slice (some ⟨g,0,none⟩) (xs.length+2) cap) (xs++[-7,-8])∧Below w.heap.size w w'
set_option maxRecDepth 20000 in
set_option maxHeartbeats 1000000 in
theorem few12_any (xv:Value) (xs:List Int) (m:Nat) (w:World) (hx:Sk .i32 w xv xs) (hm:m≤2000):Calls Tryz.prog 18 #[xv,.int .i64 m] w (FewQ w (xs.take m)):=by
 have hxl:=hx.len
 obtain ⟨ax,cx,hxv,hcx1,hcx2⟩:=hx.shape
 subst hxv
 obtain ⟨n,hn⟩:∃ n,n=min xs.length m:=⟨_,rfl⟩
 have hmin:min (xs.length:Int) (m:Int)=(n:Int):=by omega
 have hn1:n≤xs.length:=by omega
 have hn2:n≤2000:=by omega
 have hT:=hx.head hn1 hcx1
 have htl:(xs.take n).length=n:=by rw [List.length_take]; omega
 have htt:xs.take m=xs.take n:=by rw [hn,List.take_eq_take_min,Nat.min_comm]
 rw [htt]
 clear htt hx hn
 generalize hys:xs.take n=ys at *
 clear hys
 have HT:=Hd hT
 clear hT
 have hOne:∀ W:World,Sk .i32 (W.alloc (.cells #[.int .i32 (-7),.int .i32 (-8)] 21)) (.slice (some ⟨W.heap.size,0,none⟩) 2 2) [-7,-8]:=fun W=>lit12 W [-7,-8] 2 rfl (by omega) (by omega) _ rfl (by simp)
 have HONE:=fun W=>Hd (hOne W)
 clear hOne
 rcases ax with _ | ax
 ·go_enter Tryz.func18,Tryz.ntmps18
  go_wp2_with (at_builtin; refine app_sk12 rfl (.tmp 11) (.tmp 14) rfl w.heap.size _ _ [] ys rfl rfl (Ok.nil _ _ _ _) (Uh HT) (by simp; omega) (Nat.le_refl _) ?_)
  intro v1 w1 h1 h2
  have hb1:=(Below.refl w.heap.size w).grown h2 (Nat.le_refl _) (fun g hh=>by cases hh)
  have HB1:=Hd hb1
  have hs1:=hb1.size
  have HO1:=Hd (ok_alloc12 h1 (.cells #[.int .i32 (-7),.int .i32 (-8)] 21))
  have hsa:=Hd (alloc_size12 w1 (.cells #[.int .i32 (-7),.int .i32 (-8)] 21))
  have HBA:=Hd (hb1.alloc hs1 (.cells #[.int .i32 (-7),.int .i32 (-8)] 21))
  have hvb:∀ g,v1.ownBlock=some g→w.heap.size≤g:=fun g hh=>(h1.row.lt g hh).1
  have HVB:=Hd hvb
  obtain ⟨a1,c1,hv1,hc11,hc12⟩:=h1.sk.shape
  rw [htl] at hv1 hc11
  subst hv1
  clear h1 h2 hb1 hvb HB1 HT
  go_wp2_with (at_builtin; refine app_sk12 rfl (.tmp 16) (.tmp 17) rfl w.heap.size _ _ ys [-7,-8] rfl rfl (Uh HO1) (Uh (HONE _)) (by simp; omega) (by have:=Uh hsa; omega) ?_)
  intro v2 w2 h3 h4
  have hb2:=(Uh HBA).grown h4 (by have:=Uh hsa; omega) (Uh HVB)
  have hll:(ys++[-7,-8]).length=ys.length+2:=by simp
  obtain ⟨g,cap,hv2,hc21,hc22⟩:=own_shape h3.row (by rw [hll]; omega)
  rw [hll] at hv2 hc21
  subst hv2
  have HF:Hid (FewQ w ys (.returned (.slice (some ⟨g,0,none⟩) ys.length cap)) w2):=⟨g,cap,rfl,h3,hb2⟩
  clear h3 h4 hb2 HO1 HBA HVB hll HONE
  subst htl
  go_wp2
  go_ret
  exact Uh HF
 ·go_enter Tryz.func18,Tryz.ntmps18
  go_wp2_with (at_builtin; refine app_sk12 rfl (.tmp 11) (.tmp 14) rfl w.heap.size _ _ [] ys rfl rfl (Ok.nil _ _ _ _) (Uh HT) (by simp; omega) (Nat.le_refl _) ?_)
  intro v1 w1 h1 h2
  have hb1:=(Below.refl w.heap.size w).grown h2 (Nat.le_refl _) (fun g hh=>by cases hh)
  have HB1:=Hd hb1
  have hs1:=hb1.size
  have HO1:=Hd (ok_alloc12 h1 (.cells #[.int .i32 (-7),.int .i32 (-8)] 21))
  have hsa:=Hd (alloc_size12 w1 (.cells #[.int .i32 (-7),.int .i32 (-8)] 21))
  have HBA:=Hd (hb1.alloc hs1 (.cells #[.int .i32 (-7),.int .i32 (-8)] 21))
  have hvb:∀ g,v1.ownBlock=some g→w.heap.size≤g:=fun g hh=>(h1.row.lt g hh).1
  have HVB:=Hd hvb
  obtain ⟨a1,c1,hv1,hc11,hc12⟩:=h1.sk.shape
  rw [htl] at hv1 hc11
  subst hv1
  clear h1 h2 hb1 hvb HB1 HT
  go_wp2_with (at_builtin; refine app_sk12 rfl (.tmp 16) (.tmp 17) rfl w.heap.size _ _ ys [-7,-8] rfl rfl (Uh HO1) (Uh (HONE _)) (by simp; omega) (by have:=Uh hsa; omega) ?_)
  intro v2 w2 h3 h4
  have hb2:=(Uh HBA).grown h4 (by have:=Uh hsa; omega) (Uh HVB)
  have hll:(ys++[-7,-8]).length=ys.length+2:=by simp
  obtain ⟨g,cap,hv2,hc21,hc22⟩:=own_shape h3.row (by rw [hll]; omega)
  rw [hll] at hv2 hc21
  subst hv2
  have HF:Hid (FewQ w ys (.returned (.slice (some ⟨g,0,none⟩) ys.length cap)) w2):=⟨g,cap,rfl,h3,hb2⟩
  clear h3 h4 hb2 HO1 HBA HVB hll HONE
  subst htl
  go_wp2
  go_ret
  exact Uh HF
open Ti
theorem own_head12 {w:World} {B g n m cap:Nat} {e:TypeId} {us vs:List Value} (h:w.ownsRow B e 1 (.slice (some ⟨g,0,none⟩) m cap) m (us++vs)) (hn:us.length=n):w.ownsRow B e 1 (.slice (some ⟨g,0,none⟩) n cap) n us:=by
 obtain ⟨h1,h2⟩:=h
 rw [List.length_append] at h1
 rcases h2 with ⟨e1,_⟩ | ⟨g',cap',cur,e1,e2,e3,e4,e5,e6,e7⟩
 ·simp at e1
 ·simp only [Value.slice.injEq,Option.some.injEq,Addr.mk.injEq] at e1
  obtain ⟨⟨rfl,_⟩,_,rfl⟩:=e1
  refine ⟨by omega,Or.inr ⟨g,cap,cur,rfl,e2,e3,by omega,e5,e6,?_⟩⟩
  have:=congrArg (List.take (n * 1)) e7
  rw [List.take_take,Nat.min_eq_left (by omega),List.take_append_of_le_length (by omega),List.take_of_length_le (l:=us) (by omega)] at this
  exact this
namespace Cn
theorem lt_nfd:nfd little [224,98]=[97,768,98]:=by decide +kernel
theorem lt_srt:srtA little 0 [97,768,98]=true:=by decide +kernel
end Cn
set_option maxRecDepth 8000 in
set_option maxHeartbeats 4000000 in
theorem told_any12 (w:World) (hg:Glob w):Calls Tryz.prog 17 #[] w (Tells w true):=by
 have K1:=Hd (little_any w)
 have HG:=Hd hg
 clear hg
 go_enter Tryz.func17,Tryz.ntmps17
 go_wp2_with fail
 refine (Uh K1).mono ?_
 rintro e1 w1 ⟨v1,ps1,rfl,p1,r1,b1⟩
 have R1:=rcs_new r1 p1 (by decide) lt_fit
 have K2:=Hd (made_any _ _ w1 ((Uh HG).on b1) R1)
 rw [Cn.lt_len] at K2
 obtain ⟨a1,cp1,hv1,_,hcp1⟩:=R1.shape
 subst hv1
 have HB1:=Hd b1
 clear K1 R1 r1 b1 p1
 go_wp2_with fail
 refine (Uh K2).mono ?_
 rintro e2 w2 ⟨b2,h2⟩
 have HB2:=Hd (bthen (Uh HB1) b2)
 clear K2 b2 HB1
 rcases h2 with ⟨hne,_⟩ | ⟨hck,p,v2,ps2,rfl,hD,r2,p2⟩
 ·exact absurd (by rw [Cn.little_check]) hne
 ·have R2:=rcs_new r2 p2 (by decide) lt_fit
  obtain ⟨a2,cp2,hv2,_,hcp2⟩:=R2.shape
  subst hv2
  obtain ⟨W3,hW3⟩:∃ W3,w2.alloc (.cells #[.int .i32 224,.int .i32 98] 21)=W3:=⟨_,rfl⟩
  have hb3:Below w2.heap.size w2 W3:=by rw [← hW3]; exact (Below.refl _ _).alloc (Nat.le_refl _) _
  have hs3:Sk .i32 W3 (.slice (some ⟨w2.heap.size,0,none⟩) 2 2) [224,98]:=by rw [← hW3]; exact lit12 w2 [224,98] 2 rfl (by omega) (by omega) _ rfl (by simp)
  have hG3:Glob W3:=((Uh HG).on (Uh HB2)).on hb3
  have K3:=Hd (nfd_any12 _ [224,98] W3 hG3 (hD.below hb3) hck hs3)
  rw [if_neg (by decide),Cn.lt_nfd] at K3
  have HB3:=Hd (bthen (Uh HB2) hb3)
  have HD3:=Hd (hD.below hb3)
  have HG3:=Hd hG3
  clear hD R2 r2 p2 hs3 hb3 HB2 HG hG3
  go_wp2_with fail
  refine (Uh K3).mono ?_
  rintro e4 w4 ⟨v4,rfl,ok4,b4⟩
  have HB4:=Hd (bthen (Uh HB3) b4)
  have HD4:=Hd ((Uh HD3).below b4)
  have HO4:=Hd ok4
  obtain ⟨a4,cp4,hv4,_,hcp4⟩:=ok4.sk.shape
  subst hv4
  have K5:=Hd (nfd_nil12 w4)
  clear K3 ok4 b4 HB3 HD3 HG3 hW3
  go_wp2_with fail
  refine (Uh K5).mono ?_
  rintro e5 w5 ⟨v5,rfl,ok5,b5⟩
  have HB5:=Hd (bthen (Uh HB4) b5)
  have HD5:=Hd ((Uh HD4).below b5)
  have HO5:=Hd ((Uh HO4).below b5)
  obtain ⟨a5,cp5,hv5,_,hcp5⟩:=ok5.sk.shape
  subst hv5
  obtain ⟨W6,hW6⟩:∃ W6,w5.alloc (.cells #[.int .i32 97,.int .i32 768,.int .i32 98] 21)=W6:=⟨_,rfl⟩
  have hb6:Below w5.heap.size w5 W6:=by rw [← hW6]; exact (Below.refl _ _).alloc (Nat.le_refl _) _
  have hs6:Sk .i32 W6 (.slice (some ⟨w5.heap.size,0,none⟩) 3 3) [97,768,98]:=by rw [← hW6]; exact lit12 w5 [97,768,98] 3 rfl (by omega) (by omega) _ rfl (by simp)
  have K6:=Hd (same3_eq _ _ [97,768,98] W6 ((Uh HO5).below hb6).sk hs6 (by decide))
  have HB6:=Hd (bthen (Uh HB5) hb6)
  have HD6:=Hd ((Uh HD5).below hb6)
  have HO6:=Hd ((Uh HO5).below hb6).sk
  clear K5 ok5 b5 HB4 HD4 HO4 HB5 HD5 HO5 hb6 hs6
  go_wp2_with fail
  refine (Uh K6).mono ?_
  rintro e7 w7 ⟨rfl,m7,rfl⟩
  have hb7:Below W6.heap.size W6 (W6.drewN m7):=drewB ⟨m7,rfl⟩
  have K7:=Hd (sorted_any12 _ [97,768,98] (W6.drewN m7) ((Uh HD6).below hb7) Cn.lt_six ((Uh HO6).below hb7))
  rw [Cn.lt_srt] at K7
  have HB7:=Hd (bthen (Uh HB6) hb7)
  clear K6 HB6 HD6 HO6 hb7 hW6
  generalize W6.drewN m7=w7 at *
  go_wp2_with fail
  refine (Uh K7).mono ?_
  rintro e8 w8 ⟨rfl,b8⟩
  have HB8:=Hd (bthen (Uh HB7) b8)
  clear K7 HB7 b8
  go_wp2
  go_ret
  exact ⟨rfl,Uh HB8⟩
end Go.Proofs.YteccdnacpmbfcaaGreatDoor
