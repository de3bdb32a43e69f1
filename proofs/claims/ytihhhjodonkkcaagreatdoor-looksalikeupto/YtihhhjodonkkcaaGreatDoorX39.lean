/- Om12 On12 Oq12 Or12 -/
import Derived.Test.YtihhhjodonkkcaaGreatDoorX38
import Derived.Test.YtihhhjodonkkcaaGreatDoorX37
namespace Go.Proofs.YtihhhjodonkkcaaGreatDoor
open Go.RowKit
open Ti
namespace Od
theorem RowAt.below {w w' k g ms} (h:RowAt w k g ms) (hb:Below w.heap.size w w'):RowAt w' k g ms:=by
 obtain ⟨mv,h1,h2,h3⟩:=h
 refine ⟨mv,h1.below hb h1.lt,h2,?_⟩
 rcases h3 with h3 | ⟨j,cap,cur,e1,e2,e3,e4⟩
 ·exact Or.inl h3
 ·exact Or.inr ⟨j,cap,cur,e1,e2,by rw [hb.block j (Array.getElem?_eq_some_iff.1 e3).1]; exact e3,e4⟩
theorem zc_row:Tryz.zeroCells153=(Value.slice none 0 0 :: ia z255).toArray:=by kernel_rfl
theorem RowAt.new (w:World) k:RowAt (w.alloc (.cells Tryz.zeroCells153 153)) k w.heap.size []:=⟨.slice none 0 0,by rw [cnts_nil]; exact Blk.new w _ _ _ zc_row,rfl,Or.inl ⟨rfl,rfl⟩⟩
theorem ir_append a b:ir (a++b)=ir a++ir b:=List.map_append
theorem lay_any12 k g yb n cap D ms R C w (h:RowAt w k g ms) (hy:Blk w yb 21 (ir (D++ms++R)++C)) (hn:D.length+ms.length=n) (hcap:n≤cap∧cap≤9223372036854775807) (hk:Od.Mk k ms) (hs:n≤3000000) (hgy:yb<g):Calls Tryz.prog 100 #[.pointer (some ⟨g,0,none⟩),.slice (some ⟨yb,0,none⟩) n cap] w fun e w'=>e=.returned (.tuple #[])∧Blk w' yb 21 (ir (D++Od.bkt k ms++R)++C)∧RowAt w' k g []∧Below yb w w':=by
 rcases Nat.eq_zero_or_pos ms.length with h0 | h0
 ·obtain rfl:=List.eq_nil_of_length_eq_zero h0
  refine (lay_none12 k g _ w h).mono ?_
  rintro e w' ⟨rfl,rfl⟩
  rw [Od.bkt_nil]
  exact ⟨rfl,hy,h,Below.refl _ _⟩
 ·subst hn
  have hy2:Blk w yb 21 (ir D++ir ms++(ir R++C)):=by
   rw [ir_append,ir_append] at hy
   simpa [List.append_assoc] using hy
  refine (lay_some12 k g yb D.length cap ms ms (ir D) (ir R++C) w h hy2 (ir_len D) rfl hcap hk (by omega) (by omega) h0 hgy).mono ?_
  rintro e w' ⟨rfl,a,b,c⟩
  refine ⟨rfl,?_,b,c⟩
  rw [ir_append,ir_append]
  simpa [List.append_assoc] using a
theorem ordA_cons0 k ms {c} l (h:k c=0):Od.ordA k ms (c :: l)=Od.bkt k ms++c :: Od.ordA k [] l:=by rw [Od.ordA,if_pos h]
theorem ordA_cons1 k ms {c} l (h:k c≠0):Od.ordA k ms (c :: l)=Od.ordA k (ms++[c]) l:=by rw [Od.ordA,if_neg h]
theorem drop_getD {xs:List Int} {i} (h:i<xs.length):xs.drop i=xs.getD i 0 :: xs.drop (i+1):=by simp_all
set_option maxRecDepth 8000 in
set_option maxHeartbeats 4000000 in
theorem put_some12 {p k} w0 w1 (hcl:∀ c W,Rune c→Below w0.heap.size w0 W→Calls Tryz.prog 23 #[.pointer (some ⟨p,0,none⟩),.int .i32 c] W (IntDraws W (k c))) (hkr:∀ c,0≤k c∧k c≤254) (hb:Below w0.heap.size w0 w1) yb cap xs C (hyb:w0.heap.size≤yb) (hy:Blk w1 yb 21 (ir xs++C)) (hfit:∀ z∈xs,Rune z) (hc1:xs.length≤cap) (hc2:cap≤9223372036854775807) (hl:xs.length≤3000000):Calls Tryz.prog 61 #[.pointer (some ⟨p,0,none⟩),.slice (some ⟨yb,0,none⟩) xs.length cap] w1 fun e w'=>e=.returned (.tuple #[])∧Blk w' yb 21 (ir (Od.ord k xs)++C)∧Below w0.heap.size w0 w':=by
 have HR:=Hd hkr
 have HC:=Hd hcl
 obtain ⟨g,hg⟩:∃ g,w1.heap.size=g:=⟨_,rfl⟩
 obtain ⟨W2,hW2⟩:∃ W2,w1.alloc (.cells Tryz.zeroCells153 153)=W2:=⟨_,rfl⟩
 have hyl:=hy.lt
 have r2:RowAt W2 k g []:=by rw [← hW2,← hg]; exact RowAt.new w1 k
 have y2:Blk W2 yb 21 (ir xs++C):=by rw [← hW2]; exact hy.alloc _
 have b2:Below w0.heap.size w0 W2:=by rw [← hW2]; exact hb.alloc hb.size _
 have hyg:yb<g:=by omega
 have HFX:=Hd hfit
 have HR2:=Hd r2
 have HY2:=Hd y2
 have HB2:=Hd b2
 obtain ⟨n,hn⟩:∃ n,xs.length=n:=⟨_,rfl⟩
 have HN:=Hd hn
 rw [hn] at hc1 hl ⊢
 have HOR:Hid (([]:List Int)++Od.ordA k [] (xs.drop 0)=Od.ord k xs):=by show _=_; rw [List.drop_zero]; rfl
 obtain ⟨res,hres⟩:∃ r,Od.ord k xs=r:=⟨_,rfl⟩
 rw [hres] at HOR ⊢
 go_enter Tryz.func61,Tryz.ntmps61
 go_wp2
 go_loopw [5,6,9] (fun _ _ ii wr=>∃ (i:Nat) (D ms:List Int),ii=.int .i64 i∧i≤n∧D.length+ms.length=i∧Od.Mk k ms∧D++Od.ordA k ms (xs.drop i)=res∧RowAt wr k g ms∧Blk wr yb 21 (ir (D++ms++xs.drop i)++C)∧Below w0.heap.size w0 wr) (fun _ _ ii _=>n - (intOf ii).toNat)
 case atStart=>exact ⟨0,[],[],rfl,by omega,rfl,fun _ h=>(by cases h),Uh HOR,Uh HR2,by simpa using Uh HY2,Uh HB2⟩
 case round =>
  obtain ⟨i,D,ms,rfl,hin,hdm,hmk,hor,hrw,hyw,hbw⟩:=hrel
  by_cases hlt:i<n
  ·have hix:i<xs.length:=by rw [Uh HN]; exact hlt
   have hdr:=drop_getD hix
   have hcell:wr.cell? ⟨yb,i,none⟩=some (.int .i32 (xs.getD i 0)):=by
    refine hyw.cell ?_
    rw [List.getElem?_append_left (by rw [ir_len]; simp; omega),hdr,ir_append,List.getElem?_append_right (by rw [ir_len]; simp; omega),ir_len,List.length_append,hdm,Nat.sub_self]
    rfl
   have hrn:Rune (xs.getD i 0):=(Uh HFX) _ (by simp [List.getD,hix])
   have KC:=Hd ((Uh HC) (xs.getD i 0) wr hrn hbw)
   obtain ⟨q0,q1⟩:=(Uh HR) (xs.getD i 0)
   have HRW:=Hd hrw
   have HYW:=Hd hyw
   have HBW:=Hd hbw
   have HMK:=Hd hmk
   have HORR:=Hd hor
   have HDR:=Hd hdr
   obtain ⟨c,hc⟩:∃ c,xs.getD i 0=c:=⟨_,rfl⟩
   rw [hc] at hcell KC q0 q1 HDR
   obtain ⟨q,hq⟩:∃ q:Nat,k c=(q:Int):=⟨(k c).toNat,by omega⟩
   rw [hq] at KC
   have HQ:=Hd hq
   rw [hq] at q0 q1
   go_wp2_with fail
   refine (Uh KC).mono ?_
   rintro e1 w2 ⟨rfl,m1,rfl⟩
   have bd:Below wr.heap.size wr (wr.drewN m1):=drewB ⟨m1,rfl⟩
   have hrw2:RowAt (wr.drewN m1) k g ms:=(Uh HRW).below bd
   have hyw2:Blk (wr.drewN m1) yb 21 (ir (D++ms++xs.drop i)++C):=(Uh HYW).below bd (Uh HYW).lt
   have hbw2:=bthen (Uh HBW) bd
   have hcell2:(wr.drewN m1).cell? ⟨yb,i,none⟩=some (.int .i32 c):=by rw [bd.cell (Uh HYW).lt]; exact hcell
   generalize wr.drewN m1=w2 at *
   by_cases hq0:q=0
   ·subst hq0
    have KL:=Hd (lay_any12 k g yb i cap D ms (xs.drop i) C w2 hrw2 hyw2 hdm ⟨by omega,hc2⟩ (Uh HMK) (by omega) hyg)
    have HB2:=Hd hbw2
    have HE:Hid ((D++Od.bkt k ms++[c])++Od.ordA k [] (xs.drop (i+1))=res):=by
     have:=Uh HORR
     rw [Uh HDR,ordA_cons0 k ms _ (Uh HQ)] at this
     show _=_
     rw [← this]; simp
    have HL:Hid ((D++Od.bkt k ms++[c]).length+([]:List Int).length=i+1):=by
     show _=_
     simp [Od.bkt_len (Uh HMK)]; omega
    go_wp2_with fail
    refine (Uh KL).mono ?_
    rintro e3 w3 ⟨rfl,hy3,hr3,b3⟩
    have hb3:Below w0.heap.size w0 w3:=(Uh HB2).trans (b3.mono hyb)
    have HY3:=Hd hy3
    have HR3:=Hd hr3
    have HB3:=Hd hb3
    go_wp2
    go_roundw
    case rel =>
     refine ⟨i+1,D++Od.bkt k ms++[c],[],by go_num,by omega,Uh HL,fun _ h=>(by cases h),Uh HE,Uh HR3,?_,Uh HB3⟩
     have:=Uh HY3
     rw [Uh HDR] at this
     simpa using this
    case measure=>simp [intOf]; omega
   ·have KG:=Hd (gather_any12 k g ms c q w2 hrw2 (Uh HQ) (by omega) (by omega) (by omega))
    have HB2:=Hd hbw2
    have HYY:=Hd hyw2
    have HE:Hid (D++Od.ordA k (ms++[c]) (xs.drop (i+1))=res):=by
     have:=Uh HORR
     rw [Uh HDR,ordA_cons1 k ms _ (by rw [Uh HQ]; omega)] at this
     exact this
    have hqi:¬ ((q:Int)=0):=by omega
    go_wp2_with fail
    refine (Uh KG).mono ?_
    rintro e3 w3 ⟨rfl,hr3,b3⟩
    have hb3:Below w0.heap.size w0 w3:=(Uh HB2).trans (b3.mono (by omega))
    have hy3:=(Uh HYY).below b3 hyg
    have HY3:=Hd hy3
    have HR3:=Hd hr3
    have HB3:=Hd hb3
    go_wp2
    go_roundw
    case rel =>
     refine ⟨i+1,D,ms++[c],by go_num,by omega,by simp; omega,Od.mk_snoc (Uh HMK) (by rw [Uh HQ]; omega) (by rw [Uh HQ]; omega),Uh HE,Uh HR3,?_,Uh HB3⟩
     have:=Uh HY3
     rw [Uh HDR] at this
     simpa using this
    case measure=>simp [intOf]; omega
  ·obtain rfl:i=n:=by omega
   have hdn:xs.drop i=[]:=List.drop_of_length_le (by rw [Uh HN]; omega)
   rw [hdn] at hor hyw
   have KL:=Hd (lay_any12 k g yb i cap D ms [] C wr hrw hyw hdm ⟨hc1,hc2⟩ hmk hl hyg)
   have HB:=Hd hbw
   have HE:Hid (D++Od.bkt k ms++[]=res):=by show _=_; rw [List.append_nil]; exact hor
   go_wp2_with fail
   refine (Uh KL).mono ?_
   rintro e3 w3 ⟨rfl,hy3,hr3,b3⟩
   rw [Uh HE] at hy3
   have HF:=Hd (And.intro hy3 ((Uh HB).trans (b3.mono hyb)))
   go_wp2
   go_end0
   exact ⟨rfl,Uh HF⟩
theorem put_any12 {p k} w0 w1 v xs (hcl:∀ c W,Rune c→Below w0.heap.size w0 W→Calls Tryz.prog 23 #[.pointer (some ⟨p,0,none⟩),.int .i32 c] W (IntDraws W (k c))) (hkr:∀ c,0≤k c∧k c≤254) (hb:Below w0.heap.size w0 w1) (hx:Ok .i32 21 w1 w0.heap.size v xs) (hl:xs.length≤3000000):Calls Tryz.prog 61 #[.pointer (some ⟨p,0,none⟩),v] w1 fun e w'=>e=.returned (.tuple #[])∧Ok .i32 21 w' w0.heap.size v (Od.ord k xs)∧Below w0.heap.size w0 w':=by
 have hfit:∀ z∈xs,Rune z:=fun z hz=>⟨(hx.1 z hz).1,(hx.1 z hz).2⟩
 have hfo:Fit .i32 (Od.ord k xs):=fun z hz=>hx.1 z (Od.ord_mem hkr hz)
 have hlo:=Od.ord_len hkr xs
 rcases hx.row.2 with ⟨rfl,h0⟩ | ⟨yb,cap,cur,rfl,hyb,hcur,hc1,hc2,hcs,hct⟩
 ·obtain rfl:=List.eq_nil_of_length_eq_zero h0
  obtain ⟨g,hg⟩:∃ g,w1.heap.size=g:=⟨_,rfl⟩
  obtain ⟨W2,hW2⟩:∃ W2,w1.alloc (.cells Tryz.zeroCells153 153)=W2:=⟨_,rfl⟩
  have r2:RowAt W2 k g []:=by rw [← hW2,← hg]; exact RowAt.new w1 k
  have b2:Below w0.heap.size w0 W2:=by rw [← hW2]; exact hb.alloc hb.size _
  have KL:=Hd (lay_none12 k g (.slice none 0 0) W2 r2)
  have HF:Hid (Ok .i32 21 W2 w0.heap.size (.slice none 0 0) (Od.ord k [])∧Below w0.heap.size w0 W2):=⟨by rw [show Od.ord k []=[] from Od.bkt_nil k]; exact Ok.nil _ _ _ _,b2⟩
  go_enter Tryz.func61,Tryz.ntmps61
  go_wp2
  refine wp_loop_rounds 1 ?_
  rw [rounds_succ]
  go_wp2_with fail
  refine (Uh KL).mono ?_
  rintro e w3 ⟨rfl,rfl⟩
  go_wp2
  go_end0
  exact ⟨rfl,Uh HF⟩
 ·have hy:Blk w1 yb 21 (ir xs++cur.toList.drop (xs.length * 1)):=by
   have e:ir xs=cur.toList.take (xs.length * 1):=hct.symm
   rw [e,List.take_append_drop]
   unfold Blk; rw [hcur]
  refine (put_some12 w0 w1 hcl hkr hb yb cap xs _ hyb hy hfit hc1 (by unfold maxLen at hc2; omega) hl).mono ?_
  rintro e w' ⟨rfl,a,b⟩
  refine ⟨rfl,?_,b⟩
  have hcl2:cur.toList.length=cap * 1:=(Array.length_toList (xs:=cur)).trans hcs
  refine Ok.of (n:=xs.length) (us:=ir (Od.ord k xs)) hfo (by rw [hlo]; omega) ⟨by rw [ir_len,hlo]; omega,Or.inr ⟨yb,cap,_,rfl,hyb,a,hc1,hc2,?_,?_⟩⟩ hlo.symm rfl
  ·rw [List.size_toArray,List.length_append,ir_len,hlo,List.length_drop,hcl2]; omega
  ·rw [List.take_append_of_le_length (by rw [ir_len,hlo]; omega),List.take_of_length_le (by rw [ir_len,hlo]; omega)]
end Od
open Ti Od
namespace Cn
def nfd (rs:List Rec) (xs:List Int):List Int:=Od.ord (cls rs) (openAll rs xs)
end Cn
theorem class_all12 {B p rs w} (hD:DataAt w B p rs) (h6:(Cn.check6 rs).2=0):∀ c W,Rune c→Below w.heap.size w W→Calls Tryz.prog 23 #[.pointer (some ⟨p,0,none⟩),.int .i32 c] W (IntDraws W (Cn.cls rs c)):=fun c W hc hW=>by
 rw [Cn.vget_cls h6]; exact class_any9 c W (hD.below hW) h6 hc
theorem check6_of {rs} (hk:(Cn.check rs).2=0):(Cn.check6 rs).2=0:=by
 exact (Cn.check_iff.1 hk).1
set_option maxRecDepth 8000 in
set_option maxHeartbeats 2000000 in
theorem normal_any12 {B p rs} v xs w (hg:Glob w) (hD:DataAt w B p rs) (hk:(Cn.check rs).2=0) (hx:Sk .i32 w v xs) (hxl:xs.length≤65536):Calls Tryz.prog 41 #[.pointer (some ⟨p,0,none⟩),v] w (RunesNew w (Cn.nfd rs xs)):=by
 have h6:=check6_of hk
 have K1:=Hd (opened_any12 v xs w hg hD hk hx hxl)
 have hll:=Cn.openAll_len hk xs
 have K2:Hid (∀ v1 w1,Ok .i32 21 w1 w.heap.size v1 (Cn.openAll rs xs)→Below w.heap.size w w1→Calls Tryz.prog 61 #[.pointer (some ⟨p,0,none⟩),v1] w1 fun e w'=>e=.returned (.tuple #[])∧Ok .i32 21 w' w.heap.size v1 (Cn.nfd rs xs)∧Below w.heap.size w w'):=fun v1 w1 h1 h2=>put_any12 w w1 v1 _ (class_all12 hD h6) (fun c=>Cn.cls_range h6 c) h2 h1 (by omega)
 obtain ⟨vo,vc,hve,hv1,hv2⟩:=hx.shape
 subst hve
 generalize Cn.openAll rs xs=zs at *
 generalize Cn.nfd rs xs=ys at *
 go_enter Tryz.func41,Tryz.ntmps41
 go_wp2_with fail
 refine (Uh K1).mono ?_
 rintro e1 w1 ⟨v1,rfl,ok1,b1⟩
 have K3:=Hd ((Uh K2) v1 w1 ok1 b1)
 obtain ⟨yo,yc,hye,_,_⟩:=ok1.sk.shape
 subst hye
 go_wp2_with fail
 refine (Uh K3).mono ?_
 rintro e2 w2 ⟨rfl,ok2,b2⟩
 have HF:Hid (RunesNew w ys (.returned (.slice yo zs.length yc)) w2):=⟨_,rfl,ok2,b2⟩
 go_wp2
 go_ret
 exact Uh HF
set_option maxRecDepth 8000 in
set_option maxHeartbeats 2000000 in
theorem nfd_any12 {B p rs} v xs w (hg:Glob w) (hD:DataAt w B p rs) (hk:(Cn.check rs).2=0) (hx:Sk .i32 w v xs):Calls Tryz.prog 21 #[.pointer (some ⟨p,0,none⟩),v] w (if 65536<xs.length then SeqE w [] 2 else SeqE w (Cn.nfd rs xs) 0):=by
 obtain ⟨vo,vc,hve,hv1,hv2⟩:=hx.shape
 subst hve
 obtain ⟨W0,hW0⟩:∃ W0,w.alloc (.cells #[.slice vo xs.length vc] 23)=W0:=⟨_,rfl⟩
 have hb0:Below w.heap.size w W0:=by rw [← hW0]; exact (Below.refl _ _).alloc (Nat.le_refl _) _
 have hc0:W0.cell? ⟨w.heap.size,0,none⟩=some (.slice vo xs.length vc):=by rw [← hW0]; exact one_cell w vo xs.length vc _
 have K1:=Hd (refused_any12 p w.heap.size 1 [xs.length] W0 rfl (by omega) (fun i hi=>by
  obtain rfl:i=0:=by omega
  exact ⟨vo,vc,hc0,hv2,hv1⟩))
 have HB0:=Hd hb0
 by_cases hl:65536<xs.length
 ·rw [if_pos hl]
  rw [show refN [xs.length]=2 by unfold refN; rw [List.any_cons,decide_eq_true hl]; rfl] at K1
  go_enter Tryz.func21,Tryz.ntmps21
  go_wp2_with fail
  refine (Uh K1).mono ?_
  rintro e1 w1 ⟨rfl,rfl⟩
  have HF:Hid (SeqE w [] 2 (.returned (.tuple #[.slice none 0 0,.int .i64 2])) w1):=⟨_,rfl,Ok.nil _ _ _ _,Uh HB0⟩
  go_wp2
  go_ret2
  exact Uh HF
 ·rw [if_neg hl]
  rw [show refN [xs.length]=0 by unfold refN; rw [List.any_cons,decide_eq_false hl]; rfl] at K1
  have K2:=Hd (normal_any12 _ xs W0 (hg.on hb0) (hD.below hb0) hk (hx.below hb0) (by omega))
  generalize Cn.nfd rs xs=zs at *
  go_enter Tryz.func21,Tryz.ntmps21
  go_wp2_with fail
  refine (Uh K1).mono ?_
  rintro e1 w1 ⟨rfl,rfl⟩
  go_wp2_with fail
  refine (Uh K2).mono ?_
  rintro e2 w2 ⟨v2,rfl,ok2,b2⟩
  have HF:Hid (SeqE w zs 0 (.returned (.tuple #[v2,.int .i64 0])) w2):=⟨v2,rfl,ok2.lower (Uh HB0).size,bthen (Uh HB0) b2⟩
  go_wp2
  go_ret2
  exact Uh HF
theorem take_next12 {xs ys:List Int} {k} (h:xs.take k=ys.take k) (hx:k<xs.length) (hy:k<ys.length) (he:xs.getD k 0=ys.getD k 0):xs.take (k+1)=ys.take (k+1):=by
 rw [List.take_add_one,List.take_add_one,h]
 simp only [List.getD,List.getElem?_eq_getElem hx,List.getElem?_eq_getElem hy,Option.getD_some] at he
 rw [List.getElem?_eq_getElem hx,List.getElem?_eq_getElem hy,he]
theorem draws_mk12 {w w' b c} (h:b=c) (hb:∃ m,w'=w.drewN m):Draws w c (.returned (.bool b)) w':=by subst h; exact ⟨rfl,hb⟩
set_option maxHeartbeats 1000000 in
theorem same_q12 v u xs ys w (hv:Sk .i32 w v xs) (hu:Sk .i32 w u ys) :
  Calls Tryz.prog 14 #[v,u] w (Draws w (decide (xs=ys))):=by
 have hlx:=hv.len
 have hly:=hu.len
 by_cases hn:xs.length=ys.length
 ·rcases Nat.eq_zero_or_pos xs.length with h0 | h0
  ·have HF:∀ w',(∃ m,w'=w.drewN m)→Draws w (decide (xs=ys)) (.returned (.bool true)) w':=fun w' hb=>draws_mk12 (by
    have h1:=List.eq_nil_of_length_eq_zero h0
    have h2:=List.eq_nil_of_length_eq_zero (hn ▸ h0)
    simp [h1,h2]) hb
   obtain ⟨ao,cap,rfl,_,_⟩:=hv.shape
   obtain ⟨ao',cap',rfl,_,_⟩:=hu.shape
   rw [← hn,h0]
   go_enter Tryz.func14,Tryz.ntmps14
   go_wp2
   refine wp_loop_rounds 1 ?_
   rw [rounds_succ]
   go_wp2
   go_ret
   exact HF _ (drew0 w)
  ·have HE:∀ w',(∃ m,w'=w.drewN m)→xs.take xs.length=ys.take xs.length→Draws w (decide (xs=ys)) (.returned (.bool true)) w':=fun w' hb ht=>draws_mk12 (by
    rw [List.take_length,hn,List.take_length] at ht
    simp [ht]) hb
   have HN:∀ w' k,(∃ m,w'=w.drewN m)→¬ xs.getD k 0=ys.getD k 0→Draws w (decide (xs=ys)) (.returned (.bool false)) w':=fun w' k hb ht=>draws_mk12 (by
    symm; rw [decide_eq_false_iff_not]; intro h; subst h; exact ht rfl) hb
   have HS:∀ wr,Below w.heap.size w wr→Sk .i32 wr v xs∧Sk .i32 wr u ys:=fun wr hb=>⟨hv.below hb,hu.below hb⟩
   obtain ⟨b,off,cap,rfl,hc1,hc2,hc⟩:=hv.place h0
   obtain ⟨b',off',cap',rfl,hc1',hc2',hc'⟩:=hu.place (by omega)
   have HC:∀ wr,Below w.heap.size w wr→∀ i,i<xs.length→wr.cell? ⟨b,off+i,none⟩=some (.int .i32 (xs.getD i 0))∧wr.cell? ⟨b',off'+i,none⟩=some (.int .i32 (ys.getD i 0)):=by
    intro wr hb i hi
    constructor
    ·rw [hb.cell (lt_of_cell? (hc i hi))]; exact hc i hi
    ·rw [hb.cell (lt_of_cell? (hc' i (by omega)))]; exact hc' i (by omega)
   rw [← hn] at hc1' ⊢
   have HFx:=Hd hv.1
   have HFy:=Hd hu.1
   have hln:=Hd hn
   go_enter Tryz.func14,Tryz.ntmps14
   go_wp2
   go_loopw [5] (fun i wr=>∃ k:Nat,i=.int .i64 k∧k≤xs.length∧xs.take k=ys.take k∧∃ m,wr=w.drewN m) (fun i _=>xs.length - (intOf i).toNat)
   case atStart=>exact ⟨0,rfl,by omega,by simp,drew0 w⟩
   case round =>
    obtain ⟨k,rfl,hk,htk,hbel⟩:=hrel
    by_cases hlt:k<xs.length
    ·obtain ⟨c1,c2⟩:=HC _ (drewB hbel) k hlt
     have HT:=Hd htk
     cases he:(xs.getD k 0 != ys.getD k 0) with
     | true =>
      have HR:=fun w' hb=>HN w' k hb (by simpa using he)
      generalize xs.getD k 0=x at *
      generalize ys.getD k 0=y at *
      go_wp2
      go_quiet (fail)
      go_wp2
      go_ret
      exact HR _ (drews hbel nq)
     | false =>
      have he':xs.getD k 0=ys.getD k 0:=by simpa using he
      have HT2:=Hd (take_next12 (Uh HT) hlt (by have:=Uh hln; omega) he')
      generalize xs.getD k 0=x at *
      go_wp2
      go_quiet (fail)
      go_wp2
      go_roundw
      case rel=>exact ⟨k+1,by go_num,by omega,Uh HT2,drews hbel nq⟩
      case measure=>simp [intOf]; omega
    ·obtain rfl:k=xs.length:=by omega
     have HR:=HE _ hbel htk
     go_wp2
     go_ret
     exact HR
 ·have HF:Draws w (decide (xs=ys)) (.returned (.bool false)) w:=draws_mk12 (by
   symm; rw [decide_eq_false_iff_not]; intro h; subst h; exact hn rfl) (drew0 w)
  have hne:((xs.length:Int) != (ys.length:Int))=true:=by simp; omega
  obtain ⟨ao,cap,rfl,_,_⟩:=hv.shape
  obtain ⟨ao',cap',rfl,_,_⟩:=hu.shape
  go_enter Tryz.func14,Tryz.ntmps14
  go_wp2
  go_ret
  exact HF
theorem lit12 (W:World) zs n (hn:zs.length=n) (h0:0<n) (hs:n≤100) C (hC:C=(zs.map (Value.int .i32)).toArray) (hz:∀ z∈zs,-2147483648≤z∧z≤2147483647):Sk .i32 (W.alloc (.cells C 21)) (.slice (some ⟨W.heap.size,0,none⟩) n n) zs:=by
 have h:Ok .i32 21 (W.alloc (.cells C 21)) W.heap.size (.slice (some ⟨W.heap.size,0,none⟩) n n) zs:=by
  refine Ok.of (n:=n) (us:=zs.map (Value.int .i32)) (fun z h=>i32_fit (hz z h)) (by omega) ⟨by simp [hn],Or.inr ⟨W.heap.size,n,C,rfl,Nat.le_refl _,heap_alloc_last W _,Nat.le_refl _,by unfold maxLen; omega,by rw [hC]; simp [hn],by rw [hC]; exact List.take_of_length_le (by simp [hn])⟩⟩ hn.symm rfl
 exact h.sk
theorem app_sk12 {w ops rest o} {a Q} (hgd:o.guard=none) (s x:Operand)
  (ho:o.op=.call { callee:=.builtin .append,args:=#[s,x],argTypes:=#[23,23] }) B v u xs ys (hs:a.eval s=v) (hx:a.eval x=u)
  (hv:Ok .i32 21 w B v xs) (hu:Sk .i32 w u ys) (hl:xs.length+ys.length≤1000000000) (hB:B≤w.heap.size)
  (h:∀ v' w',Ok .i32 21 w' B v' (xs++ys)→w.grownBy w' v.ownBlock→wpList Tryz.prog ops Q rest (a.put o.dst v') w'):wpList Tryz.prog ops Q (o :: rest) a w:=by
 obtain ⟨i0,hi,hz0,hz1,hz2⟩:=info_parts infoR9
 rcases hu.2.src with ⟨h0,rfl⟩ | ⟨ad,cap,hve,hcells⟩
 ·obtain rfl:ys=[]:=by simpa using h0
  refine wpList_append_own_none hgd s x 23 ho B 21 i0 1 Tryz.underlying23 hi v _ _ hs hv.row hx ?_
  exact h v w (by rw [List.append_nil]; exact hv) (World.grownBy.refl w _)
 ·rw [List.length_map] at hve
  subst hve
  refine wpList_append_own w hgd s x 23 ho B 21 i0 (.int .i32 0) 1 4 Tryz.underlying23 hi hz0 hz1 hz2 rfl (by decide) v _ _ hs hv.row ad ys.length cap (ys.map (Value.int .i32)) hx (by simp) hcells (ints_one .i32 ys) (by unfold maxLen; omega) (by omega) hB ?_
  intro v' w' h1 h2 _
  exact h v' w' (Ok.of (hv.1.app hu.1) (by simp; omega) h1 (by simp) (by simp)) h2
open Ti
namespace Cn
end Cn
end Go.Proofs.YtihhhjodonkkcaaGreatDoor
